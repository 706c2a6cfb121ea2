/-
  The card of the law PaxMany holds: it returns true for every number, the variables of the library that it lists being as the program text lays them.
-/
import Derived.Test.YtebnekkdkifgjaaDoorLaid
import Derived.Test.YtebnekkdkifgjaaDoorCards
import Derived.Test.YtebnekkdkifgjaaDoorTie
import Derived.Laws.MakeOwn
import Derived.ProofKit
import Derived.OpenShut
namespace Go.Proofs.YtebnekkdkifgjaaDoor.paxMany
open Go.ChangeShapes Go.WideShapes Go.RowKit
set_option linter.unusedVariables false
set_option linter.unusedSimpArgs false

/-- the record that is written again and again -/
def ka : ByteArray := ⟨#[97]⟩
def vb : ByteArray := ⟨#[98]⟩

theorem chk_ab : chk ka vb = 0 := by decide +kernel
theorem plen5 : plen 5 = 6 := by
  unfold plen
  have h5 : Lib.nDigits 5 = 1 := Lib.nDigits_small (by decide)
  have h6 : Lib.nDigits 6 = 1 := Lib.nDigits_small (by decide)
  simp [h5, h6]
theorem rec_ab : recB ka vb = [54, 32, 97, 61, 98, 10] := by
  unfold recB
  rw [bodyS_size, show ka.size + vb.size + 3 = 5 from rfl, plen5, itoa_nat, Lib.decDigits, dif_pos (by decide)]
  decide +kernel

def many (i : Nat) : List UInt8 := encR (List.replicate i (ka, vb))

theorem many_succ (i : Nat) : many (i + 1) = many i ++ recB ka vb := by
  unfold many
  rw [List.replicate_succ']
  simp [encR]

theorem many_len (i : Nat) : (many i).length = 6 * i := by
  induction i with
  | zero => rfl
  | succ i ih => rw [many_succ, List.length_append, ih, rec_ab]; simp; omega

theorem good_ab (i : Nat) : ∀ r ∈ List.replicate i (ka, vb), Good r := by
  intro r hr
  obtain ⟨_, rfl⟩ := List.mem_replicate.1 hr
  exact ⟨chk_ab, by decide, by decide⟩

theorem dec_few (m : Nat) (h : m ≤ 64) : dec (many m).length [] (many m) = (List.replicate m (ka, vb), 0) := dec_back _ (good_ab m) (by simpa using h)

theorem dec_many (m : Nat) (h : 64 < m) : dec (many m).length [] (many m) = ([], 2) := by
  have e : many m = encR (List.replicate 64 (ka, vb)) ++ (recB ka vb ++ many (m - 65)) := by
    unfold many
    obtain ⟨j, rfl⟩ : ∃ j, m = 64 + (j + 1) := ⟨m - 65, by omega⟩
    rw [← List.replicate_append_replicate, show 64 + (j + 1) - 65 = j by omega, List.replicate_succ (n := j)]
    simp only [encR, List.flatMap_append, List.flatMap_cons]
  have hl := many_len m
  have h1 := dec_encR (List.replicate 64 (ka, vb)) ((many m).length - 64) [] (recB ka vb ++ many (m - 65)) (good_ab 64) (by simp)
  rw [← e, List.length_replicate, show (many m).length - 64 + 64 = (many m).length by omega] at h1
  rw [h1]
  obtain ⟨f, hf⟩ : ∃ f, (many m).length - 64 = f + 1 := ⟨(many m).length - 65, by omega⟩
  rw [hf]
  exact dec_full f _ ka vb _ (by decide +kernel) (by decide) (by decide) (by simp)

theorem many_step (i : Nat) : Lib.byteCells (many (i + 1)) = Lib.byteCells (many i) ++ Lib.strCells ⟨#[54, 32, 97, 61, 98, 10]⟩ := by
  rw [many_succ, Lib.byteCells_append, rec_ab]
  rfl

/-- rows made of nothing -/
def zs (m : Nat) : Array Value := madeCells #[.string ⟨#[]⟩, .string ⟨#[]⟩] (m * 2)

theorem make_w (m : Nat) (hm : m ≤ 70) (w : World) : (Instr.makeSlice 22 (.int .i64 m) (.int .i64 m)).run Tryd.prog w = .ok (.slice (some ⟨w.heap.size, 0, none⟩) m m) (w.alloc (.cells (zs m) 28)) := by
  obtain ⟨i, hi, h0, h1, h2⟩ := info_parts info28c
  have h := run_make (P := Tryd.prog) w 22 28 i _ Tryd.underlying22 hi h0 .i64 .i64 m m (by omega) (by omega) (by rw [h2]; omega) (by omega)
  rw [h, h1, Int.toNat_natCast]
  rfl

theorem zs_get (m j : Nat) (h : j < m * 2) : (zs m)[j]? = some (.string ⟨#[]⟩) := by
  unfold zs madeCells
  have : j % 2 = 0 ∨ j % 2 = 1 := by omega
  rcases this with e | e <;> simp [h, e]

theorem zs_recs (m : Nat) (w : World) : RecsAt (w.alloc (.cells (zs m) 28)) w.heap.size 0 (fun _ => ⟨#[]⟩) (fun _ => ⟨#[]⟩) m := by
  intro i hi
  have hn := heap_alloc_new w (.cells (zs m) 28)
  constructor
  · simp only [World.cell?]
    rw [hn]
    simpa using zs_get m (i * 2) (by omega)
  · simp only [World.cell?]
    rw [hn]
    simpa using zs_get m (i * 2 + 1) (by omega)

theorem err_zero (m : Nat) (h : 0 < m) : errTo (fun _ => ⟨#[]⟩) (fun _ => ⟨#[]⟩) m = 70 := by
  have h0 : chk ⟨#[]⟩ ⟨#[]⟩ = 70 := by decide +kernel
  have := errTo_first (K := fun _ => ⟨#[]⟩) (V := fun _ => ⟨#[]⟩) (i := 0) rfl (by rw [h0]; decide) m h
  rw [this, h0]

set_option maxRecDepth 20000 in
set_option maxHeartbeats 4000000 in
theorem walk_in (m : Nat) (h0 : 60 ≤ m) (h1 : m ≤ 70) (w : World) (ht : Vs w) :
    Calls Tryd.prog 8 #[.int .i64 (m : Int)] w fun e w' => e = .returned (.bool true) ∧ Below w.heap.size w w' := by
  obtain ⟨i0, hi, hz0, hz1, hz2⟩ := info_parts info5c
  have HV : Hid (∀ W, Below w.heap.size w W → Vs W) := fun W h => ht.below h
  have q0 := records_w w ht
  clear ht
  go_enter Tryd.func8, Tryd.ntmps8
  go_wp2_with (go_at_call 9; refine q0.mono ?_; rintro e w1 ⟨rfl, b1⟩)
  go_loopw [3, 17] (fun tv t wr => ∃ i : Nat, i ≤ m ∧ t = .int .i64 i ∧ wr.ownsRow w.heap.size 5 1 tv (6 * i) (Lib.byteCells (many i)) ∧ Below w.heap.size w wr) (fun _ t _ => m - (intOf t).toNat)
  case atStart => exact ⟨0, Nat.zero_le _, rfl, World.ownsRow_nil _ _ _ _, b1⟩
  case round =>
    obtain ⟨i, hi', rfl, hown, bb⟩ := hrel
    by_cases hlt : i < m
    · have HO : Hid (wr.ownsRow w.heap.size 5 1 u3 (6 * i) (Lib.byteCells (many i))) := hown
      clear hown
      go_wp2_with (at_builtin; refine Lib.wpList_append_own_string _ rfl _ _ 36 9 rfl w.heap.size 5 i0 Tryd.underlying36 Tryd.underlying9 hi hz0 hz1 hz2 _ _ _ rfl HO.out ⟨#[54, 32, 97, 61, 98, 10]⟩ rfl ?e1 ?e2 ?e3 ?_)
      case e1 => show 6 * i + 6 ≤ maxLen; unfold maxLen; omega
      case e2 => show 6 * i + 6 ≤ _; omega
      case e3 => exact bb.size
      intro v2 w2 o2 g2 h2
      have bb2 : Below w.heap.size w w2 := bb.grown g2 bb.size fun k hk => (HO.out.lt k hk).1
      have oo : w2.ownsRow w.heap.size 5 1 v2 (6 * (i + 1)) (Lib.byteCells (many (i + 1))) := by
        rw [many_step]
        exact o2
      clear o2 g2 h2 HO
      go_wp2
      go_roundw
      case rel => exact ⟨i + 1, by omega, by simp, oo, bb2⟩
      case measure => simp [intOf]; omega
    · obtain rfl : i = m := by omega
      have hl := many_len i
      rw [← hl] at hown
      obtain ⟨g, cap, rfl, hB, hc1, hc2, hg1, hg2⟩ := own_bytesAt hown (by omega)
      have qd := decode_w g 0 cap _ wr hB hc1 hc2 (by omega) (HV.out _ bb)
      by_cases c : 64 < i
      · rw [dec_many i c] at qd
        rw [hl] at qd ⊢
        clear hB hown hc1 hl
        go_wp2_with fail
        refine qd.mono ?_
        rintro e w2 ⟨v2, rfl, own2, b2⟩
        obtain ⟨ad2, cap2, rfl, _, _⟩ := own_slice own2
        have bb2 : Below w.heap.size w w2 := bb.trans (b2.mono bb.size)
        have mk := make_w i h1
        have b3 : Below w2.heap.size w2 (w2.alloc (.cells (zs i) 28)) := (Below.refl _ _).alloc (Nat.le_refl _) _
        have qe := fun W => enc_many (some ⟨w2.heap.size, 0, none⟩) i i W c (by omega)
        clear qd own2
        go_wp2_with (go_at_call 14; refine (qe _).mono ?_; rintro e w3 ⟨rfl, rfl⟩)
        go_ret
        exact ⟨rfl, bb2.trans (b3.mono bb2.size)⟩
      · rw [dec_few i (by omega)] at qd
        rw [hl] at qd ⊢
        clear hB hown hc1 hl
        go_wp2_with fail
        refine qd.mono ?_
        rintro e w2 ⟨v2, rfl, own2, b2⟩
        obtain ⟨ad2, cap2, rfl, _, _⟩ := own_slice own2
        rw [List.length_replicate]
        have bb2 : Below w.heap.size w w2 := bb.trans (b2.mono bb.size)
        have mk := make_w i h1 w2
        have b3 : Below w2.heap.size w2 (w2.alloc (.cells (zs i) 28)) := (Below.refl _ _).alloc (Nat.le_refl _) _
        have bb3 : Below w.heap.size w (w2.alloc (.cells (zs i) 28)) := bb2.trans (b3.mono bb2.size)
        have qe := enc_w w2.heap.size 0 i i _ _ _ (zs_recs i w2) (by omega) (fun j _ => ⟨by decide, by decide⟩) (HV.out _ bb3)
        rw [err_zero i (by omega)] at qe
        have qe2 : Calls Tryd.prog 14 #[.slice (some ⟨w2.heap.size, 0, none⟩) i i] (w2.alloc (.cells (zs i) 28)) fun e w' => e = .returned (.tuple #[.slice none 0 0, .int .i64 70]) ∧ Below (w2.alloc (.cells (zs i) 28)).heap.size (w2.alloc (.cells (zs i) 28)) w' := qe.mono fun e w' ⟨h, hb⟩ => by
          rcases h with ⟨h, _⟩ | ⟨_, h⟩
          · exact absurd h (by decide)
          · exact ⟨h, hb⟩
        clear qd own2 qe b3
        generalize w2.alloc (.cells (zs i) 28) = w3 at *
        go_wp2_with (go_at_call 14; refine qe2.mono ?_; rintro e w4 ⟨rfl, b4⟩)
        go_ret
        exact ⟨rfl, bb3.trans (b4.mono bb3.size)⟩

theorem walk_out (n : Int) (h : n < 60 ∨ 70 < n) (w : World) (ht : Vs w) :
    Calls Tryd.prog 8 #[.int .i64 n] w fun e w' => e = .returned (.bool true) ∧ Below w.heap.size w w' := by
  have q0 := records_w w ht
  rcases h with h | h
  · go_enter Tryd.func8, Tryd.ntmps8
    go_wp2_with (go_at_call 9; refine q0.mono ?_; rintro e w1 ⟨rfl, b1⟩)
    go_ret
    exact ⟨rfl, b1⟩
  · have h' : ¬ n < 60 := by omega
    go_enter Tryd.func8, Tryd.ntmps8
    go_wp2_with (go_at_call 9; refine q0.mono ?_; rintro e w1 ⟨rfl, b1⟩)
    go_ret
    exact ⟨rfl, b1⟩

theorem walk (n : Int) (w : World) (ht : Vs w) :
    Calls Tryd.prog 8 #[.int .i64 n] w fun e w' => e = .returned (.bool true) ∧ Below w.heap.size w w' := by
  by_cases h : n < 60 ∨ 70 < n
  · exact walk_out n h w ht
  · obtain ⟨m, rfl⟩ : ∃ m : Nat, n = m := ⟨n.toNat, by omega⟩
    exact walk_in m (by omega) (by omega) w ht

theorem lit_i64 {z : Int} (h : (Lit.int .i64 z).wf = true) : -9223372036854775808 ≤ z ∧ z ≤ 9223372036854775807 := by
  have h' : IntKind.i64.min ≤ z ∧ z ≤ IntKind.i64.max := by simpa [Lit.wf] using h
  have e1 : IntKind.i64.min = -9223372036854775808 := by decide
  have e2 : IntKind.i64.max = 9223372036854775807 := by decide
  omega

set_option maxRecDepth 100000 in
theorem lifted (os : Os) (started : os.Started) (H : Type) (enc : TypeId × Value → H) :
    ReturnsInHanded {} Tryd.checked os 8 .any (fun w args => (Rows.paxManySpec.pre enc Tryd.prog Tryd.f8 [] false w args ∧ laidMetH Tryd.prog five w) ∧ sizedMet enc Tryd.prog Tryd.f8 (OpenSpec.ofChange Rows.paxManySpec) false w args)
      (Rows.paxManySpec.post enc Tryd.prog Tryd.f8 false true false false) := by
  refine returnsInHanded_of_change_and (C := Tryd.checked) (X := fun w _ => laidMetH Tryd.prog five w) (fun _ _ _ hh h => h.of_heap hh) own started (by kernel_rfl) Tryd.func8
    (ChangeSpec.witness_at (enc := enc) (C := Tryd.checked) (os := os) (X := fun w _ => laidMetH Tryd.prog five w) false
      (start os)
      #[.int .i64 0] 8 rfl (by kernel_rfl) (by kernel_rfl) (by kernel_rfl) (by kernel_rfl) (by kernel_rfl) (laidMet_of_run' 8 (by kernel_rfl) (by kernel_rfl))) ?_
  intro W base args ds gs before hval0 hW _ hsz hL _
  have hval : ∀ (j : Nat) t v, Tryd.f8.params[j]? = some t → args[j]? = some v → Value.okWide Tryd.prog W .any base t v := hval0
  have hW' := hW
  obtain ⟨p, q, hA0, hV0, rfl, hfz, hnd⟩ := hW
  have hA : DataW.TrodAll enc Tryd.prog W 0 (fun _ => true) true Tryd.f8.params.toList args.toList ds p := hA0
  have hV : DataW.TrodVars enc Tryd.prog W (fun _ => true) [] gs q := hV0
  rw [Tryd.params8] at hA hval
  obtain ⟨v0, vs0, d0, ds0, p0, q0, hargs, rfl, rfl, h0, r0⟩ := trodAll_cons hA
  obtain ⟨rfl, rfl, rfl⟩ := trodAll_nil r0
  obtain rfl : args = #[v0] := by cases args; simp_all
  obtain ⟨rfl, rfl⟩ : gs = [] ∧ q = [] := by
    cases gs with
    | nil => exact ⟨rfl, hV⟩
    | cons g r => exact absurd hV (by intro h; cases h)
  obtain ⟨a0, rfl, rfl, rfl, w0⟩ := open_int Tryd.underlying3 (hval 0 3 v0 rfl rfl) h0
  clear hA0 hval0
  refine (walk a0 W (met hL)).mono fun e W' ⟨he, st⟩ => ?_
  subst he
  exact ⟨_, rfl, _, _, _, [], _, [], hW', trodAll_mk1 (shut_bool Tryd.underlying4 _), (trodAll_cons_mk (shut_int Tryd.underlying3 w0) trodAll_mk0), rfl, st.frame _, fun h => by cases h⟩

theorem over : Rows.PaxManySaid :=
  OpenClaim.holds_of_wide 8 Tryd.f8 rfl rfl rfl rfl rfl rfl rfl ⟨rfl, rfl, rfl, rfl, rfl⟩ rfl rfl rfl rfl rfl (by kernel_rfl) Tryd.func8 (by kernel_rfl)
    (of_decide_eq_true (by kernel_rfl)) (by unfold Func.isWrapper; rw [if_neg (of_decide_eq_false (by kernel_rfl))]; exact ⟨rfl, rfl⟩)
    (fun os started H enc _ => lifted os started H enc)

theorem carded : Rows.PaxManyCardSaid :=
  Claim7.holds_tied_plain_at .later [] _ _ _ _
    over (fun _ h => by cases h) (by kernel_rfl) (fun _ h => by cases h) paxMany_row_tie rfl ⟨rfl, rfl⟩ (by kernel_rfl) rfl
    (fun f fn hf hfn => by
      obtain rfl : f = 8 := Option.some.inj ((show Tryd.prog.funcNamed Tryd.f8.name = some 8 by kernel_rfl).symm.trans hf) |>.symm
      obtain rfl : fn = Tryd.f8 := (Option.some.inj (Tryd.func8.symm.trans hfn)).symm
      refine ⟨by kernel_rfl, fun j t ht => ?_⟩
      have hall : ∀ t ∈ Tryd.f8.params, Tryd.prog.wantsStandIn t = false := by
        rw [Tryd.params8]
        intro t ht
        simp at ht
        subst ht; kernel_rfl
      exact hall t (Array.mem_of_getElem? ht))
    (by kernel_rfl)

end Go.Proofs.YtebnekkdkifgjaaDoor.paxMany
namespace Go.Proofs.YtebnekkdkifgjaaDoor
theorem paxMany_holds : Rows.PaxManyCardSaid := paxMany.carded
#print axioms paxMany_holds
end Go.Proofs.YtebnekkdkifgjaaDoor
