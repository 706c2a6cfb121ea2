/-
  The card of the law PaxChecks holds: it returns true for every record, the variables of the library that it lists being as the program text lays them.
-/
import Derived.Test.YtebnekkdkifgjaaDoorLaid
import Derived.Test.YtebnekkdkifgjaaDoorCards
import Derived.Test.YtebnekkdkifgjaaDoorTie
import Derived.Lib.SmallJoins
import Derived.ProofKit
import Derived.OpenShut
namespace Go.Proofs.YtebnekkdkifgjaaDoor.paxChecks
open Go.ChangeShapes Go.WideShapes Go.RowKit
set_option linter.unusedVariables false
set_option linter.unusedSimpArgs false

/-- a record by value -/
theorem open_rec {H : Type} {enc : TypeId × Value → H} {W : World} {base : Nat} {v : Value} {d : DataW H} {p : List MemPlace} (hv : Value.okWide Tryd.prog W .any base 28 v) (h : DataW.Trod enc Tryd.prog W 0 (fun _ => true) true 28 v d p) :
    ∃ k x : ByteArray, v = .agg #[.string k, .string x] ∧ k.size ≤ maxLen ∧ x.size ≤ maxLen := by
  obtain ⟨c0, c1, y0, y1, mm, rfl, hd0, hp0, hy0, hy1⟩ := Go.Joins.open_agg2 Tryd.underlying28 (by kernel_rfl) (by kernel_rfl) hv h
  obtain ⟨k, hk, _, hks⟩ := DataW.trod_string Tryd.underlying9 hy0
  obtain ⟨x, hx, _, hxs⟩ := DataW.trod_string Tryd.underlying9 hy1
  simp at hk hx
  subst hk hx
  exact ⟨k, x, rfl, hks, hxs⟩

/-- has one of the first bytes of a key a byte that it may not have? -/
def badTo (k : ByteArray) (i : Nat) : Bool := (k.data.toList.take i).any (fun b => b == 61 || b == 0 || b == 10)

theorem badTo_succ (k : ByteArray) (i : Nat) (h : i < k.size) : badTo k (i + 1) = (badTo k i || ((k[i]'h) == 61 || (k[i]'h) == 0 || (k[i]'h) == 10)) := by
  unfold badTo
  have e := Lib.data_getElem? k i h
  rw [List.take_add_one, e]
  simp

theorem badTo_all (k : ByteArray) : badTo k k.size = badKey k := by
  rw [badKey_any]
  unfold badTo
  rw [Lib.size_eq, List.take_length]

theorem two_kept (w : World) (k v : ByteArray) (W : World) (h : Below (w.alloc (.cells #[.string k, .string v] 28)).heap.size (w.alloc (.cells #[.string k, .string v] 28)) W) :
    W.cell? ⟨w.heap.size, 0, none⟩ = some (.string k) ∧ W.cell? ⟨w.heap.size, 1, none⟩ = some (.string v) ∧ Below w.heap.size w W := alloc2 w W _ _ h

theorem walk_big (k v : ByteArray) (h : 6000 < k.size ∨ 6000 < v.size) (hk : k.size ≤ 9223372036854775807) (hv : v.size ≤ 9223372036854775807) (w : World) (ht : Vs w) :
    Calls Tryd.prog 7 #[.agg #[.string k, .string v]] w fun e w' => e = .returned (.bool true) ∧ Below w.heap.size w w' := by
  have b0 : Below w.heap.size w (w.alloc (.cells #[.string k, .string v] 28)) := (Below.refl _ _).alloc (Nat.le_refl _) _
  have q0 := records_w (w.alloc (.cells #[.string k, .string v] 28)) (ht.below b0)
  have HT : Hid (∀ W, Below (w.alloc (.cells #[.string k, .string v] 28)).heap.size (w.alloc (.cells #[.string k, .string v] 28)) W → W.cell? ⟨w.heap.size, 0, none⟩ = some (.string k) ∧ W.cell? ⟨w.heap.size, 1, none⟩ = some (.string v) ∧ Below w.heap.size w W) := fun W h => two_kept w k v W h
  by_cases c : 6000 < k.size
  · clear h
    go_enter Tryd.func7, Tryd.ntmps7
    go_wp2_with (go_at_call 9; refine q0.mono ?_; rintro e w2 ⟨rfl, b2⟩; obtain ⟨g0, g1, bb2⟩ := HT.out _ b2)
    go_ret
    exact ⟨rfl, bb2⟩
  · have c2 : 6000 < v.size := by omega
    clear h
    go_enter Tryd.func7, Tryd.ntmps7
    go_wp2_with (go_at_call 9; refine q0.mono ?_; rintro e w2 ⟨rfl, b2⟩; obtain ⟨g0, g1, bb2⟩ := HT.out _ b2)
    go_ret
    exact ⟨rfl, bb2⟩

set_option maxRecDepth 20000 in
set_option maxHeartbeats 4000000 in
theorem walk_empty (v : ByteArray) (hv : v.size ≤ 6000) (w : World) (ht : Vs w) :
    Calls Tryd.prog 7 #[.agg #[.string ⟨#[]⟩, .string v]] w fun e w' => e = .returned (.bool true) ∧ Below w.heap.size w w' := by
  have b0 : Below w.heap.size w (w.alloc (.cells #[.string ⟨#[]⟩, .string v] 28)) := (Below.refl _ _).alloc (Nat.le_refl _) _
  have q0 := records_w (w.alloc (.cells #[.string ⟨#[]⟩, .string v] 28)) (ht.below b0)
  have HT : Hid (∀ W, Below (w.alloc (.cells #[.string ⟨#[]⟩, .string v] 28)).heap.size (w.alloc (.cells #[.string ⟨#[]⟩, .string v] 28)) W → W.cell? ⟨w.heap.size, 0, none⟩ = some (.string ⟨#[]⟩) ∧ W.cell? ⟨w.heap.size, 1, none⟩ = some (.string v) ∧ Below w.heap.size w W) := fun W h => two_kept w _ v W h
  have qc := fun W => check_any ⟨#[]⟩ v (by decide) (by omega) W
  rw [show chk ⟨#[]⟩ v = 70 from if_pos (.inl rfl)] at qc
  go_enter Tryd.func7, Tryd.ntmps7
  go_wp2_with (first | (go_at_call 9; refine q0.mono ?_; rintro e w2 ⟨rfl, b2⟩; obtain ⟨g0, g1, bb2⟩ := HT.out _ b2) | (go_at_call 16; refine (qc _).mono ?_; rintro e w3 ⟨rfl, b3⟩; obtain ⟨f0, f1, bb3⟩ := HT.out _ (b2.trans (b3.mono b2.size))))
  refine wp_loop_rounds 1 ?_
  rw [rounds_succ]
  go_wp2
  go_ret
  exact ⟨rfl, bb3⟩

set_option maxRecDepth 20000 in
set_option maxHeartbeats 4000000 in
theorem walk_in (k v : ByteArray) (hk0 : 0 < k.size) (hk : k.size ≤ 6000) (hv : v.size ≤ 6000) (w : World) (ht : Vs w) :
    Calls Tryd.prog 7 #[.agg #[.string k, .string v]] w fun e w' => e = .returned (.bool true) ∧ Below w.heap.size w w' := by
  have b0 : Below w.heap.size w (w.alloc (.cells #[.string k, .string v] 28)) := (Below.refl _ _).alloc (Nat.le_refl _) _
  have q0 := records_w (w.alloc (.cells #[.string k, .string v] 28)) (ht.below b0)
  have HT : Hid (∀ W, Below (w.alloc (.cells #[.string k, .string v] 28)).heap.size (w.alloc (.cells #[.string k, .string v] 28)) W → W.cell? ⟨w.heap.size, 0, none⟩ = some (.string k) ∧ W.cell? ⟨w.heap.size, 1, none⟩ = some (.string v) ∧ Below w.heap.size w W) := fun W h => two_kept w k v W h
  have qc := fun W => check_any k v (by omega) (by omega) W
  have HV : Hid (∀ W, Below w.heap.size w W → Vs W) := fun W h => ht.below h
  have hne : k.toList.isEmpty = false := by
    rw [Lib.toList_data]
    cases h : k.data.toList with
    | nil => have := Lib.size_eq k; rw [h, List.length_nil] at this; omega
    | cons _ _ => rfl
  have HC : Hid (chk k v = if badKey k = true then 70 else if 4096 < k.size + v.size then 2 else 0) := by
    show chk k v = _
    unfold chk
    have : ¬ k.size = 0 := by omega
    simp [this]
  generalize chk k v = z at *
  clear ht
  go_enter Tryd.func7, Tryd.ntmps7
  go_wp2_with (first | (go_at_call 9; refine q0.mono ?_; rintro e w2 ⟨rfl, b2⟩; obtain ⟨g0, g1, bb2⟩ := HT.out _ b2) | (go_at_call 16; refine (qc _).mono ?_; rintro e w3 ⟨rfl, b3⟩; obtain ⟨f0, f1, bb3⟩ := HT.out _ (b2.trans (b3.mono b2.size))))
  go_loopw [4, 28] (fun tb t wr => ∃ i : Nat, i ≤ k.size ∧ t = .int .i64 i ∧ tb = .bool (badTo k i) ∧ wr = w3) (fun _ t _ => k.size - (intOf t).toNat)
  case atStart => exact ⟨0, Nat.zero_le _, rfl, rfl, rfl⟩
  case round =>
    obtain ⟨i, hi, rfl, rfl, rfl⟩ := hrel
    by_cases hlt : i < k.size
    · have hs := badTo_succ k i hlt
      have HS : Hid (badTo k (i + 1) = (badTo k i || ((k[i]'hlt) == 61 || (k[i]'hlt) == 0 || (k[i]'hlt) == 10))) := hs
      cases hb : badTo k i with
      | true =>
        go_wp2
        go_roundw
        case rel => exact ⟨i + 1, by omega, by simp, by rw [HS.out, hb]; rfl, by first | rfl | trivial⟩
        case measure => simp [intOf]; omega
      | false =>
        obtain ⟨x, hx⟩ : ∃ x : UInt8, k[i]'hlt = x := ⟨_, rfl⟩
        rw [hx] at HS
        clear hs
        by_cases c1 : x = 61
        · subst c1
          go_wp2
          go_roundw
          case rel => exact ⟨i + 1, by omega, by simp, by rw [HS.out, hb]; rfl, by first | rfl | trivial⟩
          case measure => simp [intOf]; omega
        · have d1 : ¬ (x.toNat : Int) = 61 := fun e => c1 (UInt8.toNat_inj.1 (by show x.toNat = 61; omega))
          by_cases c2 : x = 0
          · subst c2
            go_wp2
            go_roundw
            case rel => exact ⟨i + 1, by omega, by simp, by rw [HS.out, hb]; rfl, by first | rfl | trivial⟩
            case measure => simp [intOf]; omega
          · have d2 : ¬ (x.toNat : Int) = 0 := fun e => c2 (UInt8.toNat_inj.1 (by show x.toNat = 0; omega))
            by_cases c3 : x = 10
            · subst c3
              go_wp2
              go_roundw
              case rel => exact ⟨i + 1, by omega, by simp, by rw [HS.out, hb]; rfl, by first | rfl | trivial⟩
              case measure => simp [intOf]; omega
            · have d3 : ¬ (x.toNat : Int) = 10 := fun e => c3 (UInt8.toNat_inj.1 (by show x.toNat = 10; omega))
              go_wp2
              go_roundw
              case rel => exact ⟨i + 1, by omega, by simp, by rw [HS.out, hb, beq_eq_false_iff_ne.2 c1, beq_eq_false_iff_ne.2 c2, beq_eq_false_iff_ne.2 c3]; simp [beq_eq_false_iff_ne.2 d1, beq_eq_false_iff_ne.2 d2, beq_eq_false_iff_ne.2 d3], by first | rfl | trivial⟩
              case measure => simp [intOf]; omega
    · obtain rfl : i = k.size := by omega
      have hbk := badTo_all k
      cases hb : badKey k with
      | true =>
        rw [hbk, hb]
        obtain rfl : z = 70 := by have h := HC.out; rw [hb] at h; simpa using h
        go_wp2
        go_ret
        exact ⟨rfl, bb3⟩
      | false =>
        rw [hbk, hb]
        by_cases c : 4096 < k.size + v.size
        · obtain rfl : z = 2 := by have h := HC.out; rw [hb] at h; simpa [c] using h
          go_wp2
          go_ret
          exact ⟨rfl, bb3⟩
        · obtain rfl : z = 0 := by have h := HC.out; rw [hb] at h; simpa [c] using h
          have r1 : RecsAt (wr.alloc (.cells #[.string k, .string v] 28)) wr.heap.size 0 (fun _ => k) (fun _ => v) 1 := by
            intro j hj
            obtain rfl : j = 0 := by omega
            exact ⟨by simp, by simp⟩
          have b4 : Below wr.heap.size wr (wr.alloc (.cells #[.string k, .string v] 28)) := (Below.refl _ _).alloc (Nat.le_refl _) _
          have bb4 : Below w.heap.size w (wr.alloc (.cells #[.string k, .string v] 28)) := bb3.trans (b4.mono bb3.size)
          have qe := enc_w wr.heap.size 0 1 1 _ _ _ r1 (by omega) (fun j _ => ⟨by omega, by omega⟩) (HV.out _ bb4)
          have he : errTo (fun _ => k) (fun _ => v) 1 = 0 := by
            have h : chk k v = 0 := by
              unfold chk
              have : ¬ k.size = 0 := by omega
              simp [this, hb, c]
            simp [errTo, h]
          have qe2 : Calls Tryd.prog 14 #[.slice (some ⟨wr.heap.size, 0, none⟩) 1 1] (wr.alloc (.cells #[.string k, .string v] 28)) fun e w' => (∃ x, e = .returned (.tuple #[x, .int .i64 0])) ∧ Below w.heap.size w w' := qe.mono fun e w' ⟨h, hb⟩ => by
            rcases h with ⟨_, x, h, _⟩ | ⟨h, _⟩
            · exact ⟨⟨x, h⟩, bb4.trans (hb.mono bb4.size)⟩
            · exact absurd he h
          clear qe he r1 b4 bb4 HC qc
          go_wp2_with (go_at_call 14; refine qe2.mono ?_; rintro e w5 ⟨⟨x, rfl⟩, bb5⟩)
          go_ret
          exact ⟨rfl, bb5⟩

theorem walk (k v : ByteArray) (w : World) (ht : Vs w) (hk : k.size ≤ maxLen) (hv : v.size ≤ maxLen) :
    Calls Tryd.prog 7 #[.agg #[.string k, .string v]] w fun e w' => e = .returned (.bool true) ∧ Below w.heap.size w w' := by
  unfold maxLen at hk hv
  by_cases h : 6000 < k.size ∨ 6000 < v.size
  · exact walk_big k v h (by omega) (by omega) w ht
  · by_cases h0 : k.size = 0
    · obtain rfl := size_zero h0
      exact walk_empty v (by omega) w ht
    · exact walk_in k v (by omega) (by omega) (by omega) w ht

theorem lit_i64 {z : Int} (h : (Lit.int .i64 z).wf = true) : -9223372036854775808 ≤ z ∧ z ≤ 9223372036854775807 := by
  have h' : IntKind.i64.min ≤ z ∧ z ≤ IntKind.i64.max := by simpa [Lit.wf] using h
  have e1 : IntKind.i64.min = -9223372036854775808 := by decide
  have e2 : IntKind.i64.max = 9223372036854775807 := by decide
  omega

set_option maxRecDepth 100000 in
theorem lifted (os : Os) (started : os.Started) (H : Type) (enc : TypeId × Value → H) :
    ReturnsInHanded {} Tryd.checked os 7 .any (fun w args => (Rows.paxChecksSpec.pre enc Tryd.prog Tryd.f7 [] false w args ∧ laidMetH Tryd.prog five w) ∧ sizedMet enc Tryd.prog Tryd.f7 (OpenSpec.ofChange Rows.paxChecksSpec) false w args)
      (Rows.paxChecksSpec.post enc Tryd.prog Tryd.f7 false true false false) := by
  refine returnsInHanded_of_change_and (C := Tryd.checked) (X := fun w _ => laidMetH Tryd.prog five w) (fun _ _ _ hh h => h.of_heap hh) own started (by kernel_rfl) Tryd.func7
    (ChangeSpec.witness_at (enc := enc) (C := Tryd.checked) (os := os) (X := fun w _ => laidMetH Tryd.prog five w) false
      (start os)
      #[.agg #[.string ⟨#[]⟩, .string ⟨#[]⟩]] 8 rfl (by kernel_rfl) (by kernel_rfl) (by kernel_rfl) (by kernel_rfl) (by kernel_rfl) (laidMet_of_run' 8 (by kernel_rfl) (by kernel_rfl))) ?_
  intro W base args ds gs before hval0 hW _ hsz hL _
  have hval : ∀ (j : Nat) t v, Tryd.f7.params[j]? = some t → args[j]? = some v → Value.okWide Tryd.prog W .any base t v := hval0
  have hW' := hW
  obtain ⟨p, q, hA0, hV0, rfl, hfz, hnd⟩ := hW
  have hA : DataW.TrodAll enc Tryd.prog W 0 (fun _ => true) true Tryd.f7.params.toList args.toList ds p := hA0
  have hV : DataW.TrodVars enc Tryd.prog W (fun _ => true) [] gs q := hV0
  rw [Tryd.params7] at hA hval
  obtain ⟨v0, vs0, d0, ds0, p0, q0, hargs, rfl, rfl, h0, r0⟩ := trodAll_cons hA
  obtain ⟨rfl, rfl, rfl⟩ := trodAll_nil r0
  obtain rfl : args = #[v0] := by cases args; simp_all
  obtain ⟨rfl, rfl⟩ : gs = [] ∧ q = [] := by
    cases gs with
    | nil => exact ⟨rfl, hV⟩
    | cons g r => exact absurd hV (by intro h; cases h)
  obtain ⟨k0, v0', rfl, mk0, mv0⟩ := open_rec (hval 0 28 v0 rfl rfl) h0
  have kk0 := h0
  have lt0 : ∀ x ∈ p0, x.block < W.heap.size := by obtain ⟨m, hm⟩ := kk0; exact DataW.trod_lt m _ _ _ hm
  clear hA0 hval0
  refine (walk k0 v0' W (met hL) mk0 mv0).mono fun e W' ⟨he, st⟩ => ?_
  subst he
  exact ⟨_, rfl, _, _, _, [], _, [], hW', trodAll_mk1 (shut_bool Tryd.underlying4 _), (trodAll_cons_mk (Below.trod laidOut (by kernel_rfl) (of_decide_eq_true (by kernel_rfl)) kk0 st lt0) trodAll_mk0), rfl, st.frame _, fun h => by cases h⟩

theorem over : Rows.PaxChecksSaid :=
  OpenClaim.holds_of_wide 7 Tryd.f7 rfl rfl rfl rfl rfl rfl rfl ⟨rfl, rfl, rfl, rfl, rfl⟩ rfl rfl rfl rfl rfl (by kernel_rfl) Tryd.func7 (by kernel_rfl)
    (of_decide_eq_true (by kernel_rfl)) (by unfold Func.isWrapper; rw [if_neg (of_decide_eq_false (by kernel_rfl))]; exact ⟨rfl, rfl⟩)
    (fun os started H enc _ => lifted os started H enc)

theorem carded : Rows.PaxChecksCardSaid :=
  Claim7.holds_tied_plain_at .later [] _ _ _ _
    over (fun _ h => by cases h) (by kernel_rfl) (fun _ h => by cases h) paxChecks_row_tie rfl ⟨rfl, rfl⟩ (by kernel_rfl) rfl
    (fun f fn hf hfn => by
      obtain rfl : f = 7 := Option.some.inj ((show Tryd.prog.funcNamed Tryd.f7.name = some 7 by kernel_rfl).symm.trans hf) |>.symm
      obtain rfl : fn = Tryd.f7 := (Option.some.inj (Tryd.func7.symm.trans hfn)).symm
      refine ⟨by kernel_rfl, fun j t ht => ?_⟩
      have hall : ∀ t ∈ Tryd.f7.params, Tryd.prog.wantsStandIn t = false := by
        rw [Tryd.params7]
        intro t ht
        simp at ht
        subst ht; kernel_rfl
      exact hall t (Array.mem_of_getElem? ht))
    (by kernel_rfl)

end Go.Proofs.YtebnekkdkifgjaaDoor.paxChecks
namespace Go.Proofs.YtebnekkdkifgjaaDoor
theorem paxChecks_holds : Rows.PaxChecksCardSaid := paxChecks.carded
#print axioms paxChecks_holds
end Go.Proofs.YtebnekkdkifgjaaDoor
