/-
  The card of the law PathSafe holds: it returns true for every input, the variables of the library that it lists being as the program text lays them.
-/
import Derived.Test.YtmeaiplinkodiaaDoorLaid
import Derived.Test.YtmeaiplinkodiaaDoorCards
import Derived.Test.YtmeaiplinkodiaaDoorTie
namespace Go.Proofs.YtmeaiplinkodiaaDoor.pathSafe
open Go.ChangeShapes Go.WideShapes Go.RowKit
set_option linter.unusedVariables false
set_option linter.unusedSimpArgs false

theorem good_byte {p : List UInt8} (h : Good p) (j : Nat) (hj : j < p.length) : ¬ ((p[j].toNat : Nat) : Int) = 47 ∧ ¬ ((p[j].toNat : Nat) : Int) = 0 := by
  have hm := List.getElem_mem hj
  refine ⟨fun e => h.snd.1 ?_, fun e => h.snd.2.1 ?_⟩
  · have : p[j] = 47 := UInt8.toNat_inj.1 (show p[j].toNat = 47 by omega)
    rwa [this] at hm
  · have : p[j] = 0 := UInt8.toNat_inj.1 (show p[j].toNat = 0 by omega)
    rwa [this] at hm

set_option maxHeartbeats 2000000 in
theorem walk_in (l : List UInt8) (w : World) (hm : Ml w) (h0 : err l = 0) (h1 : l.length ≤ 5000) :
    Calls Tryd.prog 6 #[.string (bs l)] w fun e w' => e = .returned (.bool true) ∧ Below w.heap.size w w' := by
  have q0 := cleans_w w hm
  have hg : ∀ p ∈ cln l, Good p := by unfold cln; rw [if_pos h0]; exact parts_good l h0
  have KQ1 : Hid (∀ W, Below w.heap.size w W → Calls Tryd.prog 10 #[.string (bs l)] W fun e w' => ∃ ad c, e = .returned (.tuple #[.slice ad (cln l).length c, .int .i64 0]) ∧ (cln l).length ≤ c ∧ c ≤ 9223372036854775807 ∧ Hid (Sl w' ad (cln l)) ∧ Below W.heap.size W w') := fun W hb => by
    have := clean_sl l (by omega) W (hm.below hb)
    rwa [h0] at this
  have z1 := bs_size l
  have hjl : (jn (cln l)).length ≤ 5000 := by unfold cln; rw [if_pos h0]; have := jn_parts_length l; omega
  have hcl : 2 * (cln l).length ≤ (jn (cln l)).length + 1 := jn_len_count _ fun p hp => (hg p hp).1
  have hN : (cln l).length ≤ 5000 := by omega
  have HG : Hid (∀ i x, (cln l)[i]? = some x → Good x) := fun i x hx => hg x (List.mem_of_getElem? hx)
  clear hm h0 hg hjl hcl
  generalize cln l = ps at *
  generalize hNn : ps.length = N at *
  have HN : Hid (ps.length = N) := hNn
  clear hNn
  go_enter Tryd.func6, Tryd.ntmps6
  go_wp2_with (first
    | (go_at_call 10; refine (KQ1.out _ b00).mono ?_; rintro e w1 ⟨ad1, c1, rfl, hc1, hm1, hs1, b1⟩; have b01 := b00.trans (b1.mono b00.size))
    | (go_at_call 9; refine q0.mono ?_; rintro e w0 ⟨rfl, b00⟩))
  go_loopg [25] N (fun g u wr => ∃ i : Nat, i + g = N ∧ u = .int .i64 i ∧ wr = w1)
  case atStart => exact ⟨0, by omega, rfl, rfl⟩
  case round =>
    obtain ⟨i, hi, rfl, rfl⟩ := hrel
    by_cases hlt : i < N
    · have l1 : i < ps.length := by rw [HN.out]; exact hlt
      obtain ⟨x, hx⟩ : ∃ x, ps[i]? = some x := ⟨ps[i], List.getElem?_eq_getElem _⟩
      have g := HG.out i x hx
      obtain ⟨b, o, had, hc⟩ : ∃ b o, ad1 = some ⟨b, o, none⟩ ∧ wr.cell? ⟨b, o + i, none⟩ = some (.string (bs x)) := by
        rcases hs1.out with h | ⟨b, o, h1, h2, h3⟩
        · rw [h] at hx; simp at hx
        · exact ⟨b, o, h1, h3 i x hx⟩
      subst had
      have tx := bs_toList x
      have hE : x.isEmpty = false := by simpa using g.1
      have hD : (x == [46]) = false := by simpa using g.2.1
      have hDD : (x == [46, 46]) = false := by simpa using g.2.2.1
      have hx255 : x.length ≤ 255 := g.2.2.2.1
      have HB : Hid (∀ (j : Nat) (h : j < (bs x).size), ¬ (((bs x)[j].toNat : Nat) : Int) = 47 ∧ ¬ (((bs x)[j].toNat : Nat) : Int) = 0) := fun j h => by
        have hj : j < x.length := by rw [← bs_size]; exact h
        exact good_byte g j hj
      have zx : (bs x).size ≤ 255 := by rw [bs_size]; exact hx255
      clear g hx l1
      generalize bs x = X at *
      go_wp2_with fail
      go_loopg [46] X.size (fun g u wq => ∃ j : Nat, j + g = X.size ∧ u = .int .i64 j ∧ wq = wr)
      case atStart => exact ⟨0, by omega, rfl, rfl⟩
      case round =>
        obtain ⟨j, hj, rfl, rfl⟩ := hrel
        by_cases hjl : j < X.size
        · obtain ⟨y1, y2⟩ := HB.out j hjl
          have y3 := beq_eq_false_iff_ne.2 y1
          have y4 := beq_eq_false_iff_ne.2 y2
          generalize hy : X[j] = y at *
          go_wp2_with fail
          go_roundg (X.size - (j + 1))
          case rel => exact ⟨j + 1, by omega, by simp, rfl⟩
          case measure => omega
        · go_wp2_with fail
          go_roundg (N - (i + 1))
          case rel => exact ⟨i + 1, by omega, by simp, rfl⟩
          case measure => omega
    · go_wp2_with fail
      go_ret
      exact ⟨rfl, b01⟩

set_option maxHeartbeats 1000000 in
theorem walk_out (l : List UInt8) (w : World) (hm : Ml w) (hl : l.length ≤ 9223372036854775807) (h : err l ≠ 0 ∨ 5000 < l.length) :
    Calls Tryd.prog 6 #[.string (bs l)] w fun e w' => e = .returned (.bool true) ∧ Below w.heap.size w w' := by
  have q0 := cleans_w w hm
  have z1 := bs_size l
  by_cases c2 : 5000 < l.length
  · go_enter Tryd.func6, Tryd.ntmps6
    go_wp2_with (go_at_call 9; refine q0.mono ?_; rintro e w0 ⟨rfl, b00⟩)
    go_ret
    exact ⟨rfl, b00⟩
  · have h0 : err l ≠ 0 := by omega
    have KQ1 : Hid (∀ W, Below w.heap.size w W → Calls Tryd.prog 10 #[.string (bs l)] W fun e w' => ∃ ad c, e = .returned (.tuple #[.slice ad 0 c, .int .i64 (err l)]) ∧ 0 ≤ c ∧ c ≤ 9223372036854775807 ∧ Hid (Sl w' ad []) ∧ Below W.heap.size W w') := fun W hb => by
      have := clean_sl l (by omega) W (hm.below hb)
      rwa [cln_bad l h0] at this
    clear hm h
    generalize err l = z at *
    go_enter Tryd.func6, Tryd.ntmps6
    go_wp2_with (first
      | (go_at_call 10; refine (KQ1.out _ b00).mono ?_; rintro e w1 ⟨ad1, c1, rfl, hc1, hm1, hs1, b1⟩; have b01 := b00.trans (b1.mono b00.size))
      | (go_at_call 9; refine q0.mono ?_; rintro e w0 ⟨rfl, b00⟩))
    go_ret
    exact ⟨rfl, b01⟩

theorem walk (s : ByteArray) (w : World) (hm : Ml w) (hs : s.size ≤ maxLen) :
    Calls Tryd.prog 6 #[.string s] w fun e w' => e = .returned (.bool true) ∧ Below w.heap.size w w' := by
  rw [bs_of s] at hs ⊢
  rw [bs_size] at hs
  unfold maxLen at hs
  by_cases h : err s.data.toList = 0 ∧ s.data.toList.length ≤ 5000
  · exact walk_in _ w hm h.1 h.2
  · exact walk_out _ w hm hs (by
      by_cases c : err s.data.toList = 0
      · exact .inr (by
          have : ¬ s.data.toList.length ≤ 5000 := fun e => h ⟨c, e⟩
          omega)
      · exact .inl c)

set_option maxRecDepth 100000 in
theorem lifted (os : Os) (started : os.Started) (H : Type) (enc : TypeId × Value → H) :
    ReturnsInHanded {} Tryd.checked os 6 .any (fun w args => (Rows.pathSafeSpec.pre enc Tryd.prog Tryd.f6 [] false w args ∧ laidMetH Tryd.prog two w) ∧ sizedMet enc Tryd.prog Tryd.f6 (OpenSpec.ofChange Rows.pathSafeSpec) false w args)
      (Rows.pathSafeSpec.post enc Tryd.prog Tryd.f6 false true false false) := by
  refine handed_shaped (C := Tryd.checked) (X := fun w _ => laidMetH Tryd.prog two w) (fun _ _ _ hh h => h.of_heap hh) own started (by kernel_rfl) Tryd.func6
    (ChangeSpec.witness_at (enc := enc) (C := Tryd.checked) (os := os) (X := fun w _ => laidMetH Tryd.prog two w) false
      (start os)
      #[.string ⟨#[]⟩] 8 rfl (by kernel_rfl) (by kernel_rfl) (by kernel_rfl) (by kernel_rfl) (by kernel_rfl) (laidMet_of_run' 8 (by kernel_rfl) (by kernel_rfl))) ?_
  intro W base args ds gs before hval0 hW hsz hsh
  have hval : ∀ (j : Nat) t v, Tryd.f6.params[j]? = some t → args[j]? = some v → Value.okWide Tryd.prog W .any base t v := hval0
  have hW' := hW
  obtain ⟨p, q, hA0, hV0, rfl, hfz, hnd⟩ := hW
  have hA : DataW.TrodAll enc Tryd.prog W 0 (fun _ => true) true Tryd.f6.params.toList args.toList ds p := hA0
  have hV : DataW.TrodVars enc Tryd.prog W (fun _ => true) [] gs q := hV0
  rw [Tryd.params6] at hA hval
  obtain ⟨v0, vs0, d0, ds0, p0, q0, hargs, rfl, rfl, h0, r0⟩ := trodAll_cons hA
  obtain ⟨rfl, rfl, rfl⟩ := trodAll_nil r0
  obtain rfl : args = #[v0] := by cases args; simp_all
  obtain ⟨rfl, rfl⟩ : gs = [] ∧ q = [] := by
    cases gs with
    | nil => exact ⟨rfl, hV⟩
    | cons g r => exact absurd hV (by intro h; cases h)
  obtain ⟨s0, rfl, rfl, rfl, m0⟩ := Go.ChangeMaps.open_string Tryd.underlying9 (hval 0 9 v0 rfl rfl) h0
  clear hA0 hval0
  refine (walk s0 W (shaped hsh) m0).mono fun e W' ⟨he, st⟩ => ?_
  subst he
  exact ⟨_, rfl, _, _, _, [], _, [], hW', trodAll_mk1 (shut_bool Tryd.underlying4 _), (trodAll_cons_mk (Go.ChangeMaps.shut_string Tryd.underlying9 m0) trodAll_mk0), rfl, st.frame _, fun h => by cases h⟩

theorem over : Rows.PathSafeSaid :=
  OpenClaim.holds_of_wide 6 Tryd.f6 rfl rfl rfl rfl rfl rfl rfl ⟨rfl, rfl, rfl, rfl, rfl⟩ rfl rfl rfl rfl rfl (by kernel_rfl) Tryd.func6 (by kernel_rfl)
    (of_decide_eq_true (by kernel_rfl)) (by unfold Func.isWrapper; rw [if_neg (of_decide_eq_false (by kernel_rfl))]; exact ⟨rfl, rfl⟩)
    (fun os started H enc _ => lifted os started H enc)

theorem carded : Rows.PathSafeCardSaid :=
  Claim7.holds_tied_plain_at .later [] _ _ _ _
    over (fun _ h => by cases h) (by kernel_rfl) (fun _ h => by cases h) pathSafe_row_tie rfl ⟨rfl, rfl⟩ (by kernel_rfl) rfl
    (fun f fn hf hfn => by
      obtain rfl : f = 6 := Option.some.inj ((show Tryd.prog.funcNamed Tryd.f6.name = some 6 by kernel_rfl).symm.trans hf) |>.symm
      obtain rfl : fn = Tryd.f6 := (Option.some.inj (Tryd.func6.symm.trans hfn)).symm
      refine ⟨by kernel_rfl, fun j t ht => ?_⟩
      have hall : ∀ t ∈ Tryd.f6.params, Tryd.prog.wantsStandIn t = false := by
        rw [Tryd.params6]
        intro t ht
        simp at ht
        subst ht; kernel_rfl
      exact hall t (Array.mem_of_getElem? ht))
    (by kernel_rfl)

end Go.Proofs.YtmeaiplinkodiaaDoor.pathSafe
namespace Go.Proofs.YtmeaiplinkodiaaDoor
theorem pathSafe_holds : Rows.PathSafeCardSaid := pathSafe.carded
#print axioms pathSafe_holds
end Go.Proofs.YtmeaiplinkodiaaDoor
