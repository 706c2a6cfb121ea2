/-
  The card of the law HeadSplits holds: it returns true for every path, the variables that it lists being as the text lays them.
-/
import Derived.Test.YtmholjjicklnhabDoorLaid
import Derived.Test.YtmholjjicklnhabDoorCards
import Derived.Test.YtmholjjicklnhabDoorTie
import Derived.Test.YtmholjjicklnhabDoorRspl
import Derived.OpenShut
import Derived.ShutString
import Derived.ChangeOld
import Derived.ProofKit
namespace Go.Proofs.YtmholjjicklnhabDoor.headSplits
open Go.ChangeShapes Go.WideShapes Go.RowKit
set_option linter.unusedVariables false
set_option linter.unusedSimpArgs false


theorem ext_size (s : ByteArray) (a b : Nat) (h : b ≤ s.size) : (s.extract a b).size = b - a := by
  rw [ByteArray.size_extract]; omega

theorem ext_nul (s : ByteArray) (a b : Nat) (h : hasN s = false) (hb : b ≤ s.size) : hasN (s.extract a b) = false := by
  unfold hasN at h ⊢
  have h1 : idx s 0 = -1 := by
    have := Lib.indexByte_ge s.data.toList 0
    have h' : ¬ 0 ≤ idx s 0 := by simpa using h
    unfold idx at h' ⊢
    omega
  have hge := Lib.indexByte_ge (s.extract a b).data.toList 0
  by_cases c : 0 ≤ idx (s.extract a b) 0
  · exfalso
    obtain ⟨o, ho⟩ : ∃ o : Nat, idx (s.extract a b) 0 = o := ⟨_, (Int.toNat_of_nonneg c).symm⟩
    obtain ⟨g1, _⟩ := Lib.indexByte_some (c := 0) ho
    have hlt : o < b - a := by
      have := (List.getElem?_eq_some_iff.1 g1).1
      have e : (s.extract a b).data.toList.length = (s.extract a b).size := rfl
      rw [e, ext_size s a b hb] at this
      exact this
    rw [ext_get s a b o hlt hb] at g1
    have := Lib.indexByte_none h1 (a + o)
    rw [List.getElem?_eq_getElem (by simp; omega)] at this
    exact this g1
  · simpa using c

theorem full_cut (s : ByteArray) (k : Nat) (h : SpAt s k) : fullT (s.extract 0 k) (s.extract (k + 1) s.size) = s := by
  obtain ⟨h1, h2, h3, h4, h5⟩ := h
  have hg := gD_s8 s k (by omega)
  have h47 : s[k]'(by omega) = 47 := by
    apply UInt8.toNat.inj
    show s[k].toNat = 47
    omega
  have hE : (s.extract 0 k).toList.isEmpty = false := by
    rw [ByteArray.toList_eq]
    have : (s.extract 0 k).data.toList.length = k := by show (s.extract 0 k).size = k; rw [ext_size s 0 k (by omega)]; omega
    cases hq : (s.extract 0 k).data.toList with
    | nil => rw [hq] at this; simp at this; omega
    | cons a l => rfl
  unfold fullT
  rw [hE]
  simp only [Bool.false_eq_true, if_false]
  apply ByteArray.ext
  apply Array.ext'
  simp only [ByteArray.data_append, Array.toList_append, ByteArray.data_extract, Array.toList_extract, List.extract_eq_take_drop]
  have hs : s.data.toList.length = s.size := rfl
  have e47 : s.data.toList[k]'(by omega) = 47 := h47
  have e1 : (s.data.toList.drop (k + 1)).take (s.size - (k + 1)) = s.data.toList.drop (k + 1) := List.take_of_length_le (by rw [List.length_drop]; omega)
  conv => rhs; rw [← List.take_append_drop k s.data.toList, List.drop_eq_getElem_cons (by omega), e47]
  rw [e1, List.drop_zero, Nat.sub_zero, List.append_assoc]
  rfl

set_option maxRecDepth 100000 in
set_option maxHeartbeats 1000000 in
theorem walk_no (s : ByteArray) (w : World) (L : Laid w) (h2 : s.size ≤ 2000)
    (h16 : ∀ W, Calls Tryd.prog 16 #[.string s] W fun e w' => e = .returned (.tuple #[.string ⟨#[]⟩, .string ⟨#[]⟩, .bool false]) ∧ Below W.heap.size W w')
    (h17 : ∀ W, Calls Tryd.prog 17 #[.string s] W fun e w' => e = .returned (.tuple #[.string ⟨#[]⟩, .string ⟨#[]⟩, .bool false]) ∧ Below W.heap.size W w') :
    Calls Tryd.prog 5 #[.string s] w fun e w' => e = .returned (.bool true) ∧ Below w.heap.size w w' := by
  have q := reads_ok w L
  have c1 : ¬ (2000 : Int) < ↑s.size := by omega
  have q18 := fun W => full_w (.int .i64 0) ⟨#[]⟩ ⟨#[]⟩ ⟨#[]⟩ ⟨#[]⟩ ⟨#[]⟩ (.int .u8 0) (.int .i64 0) (.int .i64 0) (.int .i64 0) (.int .i64 0) (.int .i64 0) W (by show 0 ≤ 3000; omega) (by show 0 ≤ 3000; omega)
  rw [show fullT ⟨#[]⟩ ⟨#[]⟩ = (⟨#[]⟩ : ByteArray) from by decide +kernel] at q18
  have H16 : Hid _ := h16
  have H17 : Hid _ := h17
  have H18 : Hid _ := q18
  clear h16 h17 q18
  go_enter Tryd.func5, Tryd.ntmps5
  go_wp2_with (first | (go_at_call 9; refine q.mono ?_; rintro e w1 ⟨rfl, b1⟩; have HB1 : Hid _ := b1; clear b1) | (go_at_call 16; refine (H16.out _).mono ?_; rintro e w2 ⟨rfl, b2⟩; have HB2 : Hid (Below w.heap.size w w2) := HB1.out.trans (b2.mono HB1.out.size); clear b2) | (go_at_call 17; refine (H17.out _).mono ?_; rintro e w3 ⟨rfl, b3⟩; have HB3 : Hid (Below w.heap.size w w3) := HB2.out.trans (b3.mono HB2.out.size); clear b3) | (go_at_call 18; refine (H18.out _).mono ?_; rintro e w4 ⟨rfl, b4⟩; have HB4 : Hid (Below w.heap.size w w4) := ((HB3.out.alloc HB3.out.size _).trans (b4.mono (HB3.out.alloc HB3.out.size _).size)); clear b4))
  all_goals go_ret
  all_goals exact ⟨by first | rfl | simp, HB4.out⟩

set_option maxRecDepth 100000 in
set_option maxHeartbeats 1000000 in
theorem walk_yes (s p n : ByteArray) (w : World) (L : Laid w) (h2 : s.size ≤ 2000) (hp : p.size ≤ 3000) (hn : n.size ≤ 3000) (hf : fullT p n = s) (hp1 : fitsT p 155 = true) (hn1 : fitsT n 100 = true)
    (h16 : ∀ W, Calls Tryd.prog 16 #[.string s] W fun e w' => e = .returned (.tuple #[.string p, .string n, .bool true]) ∧ Below W.heap.size W w')
    (h17 : ∀ W, Calls Tryd.prog 17 #[.string s] W fun e w' => e = .returned (.tuple #[.string p, .string n, .bool true]) ∧ Below W.heap.size W w') :
    Calls Tryd.prog 5 #[.string s] w fun e w' => e = .returned (.bool true) ∧ Below w.heap.size w w' := by
  have q := reads_ok w L
  have c1 : ¬ (2000 : Int) < ↑s.size := by omega
  have q18 := fun W => full_w (.int .i64 0) n ⟨#[]⟩ p ⟨#[]⟩ ⟨#[]⟩ (.int .u8 0) (.int .i64 0) (.int .i64 0) (.int .i64 0) (.int .i64 0) (.int .i64 0) W hp hn
  rw [hf] at q18
  have q19a := fun W => fitsT_w p 155 W
  have q19b := fun W => fitsT_w n 100 W
  rw [hp1] at q19a
  rw [hn1] at q19b
  have H16 : Hid _ := h16
  have H17 : Hid _ := h17
  have H18 : Hid _ := q18
  have HA : Hid _ := q19a
  have HB : Hid _ := q19b
  clear h16 h17 q18 q19a q19b hf hp1 hn1
  go_enter Tryd.func5, Tryd.ntmps5
  go_wp2_with (first | (go_at_call 9; refine q.mono ?_; rintro e w1 ⟨rfl, b1⟩; have HB1 : Hid _ := b1; clear b1) | (go_at_call 16; refine (H16.out _).mono ?_; rintro e w2 ⟨rfl, b2⟩; have HB2 : Hid (Below w.heap.size w w2) := HB1.out.trans (b2.mono HB1.out.size); clear b2) | (go_at_call 17; refine (H17.out _).mono ?_; rintro e w3 ⟨rfl, b3⟩; have HB3 : Hid (Below w.heap.size w w3) := HB2.out.trans (b3.mono HB2.out.size); clear b3) | (go_at_call 18; refine (H18.out _).mono ?_; rintro e w4 ⟨rfl, b4⟩; have HB4 : Hid (Below w.heap.size w w4) := ((HB3.out.alloc HB3.out.size _).trans (b4.mono (HB3.out.alloc HB3.out.size _).size)); clear b4) | (have vd := h5done; go_at_call 19; refine (HB.out _).mono ?_; rintro e w6 ⟨rfl, rfl⟩) | (go_at_call 19; refine (HA.out _).mono ?_; rintro e w5 ⟨rfl, rfl⟩; have h5done : Hid True := True.intro))
  all_goals go_ret
  all_goals exact ⟨by first | rfl | simp, HB4.out⟩

theorem same_below {P : Program} {f : Nat} {args : Array Value} {w : World} {v : Value} (h : Calls P f args w fun e w' => e = .returned v ∧ w = w') : Calls P f args w fun e w' => e = .returned v ∧ Below w.heap.size w w' :=
  h.mono fun e w' h => ⟨h.1, h.2 ▸ Below.refl _ _⟩

theorem walk_long (s : ByteArray) (w : World) (L : Laid w) (h2 : 2000 < s.size) :
    Calls Tryd.prog 5 #[.string s] w fun e w' => e = .returned (.bool true) ∧ Below w.heap.size w w' := by
  have q := reads_ok w L
  have c1 : (2000 : Int) < ↑s.size := by omega
  go_enter Tryd.func5, Tryd.ntmps5
  go_wp2_with (go_at_call 9; refine q.mono ?_; rintro e w1 ⟨rfl, b1⟩; have HB1 : Hid _ := b1; clear b1)
  all_goals go_ret
  all_goals exact ⟨by first | rfl | simp, HB1.out⟩

theorem walk (s : ByteArray) (w : World) (L : Laid w) :
    Calls Tryd.prog 5 #[.string s] w fun e w' => e = .returned (.bool true) ∧ Below w.heap.size w w' := by
  by_cases h2 : s.size ≤ 2000
  · by_cases hnul : s.toList.isEmpty = true ∨ hasN s = true
    · exact walk_no s w L h2 (fun W => same_below (split_nul s W hnul (by omega))) (fun W => same_below (rsplit_nul s W hnul (by omega)))
    · have hE : s.toList.isEmpty = false := by
        cases h : s.toList.isEmpty with
        | false => rfl
        | true => exact absurd (Or.inl h) hnul
      have hN : hasN s = false := by
        cases h : hasN s with
        | false => rfl
        | true => exact absurd (Or.inr h) hnul
      by_cases h1 : s.size ≤ 100
      · refine walk_yes s ⟨#[]⟩ s w L h2 (by show 0 ≤ 3000; omega) (by omega) (by unfold fullT; rw [if_pos (by decide +kernel)]) (by decide +kernel) (by unfold fitsT; rw [hN]; simp; omega) (fun W => same_below (split_short s W hE hN h1)) (fun W => same_below (rsplit_short s W hE hN h1))
      · by_cases hk : ∃ k, SpF s k
        · obtain ⟨k, hk⟩ := hk
          have hS := hk.1
          obtain ⟨a1, a2, a3, a4, a5⟩ := hS
          have z1 : (s.extract 0 k).size = k := by rw [ext_size s 0 k (by omega)]; omega
          have z2 : (s.extract (k + 1) s.size).size = s.size - (k + 1) := by rw [ext_size s _ _ (by omega)]
          refine walk_yes s (s.extract 0 k) (s.extract (k + 1) s.size) w L h2 (by omega) (by omega) (full_cut s k hk.1) (by unfold fitsT; rw [ext_nul s _ _ hN (by omega)]; simp; omega) (by unfold fitsT; rw [ext_nul s _ _ hN (by omega)]; simp; omega) (fun W => (split_long s W hE hN (by omega) (by omega)).mono fun e w' h => ?_) (fun W => (rsplit_long s W hE hN (by omega) (by omega)).mono fun e w' h => ?_)
          · rcases h.1 with ⟨_, hno⟩ | ⟨j, hj, he⟩
            · exact absurd hk.1 (hno k)
            · obtain rfl := spF_eq hj hk
              exact ⟨he, h.2⟩
          · rcases h.1 with ⟨_, hno⟩ | ⟨j, hj, he⟩
            · exact absurd hk.1 (hno k)
            · obtain rfl := spF_eq hj hk
              exact ⟨he, h.2⟩
        · refine walk_no s w L h2 (fun W => (split_long s W hE hN (by omega) (by omega)).mono fun e w' h => ?_) (fun W => (rsplit_long s W hE hN (by omega) (by omega)).mono fun e w' h => ?_)
          · rcases h.1 with ⟨he, _⟩ | ⟨j, hj, _⟩
            · exact ⟨he, h.2⟩
            · exact absurd ⟨j, hj⟩ hk
          · rcases h.1 with ⟨he, _⟩ | ⟨j, hj, _⟩
            · exact ⟨he, h.2⟩
            · exact absurd ⟨j, hj⟩ hk
  · exact walk_long s w L (by omega)


theorem lit_i64 {z : Int} (h : (Lit.int .i64 z).wf = true) : -9223372036854775808 ≤ z ∧ z ≤ 9223372036854775807 := by
  have h' : IntKind.i64.min ≤ z ∧ z ≤ IntKind.i64.max := by simpa [Lit.wf] using h
  have e1 : IntKind.i64.min = -9223372036854775808 := by decide
  have e2 : IntKind.i64.max = 9223372036854775807 := by decide
  omega

set_option maxRecDepth 100000 in
theorem lifted (os : Os) (started : os.Started) (H : Type) (enc : TypeId × Value → H) :
    ReturnsInHanded {} Tryd.checked os 5 .any (fun w args => (Rows.headSplitsSpec.pre enc Tryd.prog Tryd.f5 [] false w args ∧ laidMetH Tryd.prog seven w) ∧ sizedMet enc Tryd.prog Tryd.f5 (OpenSpec.ofChange Rows.headSplitsSpec) false w args)
      (Rows.headSplitsSpec.post enc Tryd.prog Tryd.f5 false true false false) := by
  refine returnsInHanded_of_change_and (C := Tryd.checked) (X := fun w _ => laidMetH Tryd.prog seven w) (fun _ _ _ hh h => h.of_heap hh) own started (by kernel_rfl) Tryd.func5
    (ChangeSpec.witness_at (enc := enc) (C := Tryd.checked) (os := os) (X := fun w _ => laidMetH Tryd.prog seven w) false
      (start os)
      #[.string ⟨#[]⟩] 8 rfl (by kernel_rfl) (by kernel_rfl) (by kernel_rfl) (by kernel_rfl) (by kernel_rfl) (laidMet_of_run' 8 (by kernel_rfl) (by kernel_rfl))) ?_
  intro W base args ds gs before hval0 hW _ hsz hL _
  have hval : ∀ (j : Nat) t v, Tryd.f5.params[j]? = some t → args[j]? = some v → Value.okWide Tryd.prog W .any base t v := hval0
  have hW' := hW
  obtain ⟨p, q, hA0, hV0, rfl, hfz, hnd⟩ := hW
  have hA : DataW.TrodAll enc Tryd.prog W 0 (fun _ => true) true Tryd.f5.params.toList args.toList ds p := hA0
  have hV : DataW.TrodVars enc Tryd.prog W (fun _ => true) [] gs q := hV0
  rw [Tryd.params5] at hA hval
  obtain ⟨v0, vs0, d0, ds0, p0, q0, hargs, rfl, rfl, h0, r0⟩ := trodAll_cons hA
  obtain ⟨rfl, rfl, rfl⟩ := trodAll_nil r0
  obtain rfl : args = #[v0] := by cases args; simp_all
  obtain ⟨rfl, rfl⟩ : gs = [] ∧ q = [] := by
    cases gs with
    | nil => exact ⟨rfl, hV⟩
    | cons g r => exact absurd hV (by intro h; cases h)
  obtain ⟨s0, rfl, rfl, rfl, m0⟩ := Go.ChangeMaps.open_string Tryd.underlying9 (hval 0 9 v0 rfl rfl) h0
  clear hA0 hval0
  refine (walk s0 W (met hL)).mono fun e W' ⟨he, st⟩ => ?_
  subst he
  exact ⟨_, rfl, _, _, _, [], _, [], hW', trodAll_mk1 (shut_bool Tryd.underlying4 _), (trodAll_cons_mk (Go.ChangeMaps.shut_string Tryd.underlying9 m0) trodAll_mk0), rfl, st.frame _, fun h => by cases h⟩

theorem over : Rows.HeadSplitsSaid :=
  OpenClaim.holds_of_wide 5 Tryd.f5 rfl rfl rfl rfl rfl rfl rfl ⟨rfl, rfl, rfl, rfl, rfl⟩ rfl rfl rfl rfl rfl (by kernel_rfl) Tryd.func5 (by kernel_rfl)
    (of_decide_eq_true (by kernel_rfl)) (by unfold Func.isWrapper; rw [if_neg (of_decide_eq_false (by kernel_rfl))]; exact ⟨rfl, rfl⟩)
    (fun os started H enc _ => lifted os started H enc)

theorem carded : Rows.HeadSplitsCardSaid :=
  Claim7.holds_tied_plain_at .later [] _ _ _ _
    over (fun _ h => by cases h) (by kernel_rfl) (fun _ h => by cases h) headSplits_row_tie rfl ⟨rfl, rfl⟩ (by kernel_rfl) rfl
    (fun f fn hf hfn => by
      obtain rfl : f = 5 := Option.some.inj ((show Tryd.prog.funcNamed Tryd.f5.name = some 5 by kernel_rfl).symm.trans hf) |>.symm
      obtain rfl : fn = Tryd.f5 := (Option.some.inj (Tryd.func5.symm.trans hfn)).symm
      refine ⟨by kernel_rfl, fun j t ht => ?_⟩
      have hall : ∀ t ∈ Tryd.f5.params, Tryd.prog.wantsStandIn t = false := by
        rw [Tryd.params5]
        intro t ht
        simp at ht
        subst ht; kernel_rfl
      exact hall t (Array.mem_of_getElem? ht))
    (by kernel_rfl)

end Go.Proofs.YtmholjjicklnhabDoor.headSplits
namespace Go.Proofs.YtmholjjicklnhabDoor
theorem headSplits_holds : Rows.HeadSplitsCardSaid := headSplits.carded
#print axioms headSplits_holds
end Go.Proofs.YtmholjjicklnhabDoor
