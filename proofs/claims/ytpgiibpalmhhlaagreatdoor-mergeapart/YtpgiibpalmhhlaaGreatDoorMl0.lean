/-
  Contract: the laws' head (lays).
-/
import Derived.Test.YtpgiibpalmhhlaaGreatDoorM0
import Derived.Test.YtpgiibpalmhhlaaGreatDoorW2
import Derived.Test.YtpgiibpalmhhlaaGreatDoorMb1
import Derived.Test.YtpgiibpalmhhlaaGreatDoorMg2
namespace Go.Proofs.YtpgiibpalmhhlaaGreatDoor
open Go.RowKit
open Go.Lib hiding intOf
set_option linter.unusedVariables false
set_option linter.unusedSimpArgs false

def yA : List Rw := [⟨[100], 0, 4, 493, 0, true⟩, ⟨[100, 47, 97], 1, 1, 1, 3, false⟩]
def yB : List Rw := [⟨[100], 0, 4, 493, 0, true⟩, ⟨[100, 47, 97], 1, 1, 2, 5, false⟩]
def yT : List Rw := [⟨[100], 0, 4, 493, 0, true⟩, ⟨[100, 47, 97], 3, 1, 2, 5, false⟩]

theorem y_add (md sz : Int) : addP [] 0 [100, 47, 97] 1 md sz false = ([⟨[100], 0, 4, 493, 0, true⟩, ⟨[100, 47, 97], 1, 1, md, sz, false⟩], 2, 0) := by
  have hch : chain (upL [100, 47, 97]) = [[100]] := by rw [up_da, chain_cons (by simp), up_d, chain_nil]
  have hmd : mdL [] [100, 47, 97] = [[100]] := by unfold mdL; rw [hch]; rfl
  have hst : stL [] [100, 47, 97] = [] := by unfold stL; rw [hch]; rfl
  have hcl : cls [] [100, 47, 97] = false := by unfold cls; rw [hst]
  have hwp : wpR [] 0 [100, 47, 97] = [⟨[100], 0, 4, 493, 0, true⟩] := by unfold wpR; rw [hmd]; rfl
  unfold addP
  rw [if_neg (by simp), show fd [] [100, 47, 97] = false from rfl, if_neg (by simp), hcl, if_neg (by simp), hwp, hmd]
  rfl
theorem y_sd (md sz : Int) (h : 0 ≤ sz ∧ sz ≤ 1048576) : Sd [⟨[100], 0, 4, 493, 0, true⟩, ⟨[100, 47, 97], 1, 1, md, sz, false⟩] 2 := by
  have := Sd.nil.add (s := [100, 47, 97]) (kd := 1) (md := md) (sz := sz) (mk := false) (.inr cp_da) (by decide) h
  rw [y_add] at this
  exact this
theorem Two.set1 {w W : World} {a b : Value} {D : Array Value} {t u : TypeId} (h : Two w W #[a, b] D t u) (x y : Value) : Two w ((W.setCell ⟨w.heap.size, 0, none⟩ x).setCell ⟨w.heap.size, 1, none⟩ y) #[x, y] D t u :=
  ⟨two_set h.1 x y, (Below.heap_setCell _ _ _ _ (by show w.heap.size + 1 ≠ w.heap.size; omega)).trans ((Below.heap_setCell _ _ _ _ (by show w.heap.size + 1 ≠ w.heap.size; omega)).trans h.2.1), (h.2.2.1.setCell (by show _ ≤ w.heap.size; exact Nat.le_refl _) _).setCell (by show _ ≤ w.heap.size; exact Nat.le_refl _) _, by rw [World.size_setCell, World.size_setCell]; exact h.2.2.2⟩
theorem Two.set2 {w W : World} {a b : Value} {D : Array Value} {t u : TypeId} (h : Two w W D #[a, b] t u) (x y : Value) : Two w ((W.setCell ⟨w.heap.size + 1, 0, none⟩ x).setCell ⟨w.heap.size + 1, 1, none⟩ y) D #[x, y] t u :=
  ⟨(Below.heap_setCell _ _ _ _ (by show w.heap.size ≠ w.heap.size + 1; omega)).trans ((Below.heap_setCell _ _ _ _ (by show w.heap.size ≠ w.heap.size + 1; omega)).trans h.1), two_set h.2.1 x y, (h.2.2.1.setCell (by show _ ≤ w.heap.size + 1; omega) _).setCell (by show _ ≤ w.heap.size + 1; omega) _, by rw [World.size_setCell, World.size_setCell]; exact h.2.2.2⟩
theorem y_over : overP yA 2 yB 2 = (yT, 4, 0) := by
  have h : ovX 2 yA yB = some yT := by rfl
  unfold overP
  rw [h]; rfl
theorem y_gone : goneK yA yT = [(1, 3)] := by rfl
theorem y_at : fd yT [100, 47, 97] = true ∧ atR yT [100, 47, 97] = ⟨[100, 47, 97], 3, 1, 2, 5, false⟩ := ⟨by rfl, by rfl⟩

set_option maxRecDepth 20000 in
set_option maxHeartbeats 4000000 in
theorem lays_w (w : World) (hm : Ml w) : Calls Tryz.prog 9 #[] w fun e w' => e = .returned (.bool true) ∧ Below w.heap.size w w' := by
  have KA : Hid (∀ W (md sz : Int), 0 ≤ sz ∧ sz ≤ 1048576 → Calls Tryz.prog 22 #[.agg #[.slice none 0 0, .int .i64 0], .string ⟨#[100, 47, 97]⟩, .agg #[.int .i64 1, .int .i64 md, .int .i64 0, .int .i64 0, .int .i64 0, .string ⟨#[]⟩, .string ⟨#[]⟩, .string ⟨#[]⟩, .slice none 0 0, .int .i64 sz, .bool false]] W fun e w' => ∃ ad cap, e = .returned (.tuple #[.agg #[.slice ad 2 cap, .int .i64 2], .int .i64 0]) ∧ Rs w' ad [⟨[100], 0, 4, 493, 0, true⟩, ⟨[100, 47, 97], 1, 1, md, sz, false⟩] ∧ 2 ≤ cap ∧ (ad = none → cap = 0) ∧ Below W.heap.size W w') := fun W md sz hz => by
    have := add_w (.agg #[.slice none 0 0, .int .i64 0]) 0 [] [100, 47, 97] 1 md sz false W Sd.nil ⟨none, 0, rfl, .inl rfl, Nat.le_refl _, fun _ => rfl⟩ (by simp) (by omega) (by decide) (.inr cp_da)
    rw [y_add] at this
    refine Calls.mono this ?_
    rintro e w' ⟨v', rfl, ⟨ad, cap, rfl, h1, h2, h3⟩, hb⟩
    exact ⟨ad, cap, rfl, h1, h2, h3, hb⟩
  have KO : Hid (∀ W a1 c1 a2 c2, Ml W → Rs W a1 yA → 2 ≤ c1 → (a1 = none → c1 = 0) → Rs W a2 yB → Calls Tryz.prog 11 #[.agg #[.slice a1 2 c1, .int .i64 2], .agg #[.slice a2 2 c2, .int .i64 2]] W fun e w' => ∃ a3 c3, e = .returned (.tuple #[.agg #[.slice a3 2 c3, .int .i64 4], .int .i64 0]) ∧ Rs w' a3 yT ∧ Below W.heap.size W w') := fun W a1 c1 a2 c2 hm r1 k1 e1 r2 => by
    have := over_w a1 a2 c1 c2 2 2 yA yB W hm (y_sd 1 3 (by omega)).srt r1 r2 (by decide) (by decide) k1 e1 (by omega) (by omega) (by decide) (by decide)
    rw [y_over] at this
    refine Calls.mono this ?_
    rintro e w' ⟨v', rfl, ⟨ad, cap, rfl, h1, h2, h3⟩, hb⟩
    exact ⟨ad, cap, rfl, h1, hb⟩
  have hsT : Srt yT := by unfold Srt; decide +kernel
  have KG : Hid (∀ W a c, Rs W a yT → Calls Tryz.prog 20 #[.agg #[.slice a 2 c, .int .i64 4], .string ⟨#[100, 47, 97]⟩] W fun e w' => e = .returned (.tuple #[.agg #[.string ⟨#[100, 47, 97]⟩, .int .i64 3, .int .i64 1, .int .i64 2, .int .i64 0, .int .i64 0, .int .i64 0, .string ⟨#[]⟩, .string ⟨#[]⟩, .string ⟨#[]⟩, .slice none 0 0, .int .i64 5, .bool false], .bool true]) ∧ Below W.heap.size W w') := fun W a c r => by
    have := get_w a c 4 yT [100, 47, 97] W hsT r (by decide) (by decide) (by decide)
    rw [y_at.1, y_at.2] at this
    exact this
  have KN : Hid (∀ W a1 c1 a2 c2, Rs W a1 yA → Rs W a2 yT → Calls Tryz.prog 15 #[.agg #[.slice a1 2 c1, .int .i64 2], .agg #[.slice a2 2 c2, .int .i64 4]] W fun e w' => ∃ g c, e = .returned (.slice (some ⟨g, 0, none⟩) 1 c) ∧ w'.cell? ⟨g, 0, none⟩ = some (.slice none 0 0) ∧ w'.cell? ⟨g, 1, none⟩ = some (.int .i64 3) ∧ Below W.heap.size W w') := fun W a1 c1 a2 c2 r1 r2 => by
    have := gone_w a1 a2 c1 c2 2 4 yA yT W r1 r2 (by decide) (by decide) (by decide) (by decide)
    rw [y_gone] at this
    refine Calls.mono this ?_
    rintro e w' ⟨g, c, vs, rfl, h1, h2, hb⟩
    obtain rfl : vs = [3] := List.perm_singleton.1 h2
    refine ⟨g, c, rfl, ?_, ?_, hb⟩
    · exact World.ownsRow.cellAt h1 0 (by decide)
    · exact World.ownsRow.cellAt h1 1 (by decide)
  have b0 : Below w.heap.size w ((w.alloc (.cells #[.slice none 0 0, .int .i64 0] 26)).alloc (.cells #[.slice none 0 0, .int .i64 0] 26)) := (below_box w _).trans ((below_box _ _).mono (by rw [size_box]; omega))
  have H0 := Two.mk0 w #[.slice none 0 0, .int .i64 0] #[.slice none 0 0, .int .i64 0] 26 26
  have HM : Hid (Ml w) := hm
  clear hm
  go_enter Tryz.func9, Tryz.ntmps9
  go_upto_region 2 with fail
  generalize (w.alloc _).alloc _ = w0 at *
  have c0 := cells_of H0.1
  go_upto_region 3 with (go_at_call 22; refine (KA.out _ 1 3 (by omega)).mono ?_; rintro e w1 ⟨a1, k1, rfl, R1, C1, N1, b1⟩; have H1 : Hid (Two w w1 _ _ _ _) := H0.next b1; have c1 := cells_of H1.out.1; have f1 := froz_of H1.out.1)
  have H2 : Hid (Two w _ _ _ _ _) := H1.out.set1 (.slice a1 2 k1) (.int .i64 2)
  have R2 : Hid (Rs _ a1 yA) := R1.setTwo H1.out.1 (.slice a1 2 k1) (.int .i64 2)
  clear c0 c1 f1 H1 H0 R1 b0 b1
  generalize (w1.setCell _ _).setCell _ _ = w2 at *
  have c2 := cells_of H2.out.2.1
  go_upto_region 4 with (go_at_call 22; refine (KA.out _ 2 5 (by omega)).mono ?_; rintro e w3 ⟨a2, k2, rfl, R3, C3, N3, b3⟩; have H3 : Hid (Two w w3 _ _ _ _) := H2.out.next b3; have R4 : Hid (Rs w3 a1 yA) := R2.out.below b3; have c3 := cells_of H3.out.2.1; have f3 := froz_of H3.out.2.1)
  have H5 : Hid (Two w _ _ _ _ _) := H3.out.set2 (.slice a2 2 k2) (.int .i64 2)
  have R5 : Hid (Rs _ a1 yA) := R4.out.setTwo H3.out.2.1 (.slice a2 2 k2) (.int .i64 2)
  have R6 : Hid (Rs _ a2 yB) := R3.setTwo H3.out.2.1 (.slice a2 2 k2) (.int .i64 2)
  clear c2 c3 f3 H3 H2 R3 R2 R4 b3 C3 N3
  generalize (w3.setCell _ _).setCell _ _ = w4 at *
  have c4 := cells_of H5.out.1
  have c5 := cells_of H5.out.2.1
  have M4 : Hid (Ml w4) := HM.out.below H5.out.2.2.1
  go_upto_region 5 with (go_at_call 11; refine (KO.out _ a1 k1 a2 k2 M4.out R5.out C1 N1 R6.out).mono ?_; rintro e w5 ⟨a3, k3, rfl, R7, b5⟩; have H6 : Hid (Two w w5 _ _ _ _) := H5.out.next b5; have R8 : Hid (Rs w5 a1 yA) := R5.out.below b5)
  have k6 := below_box w5 (.cells #[.slice a3 2 k3, .int .i64 4] 26)
  have q6 := heap_alloc_new w5 (.cells #[.slice a3 2 k3, .int .i64 4] 26)
  have H7 : Hid (Two w (w5.alloc (.cells #[.slice a3 2 k3, .int .i64 4] 26)) _ _ _ _) := H6.out.next k6
  have R9 : Hid (Rs (w5.alloc (.cells #[.slice a3 2 k3, .int .i64 4] 26)) a1 yA) := R8.out.below k6
  have R10 : Hid (Rs (w5.alloc (.cells #[.slice a3 2 k3, .int .i64 4] 26)) a3 yT) := R7.below k6
  clear k6 H6 R8 R7 c4 c5 M4 H5 R5 R6 b5 KO KA
  generalize w5.alloc _ = w6 at *
  have hg6 : w5.heap.size < w6.heap.size := (Array.getElem?_eq_some_iff.1 q6).1
  generalize w5.heap.size = g6 at *
  have c6 := cells_of q6
  go_upto_region 6 with (go_at_call 20; refine (KG.out _ a3 k3 R10.out).mono ?_; rintro e w7 ⟨rfl, b7⟩; have H8 : Hid (Two w w7 _ _ _ _) := H7.out.next b7; have R11 : Hid (Rs w7 a1 yA) := R9.out.below b7; have R12 : Hid (Rs w7 a3 yT) := R10.out.below b7; have q7 : Hid (w7.heap[g6]? = _) := (b7.block _ hg6).trans q6)
  have k8 := below_box w7 (.cells #[.string ⟨#[100, 47, 97]⟩, .int .i64 3, .int .i64 1, .int .i64 2, .int .i64 0, .int .i64 0, .int .i64 0, .string ⟨#[]⟩, .string ⟨#[]⟩, .string ⟨#[]⟩, .slice none 0 0, .int .i64 5, .bool false] 43)
  have q8 := heap_alloc_new w7 (.cells #[.string ⟨#[100, 47, 97]⟩, .int .i64 3, .int .i64 1, .int .i64 2, .int .i64 0, .int .i64 0, .int .i64 0, .string ⟨#[]⟩, .string ⟨#[]⟩, .string ⟨#[]⟩, .slice none 0 0, .int .i64 5, .bool false] 43)
  have hg7 : g6 < w7.heap.size := Nat.lt_of_lt_of_le hg6 b7.size
  have H9 : Hid (Two w (w7.alloc (.cells #[.string ⟨#[100, 47, 97]⟩, .int .i64 3, .int .i64 1, .int .i64 2, .int .i64 0, .int .i64 0, .int .i64 0, .string ⟨#[]⟩, .string ⟨#[]⟩, .string ⟨#[]⟩, .slice none 0 0, .int .i64 5, .bool false] 43)) _ _ _ _) := H8.out.next k8
  have R13 : Hid (Rs (w7.alloc (.cells #[.string ⟨#[100, 47, 97]⟩, .int .i64 3, .int .i64 1, .int .i64 2, .int .i64 0, .int .i64 0, .int .i64 0, .string ⟨#[]⟩, .string ⟨#[]⟩, .string ⟨#[]⟩, .slice none 0 0, .int .i64 5, .bool false] 43)) a1 yA) := R11.out.below k8
  have R14 : Hid (Rs (w7.alloc (.cells #[.string ⟨#[100, 47, 97]⟩, .int .i64 3, .int .i64 1, .int .i64 2, .int .i64 0, .int .i64 0, .int .i64 0, .string ⟨#[]⟩, .string ⟨#[]⟩, .string ⟨#[]⟩, .slice none 0 0, .int .i64 5, .bool false] 43)) a3 yT) := R12.out.below k8
  have q9 : Hid ((w7.alloc (.cells #[.string ⟨#[100, 47, 97]⟩, .int .i64 3, .int .i64 1, .int .i64 2, .int .i64 0, .int .i64 0, .int .i64 0, .string ⟨#[]⟩, .string ⟨#[]⟩, .string ⟨#[]⟩, .slice none 0 0, .int .i64 5, .bool false] 43)).heap[g6]? = _) := (k8.block _ hg7).trans q7.out
  clear k8 H8 R11 R12 c6 q6 H7 R9 R10 b7 KG q7
  generalize w7.alloc _ = w8 at *
  have hg8 : w7.heap.size < w8.heap.size := (Array.getElem?_eq_some_iff.1 q8).1
  have hg9 : g6 < w8.heap.size := Nat.lt_trans hg7 hg8
  generalize w7.heap.size = g8 at *
  have c8 := cells_of q9.out
  have c9 := cells_of H9.out.1
  go_upto_region 7 with (go_at_call 15; refine (KN.out _ a1 k1 a3 k3 R13.out R14.out).mono ?_; rintro e w9 ⟨gg, cg, rfl, z0, z1, b9⟩; have H10 : Hid (Two w w9 _ _ _ _) := H9.out.next b9; have q10 : w9.heap[g6]? = _ := (b9.block _ hg9).trans q9.out; have q11 : w9.heap[g8]? = _ := (b9.block _ hg8).trans q8)
  have d1 := cells_of q10
  have d2 := cells_of q11
  clear c8 c9 q8 q9 q10 q11 H9 R13 R14
  go_wp2_with fail
  go_ret
  exact ⟨rfl, H10.out.2.2.1⟩

end Go.Proofs.YtpgiibpalmhhlaaGreatDoor
