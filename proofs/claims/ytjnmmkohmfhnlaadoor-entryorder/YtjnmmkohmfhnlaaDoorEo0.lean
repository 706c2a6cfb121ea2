/-
  EntryOrder's two closures.
-/
import Derived.Test.YtjnmmkohmfhnlaaDoorLaid
import Derived.ProofKit
import Derived.OpenShut
namespace Go.Proofs.YtjnmmkohmfhnlaaDoor
open Go.ChangeShapes Go.WideShapes Go.RowKit
set_option linter.unusedVariables false
set_option linter.unusedSimpArgs false

set_option maxHeartbeats 1000000 in
theorem first3_w (g cap : Nat) (a b c : ByteArray) (w : World) (h0 : w.cell? ⟨g, 0, none⟩ = some (.string a)) (h1 : w.cell? ⟨g, 1, none⟩ = some (.string b)) (h2 : w.cell? ⟨g, 2, none⟩ = some (.string c)) :
    Calls Tryd.prog 14 #[.slice (some ⟨g, 0, none⟩) 3 cap] w fun e w' => e = .returned (.string (or3 a b c)) ∧ w = w' := by
  unfold or3
  cases ha : emp a with
  | false =>
    unfold emp at ha
    simp only [Bool.false_eq_true, if_false]
    go_enter Tryd.func14, Tryd.ntmps14
    go_wp2_with fail
    refine wp_loop_rounds 1 ?_
    rw [rounds_succ]
    go_wp2
    go_ret
    exact ⟨rfl, rfl⟩
  | true =>
    obtain rfl := emp_true ha
    simp only [if_true]
    cases hb : emp b with
    | false =>
      unfold emp at hb
      simp only [Bool.false_eq_true, if_false]
      go_enter Tryd.func14, Tryd.ntmps14
      go_wp2_with fail
      refine wp_loop_rounds 2 ?_
      rw [rounds_succ]
      go_wp2
      rw [rounds_succ]
      go_wp2
      go_ret
      exact ⟨rfl, rfl⟩
    | true =>
      obtain rfl := emp_true hb
      simp only [if_true]
      cases hc : emp c with
      | false =>
        unfold emp at hc
        go_enter Tryd.func14, Tryd.ntmps14
        go_wp2_with fail
        refine wp_loop_rounds 3 ?_
        rw [rounds_succ]
        go_wp2
        rw [rounds_succ]
        go_wp2
        rw [rounds_succ]
        go_wp2
        go_ret
        exact ⟨rfl, rfl⟩
      | true =>
        obtain rfl := emp_true hc
        go_enter Tryd.func14, Tryd.ntmps14
        go_wp2_with fail
        refine wp_loop_rounds 4 ?_
        rw [rounds_succ]
        go_wp2
        rw [rounds_succ]
        go_wp2
        rw [rounds_succ]
        go_wp2
        rw [rounds_succ]
        go_wp2
        go_ret
        exact ⟨rfl, rfl⟩

set_option maxHeartbeats 1000000 in
theorem first2_w (g cap : Nat) (a b : ByteArray) (w : World) (h0 : w.cell? ⟨g, 0, none⟩ = some (.string a)) (h1 : w.cell? ⟨g, 1, none⟩ = some (.string b)) :
    Calls Tryd.prog 14 #[.slice (some ⟨g, 0, none⟩) 2 cap] w fun e w' => e = .returned (.string (or2 a b)) ∧ w = w' := by
  unfold or2
  cases ha : emp a with
  | false =>
    unfold emp at ha
    simp only [Bool.false_eq_true, if_false]
    go_enter Tryd.func14, Tryd.ntmps14
    go_wp2_with fail
    refine wp_loop_rounds 1 ?_
    rw [rounds_succ]
    go_wp2
    go_ret
    exact ⟨rfl, rfl⟩
  | true =>
    obtain rfl := emp_true ha
    simp only [if_true]
    cases hb : emp b with
    | false =>
      unfold emp at hb
      go_enter Tryd.func14, Tryd.ntmps14
      go_wp2_with fail
      refine wp_loop_rounds 2 ?_
      rw [rounds_succ]
      go_wp2
      rw [rounds_succ]
      go_wp2
      go_ret
      exact ⟨rfl, rfl⟩
    | true =>
      obtain rfl := emp_true hb
      go_enter Tryd.func14, Tryd.ntmps14
      go_wp2_with fail
      refine wp_loop_rounds 3 ?_
      rw [rounds_succ]
      go_wp2
      rw [rounds_succ]
      go_wp2
      rw [rounds_succ]
      go_wp2
      go_ret
      exact ⟨rfl, rfl⟩

def hO (s : ByteArray) : Hd := ⟨2, s, noE, noE, noE, noE, 48, 0, 0, 0, 0, 0⟩
theorem hO_full (s : ByteArray) : (hO s).full = s := by unfold Hd.full; rw [show emp (hO s).prefx = true from emp_none]; rfl
/-- records for paths alone -/
structure OnlyPath (a : Ah) : Prop where
  h : ∀ i, i < 4 → a.val (kyN i) = ⟨#[]⟩
theorem op_num (s : ByteArray) {a : Ah} (p : OnlyPath a) (i : Nat) (hi : i < 4) : numV (hO s) a i = some 0 := by
  unfold numV
  rw [p.h i hi, emp_none]
  match i, hi with
  | 0, _ => rfl
  | 1, _ => rfl
  | 2, _ => rfl
  | 3, _ => rfl
theorem op_bad (s : ByteArray) {a : Ah} (p : OnlyPath a) : ¬ badN (hO s) a := fun ⟨i, hi, h⟩ => by rw [op_num s p i hi] at h; cases h
theorem op_neg (s : ByteArray) {a : Ah} (p : OnlyPath a) : ¬ neg (hO s) a := by
  unfold neg
  rw [fullE_eq, op_num s p 0 (by omega), op_num s p 1 (by omega), op_num s p 2 (by omega), op_num s p 3 (by omega)]
  simp [settleF]
theorem op_path (s : ByteArray) (a : Ah) : (fullE (hO s) a).path = tx (hO s) a 0 := rfl

theorem tx_O (s : ByteArray) (a : Ah) : tx (hO s) a 0 = or3 (a.val kPath) a.name s := by
  show or3 _ _ (hO s).full = _
  rw [hO_full]
  rfl

set_option maxHeartbeats 1000000 in
theorem path_w (s : ByteArray) (a : Ah) (Hb : Nat) (w : World) (hV : Vs w) (f : Fit (hO s) a w) (p : OnlyPath a) (hc : ∀ j v, (hO s).cells[j]? = some v → w.cell? ⟨Hb, j, none⟩ = some v) :
    Calls Tryd.prog 13 #[.agg a.cells, .pointer (some ⟨Hb, 0, none⟩)] w fun ev w' => ev = .returned (.string (or3 (a.val kPath) a.name s)) ∧ Below w.heap.size w w' := by
  have b1 : Below w.heap.size w (w.alloc (.cells a.cells 26)) := (Below.refl _ w).alloc (Nat.le_refl _) _
  have q := make_ok (w := w.alloc (.cells a.cells 26)) ⟨f.isIn.below b1, f.p, f.n, f.l, f.v⟩ (hV.below b1) (by show ¬ kd 48 = 0; decide) (op_bad s p) (op_neg s p)
  have e0 := op_path s a
  rw [tx_O] at e0
  have hlt : Hb < w.heap.size := Lib.lt_of_cell (hc 0 _ rfl)
  have k0 := hc 0 _ rfl
  have k1 := hc 1 _ rfl
  have k2 := hc 2 _ rfl
  have k3 := hc 3 _ rfl
  have k4 := hc 4 _ rfl
  have k5 := hc 5 _ rfl
  have k6 := hc 6 _ rfl
  have k7 := hc 7 _ rfl
  have k8 := hc 8 _ rfl
  have k9 := hc 9 _ rfl
  have k10 := hc 10 _ rfl
  have k11 := hc 11 _ rfl
  rw [← e0]
  clear e0 hc f p hV
  generalize fullE (hO s) a = e at *
  have HB1 : Hid _ := b1
  clear b1
  obtain ⟨gv, lv, gK, gV, gn, lK, lV, ln, aname, alink⟩ := a
  obtain ⟨path, link, kind, mode, uid, gid, mtime, size, user, group⟩ := e
  simp only [hO, Hd.cells, Ah.cells, En.cells, noE] at *
  go_enter Tryd.func13, Tryd.ntmps13
  go_wp2_with (go_at_call 10; refine q.mono ?_; rintro e w1 ⟨rfl, hb⟩)
  go_ret
  have hB := HB1.out.trans (hb.mono HB1.out.size)
  exact ⟨rfl, hB.alloc hB.size _⟩

end Go.Proofs.YtjnmmkohmfhnlaaDoor
