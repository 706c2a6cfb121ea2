/-
  Contracts: cmp.Or of three texts, a header's whole name, a text's last byte, Pad.
-/
import Derived.Test.YtnmmaedngdibeaaGreatDoorEEnt0
namespace Go.Proofs.YtnmmaedngdibeaaGreatDoor.E
open Go.RowKit
set_option linter.unusedVariables false
set_option linter.unusedSimpArgs false

set_option maxHeartbeats 1000000 in
theorem or_w (g cap : Nat) (a b c : ByteArray) (w : World) (h0 : w.cell? ⟨g, 0, none⟩ = some (.string a)) (h1 : w.cell? ⟨g, 1, none⟩ = some (.string b)) (h2 : w.cell? ⟨g, 2, none⟩ = some (.string c)) :
    Calls Tryz.prog 113 #[.slice (some ⟨g, 0, none⟩) 3 cap] w fun e w' => e = .returned (.string (or3 a b c)) ∧ w = w' := by
  unfold or3
  cases ha : emp a with
  | false =>
    unfold emp at ha
    simp only [Bool.false_eq_true, if_false]
    go_enter Tryz.func113, Tryz.ntmps113
    go_wp2_with fail
    refine wp_loop_rounds 1 ?_
    rw [rounds_succ]
    go_wp2
    go_ret
    exact ⟨rfl, rfl⟩
  | true =>
    obtain rfl := emp_true ha
    simp only [if_true]
    cases hb : emp b with
    | false =>
      unfold emp at hb
      simp only [Bool.false_eq_true, if_false]
      go_enter Tryz.func113, Tryz.ntmps113
      go_wp2_with fail
      refine wp_loop_rounds 2 ?_
      rw [rounds_succ]
      go_wp2
      rw [rounds_succ]
      go_wp2
      go_ret
      exact ⟨rfl, rfl⟩
    | true =>
      obtain rfl := emp_true hb
      simp only [if_true]
      cases hc : emp c with
      | false =>
        unfold emp at hc
        go_enter Tryz.func113, Tryz.ntmps113
        go_wp2_with fail
        refine wp_loop_rounds 3 ?_
        rw [rounds_succ]
        go_wp2
        rw [rounds_succ]
        go_wp2
        rw [rounds_succ]
        go_wp2
        go_ret
        exact ⟨rfl, rfl⟩
      | true =>
        obtain rfl := emp_true hc
        go_enter Tryz.func113, Tryz.ntmps113
        go_wp2_with fail
        refine wp_loop_rounds 4 ?_
        rw [rounds_succ]
        go_wp2
        rw [rounds_succ]
        go_wp2
        rw [rounds_succ]
        go_wp2
        rw [rounds_succ]
        go_wp2
        go_ret
        exact ⟨rfl, rfl⟩

/-- a header's fields -/
structure Hd where
  form : Int
  name : ByteArray
  link : ByteArray
  prefx : ByteArray
  user : ByteArray
  group : ByteArray
  typ : Int
  mode : Int
  uid : Int
  gid : Int
  size : Int
  mtime : Int
def Hd.cells (h : Hd) : Array Value := #[.int .i64 h.form, .string h.name, .string h.link, .string h.prefx, .string h.user, .string h.group, .int .u8 h.typ, .int .i64 h.mode, .int .i64 h.uid, .int .i64 h.gid, .int .i64 h.size, .int .i64 h.mtime]
def Hd.full (h : Hd) : ByteArray := if emp h.prefx then h.name else h.prefx ++ ⟨#[47]⟩ ++ h.name

set_option maxHeartbeats 1000000 in
theorem full_w (h : Hd) (w : World) (h1 : h.prefx.size ≤ 140737488355328) (h2 : h.name.size ≤ 140737488355328) :
    Calls Tryz.prog 112 #[.agg h.cells] w fun e w' => e = .returned (.string h.full) ∧ Below w.heap.size w w' := by
  obtain ⟨form, name, link, prefx, user, group, typ, mode, uid, gid, size, mtime⟩ := h
  simp only [Hd.full, Hd.cells] at *
  have b1 : Below w.heap.size w (w.alloc (.cells #[.int .i64 form, .string name, .string link, .string prefx, .string user, .string group, .int .u8 typ, .int .i64 mode, .int .i64 uid, .int .i64 gid, .int .i64 size, .int .i64 mtime] 55)) := (Below.refl _ w).alloc (Nat.le_refl _) _
  cases hE : emp prefx with
  | true =>
    unfold emp at hE
    simp only [if_true]
    go_enter Tryz.func112, Tryz.ntmps112
    go_wp2
    go_ret
    exact ⟨rfl, b1⟩
  | false =>
    unfold emp at hE
    have h3 : (prefx ++ ⟨#[47]⟩ : ByteArray).size = prefx.size + 1 := by rw [ByteArray.size_append]; rfl
    have h4 : (prefx ++ ⟨#[47]⟩ ++ name : ByteArray).size = prefx.size + 1 + name.size := by rw [ByteArray.size_append, ByteArray.size_append]; rfl
    simp only [Bool.false_eq_true, if_false]
    go_enter Tryz.func112, Tryz.ntmps112
    go_wp2
    go_ret
    exact ⟨rfl, b1⟩

end Go.Proofs.YtnmmaedngdibeaaGreatDoor.E
