/-
  Contracts: a text's last byte, an entry in memory, settle, Pad.
-/
import Derived.Test.YtnmmaedngdibeaaGreatDoorEEnt1
import Derived.Laws.Tables
namespace Go.Proofs.YtnmmaedngdibeaaGreatDoor.E
open Go.RowKit
set_option linter.unusedVariables false
set_option linter.unusedSimpArgs false

def oneS : ByteArray := ⟨#[47]⟩
def endS (s : ByteArray) : ByteArray := s.extract (s.size - 1) s.size
/-- does a text end with a slash? -/
def slashB (s : ByteArray) : Bool := if s.size = 0 then false else decide (endS s = oneS)

theorem run_strend (w : World) (s : ByteArray) (x : Int) (h0 : 0 ≤ x) (h2 : x ≤ s.size) : (Instr.slice 9 (.string s) (some (.int .i64 x)) none none).run Tryz.prog w = .ok (.string (s.extract x.toNat s.size)) w := by
  have hb : (Instr.sliceBound (.int .i64 x) s.size .sliceB).run Tryz.prog w = .ok x.toNat w := run_sliceBound (P := Tryz.prog) w .i64 x s.size .sliceB (by omega) (by omega)
  simp [Instr.slice, run_underlying Tryz.underlying9, Instr.sliceBounds, hb]

set_option maxHeartbeats 1000000 in
theorem suffix_w (s : ByteArray) (w : World) (hm : s.size ≤ 9223372036854775807) :
    Calls Tryz.prog 126 #[.string s, .string ⟨#[47]⟩] w fun e w' => e = .returned (.bool (slashB s)) ∧ w = w' := by
  unfold slashB
  by_cases h0 : s.size = 0
  · rw [if_pos h0]
    have h0' : ¬ (1 : Int) ≤ (s.size : Int) := by omega
    go_enter Tryz.func126, Tryz.ntmps126
    go_wp2
    go_ret
    exact ⟨rfl, rfl⟩
  · rw [if_neg h0]
    have h1 : (1 : Int) ≤ (s.size : Int) := by omega
    have e1 : ((s.size : Int) - 1).toNat = s.size - 1 := by omega
    have q : ∀ W, (Instr.slice 9 (.string s) (some (.int .i64 ((s.size : Int) - 1))) none none).run Tryz.prog W = .ok (.string (endS s)) W := fun W => by
      rw [run_strend W s _ (by omega) (by omega), e1]; rfl
    clear e1
    generalize endS s = x at *
    by_cases c : x = oneS
    · rw [c] at q
      rw [c]
      simp only [decide_true]
      unfold oneS at q
      go_enter Tryz.func126, Tryz.ntmps126
      go_wp2
      go_ret
      exact ⟨rfl, rfl⟩
    · have c' := ne_list c
      rw [decide_eq_false c]
      have e47 : oneS.toList = [47] := by decide +kernel
      rw [e47] at c'
      go_enter Tryz.func126, Tryz.ntmps126
      go_wp2
      go_ret
      exact ⟨by first | rfl | simp [c'], rfl⟩

theorem hasSlash_w (s : ByteArray) (w : World) (hm : s.size ≤ 9223372036854775807) :
    Calls Tryz.prog 116 #[.string s, .string ⟨#[47]⟩] w fun e w' => e = .returned (.bool (slashB s)) ∧ w = w' := by
  have q := fun W => suffix_w s W hm
  generalize slashB s = b at *
  go_enter Tryz.func116, Tryz.ntmps116
  go_wp2_with (go_at_call 126; refine (q _).mono ?_; rintro e w' ⟨rfl, rfl⟩)
  go_ret
  exact ⟨rfl, rfl⟩

/-- an entry's fields -/
structure En where
  path : ByteArray
  link : ByteArray
  kind : Int
  mode : Int
  uid : Int
  gid : Int
  mtime : Int
  size : Int
  user : ByteArray
  group : ByteArray
def En.cells (e : En) : Array Value := #[.string e.path, .string e.link, .int .i64 e.kind, .int .i64 e.mode, .int .i64 e.uid, .int .i64 e.gid, .int .i64 e.mtime, .int .i64 e.size, .string e.user, .string e.group]

def EntAt (w : World) (E : Nat) (e : En) : Prop := w.heap[E]? = some (.cells e.cells 33 (0, 0))

theorem EntAt.lt {w : World} {E : Nat} {e : En} (h : EntAt w E e) : E < w.heap.size := (Array.getElem?_eq_some_iff.1 h).1
theorem EntAt.grow {w w' : World} {E : Nat} {e : En} (h : EntAt w E e) (hb : Below w.heap.size w w') : EntAt w' E e := (hb.block E h.lt).trans h
theorem EntAt.frozen {w : World} {E : Nat} {e : En} (h : EntAt w E e) (m : Nat) : w.frozen? ⟨E, m, none⟩ = false := by
  unfold EntAt at h
  simp [World.frozen?, h]
theorem EntAt.c {w : World} {E : Nat} {e : En} (h : EntAt w E e) (m : Nat) : w.cell? ⟨E, m, none⟩ = e.cells[m]? := by
  unfold EntAt at h
  simp [World.cell?, h]
theorem EntAt.set {w : World} {E : Nat} {e e' : En} (h : EntAt w E e) (m : Nat) (v : Value) (he : e.cells.setIfInBounds m v = e'.cells) : EntAt (w.setCell ⟨E, m, none⟩ v) E e' := by
  unfold EntAt at h ⊢
  rw [setCell_eq_setRow w E m _ _ _ _ h, setRow_heap _ _ _ _ _ _ h, he]

theorem below_set {E m : Nat} {w w' : World} {v : Value} (h : Below E w w') : Below E w (w'.setCell ⟨E, m, none⟩ v) := h.setCell (p := ⟨E, m, none⟩) (Nat.le_refl E) v

/-- an entry made one of its kind -/
def kindF (e : En) (form : Int) : Int := if e.kind = 1 ∧ form = 0 ∧ slashB e.path = true then 4 else e.kind
def settleF (e : En) (form : Int) : En := { e with
  kind := kindF e form
  size := if kindF e form = 1 then e.size else 0
  link := if kindF e form = 2 ∨ kindF e form = 3 then e.link else ⟨#[]⟩ }

set_option maxHeartbeats 4000000 in
theorem settle_w (E : Nat) (e : En) (form : Int) (w : World) (h : EntAt w E e) (hm : e.path.size ≤ 9223372036854775807) :
    Calls Tryz.prog 99 #[.pointer (some ⟨E, 0, none⟩), .int .i64 form] w fun ev w' => ev = .returned (.tuple #[]) ∧ EntAt w' E (settleF e form) ∧ Below E w w' := by
  have hs := fun W => hasSlash_w e.path W hm
  have c0 := h.c 0
  have c1 := h.c 1
  have c2 := h.c 2
  have c7 := h.c 7
  have f1 := h.frozen 1
  have f2 := h.frozen 2
  have f7 := h.frozen 7
  have HH : Hid (EntAt w E e) := h
  clear h
  obtain ⟨path, link, kind, mode, uid, gid, mtime, size, user, group⟩ := e
  simp only [En.cells] at c0 c1 c2 c7 hs
  simp only [List.getElem?_toArray, List.getElem?_cons_zero, List.getElem?_cons_succ] at c0 c1 c2 c7
  by_cases k1 : kind = 1
  · subst k1
    by_cases hf : form = 0
    · subst hf
      cases hsl : slashB path with
      | true =>
        rw [hsl] at hs
        go_enter Tryz.func99, Tryz.ntmps99
        go_wp2_with (go_at_call 116; refine (hs _).mono ?_; rintro e w' ⟨rfl, rfl⟩)
        go_end0
        refine ⟨rfl, ?_, below_set (below_set (below_set (Below.refl _ _)))⟩
        refine ((HH.out.set (e' := ⟨path, link, 4, mode, uid, gid, mtime, size, user, group⟩) 2 (.int .i64 4) rfl).set (e' := ⟨path, link, 4, mode, uid, gid, mtime, 0, user, group⟩) 7 (.int .i64 0) rfl).set 1 (.string ⟨#[]⟩) ?_
        simp [settleF, kindF, hsl, En.cells]
      | false =>
        rw [hsl] at hs
        go_enter Tryz.func99, Tryz.ntmps99
        go_wp2_with (go_at_call 116; refine (hs _).mono ?_; rintro e w' ⟨rfl, rfl⟩)
        go_end0
        refine ⟨rfl, ?_, below_set (Below.refl _ _)⟩
        refine HH.out.set 1 (.string ⟨#[]⟩) ?_
        simp [settleF, kindF, hsl, En.cells]
    · go_enter Tryz.func99, Tryz.ntmps99
      go_wp2
      go_end0
      refine ⟨rfl, ?_, below_set (Below.refl _ _)⟩
      refine HH.out.set 1 (.string ⟨#[]⟩) ?_
      simp [settleF, kindF, hf, En.cells]
  · by_cases k2 : kind = 2
    · subst k2
      go_enter Tryz.func99, Tryz.ntmps99
      go_wp2
      go_end0
      refine ⟨rfl, ?_, below_set (Below.refl _ _)⟩
      refine HH.out.set 7 (.int .i64 0) ?_
      simp [settleF, kindF, En.cells]
    · by_cases k3 : kind = 3
      · subst k3
        go_enter Tryz.func99, Tryz.ntmps99
        go_wp2
        go_end0
        refine ⟨rfl, ?_, below_set (Below.refl _ _)⟩
        refine HH.out.set 7 (.int .i64 0) ?_
        simp [settleF, kindF, En.cells]
      · have n1 : (kind != 1) = true := by simpa using k1
        have n2 : (kind != 2) = true := by simpa using k2
        have n3 : (kind != 3) = true := by simpa using k3
        go_enter Tryz.func99, Tryz.ntmps99
        go_wp2
        go_end0
        refine ⟨rfl, ?_, below_set (below_set (Below.refl _ _))⟩
        refine (HH.out.set (e' := ⟨path, link, kind, mode, uid, gid, mtime, 0, user, group⟩) 7 (.int .i64 0) rfl).set 1 (.string ⟨#[]⟩) ?_
        simp [settleF, kindF, k1, k2, k3, En.cells]

end Go.Proofs.YtnmmaedngdibeaaGreatDoor.E
