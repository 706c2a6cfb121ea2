/-
  Contract of the document's answer for entries: Make.
-/
import Derived.Test.YtjnmmkohmfhnlaaDoorRf1
namespace Go.Proofs.YtjnmmkohmfhnlaaDoor
open Go.RowKit
set_option linter.unusedVariables false
set_option linter.unusedSimpArgs false

def Hd.rcells (x : Hd) : Array Value := #[.int .i64 x.form, .int .u8 x.typ, .string x.name, .string x.link, .string x.prefx, .string x.user, .string x.group, .int .i64 x.mode, .int .i64 x.uid, .int .i64 x.gid, .int .i64 x.size, .int .i64 x.mtime]
def setK (e : En) (k : Int) : En := { e with kind := k }
def setM (e : En) (m : Int) : En := { e with mode := m }

/-- The state of the document's Make. -/
structure Mr (w W : World) (e : En) (x : Hd) : Prop where
  bel : Below w.heap.size w W
  box : W.heap[w.heap.size]? = some (.cells x.rcells 36 (0, 0))
  res : W.heap[w.heap.size + 1]? = some (.cells zeroE.cells 29 (0, 0))
  ent : EntAt W (w.heap.size + 2) e

theorem Mr.drew {w W : World} {e : En} {x : Hd} (p : Mr w W e x) : Mr w W.drew e x := ⟨p.bel.drew, p.box, p.res, p.ent⟩
theorem Mr.put {w W : World} {e e' : En} {x : Hd} (p : Mr w W e x) (m : Nat) (v : Value) (he : e.cells.setIfInBounds m v = e'.cells) : Mr w (W.setCell ⟨w.heap.size + 2, m, none⟩ v) e' x :=
  ⟨p.bel.setCell (p := ⟨w.heap.size + 2, m, none⟩) (by show w.heap.size ≤ w.heap.size + 2; omega) v, by rw [Below.heap_setCell _ _ _ _ (by show w.heap.size ≠ w.heap.size + 2; omega)]; exact p.box, by rw [Below.heap_setCell _ _ _ _ (by show w.heap.size + 1 ≠ w.heap.size + 2; omega)]; exact p.res, p.ent.set m v he⟩
theorem Mr.bc {w W : World} {e : En} {x : Hd} (p : Mr w W e x) (m : Nat) : W.cell? ⟨w.heap.size, m, none⟩ = x.rcells[m]? := by simp [World.cell?, p.box]
theorem Mr.rc {w W : World} {e : En} {x : Hd} (p : Mr w W e x) (m : Nat) : W.cell? ⟨w.heap.size + 1, m, none⟩ = zeroE.cells[m]? := by simp [World.cell?, p.res]
theorem Mr.rf {w W : World} {e : En} {x : Hd} (p : Mr w W e x) (m : Nat) : W.frozen? ⟨w.heap.size + 1, m, none⟩ = false := by simp [World.frozen?, p.res]

theorem mr_start (w : World) (x : Hd) : Mr w (((w.alloc (.cells x.rcells 36)).alloc (.cells #[.string ⟨#[]⟩, .string ⟨#[]⟩, .int .i64 0, .int .i64 0, .int .i64 0, .int .i64 0, .int .i64 0, .int .i64 0, .string ⟨#[]⟩, .string ⟨#[]⟩] 29)).alloc (.cells #[.string ⟨#[]⟩, .string ⟨#[]⟩, .int .i64 0, .int .i64 0, .int .i64 0, .int .i64 0, .int .i64 0, .int .i64 0, .string ⟨#[]⟩, .string ⟨#[]⟩] 29)) zeroE x := by
  have z1 : (w.alloc (.cells x.rcells 36)).heap.size = w.heap.size + 1 := by simp
  have b1 : Below w.heap.size w (w.alloc (.cells x.rcells 36)) := (Below.refl _ w).alloc (Nat.le_refl _) _
  have r1 := heap_alloc_new w (.cells x.rcells 36)
  generalize w.alloc (.cells x.rcells 36) = w1 at *
  have z2 : (w1.alloc (.cells #[.string ⟨#[]⟩, .string ⟨#[]⟩, .int .i64 0, .int .i64 0, .int .i64 0, .int .i64 0, .int .i64 0, .int .i64 0, .string ⟨#[]⟩, .string ⟨#[]⟩] 29)).heap.size = w.heap.size + 2 := by simp; omega
  have b2 := b1.alloc (by omega) (.cells #[.string ⟨#[]⟩, .string ⟨#[]⟩, .int .i64 0, .int .i64 0, .int .i64 0, .int .i64 0, .int .i64 0, .int .i64 0, .string ⟨#[]⟩, .string ⟨#[]⟩] 29)
  have r2 := heap_alloc_new w1 (.cells #[.string ⟨#[]⟩, .string ⟨#[]⟩, .int .i64 0, .int .i64 0, .int .i64 0, .int .i64 0, .int .i64 0, .int .i64 0, .string ⟨#[]⟩, .string ⟨#[]⟩] 29)
  have r1' : (w1.alloc (.cells #[.string ⟨#[]⟩, .string ⟨#[]⟩, .int .i64 0, .int .i64 0, .int .i64 0, .int .i64 0, .int .i64 0, .int .i64 0, .string ⟨#[]⟩, .string ⟨#[]⟩] 29)).heap[w.heap.size]? = some (.cells x.rcells 36 (0, 0)) := by rw [Below.heap_alloc _ _ _ (by omega)]; exact r1
  rw [z1] at r2
  generalize w1.alloc (.cells #[.string ⟨#[]⟩, .string ⟨#[]⟩, .int .i64 0, .int .i64 0, .int .i64 0, .int .i64 0, .int .i64 0, .int .i64 0, .string ⟨#[]⟩, .string ⟨#[]⟩] 29) = w2 at *
  refine ⟨b2.alloc (by omega) _, ?_, ?_, ?_⟩
  · rw [Below.heap_alloc _ _ _ (by omega)]; exact r1'
  · rw [Below.heap_alloc _ _ _ (by omega)]; exact r2
  · unfold EntAt; rw [← z2]; exact heap_alloc_new w2 _

/-- the entry behind the texts -/
def rT (x : Hd) (a : Ah) : En := entK x a (startE (kd x.typ) 0) 4


theorem slash_at (s : ByteArray) (h : 0 < s.size) : slashB s = decide (((s[s.size - 1]'(by omega)).toNat : Int) = 47) := by
  unfold slashB
  rw [if_neg (by omega)]
  have e : endS s = ⟨#[s[s.size - 1]'(by omega)]⟩ := by
    unfold endS
    apply ByteArray.ext
    rw [ByteArray.data_extract]
    have hs : s.data.size = s.size := rfl
    apply Array.ext
    · simp only [Array.size_extract, hs]
      show _ = 1
      omega
    · intro i h1 h2
      have hi : i = 0 := by
        have h3 : i < 1 := h2
        omega
      subst hi
      rw [Array.getElem_extract]
      rfl
  rw [e]
  unfold oneS
  by_cases c : ((s[s.size - 1]'(by omega)).toNat : Int) = 47
  · rw [decide_eq_true c]
    have : s[s.size - 1]'(by omega) = 47 := by
      apply UInt8.toNat.inj
      show _ = 47
      omega
    rw [this]
    simp
  · rw [decide_eq_false c]
    apply decide_eq_false
    intro h1
    apply c
    have h2 : s[s.size - 1]'(by omega) = 47 := by
      have := congrArg (fun b : ByteArray => b.data[0]?) h1
      simpa using this
    rw [h2]
    rfl

theorem tmod_fix (m : Int) : (if Int.tmod m 4096 < 0 then Int.tmod m 4096 + 4096 else Int.tmod m 4096) = m % 4096 := by
  have h := Int.emod_emod_of_dvd m (Int.dvd_refl 4096)
  rcases Int.le_total 0 m with hm | hm
  · rw [Int.tmod_eq_emod_of_nonneg hm, if_neg (by omega)]
  · have e : Int.tmod m 4096 = -((-m) % 4096) := by
      have : Int.tmod m 4096 = - Int.tmod (-m) 4096 := by rw [Int.neg_tmod]; omega
      rw [this, Int.tmod_eq_emod_of_nonneg (by omega)]
    rw [e]
    split <;> omega

theorem keptN {W : World} {n m o : Nat} {v u : Value} (h : W.cell? ⟨n, o, none⟩ = some v) : (W.setCell ⟨n + 2, m, none⟩ u).cell? ⟨n, o, none⟩ = some v := by
  rw [World.cell?_of_block (w := W) (Below.heap_setCell W ⟨n + 2, m, none⟩ u n (by show n ≠ n + 2; omega))]; exact h

/-- the last step: what has no meaning is taken away -/
theorem settle_steps (e : En) (form : Int) (hk : e.kind = 1 ∨ e.kind = 2 ∨ e.kind = 3 ∨ e.kind = 4) (E7 : En) (h7 : E7 = setK e (kindF e form)) :
    settleF e form = { E7 with size := if E7.kind = 1 then E7.size else 0, link := if E7.kind = 1 ∨ E7.kind = 4 then ⟨#[]⟩ else E7.link } := by
  subst h7
  have hk' : kindF e form = 1 ∨ kindF e form = 2 ∨ kindF e form = 3 ∨ kindF e form = 4 := by
    unfold kindF; split
    · omega
    · exact hk
  unfold settleF setK
  simp only
  rcases hk' with h | h | h | h <;> simp [h]


end Go.Proofs.YtjnmmkohmfhnlaaDoor
