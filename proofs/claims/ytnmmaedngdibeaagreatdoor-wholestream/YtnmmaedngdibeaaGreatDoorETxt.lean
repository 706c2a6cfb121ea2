/-
  Contract: fillTexts.
-/
import Derived.Test.YtnmmaedngdibeaaGreatDoorEEnt2
import Derived.Deep.RegionHeld3
import Derived.Deep.DeepCutAuto
import Derived.Deep.RegionWith
namespace Go.Proofs.YtnmmaedngdibeaaGreatDoor.E
open Go.RowKit
set_option linter.unusedVariables false
set_option linter.unusedSimpArgs false

def kPath : ByteArray := ⟨#[112, 97, 116, 104]⟩
def kLink : ByteArray := ⟨#[108, 105, 110, 107, 112, 97, 116, 104]⟩
def kUser : ByteArray := ⟨#[117, 110, 97, 109, 101]⟩
def kGroup : ByteArray := ⟨#[103, 110, 97, 109, 101]⟩

/-- The two structs that came in, boxed. -/
structure Boxed (W : World) (N : Nat) (h : Hd) (a : Ah) : Prop where
  x : W.heap[N]? = some (.cells h.cells 55 (0, 0))
  y : W.heap[N + 1]? = some (.cells a.cells 70 (0, 0))

theorem Boxed.grow {W W' : World} {N : Nat} {h : Hd} {a : Ah} (b : Boxed W N h a) (hb : Below W.heap.size W W') : Boxed W' N h a :=
  ⟨(hb.block _ (Array.getElem?_eq_some_iff.1 b.x).1).trans b.x, (hb.block _ (Array.getElem?_eq_some_iff.1 b.y).1).trans b.y⟩
theorem Boxed.drewG {W W' : World} {N : Nat} {h : Hd} {a : Ah} (b : Boxed W N h a) (hb : Below W.drew.heap.size W.drew W') : Boxed W' N h a :=
  Boxed.grow (W := W.drew) ⟨b.x, b.y⟩ hb
theorem Boxed.hc {W : World} {N : Nat} {h : Hd} {a : Ah} (b : Boxed W N h a) (m : Nat) : W.cell? ⟨N, m, none⟩ = h.cells[m]? := by simp [World.cell?, b.x]
theorem Boxed.ac {W : World} {N : Nat} {h : Hd} {a : Ah} (b : Boxed W N h a) (m : Nat) : W.cell? ⟨N + 1, m, none⟩ = a.cells[m]? := by simp [World.cell?, b.y]

theorem boxed (w : World) (h : Hd) (a : Ah) : Boxed ((w.alloc (.cells h.cells 55)).alloc (.cells a.cells 70)) w.heap.size h a := by
  have e1 : (w.alloc (.cells h.cells 55)).heap.size = w.heap.size + 1 := by simp
  constructor
  · rw [Below.heap_alloc _ _ _ (by rw [e1]; omega), heap_alloc_new]
  · rw [← e1, heap_alloc_new]

/-- what the region reads -/
def Rd (N : Nat) (h : Hd) (a : Ah) (W : World) : Prop :=
  W.cell? ⟨N, 0, none⟩ = some (.int .i64 h.form) ∧ W.cell? ⟨N, 1, none⟩ = some (.string h.name) ∧ W.cell? ⟨N, 2, none⟩ = some (.string h.link) ∧ W.cell? ⟨N, 3, none⟩ = some (.string h.prefx) ∧ W.cell? ⟨N, 4, none⟩ = some (.string h.user) ∧ W.cell? ⟨N, 5, none⟩ = some (.string h.group) ∧ W.cell? ⟨N, 6, none⟩ = some (.int .u8 h.typ) ∧ W.cell? ⟨N, 7, none⟩ = some (.int .i64 h.mode) ∧ W.cell? ⟨N, 8, none⟩ = some (.int .i64 h.uid) ∧ W.cell? ⟨N, 9, none⟩ = some (.int .i64 h.gid) ∧ W.cell? ⟨N, 10, none⟩ = some (.int .i64 h.size) ∧ W.cell? ⟨N, 11, none⟩ = some (.int .i64 h.mtime) ∧ W.cell? ⟨N + 1, 2, none⟩ = some (.string a.name) ∧ W.cell? ⟨N + 1, 3, none⟩ = some (.string a.link)

theorem Boxed.rd {W : World} {N : Nat} {h : Hd} {a : Ah} (b : Boxed W N h a) : Rd N h a W :=
  ⟨b.hc 0, b.hc 1, b.hc 2, b.hc 3, b.hc 4, b.hc 5, b.hc 6, b.hc 7, b.hc 8, b.hc 9, b.hc 10, b.hc 11, b.ac 2, b.ac 3⟩

def tg : Nat → Nat | 0 => 0 | 1 => 1 | 2 => 8 | _ => 9
def ky : Nat → ByteArray | 0 => kPath | 1 => kLink | 2 => kUser | _ => kGroup
def lg (a : Ah) : Nat → ByteArray | 0 => a.name | 1 => a.link | _ => ⟨#[]⟩
def hdr (h : Hd) : Nat → ByteArray | 0 => h.full | 1 => h.link | 2 => h.user | _ => h.group
def setT (e : En) (v : ByteArray) : Nat → En | 0 => { e with path := v } | 1 => { e with link := v } | 2 => { e with user := v } | _ => { e with group := v }
/-- the value of a text -/
def tx (h : Hd) (a : Ah) (k : Nat) : ByteArray := or3 (a.val (ky k)) (lg a k) (hdr h k)
def entK (h : Hd) (a : Ah) (e : En) : Nat → En
  | 0 => e
  | k + 1 => setT (entK h a e k) (tx h a k) k

theorem EntAt.str {w : World} {E : Nat} {e : En} (h : EntAt w E e) (k : Nat) : ∃ x, w.cell? ⟨E, tg k, none⟩ = some (.string x) := by
  match k with
  | 0 => exact ⟨_, h.c 0⟩
  | 1 => exact ⟨_, h.c 1⟩
  | 2 => exact ⟨_, h.c 8⟩
  | k + 3 => exact ⟨_, h.c 9⟩
theorem EntAt.setS {w : World} {E : Nat} {e : En} (h : EntAt w E e) (k : Nat) (v : ByteArray) : EntAt (w.setCell ⟨E, tg k, none⟩ (.string v)) E (setT e v k) := by
  match k with
  | 0 => exact h.set 0 _ rfl
  | 1 => exact h.set 1 _ rfl
  | 2 => exact h.set 8 _ rfl
  | k + 3 => exact h.set 9 _ rfl

def txtCells (E : Nat) (F l u r an al : ByteArray) : Array Value := #[.pointer (some ⟨E, 0, none⟩), .string ⟨#[112, 97, 116, 104]⟩, .string an, .string F, .pointer (some ⟨E, 1, none⟩), .string ⟨#[108, 105, 110, 107, 112, 97, 116, 104]⟩, .string al, .string l, .pointer (some ⟨E, 8, none⟩), .string ⟨#[117, 110, 97, 109, 101]⟩, .string ⟨#[]⟩, .string u, .pointer (some ⟨E, 9, none⟩), .string ⟨#[103, 110, 97, 109, 101]⟩, .string ⟨#[]⟩, .string r]

/-- The state of the loop over the texts. -/
structure Lp (w W : World) (E T : Nat) (e : En) (h : Hd) (a : Ah) : Prop where
  bel : Below E w W
  ent : EntAt W E e
  box : W.heap[w.heap.size + 1]? = some (.cells a.cells 70 (0, 0))
  txt : W.heap[T]? = some (.cells (txtCells E h.full h.link h.user h.group a.name a.link) 183 (0, 0))
  lt : E < w.heap.size

theorem Lp.tc {w W : World} {E T : Nat} {e : En} {h : Hd} {a : Ah} (p : Lp w W E T e h a) (k : Nat) (hk : k < 4) :
    W.cell? ⟨T, k * 4, none⟩ = some (.pointer (some ⟨E, tg k, none⟩)) ∧ W.cell? ⟨T, k * 4 + 1, none⟩ = some (.string (ky k)) ∧ W.cell? ⟨T, k * 4 + 2, none⟩ = some (.string (lg a k)) ∧ W.cell? ⟨T, k * 4 + 3, none⟩ = some (.string (hdr h k)) := by
  have ht := p.txt
  have key : ∀ j, W.cell? ⟨T, j, none⟩ = (txtCells E h.full h.link h.user h.group a.name a.link)[j]? := fun j => by simp [World.cell?, ht]
  rw [key, key, key, key]
  match k, hk with
  | 0, _ => exact ⟨rfl, rfl, rfl, rfl⟩
  | 1, _ => exact ⟨rfl, rfl, rfl, rfl⟩
  | 2, _ => exact ⟨rfl, rfl, rfl, rfl⟩
  | 3, _ => exact ⟨rfl, rfl, rfl, rfl⟩

theorem Lp.ac {w W : World} {E T : Nat} {e : En} {h : Hd} {a : Ah} (p : Lp w W E T e h a) (m : Nat) : W.cell? ⟨w.heap.size + 1, m, none⟩ = a.cells[m]? := by simp [World.cell?, p.box]

theorem Lp.grow {w W W' : World} {E T : Nat} {e : En} {h : Hd} {a : Ah} (p : Lp w W E T e h a) (hb : Below W.heap.size W W') : Lp w W' E T e h a :=
  ⟨p.bel.trans (hb.mono (Nat.le_of_lt p.ent.lt)), p.ent.grow hb, (hb.block _ (Array.getElem?_eq_some_iff.1 p.box).1).trans p.box, (hb.block _ (Array.getElem?_eq_some_iff.1 p.txt).1).trans p.txt, p.lt⟩

theorem Lp.put {w W : World} {E T : Nat} {e : En} {h : Hd} {a : Ah} (p : Lp w W E T e h a) (hT : E ≠ T) (k : Nat) (v : ByteArray) : Lp w (W.setCell ⟨E, tg k, none⟩ (.string v)) E T (setT e v k) h a :=
  ⟨below_set p.bel, p.ent.setS k v, by rw [Below.heap_setCell _ _ _ _ (by have := p.lt; show w.heap.size + 1 ≠ E; omega)]; exact p.box, by rw [Below.heap_setCell _ _ _ _ (fun h => hT h.symm)]; exact p.txt, p.lt⟩

theorem Lp.isIn {w0 w W : World} {E T : Nat} {e : En} {h : Hd} {a : Ah} (p : Lp w W E T e h a) (hI : a.In w0) (h0 : w0.heap.size ≤ E) (hb0 : Below w0.heap.size w0 w) : a.In W := hI.below (hb0.trans (p.bel.mono h0))

end Go.Proofs.YtnmmaedngdibeaaGreatDoor.E
