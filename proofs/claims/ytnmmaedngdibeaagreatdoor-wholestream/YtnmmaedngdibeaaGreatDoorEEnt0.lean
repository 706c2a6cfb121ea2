/-
  Contracts: pax.Get, the value of a key, cmp.Or of three texts, a header's whole name, a text's last byte, kinds, Pad.
-/
import Derived.Test.YtnmmaedngdibeaaGreatDoorProg
import Derived.WalkKit
import Derived.ProofKit
import Derived.OpenShut
import Derived.Below
import Derived.Lib.AtoiErrMem
namespace Go.Proofs.YtnmmaedngdibeaaGreatDoor.E
open Go.RowKit
set_option linter.unusedVariables false
set_option linter.unusedSimpArgs false

theorem toList_inj {a b : ByteArray} (h : a.toList = b.toList) : a = b := by
  rw [ByteArray.toList_eq, ByteArray.toList_eq] at h
  cases a; cases b
  congr 1
  exact Array.ext' h

theorem ne_list {a b : ByteArray} (h : ¬ a = b) : (a.toList == b.toList) = false := beq_eq_false_iff_ne.2 fun e => h (toList_inj e)

/-- Records lie at a place: their keys and their values by index. -/
def RecsAt (w : World) (b off : Nat) (K V : Nat → ByteArray) (n : Nat) : Prop :=
  ∀ i, i < n → w.cell? ⟨b, off + i * 2, none⟩ = some (.string (K i)) ∧ w.cell? ⟨b, off + i * 2 + 1, none⟩ = some (.string (V i))

theorem RecsAt.below {w w' : World} {b off n : Nat} {K V : Nat → ByteArray} (h : RecsAt w b off K V n) (hb : Below w.heap.size w w') : RecsAt w' b off K V n := fun i hi =>
  ⟨(hb.cell (Lib.lt_of_cell (h i hi).1)).trans (h i hi).1, (hb.cell (Lib.lt_of_cell (h i hi).2)).trans (h i hi).2⟩

/-- the last record with a key -/
def lastOf (K V : Nat → ByteArray) (key : ByteArray) : Nat → ByteArray × Bool
  | 0 => (⟨#[]⟩, false)
  | i + 1 => if K i = key then (V i, true) else lastOf K V key i

set_option maxHeartbeats 1000000 in
theorem get_w (b off n cap : Nat) (K V : Nat → ByteArray) (key : ByteArray) (w : World) (hR : RecsAt w b off K V n) (hn : n ≤ 4611686018427387903) :
    Calls Tryz.prog 123 #[.slice (some ⟨b, off, none⟩) n cap, .string key] w fun e w' => e = .returned (.tuple #[.string (lastOf K V key n).1, .bool (lastOf K V key n).2]) ∧ w = w' := by
  have HR : Hid (RecsAt w b off K V n) := hR
  clear hR
  go_enter Tryz.func123, Tryz.ntmps123
  go_wp2
  go_loopw [6] (fun t wr => ∃ m : Nat, m ≤ n ∧ t = .int .i64 ((m : Int) - 1) ∧ Hid (lastOf K V key n = lastOf K V key m) ∧ wr = w) (fun t _ => (intOf t + 1).toNat)
  case atStart => exact ⟨n, Nat.le_refl _, rfl, rfl, rfl⟩
  case round =>
    obtain ⟨m, hm, rfl, H, rfl⟩ := hrel
    cases m with
    | zero =>
      go_wp2
      go_ret2
      have h := H.out
      simp only [lastOf] at h
      exact ⟨by rw [h]; rfl, rfl⟩
    | succ i =>
      have e1 : ((i + 1 : Nat) : Int) - 1 = i := by omega
      rw [e1]
      have hc := HR.out i (by omega)
      obtain ⟨hc0, hc1⟩ := hc
      by_cases c : K i = key
      · rw [c] at hc0
        go_wp2
        go_ret2
        have h := H.out
        simp only [lastOf, c, if_true] at h
        exact ⟨by rw [h]; rfl, rfl⟩
      · have c' := ne_list c
        go_wp2
        go_roundw
        case rel => exact ⟨i, by omega, by simp, by have h := H.out; simp only [lastOf, c, if_false] at h; exact h, by first | rfl | trivial⟩
        case measure => simp [intOf]

theorem get_none (ad : Option Addr) (cap : Nat) (key : ByteArray) (w : World) :
    Calls Tryz.prog 123 #[.slice ad 0 cap, .string key] w fun e w' => e = .returned (.tuple #[.string ⟨#[]⟩, .bool false]) ∧ w = w' := by
  go_enter Tryz.func123, Tryz.ntmps123
  go_wp2_with fail
  refine wp_loop_rounds 1 ?_
  rw [rounds_succ]
  go_wp2
  go_ret2
  exact ⟨rfl, rfl⟩

def kd (a : Int) : Int := if a = 0 then 1 else if a = 55 then 1 else if a = 48 then 1 else if a = 49 then 2 else if a = 50 then 3 else if a = 53 then 4 else 0

theorem kind_w (a : Int) (w : World) : Calls Tryz.prog 78 #[.int .u8 a] w fun e w' => e = .returned (.int .i64 (kd a)) ∧ w = w' := by
  unfold kd
  by_cases c0 : a = 0
  · subst c0
    go_enter Tryz.func78, Tryz.ntmps78
    go_wp2
    go_ret
    exact ⟨rfl, rfl⟩
  by_cases c1 : a = 55
  · subst c1
    go_enter Tryz.func78, Tryz.ntmps78
    go_wp2
    go_ret
    exact ⟨rfl, rfl⟩
  by_cases c2 : a = 48
  · subst c2
    go_enter Tryz.func78, Tryz.ntmps78
    go_wp2
    go_ret
    exact ⟨rfl, rfl⟩
  by_cases c3 : a = 49
  · subst c3
    go_enter Tryz.func78, Tryz.ntmps78
    go_wp2
    go_ret
    exact ⟨rfl, rfl⟩
  by_cases c4 : a = 50
  · subst c4
    go_enter Tryz.func78, Tryz.ntmps78
    go_wp2
    go_ret
    exact ⟨rfl, rfl⟩
  by_cases c5 : a = 53
  · subst c5
    go_enter Tryz.func78, Tryz.ntmps78
    go_wp2
    go_ret
    exact ⟨rfl, rfl⟩
  simp only [c0, c1, c2, c3, c4, c5, if_false]
  go_enter Tryz.func78, Tryz.ntmps78
  go_wp2
  go_ret
  exact ⟨rfl, rfl⟩


theorem cell_grow {w w' : World} {b o : Nat} {v : Value} (h : w.cell? ⟨b, o, none⟩ = some v) (hb : Below w.heap.size w w') : w'.cell? ⟨b, o, none⟩ = some v := (hb.cell (Lib.lt_of_cell h)).trans h

/-- A list of records as a slice. -/
def Lst (w : World) (v : Value) (K V : Nat → ByteArray) (n : Nat) : Prop :=
  ∃ ad cap, v = .slice ad n cap ∧ n ≤ 4611686018427387903 ∧ (n = 0 ∨ ∃ b off, ad = some ⟨b, off, none⟩ ∧ RecsAt w b off K V n)

theorem Lst.below {w w' : World} {v : Value} {K V : Nat → ByteArray} {n : Nat} (h : Lst w v K V n) (hb : Below w.heap.size w w') : Lst w' v K V n := by
  obtain ⟨ad, cap, rfl, hn, h3⟩ := h
  refine ⟨ad, cap, rfl, hn, ?_⟩
  rcases h3 with h | ⟨b, off, h, hR⟩
  · exact .inl h
  · exact .inr ⟨b, off, h, hR.below hb⟩

theorem Lst.at {B : Nat} {w w' : World} {v : Value} {K V : Nat → ByteArray} {n : Nat} (h : Lst w v K V n) (hB : w.heap.size ≤ B) (hb : Below B w w') : Lst w' v K V n := h.below (hb.mono hB)

theorem get_l (v : Value) (K V : Nat → ByteArray) (n : Nat) (key : ByteArray) (w : World) (h : Lst w v K V n) :
    Calls Tryz.prog 123 #[v, .string key] w fun e w' => e = .returned (.tuple #[.string (lastOf K V key n).1, .bool (lastOf K V key n).2]) ∧ w = w' := by
  obtain ⟨ad, cap, rfl, hn, h3⟩ := h
  rcases h3 with rfl | ⟨b, off, rfl, hR⟩
  · exact get_none ad cap key w
  · exact get_w b off n cap K V key w hR hn

/-- What stands ahead of an entry. -/
structure Ah where
  gv : Value
  lv : Value
  gK : Nat → ByteArray
  gV : Nat → ByteArray
  gn : Nat
  lK : Nat → ByteArray
  lV : Nat → ByteArray
  ln : Nat
  name : ByteArray
  link : ByteArray

def Ah.cells (a : Ah) : Array Value := #[a.gv, a.lv, .string a.name, .string a.link]
structure Ah.In (a : Ah) (w : World) : Prop where
  g : Lst w a.gv a.gK a.gV a.gn
  l : Lst w a.lv a.lK a.lV a.ln
theorem Ah.In.below {a : Ah} {w w' : World} (h : a.In w) (hb : Below w.heap.size w w') : a.In w' := ⟨h.g.below hb, h.l.below hb⟩

/-- the value of a key -/
def Ah.val (a : Ah) (key : ByteArray) : ByteArray := if (lastOf a.lK a.lV key a.ln).2 then (lastOf a.lK a.lV key a.ln).1 else (lastOf a.gK a.gV key a.gn).1

set_option maxHeartbeats 1000000 in
theorem value_w (a : Ah) (key : ByteArray) (w : World) (h : a.In w) :
    Calls Tryz.prog 114 #[.agg a.cells, .string key] w fun e w' => e = .returned (.string (a.val key)) ∧ Below w.heap.size w w' := by
  obtain ⟨gv, lv, gK, gV, gn, lK, lV, ln, name, link⟩ := a
  obtain ⟨hg, hl⟩ := h
  simp only [Ah.val, Ah.cells] at hg hl ⊢
  obtain ⟨gad, gc, rfl, -, -⟩ := id hg
  obtain ⟨lad, lc, rfl, -, -⟩ := id hl
  have b1 : Below w.heap.size w (w.alloc (.cells #[.slice gad gn gc, .slice lad ln lc, .string name, .string link] 70)) := (Below.refl _ w).alloc (Nat.le_refl _) _
  have ql := get_l _ _ _ _ key _ (hl.below b1)
  have qg := get_l _ _ _ _ key _ (hg.below b1)
  clear hg hl
  generalize hgl : lastOf lK lV key ln = x at *
  generalize hgg : lastOf gK gV key gn = y at *
  obtain ⟨x1, x2⟩ := x
  obtain ⟨y1, y2⟩ := y
  clear hgl hgg
  simp only at ql qg ⊢
  cases x2 with
  | true =>
    clear qg
    simp only [if_true]
    go_enter Tryz.func114, Tryz.ntmps114
    go_wp2_with (go_at_call 123; refine ql.mono ?_; rintro e w' ⟨rfl, rfl⟩)
    go_ret
    exact ⟨rfl, b1⟩
  | false =>
    simp only [Bool.false_eq_true, if_false]
    go_enter Tryz.func114, Tryz.ntmps114
    go_wp2_with (go_at_call 123; first | (refine ql.mono ?_; rintro e w' ⟨rfl, rfl⟩; clear ql) | (refine qg.mono ?_; rintro e w' ⟨rfl, rfl⟩))
    go_ret
    exact ⟨rfl, b1⟩

def emp (s : ByteArray) : Bool := s.toList.isEmpty
/-- the first of three texts that isn't empty -/
def or3 (a b c : ByteArray) : ByteArray := if emp a then (if emp b then c else b) else a

theorem emp_true {s : ByteArray} (h : emp s = true) : s = ⟨#[]⟩ := toList_inj (by simpa [emp] using h)

end Go.Proofs.YtnmmaedngdibeaaGreatDoor.E
