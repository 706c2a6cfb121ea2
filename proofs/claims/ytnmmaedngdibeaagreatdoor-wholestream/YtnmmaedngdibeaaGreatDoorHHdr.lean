/-
  Contracts: (*head.Header).numbers, (*head.Header).textsFit, (head.Header).Full, head.Blank.
-/
import Derived.Test.YtnmmaedngdibeaaGreatDoorHText
import Derived.Laws.Rows
namespace Go.Proofs.YtnmmaedngdibeaaGreatDoor.H
open Go.RowKit
set_option linter.unusedVariables false
set_option linter.unusedSimpArgs false

def nums5 (g : Nat) : Array Value := #[.pointer (some ⟨g, 7, none⟩), .pointer (some ⟨g, 8, none⟩), .pointer (some ⟨g, 9, none⟩), .pointer (some ⟨g, 10, none⟩), .pointer (some ⟨g, 11, none⟩)]

theorem inf56 : (Tryz.prog.info? 82).map (·.size) = some 5 := by kernel_rfl

theorem numbers_w (g : Nat) (w : World) : Calls Tryz.prog 32 #[.pointer (some ⟨g, 0, none⟩)] w fun e w' => e = .returned (.agg (nums5 g)) ∧ w' = (w.alloc (.cells (nums5 g) 82)).drew := by
  have r3 : (w.alloc (.cells (nums5 g) 82)).drew.heap[w.heap.size]? = some (.cells (nums5 g) 82 (0, 0)) := heap_alloc_new w _
  unfold nums5 at *
  go_enter Tryz.func32, Tryz.ntmps32
  go_wp2
  go_region
  go_wp2
  exact bodyPost_ret (results_cell_row rfl _ _ w.heap.size 82 _ (0, 0) _ rfl r3 Tryz.underlying82 rfl inf56) rfl ⟨rfl, rfl⟩

/-- the texts of a header that lies in block g -/
structure Txts (w : World) (g : Nat) (n l p u r : ByteArray) : Prop where
  c1 : w.cell? ⟨g, 1, none⟩ = some (.string n)
  c2 : w.cell? ⟨g, 2, none⟩ = some (.string l)
  c3 : w.cell? ⟨g, 3, none⟩ = some (.string p)
  c4 : w.cell? ⟨g, 4, none⟩ = some (.string u)
  c5 : w.cell? ⟨g, 5, none⟩ = some (.string r)

def textsB (n l p u r : ByteArray) : Bool := fitsT n 100 && fitsT l 100 && fitsT p 155 && fitsT u 31 && fitsT r 31

set_option maxHeartbeats 1000000 in
theorem textsFit_w (w : World) (g : Nat) (n l p u r : ByteArray) (h : Txts w g n l p u r) :
    Calls Tryz.prog 31 #[.pointer (some ⟨g, 0, none⟩)] w fun e w' => e = .returned (.bool (textsB n l p u r)) ∧ w = w' := by
  obtain ⟨c1, c2, c3, c4, c5⟩ := h
  have q1 := fitsT_w n 100 w
  have q2 := fitsT_w l 100 w
  have q3 := fitsT_w p 155 w
  have q4 := fitsT_w u 31 w
  have q5 := fitsT_w r 31 w
  unfold textsB
  generalize fitsT n 100 = b1 at *
  generalize fitsT l 100 = b2 at *
  generalize fitsT p 155 = b3 at *
  generalize fitsT u 31 = b4 at *
  generalize fitsT r 31 = b5 at *
  cases b1
  · go_enter Tryz.func31, Tryz.ntmps31
    go_wp2_with fail
    refine q1.mono ?_
    rintro e w' ⟨rfl, rfl⟩
    go_wp2
    go_ret
    exact ⟨rfl, rfl⟩
  cases b2
  · go_enter Tryz.func31, Tryz.ntmps31
    go_wp2_with fail
    refine q1.mono ?_
    rintro e w' ⟨rfl, rfl⟩
    go_wp2_with fail
    refine q2.mono ?_
    rintro e w' ⟨rfl, rfl⟩
    go_wp2
    go_ret
    exact ⟨rfl, rfl⟩
  cases b3
  · go_enter Tryz.func31, Tryz.ntmps31
    go_wp2_with fail
    refine q1.mono ?_
    rintro e w' ⟨rfl, rfl⟩
    go_wp2_with fail
    refine q2.mono ?_
    rintro e w' ⟨rfl, rfl⟩
    go_wp2_with fail
    refine q3.mono ?_
    rintro e w' ⟨rfl, rfl⟩
    go_wp2
    go_ret
    exact ⟨rfl, rfl⟩
  cases b4
  · go_enter Tryz.func31, Tryz.ntmps31
    go_wp2_with fail
    refine q1.mono ?_
    rintro e w' ⟨rfl, rfl⟩
    go_wp2_with fail
    refine q2.mono ?_
    rintro e w' ⟨rfl, rfl⟩
    go_wp2_with fail
    refine q3.mono ?_
    rintro e w' ⟨rfl, rfl⟩
    go_wp2_with fail
    refine q4.mono ?_
    rintro e w' ⟨rfl, rfl⟩
    go_wp2
    go_ret
    exact ⟨rfl, rfl⟩
  · go_enter Tryz.func31, Tryz.ntmps31
    go_wp2_with fail
    refine q1.mono ?_
    rintro e w' ⟨rfl, rfl⟩
    go_wp2_with fail
    refine q2.mono ?_
    rintro e w' ⟨rfl, rfl⟩
    go_wp2_with fail
    refine q3.mono ?_
    rintro e w' ⟨rfl, rfl⟩
    go_wp2_with fail
    refine q4.mono ?_
    rintro e w' ⟨rfl, rfl⟩
    go_wp2_with fail
    refine q5.mono ?_
    rintro e w' ⟨rfl, rfl⟩
    go_wp2
    go_ret
    exact ⟨by simp, rfl⟩

def blankB (zs : List Int) : Bool := zs.all (fun z => z == 0)

theorem blank_no (a : Option Addr) (n cap : Nat) (w : World) (h : n ≠ 512) (h1 : n ≤ 9223372036854775807) :
    Calls Tryz.prog 55 #[.slice a n cap] w fun e w' => e = .returned (.bool false) ∧ w = w' := by
  have h2 : ¬ (n : Int) = 512 := by omega
  go_enter Tryz.func55, Tryz.ntmps55
  go_wp2
  go_ret
  exact ⟨rfl, rfl⟩

theorem blankB_get (zs : List Int) : blankB zs = true ↔ ∀ k, k < zs.length → zs[k]?.getD 0 = 0 := by
  unfold blankB
  rw [List.all_eq_true]
  constructor
  · intro h k hk
    have := h zs[k] (List.getElem_mem hk)
    simp [hk] at this ⊢
    exact this
  · intro h z hz
    obtain ⟨k, hk, rfl⟩ := List.getElem_of_mem hz
    have := h k hk
    simp [hk] at this ⊢
    exact this

set_option maxRecDepth 100000 in
set_option maxHeartbeats 1000000 in
theorem blank_yes (ad : Addr) (cap : Nat) (zs : List Int) (w : World) (hl : Hid (zs.length = 512)) (hs : Src w (some ad) zs) :
    Calls Tryz.prog 55 #[.slice (some ad) 512 cap] w fun e w' => e = .returned (.bool (blankB zs)) ∧ w = w' := by
  have hcell := hs.cell
  clear hs
  go_enter Tryz.func55, Tryz.ntmps55
  go_wp2
  go_loopw [7] (fun i wr => ∃ (k : Nat), k ≤ 512 ∧ i = .int .i64 k ∧ wr = w ∧ Hid (∀ j, j < k → zs[j]?.getD 0 = 0))
    (fun i _ => 512 - (intOf i).toNat)
  case atStart => exact ⟨0, Nat.zero_le _, rfl, rfl, fun j hj => by omega⟩
  case round =>
    obtain ⟨k, hk, rfl, rfl, HZ⟩ := hrel
    by_cases hlt : k < 512
    · have hc := hcell k (by have := hl.out; omega)
      by_cases hz : zs[k]?.getD 0 = 0
      · rw [hz] at hc
        have HZ' : Hid (∀ j, j < k + 1 → zs[j]?.getD 0 = 0) := fun j hj => by
          by_cases c : j = k
          · subst c; exact hz
          · exact HZ.out j (by omega)
        clear hcell hz
        go_wp2
        go_roundw
        case rel => exact ⟨k + 1, by omega, by go_num, by first | rfl | trivial, HZ'⟩
        case measure => simp [intOf]; omega
      · have hF : Hid (blankB zs = false) := by
          cases hq : blankB zs with
          | false => rfl
          | true => exact absurd ((blankB_get zs).1 hq k (by have := hl.out; omega)) hz
        generalize zs[k]?.getD 0 = z at *
        clear hcell HZ
        have hz2 : (z == 0) = false := by simpa using hz
        go_wp2
        go_ret
        exact ⟨by rw [hF.out]; rfl, rfl⟩
    · have hT : Hid (blankB zs = true) := (blankB_get zs).2 fun j hj => HZ.out j (by have := hl.out; omega)
      clear hcell HZ
      go_wp2
      go_ret
      exact ⟨by rw [hT.out]; rfl, rfl⟩

def fullT (p n : ByteArray) : ByteArray := if p.toList.isEmpty then n else p ++ ⟨#[47]⟩ ++ n

theorem full_w (f : Value) (n l p u r : ByteArray) (t a b c d e0 : Value) (w : World) (h1 : p.size ≤ 3000) (h2 : n.size ≤ 3000) :
    Calls Tryz.prog 112 #[.agg #[f, .string n, .string l, .string p, .string u, .string r, t, a, b, c, d, e0]] w fun e w' => e = .returned (.string (fullT p n)) ∧ Below w.heap.size w w' := by
  have b1 : Below w.heap.size w (w.alloc (.cells #[f, .string n, .string l, .string p, .string u, .string r, t, a, b, c, d, e0] 55)) := (Below.refl _ w).alloc (Nat.le_refl _) _
  unfold fullT
  cases hE : p.toList.isEmpty with
  | true =>
    simp only [if_true]
    go_enter Tryz.func112, Tryz.ntmps112
    go_wp2
    go_ret
    exact ⟨rfl, b1⟩
  | false =>
    have h3 : (p ++ ⟨#[47]⟩ : ByteArray).size = p.size + 1 := by rw [ByteArray.size_append]; rfl
    have h4 : (p ++ ⟨#[47]⟩ ++ n : ByteArray).size = p.size + 1 + n.size := by rw [ByteArray.size_append, ByteArray.size_append]; rfl
    simp only [Bool.false_eq_true, if_false]
    go_enter Tryz.func112, Tryz.ntmps112
    go_wp2
    go_ret
    exact ⟨rfl, b1⟩

end Go.Proofs.YtnmmaedngdibeaaGreatDoor.H
