/-
  Contract: block.New.
-/
import Derived.Test.YtpjfhfbjdcgbjaaDrop
namespace Go.Proofs.Ytpjfhfbjdcgbjaa
open Go.RowKit
set_option linter.unusedVariables false
set_option linter.unusedSimpArgs false

def blank (n : Nat) : List Slot := List.replicate n Slot.none
def down (n : Nat) : List Nat := (List.range n).map fun i => n - 1 - i

theorem down_length (n : Nat) : (down n).length = n := by simp [down]
theorem down_get (n i : Nat) (h : i < n) : (down n)[i]? = some (n - 1 - i) := by simp [down, h]
theorem blank_length (n : Nat) : (blank n).length = n := by simp [blank]
theorem blank_whole (n : Nat) : Whole (blank n) := by
  intro s hs
  rw [(List.mem_replicate.1 hs).2]; simp [Slot.none, zeros]

theorem down_nodup (n : Nat) : (down n).Nodup := by
  unfold down
  rw [List.Nodup, List.pairwise_map]
  refine List.Pairwise.imp_of_mem ?_ (List.nodup_range (n := n))
  intro a b ha hb hne e
  simp at ha hb
  omega

theorem down_mem (n i : Nat) : i ∈ down n ↔ i < n := by
  simp only [down, List.mem_map, List.mem_range]
  constructor
  · rintro ⟨a, h1, rfl⟩; omega
  · intro h; exact ⟨n - 1 - i, by omega, by omega⟩

theorem good_new (n : Nat) (h : n ≤ 16384) : Good (blank n) (down n) := Good.new n h (down n) (down_nodup n) (down_mem n)

def rowF (n m : Nat) : List Value := idCells ((down n).take m) ++ List.replicate (n - m) (.int .i64 0)

theorem rowF_length (n m : Nat) (h : m ≤ n) : (rowF n m).length = n := by simp [rowF, idCells, down]; omega

theorem rowF_zero (n : Nat) : rowF n 0 = List.replicate n (.int .i64 0) := by simp [rowF, idCells]
theorem rowF_all (n : Nat) : rowF n n = idCells (down n) := by
  unfold rowF
  rw [List.take_of_length_le (by rw [down_length]; omega)]
  simp

theorem rowF_get (n m : Nat) (h : m < n) : (rowF n m)[m]? = some (.int .i64 0) := by
  unfold rowF
  have : (idCells ((down n).take m)).length = m := by rw [idCells_length, List.length_take, down_length]; omega
  rw [List.getElem?_append_right (by omega), this]
  simp only [List.getElem?_replicate]
  rw [if_pos (by omega)]

theorem rowF_set (n m : Nat) (h : m < n) : (rowF n m).set m (.int .i64 ((n : Int) - 1 - (m : Int))) = rowF n (m + 1) := by
  have hl : (idCells ((down n).take m)).length = m := by rw [idCells_length, List.length_take, down_length]; omega
  unfold rowF
  rw [List.set_append_right _ _ (by omega), hl]
  have e1 : (down n).take (m + 1) = (down n).take m ++ [n - 1 - m] := by
    rw [List.take_add_one, down_get n m h]; rfl
  rw [e1]
  obtain ⟨k, hk⟩ : ∃ k, n - m = k + 1 := ⟨n - m - 1, by omega⟩
  rw [hk, show n - (m + 1) = k by omega]
  simp [idCells, List.replicate_succ]
  omega

theorem make29 (k : Nat) (hk : k ≤ 1048576) (w : World) : (Instr.makeSlice 29 (.int .i64 (k : Int)) (.int .i64 (k : Int))).run Try.prog w = .ok (.slice (some ⟨w.heap.size, 0, none⟩) k k) (w.alloc (.cells (rowF k 0).toArray 3)) := by
  have a : (Try.prog.info? 3).map (fun i => (i.size, i.bytes)) = some (1, 8) := by kernel_rfl
  have b : (Try.prog.info? 3).bind (fun i => i.zero) = some (.int .i64 0) := by kernel_rfl
  cases hq : Try.prog.info? 3 with
  | none => rw [hq] at a; simp at a
  | some i =>
    rw [hq] at a b; simp at a b
    have h := run_make (P := Try.prog) w 29 3 i _ Try.underlying29 hq b .i64 .i64 k k (by omega) (by omega) (by rw [a.2]; omega) (by omega)
    rw [h, a.1, Int.toNat_natCast, Nat.mul_one, rowF_zero]
    refine congrArg (fun c => Result.ok _ (w.alloc (.cells c 3))) ?_
    apply Array.ext
    · simp [madeCells]
    · intro j h1 h2
      simp [madeCells, Value.cells, Nat.mod_one]

theorem blank_cells (k : Nat) : madeCells (slotCells Slot.none).toArray (k * 65) = (rowCells (blank k)).toArray := by
  have hl := rowCells_length (blank k) (blank_whole k)
  rw [blank_length] at hl
  have hz : (slotCells Slot.none).length = 65 := slotCells_length _ (by simp [Slot.none, zeros])
  apply Array.ext'
  apply List.ext_getElem?
  intro j
  by_cases hj : j < k * 65
  · have h1 := row_get (blank k) (j / 65) Slot.none (by unfold blank; rw [List.getElem?_replicate, if_pos (by omega)]) (blank_whole k) (j % 65) (by omega)
    rw [show 65 * (j / 65) + j % 65 = j by omega] at h1
    rw [show (rowCells (blank k)).toArray.toList = rowCells (blank k) from rfl, h1]
    have hm : j % 65 < (slotCells Slot.none).length := by omega
    simp [madeCells, hj, hz]
    rw [List.getElem?_eq_getElem hm]
    simp [hm]
  · rw [List.getElem?_eq_none (by simp [madeCells]; omega), List.getElem?_eq_none (by simp; omega)]

theorem make51 (k : Nat) (hk : k ≤ 16384) (w : World) : (Instr.makeSlice 51 (.int .i64 (k : Int)) (.int .i64 (k : Int))).run Try.prog w = .ok (.slice (some ⟨w.heap.size, 0, none⟩) k k) (w.alloc (.cells (rowCells (blank k)).toArray 55)) := by
  have a : (Try.prog.info? 55).map (fun i => (i.size, i.bytes)) = some (65, 72) := by kernel_rfl
  have b : (Try.prog.info? 55).bind (fun i => i.zero) = some (.agg (slotCells Slot.none).toArray) := by kernel_rfl
  cases hq : Try.prog.info? 55 with
  | none => rw [hq] at a; simp at a
  | some i =>
    rw [hq] at a b; simp at a b
    have h := run_make (P := Try.prog) w 51 55 i _ Try.underlying51 hq b .i64 .i64 k k (by omega) (by omega) (by rw [a.2]; omega) (by omega)
    rw [h, a.1, Int.toNat_natCast]
    refine congrArg (fun c => Result.ok _ (w.alloc (.cells c 55))) ?_
    exact blank_cells k

theorem new_no (n : Int) (w : World) (h : n < 0 ∨ 16384 < n) :
    Calls Try.prog 10 #[.int .i64 n] w fun e w' => e = .returned (.tuple #[.pointer none, .int .i64 1]) ∧ w = w' := by
  rcases h with h | h
  · go_enter Try.func10, Try.ntmps10
    go_wp2
    go_ret2
    exact ⟨rfl, rfl⟩
  · have h' : ¬ n < 0 := by omega
    go_enter Try.func10, Try.ntmps10
    go_wp2
    go_ret2
    exact ⟨rfl, rfl⟩

structure Ready (w W : World) (p S F n m : Nat) : Prop where
  head : W.heap[p]? = some (.cells #[.slice (some ⟨S, 0, none⟩) n n, .slice (some ⟨F, 0, none⟩) n n] 53 (0, 0))
  row : W.heap[S]? = some (.cells (rowCells (blank n)).toArray 55 (0, 0))
  list : W.heap[F]? = some (.cells (rowF n m).toArray 3 (0, 0))
  pS : p ≠ S
  pF : p ≠ F
  SF : S ≠ F
  below : Below w.heap.size w W
  hp : w.heap.size ≤ p
  hS : w.heap.size ≤ S
  hF : w.heap.size ≤ F

theorem Ready.done {w W : World} {p S F n : Nat} (h : Ready w W p S F n n) (hn : n ≤ 16384) : Ar W p S F (blank n) (down n) := by
  refine ⟨?_, h.row, ⟨[], ?_, ?_⟩, h.pS, h.pF, h.SF, good_new n hn⟩
  · rw [h.head, blank_length, down_length]
  · rw [h.list, rowF_all]; simp
  · rw [blank_length, down_length]; rfl

theorem Ready.next {w W : World} {p S F n m : Nat} (h : Ready w W p S F n m) (hm : m < n) : Ready w (W.setCell ⟨F, m, none⟩ (.int .i64 ((n : Int) - 1 - (m : Int)))) p S F n (m + 1) := by
  have hb := h.below.setCell (p := ⟨F, m, none⟩) h.hF (.int .i64 ((n : Int) - 1 - (m : Int)))
  have e := setCell_eq_setRow W F m _ _ _ (.int .i64 ((n : Int) - 1 - (m : Int))) h.list
  rw [e] at hb ⊢
  refine ⟨?_, ?_, ?_, h.pS, h.pF, h.SF, hb, h.hp, h.hS, h.hF⟩
  · rw [setRow_other _ _ _ _ h.pF]; exact h.head
  · rw [setRow_other _ _ _ _ h.SF]; exact h.row
  · rw [setRow_heap W F _ _ _ _ h.list]
    simp only [List.setIfInBounds_toArray]
    rw [rowF_set n m hm]

theorem three (w : World) (A B C : Obj) : (((w.alloc A).alloc B).alloc C).drew.heap[w.heap.size]? = some A ∧ (((w.alloc A).alloc B).alloc C).drew.heap[w.heap.size + 1]? = some B ∧ (((w.alloc A).alloc B).alloc C).drew.heap[w.heap.size + 1 + 1]? = some C := by
  refine ⟨?_, ?_, ?_⟩
  · show (((w.heap.push A).push B).push C)[w.heap.size]? = some A
    simp only [Array.getElem?_push, Array.size_push]
    rw [if_neg (by omega), if_neg (by omega), if_pos trivial]
  · show (((w.heap.push A).push B).push C)[w.heap.size + 1]? = some B
    simp only [Array.getElem?_push, Array.size_push]
    rw [if_neg (by omega), if_pos trivial]
  · show (((w.heap.push A).push B).push C)[w.heap.size + 1 + 1]? = some C
    simp only [Array.getElem?_push, Array.size_push]
    rw [if_pos trivial]

theorem ready1 (n : Nat) (w : World) : Ready w (((w.alloc (.cells (rowF n 0).toArray 3)).alloc (.cells (rowCells (blank n)).toArray 55)).alloc (.cells #[.slice (some ⟨w.heap.size + 1, 0, none⟩) n n, .slice (some ⟨w.heap.size, 0, none⟩) n n] 53)).drew (w.heap.size + 1 + 1) (w.heap.size + 1) w.heap.size n 0 := by
  refine ⟨?_, ?_, ?_, by omega, by omega, by omega, ((((Below.refl _ w).alloc (by simp) _).alloc (by simp) _).alloc (by simp; omega) _).drew, by omega, by omega, by omega⟩
  · exact (three w _ _ _).2.2
  · exact (three w _ _ _).2.1
  · exact (three w _ _ _).1

theorem ready2 (n : Nat) (w : World) : Ready w (((w.alloc (.cells (rowCells (blank n)).toArray 55)).alloc (.cells (rowF n 0).toArray 3)).alloc (.cells #[.slice (some ⟨w.heap.size, 0, none⟩) n n, .slice (some ⟨w.heap.size + 1, 0, none⟩) n n] 53)).drew (w.heap.size + 1 + 1) w.heap.size (w.heap.size + 1) n 0 := by
  refine ⟨?_, ?_, ?_, by omega, by omega, by omega, ((((Below.refl _ w).alloc (by simp) _).alloc (by simp) _).alloc (by simp; omega) _).drew, by omega, by omega, by omega⟩
  · exact (three w _ _ _).2.2
  · exact (three w _ _ _).1
  · exact (three w _ _ _).2.1

set_option maxHeartbeats 1000000 in
theorem new_yes (n : Nat) (w : World) (h : n ≤ 16384) :
    Calls Try.prog 10 #[.int .i64 (n : Int)] w fun e w' => ∃ p S F, e = .returned (.tuple #[.pointer (some ⟨p, 0, none⟩), .int .i64 0]) ∧ Ar w' p S F (blank n) (down n) ∧ Below w.heap.size w w' ∧ w.heap.size ≤ p ∧ w.heap.size ≤ S ∧ w.heap.size ≤ F := by
  have m1 := make29 n (by omega)
  have m2 := make51 n h
  have q1 := ready1 n w
  have q2 := ready2 n w
  generalize hF : (rowF n 0).toArray = RF at *
  generalize hS : (rowCells (blank n)).toArray = RS at *
  have Q1 : Hid _ := q1
  have Q2 : Hid _ := q2
  clear hF hS q1 q2
  go_enter Try.func10, Try.ntmps10
  go_wp2_with fail
  go_region
  · have q := Q2.out
    clear Q1 Q2 m1 m2
    generalize (((w.alloc (.cells RS 55)).alloc (.cells RF 3)).alloc (.cells #[.slice (some ⟨w.heap.size, 0, none⟩) n n, .slice (some ⟨w.heap.size + 1, 0, none⟩) n n] 53)).drew = W at *
    generalize hp : w.heap.size + 1 + 1 = p at *
    generalize h1 : w.heap.size + 1 = X at *
    generalize h2 : w.heap.size = Y at *
    clear hp h1 h2
    have c1 : W.cell? ⟨p, 1, none⟩ = some (.slice (some ⟨X, 0, none⟩) n n) := by simp [World.cell?, q.head]
    go_wp2_with fail
    clear c1
    go_loopw [5, 23] (fun _ tx wr => ∃ m : Nat, m ≤ n ∧ tx = .int .i64 (m : Int) ∧ Hid (Ready w wr p Y X n m)) (fun _ x _ => n - (intOf x).toNat)
    case atStart => exact ⟨0, by omega, rfl, q⟩
    case round =>
      clear q
      obtain ⟨m, hm, rfl, q⟩ := hrel
      have c1 : wr.cell? ⟨p, 1, none⟩ = some (.slice (some ⟨X, 0, none⟩) n n) := by simp [World.cell?, q.out.head]
      by_cases hlt : m < n
      · have c2 : wr.cell? ⟨X, m, none⟩ = some (.int .i64 0) := by
          simp only [World.cell?, q.out.list]
          simpa using rowF_get n m hlt
        have c3 : wr.frozen? ⟨X, m, none⟩ = false := by simp [World.frozen?, q.out.list]
        go_wp2
        go_roundw
        case rel => exact ⟨m + 1, by omega, by go_num, q.out.next hlt⟩
        case measure => simp [intOf]; omega
      · obtain rfl : m = n := by omega
        go_wp2
        go_ret2
        exact ⟨p, Y, X, rfl, q.out.done h, q.out.below, q.out.hp, q.out.hS, q.out.hF⟩
  · have q := Q1.out
    clear Q1 Q2 m1 m2
    generalize (((w.alloc (.cells RF 3)).alloc (.cells RS 55)).alloc (.cells #[.slice (some ⟨w.heap.size + 1, 0, none⟩) n n, .slice (some ⟨w.heap.size, 0, none⟩) n n] 53)).drew = W at *
    generalize hp : w.heap.size + 1 + 1 = p at *
    generalize h1 : w.heap.size + 1 = X at *
    generalize h2 : w.heap.size = Y at *
    clear hp h1 h2
    have c1 : W.cell? ⟨p, 1, none⟩ = some (.slice (some ⟨Y, 0, none⟩) n n) := by simp [World.cell?, q.head]
    go_wp2_with fail
    clear c1
    go_loopw [5, 23] (fun _ tx wr => ∃ m : Nat, m ≤ n ∧ tx = .int .i64 (m : Int) ∧ Hid (Ready w wr p X Y n m)) (fun _ x _ => n - (intOf x).toNat)
    case atStart => exact ⟨0, by omega, rfl, q⟩
    case round =>
      clear q
      obtain ⟨m, hm, rfl, q⟩ := hrel
      have c1 : wr.cell? ⟨p, 1, none⟩ = some (.slice (some ⟨Y, 0, none⟩) n n) := by simp [World.cell?, q.out.head]
      by_cases hlt : m < n
      · have c2 : wr.cell? ⟨Y, m, none⟩ = some (.int .i64 0) := by
          simp only [World.cell?, q.out.list]
          simpa using rowF_get n m hlt
        have c3 : wr.frozen? ⟨Y, m, none⟩ = false := by simp [World.frozen?, q.out.list]
        go_wp2
        go_roundw
        case rel => exact ⟨m + 1, by omega, by go_num, q.out.next hlt⟩
        case measure => simp [intOf]; omega
      · obtain rfl : m = n := by omega
        go_wp2
        go_ret2
        exact ⟨p, X, Y, rfl, q.out.done h, q.out.below, q.out.hp, q.out.hS, q.out.hF⟩
end Go.Proofs.Ytpjfhfbjdcgbjaa
