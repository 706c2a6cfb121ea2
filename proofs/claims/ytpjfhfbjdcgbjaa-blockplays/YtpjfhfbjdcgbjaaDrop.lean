/-
  Contract: (*Arena).Drop.
-/
import Derived.Test.YtpjfhfbjdcgbjaaOps
namespace Go.Proofs.Ytpjfhfbjdcgbjaa
open Go.RowKit
set_option linter.unusedVariables false
set_option linter.unusedSimpArgs false

theorem zero55 (w : World) : (zeroValue 55).run Try.prog w = .ok (.agg (slotCells Slot.none).toArray) w := by
  have b : (Try.prog.info? 55).bind (fun i => i.zero) = some (.agg (slotCells Slot.none).toArray) := by kernel_rfl
  cases hq : Try.prog.info? 55 with
  | none => rw [hq] at b; simp at b
  | some i =>
    rw [hq] at b; simp at b
    simp [zeroValue, typeInfo, hq, b]

theorem splice_snoc (A : List Value) (m : Nat) (hm : A.length = m) (x v : Value) (t : List Value) : splice (A ++ x :: t) m [v] = (A ++ [v]) ++ t := by
  subst hm
  simp [splice]

section
variable {w : World} {p S F : Nat} {ss : List Slot} {fr : List Nat}

theorem drop_no (h : Ar w p S F ss fr) (id : Int) (hi : Gone ss id) :
    Calls Try.prog 14 #[.pointer (some ⟨p, 0, none⟩), .int .i64 id] w fun e w' => e = .returned (.int .i64 4) ∧ w = w' := by
  have hc := held_no h id hi
  clear h hi
  go_enter Try.func14, Try.ntmps14
  go_wp2_with (go_at_call 19; refine hc.mono ?_; rintro e w' ⟨rfl, rfl⟩)
  go_ret
  exact ⟨rfl, rfl⟩

theorem drop_more (h : Ar w p S F ss fr) (i : Nat) (s : Slot) (k : Nat) (hi : ss[i]? = some s) (hk : s.holds = k + 2) :
    Calls Try.prog 14 #[.pointer (some ⟨p, 0, none⟩), .int .i64 (i : Int)] w fun e w' => e = .returned (.int .i64 0) ∧ Ar w' p S F (ss.set i ⟨s.bytes, k + 1⟩) fr ∧ Keeps p S F w w' := by
  have hm := h.good.most s (mem_of_some hi)
  have h1 := h.holds hi
  have hf := h.frozen ⟨S, i * 65 + 64, none⟩ (by simp)
  have hc := held_yes h i s hi (by omega)
  have hA := h.set_holds i s hi (k + 1) (fr' := fr) (h.good.set_held hi (by omega) (by simp) (by show k + 1 ≤ _; omega) (h.good.whole s (mem_of_some hi)))
  have hK : Keeps p S F w (w.setCell ⟨S, i * 65 + 64, none⟩ (.int .i64 ((k + 1 : Nat) : Int))) := (Keeps.refl p S F w).setCell (by simp) _
  have e1 : ((k + 2 : Nat) : Int) - 1 = ((k + 1 : Nat) : Int) := by omega
  have e2 : (((k + 1 : Nat) : Int) == 0) = false := by simp; omega
  have e3 : ((k + 1 : Nat) : Int) ≤ 1073741824 := by omega
  have e4 : 0 ≤ ((k + 1 : Nat) : Int) := by omega
  rw [hk] at h1
  generalize ss.set i ⟨s.bytes, k + 1⟩ = ss' at *
  obtain ⟨a, ha⟩ : ∃ a : Int, a = ((k + 2 : Nat) : Int) := ⟨_, rfl⟩
  obtain ⟨b, hb⟩ : ∃ a : Int, a = ((k + 1 : Nat) : Int) := ⟨_, rfl⟩
  rw [← ha] at h1 e1
  rw [← hb] at e1 e2 e3 e4 hA hK
  obtain rfl : a = b + 1 := by omega
  clear h hi hk hm ha hb e1
  go_enter Try.func14, Try.ntmps14
  go_wp2_with (go_at_call 19; refine hc.mono ?_; rintro e w' ⟨rfl, rfl⟩)
  go_ret
  exact ⟨rfl, hA, hK⟩

theorem drop_last (h : Ar w p S F ss fr) (i : Nat) (s : Slot) (hi : ss[i]? = some s) (hk : s.holds = 1) :
    Calls Try.prog 14 #[.pointer (some ⟨p, 0, none⟩), .int .i64 (i : Int)] w fun e w' => e = .returned (.int .i64 0) ∧ Ar w' p S F (ss.set i Slot.none) (fr ++ [i]) ∧ Keeps p S F w w' := by
  have h1 := h.holds hi
  have hf := h.frozen ⟨S, i * 65 + 64, none⟩ (by simp)
  have hc := held_yes h i s hi (by omega)
  have hlt := lt_of_some hi
  have hsm := h.good.small
  have hroom := h.good.room hi (by omega)
  have hgood := h.good.drop hi (by omega)
  have hwh := h.good.whole
  rw [hk] at h1
  have h1 : w.cell? ⟨S, i * 65 + 64, none⟩ = some (.int .i64 1) := h1
  -- behind the number
  obtain ⟨j, hj, hl⟩ := h.list
  have e1 := setCell_eq_setRow w S (i * 65 + 64) _ _ _ (.int .i64 0) h.row
  have hrow1 : (w.setCell ⟨S, i * 65 + 64, none⟩ (.int .i64 0)).heap[S]? = some (.cells (rowCells (ss.set i ⟨s.bytes, 0⟩)).toArray 55 (0, 0)) := by
    rw [e1, setRow_heap w S _ _ _ _ h.row]
    simp only [List.setIfInBounds_toArray]
    rw [show i * 65 + 64 = 65 * i + 64 by omega]
    exact congrArg (fun l : List Value => some (Obj.cells l.toArray 55 (0, 0))) (row_set_holds ss i s hi h.good.whole 0)
  have hwh1 : Whole (ss.set i ⟨s.bytes, 0⟩) := whole_set _ _ _ hwh (hwh s (mem_of_some hi))
  have hsp : splice (rowCells (ss.set i ⟨s.bytes, 0⟩)) (i * 65) (slotCells Slot.none) = rowCells (ss.set i Slot.none) := by
    rw [Nat.mul_comm, row_set_all (ss.set i ⟨s.bytes, 0⟩) i ⟨s.bytes, 0⟩ Slot.none (by simp [hlt]) hwh1 (by simp [Slot.none, zeros]), List.set_set]
  have hfit1 : i * 65 + (slotCells Slot.none).length ≤ (rowCells (ss.set i ⟨s.bytes, 0⟩)).length := by
    rw [rowCells_length _ hwh1, slotCells_length _ (by simp [Slot.none, zeros])]; simp; omega
  have hone : ∀ v ∈ slotCells Slot.none, v.oneCell' = true := by
    intro v hv
    rcases List.mem_append.1 hv with hv | hv
    · exact oneCell_bytes _ v hv
    · simp at hv; subst hv; rfl
  have hsz : (Try.prog.info? 55).map (·.size) = some (slotCells Slot.none).length := by rw [slotCells_length _ (by simp [Slot.none, zeros])]; exact info55
  -- behind the block
  obtain ⟨W2, hW2⟩ : ∃ W, W = (w.setCell ⟨S, i * 65 + 64, none⟩ (.int .i64 0)).setRow S (splice (rowCells (ss.set i ⟨s.bytes, 0⟩)) (i * 65) (slotCells Slot.none)).toArray := ⟨_, rfl⟩
  have k2 : Keeps p S F w W2 := by rw [hW2]; exact ((Keeps.refl p S F w).setCell (by simp) _).setRow (by simp) _
  have r2 : W2.heap[S]? = some (.cells (rowCells (ss.set i Slot.none)).toArray 55 (0, 0)) := by
    rw [hW2, hsp, setRow_heap _ S _ _ _ _ hrow1]
  have p2 : W2.heap[p]? = some (.cells #[.slice (some ⟨S, 0, none⟩) ss.length ss.length, .slice (some ⟨F, 0, none⟩) fr.length ss.length] 53 (0, 0)) := by
    rw [hW2, setRow_other _ _ _ _ h.pS, e1, setRow_other _ _ _ _ h.pS]; exact h.head
  have f2 : W2.heap[F]? = some (.cells (idCells fr ++ j).toArray 3 (0, 0)) := by
    rw [hW2, setRow_other _ _ _ _ h.SF.symm, e1, setRow_other _ _ _ _ h.SF.symm]; exact hj
  have c2 : W2.cell? ⟨p, 1, none⟩ = some (.slice (some ⟨F, 0, none⟩) fr.length ss.length) := by simp [World.cell?, p2]
  -- behind the new list
  obtain ⟨o3, ho3⟩ : ∃ o : Obj, o = .cells #[.int .i64 (i : Int)] 3 := ⟨_, rfl⟩
  have r3 : (W2.alloc o3).heap[S]? = _ := (Below.heap_alloc W2 o3 S (lt_of_heap r2)).trans r2
  have p3 : (W2.alloc o3).heap[p]? = _ := (Below.heap_alloc W2 o3 p (lt_of_heap p2)).trans p2
  have f3 : (W2.alloc o3).heap[F]? = _ := (Below.heap_alloc W2 o3 F (lt_of_heap f2)).trans f2
  have n3 : ∀ (q : Nat) (u : Value), ([Value.int .i64 (i : Int)] : List Value)[q]? = some u → (W2.alloc o3).cell? ((⟨W2.heap.size, 0, none⟩ : Addr).add q) = some u := by
    intro q u hu
    cases q with
    | zero => 
      simp at hu
      subst hu
      unfold World.cell?
      rw [show ((⟨W2.heap.size, 0, none⟩ : Addr).add 0).block = W2.heap.size from rfl, heap_alloc_new W2 o3, ho3]
      rfl
    | succ q => simp at hu
  obtain ⟨W4, hW4⟩ : ∃ W, W = (W2.alloc o3).setRow F (splice (idCells fr ++ j) fr.length [.int .i64 (i : Int)]).toArray := ⟨_, rfl⟩
  have hfl : fr.length + 1 ≤ (idCells fr ++ j).length := by simp [idCells]; omega
  have k4 : Keeps p S F w W4 := by rw [hW4]; exact (k2.alloc _).setRow (by simp) _
  have r4 : W4.heap[S]? = some (.cells (rowCells (ss.set i Slot.none)).toArray 55 (0, 0)) := by rw [hW4, setRow_other _ _ _ _ h.SF]; exact r3
  have p4 : W4.heap[p]? = some (.cells #[.slice (some ⟨S, 0, none⟩) ss.length ss.length, .slice (some ⟨F, 0, none⟩) fr.length ss.length] 53 (0, 0)) := by rw [hW4, setRow_other _ _ _ _ h.pF]; exact p3
  have f4 : W4.heap[F]? = some (.cells (splice (idCells fr ++ j) fr.length [.int .i64 (i : Int)]).toArray 3 (0, 0)) := by rw [hW4, setRow_heap _ F _ _ _ _ f3]
  have c4 : W4.cell? ⟨p, 1, none⟩ = some (.slice (some ⟨F, 0, none⟩) fr.length ss.length) := by simp [World.cell?, p4]
  have z4 : W4.frozen? ⟨p, 1, none⟩ = false := by simp [World.frozen?, p4]
  have hA : Ar (W4.setCell ⟨p, 1, none⟩ (.slice (some ⟨F, 0, none⟩) (fr.length + 1) ss.length)) p S F (ss.set i Slot.none) (fr ++ [i]) := by
    rw [setCell_eq_setRow W4 p 1 _ _ _ _ p4]
    refine ⟨?_, ?_, ⟨j.tail, ?_, ?_⟩, h.pS, h.pF, h.SF, hgood⟩
    · rw [setRow_heap W4 p _ _ _ _ p4]; simp
    · rw [setRow_other _ _ _ _ h.pS.symm]; exact r4
    · rw [setRow_other _ _ _ _ h.pF.symm, f4]
      cases j with
      | nil => simp at hl; omega
      | cons x t => rw [splice_snoc _ _ (idCells_length fr)]; simp [idCells]
    · simp; omega
  have hK : Keeps p S F w (W4.setCell ⟨p, 1, none⟩ (.slice (some ⟨F, 0, none⟩) (fr.length + 1) ss.length)) := k4.setCell (by simp) _
  have hr3 : fr.length + 1 ≤ ss.length := by omega
  have q1 := Hid.out (p := w.heap[p]? = _) h.head
  clear r2 p2 f2 r3 p3 r4 p4 f4 k2 k4 e1 hsp hgood hwh hwh1 h hi hj hl q1
  have H1 : Hid _ := hrow1
  have H3 : Hid _ := f3
  have H4 : Hid _ := hW4
  have H2 : Hid _ := hW2
  have HN : Hid _ := n3
  clear hrow1 f3 hW4 hW2 n3
  subst ho3
  generalize ss.length = n at *
  generalize fr.length = m at *
  have hzero := zero55 (w.setCell ⟨S, i * 65 + 64, none⟩ (.int .i64 0))
  generalize slotCells Slot.none = zc at *
  go_enter Try.func14, Try.ntmps14
  go_wp2_with fail
  refine hc.mono ?_
  rintro e w' ⟨rfl, rfl⟩
  go_wp2_with (first
    | (at_builtin; refine wpList_append_w rfl _ _ 29 rfl 3 Try.underlying29 info3 F m n _ rfl H3.out ⟨W2.heap.size, 0, none⟩ 1 1 rfl [.int .i64 (i : Int)] rfl HN.out (by intro u hu; simp at hu; subst hu; rfl) hr3 hfl W4 H4.out ?_)
    | (refine wpList_store_w rfl 55 _ _ rfl S (i * 65) zc rfl rfl _ 55 H1.out hfit1 hsz hone W2 H2.out ?_))
  go_ret
  exact ⟨rfl, hA, hK⟩
end
end Go.Proofs.Ytpjfhfbjdcgbjaa
