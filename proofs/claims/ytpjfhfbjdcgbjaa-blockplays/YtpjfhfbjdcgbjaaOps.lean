/-
  Contracts: (*Arena).Take, Write, Read, Drop.
-/
import Derived.Test.YtpjfhfbjdcgbjaaHeld
import Derived.Test.YtpjfhfbjdcgbjaaLaws
import Derived.Laws.MakeOwn
namespace Go.Proofs.Ytpjfhfbjdcgbjaa
open Go.RowKit
set_option linter.unusedVariables false
set_option linter.unusedSimpArgs false

theorem info5 : (Try.prog.info? 5).map (·.size) = some 1 := by kernel_rfl
theorem info3 : (Try.prog.info? 3).map (·.size) = some 1 := by kernel_rfl
theorem info55 : (Try.prog.info? 55).map (·.size) = some 65 := by kernel_rfl

theorem run_arr (w : World) (b o k : Nat) (hk : k < 64) : (Instr.sliceAt 33 (.pointer (some ⟨b, o, none⟩)) (some (.int .i64 (k : Int))) none none).run Try.prog w = .ok (.slice (some ⟨b, o + k, none⟩) (64 - k) (64 - k)) w := by
  have h := info5
  cases hq : Try.prog.info? 5 with
  | none => simp [hq] at h
  | some i =>
    have hs : i.size = 1 := by simpa [hq] using h
    have h1 : ¬ 64 = k := by omega
    have h2 : k ≤ 64 := by omega
    have hb : (Instr.sliceBound (.int .i64 (k : Int)) 64 .sliceB).run Try.prog w = .ok k w := by
      have := run_sliceBound (P := Try.prog) w .i64 (k : Int) 64 .sliceB (by omega) (by omega)
      simpa using this
    simp [Instr.sliceAt, Instr.sureAddr, run_underlying Try.underlying33, Instr.sliceBounds, run_sliceBound, sizeOf, typeInfo, hq, hs, hb, h1, h2, Addr.add]

/-- where a slice's bytes lie -/
def Src (w : World) (a : Option Addr) (zs : List Int) : Prop := 0 < zs.length → ∃ ad, a = some ad ∧ ∀ j v, (cellsOf zs)[j]? = some v → w.cell? (ad.add j) = some v

theorem oneCell_bytes (zs : List Int) : ∀ v ∈ cellsOf zs, v.oneCell' = true := by
  intro v hv
  simp [cellsOf] at hv
  obtain ⟨z, _, rfl⟩ := hv
  rfl

section
variable {w : World} {p S F : Nat} {ss : List Slot} {fr : List Nat}

theorem take_no (h : Ar w p S F ss []) :
    Calls Try.prog 11 #[.pointer (some ⟨p, 0, none⟩)] w fun e w' => e = .returned (.tuple #[.int .i64 0, .int .i64 3]) ∧ w = w' := by
  have h0 := h.free
  simp at h0
  clear h
  go_enter Try.func11, Try.ntmps11
  go_wp2
  go_ret2
  exact ⟨rfl, rfl⟩

/-- the list of the free ones one shorter -/
theorem Ar.take {l : List Nat} {i : Nat} (h : Ar w p S F ss (l ++ [i])) : Ar ((w.setCell ⟨p, 1, none⟩ (.slice (some ⟨F, 0, none⟩) l.length ss.length)).setCell ⟨S, i * 65 + 64, none⟩ (.int .i64 1)) p S F (ss.set i ⟨zeros 64, 1⟩) l := by
  obtain ⟨hg, hi⟩ := h.good.take
  obtain ⟨j, hj, hl⟩ := h.list
  rw [setCell_eq_setRow w p 1 _ _ _ _ h.head]
  have hS : (w.setRow p (#[Value.slice (some ⟨S, 0, none⟩) ss.length ss.length, .slice (some ⟨F, 0, none⟩) (l ++ [i]).length ss.length].setIfInBounds 1 (.slice (some ⟨F, 0, none⟩) l.length ss.length))).heap[S]? = some (.cells (rowCells ss).toArray 55 (0, 0)) := by
    rw [setRow_other _ _ _ _ h.pS.symm]; exact h.row
  rw [setCell_eq_setRow _ S (i * 65 + 64) _ _ _ (.int .i64 1) hS]
  refine ⟨?_, ?_, ⟨.int .i64 (i : Int) :: j, ?_, ?_⟩, h.pS, h.pF, h.SF, hg⟩
  · rw [setRow_other _ _ _ _ h.pS, setRow_heap w p _ _ _ _ h.head]; simp
  · rw [setRow_heap _ S _ _ _ _ hS]
    simp only [List.setIfInBounds_toArray]
    rw [show i * 65 + 64 = 65 * i + 64 by omega]
    exact congrArg (fun l : List Value => some (Obj.cells l.toArray 55 (0, 0))) (row_set_holds ss i Slot.none hi h.good.whole 1)
  · rw [setRow_other _ _ _ _ h.SF.symm, setRow_other _ _ _ _ h.pF.symm, hj]; simp [idCells]
  · simp at hl ⊢; omega

theorem take_yes (l : List Nat) (i : Nat) (h : Ar w p S F ss (l ++ [i])) :
    Calls Try.prog 11 #[.pointer (some ⟨p, 0, none⟩)] w fun e w' => e = .returned (.tuple #[.int .i64 (i : Int), .int .i64 0]) ∧ Ar w' p S F (ss.set i ⟨zeros 64, 1⟩) l ∧ Keeps p S F w w' := by
  have h0 := h.free
  have h1 := h.slots
  have hA := h.take
  have hK : Keeps p S F w ((w.setCell ⟨p, 1, none⟩ (.slice (some ⟨F, 0, none⟩) l.length ss.length)).setCell ⟨S, i * 65 + 64, none⟩ (.int .i64 1)) := ((Keeps.refl p S F w).setCell (by simp) _).setCell (by simp) _
  have hi : i < ss.length := h.good.lt (by simp)
  have hn : ss.length ≤ 16384 := h.good.small
  have hl : l.length + 1 ≤ ss.length := by have := h.good.le; simpa using this
  have hF : w.cell? ⟨F, l.length, none⟩ = some (.int .i64 (i : Int)) := by
    obtain ⟨j, hj, _⟩ := h.list
    simp only [World.cell?, hj]
    simp [idCells]
  have hS : w.cell? ⟨S, i * 65 + 64, none⟩ = some (.int .i64 0) := by
    have := h.holds h.good.take.2
    simpa [Slot.none] using this
  have f1 := h.frozen ⟨p, 1, none⟩ (by simp)
  have f2 := h.frozen ⟨S, i * 65 + 64, none⟩ (by simp)
  have n1 := h.pS
  have n2 := h.pF
  have n3 := h.SF
  simp only [List.length_append, List.length_cons, List.length_nil, Nat.zero_add] at h0
  generalize ss.set i ⟨zeros 64, 1⟩ = ss' at *
  generalize ss.length = n at *
  generalize hm : l.length = m at *
  clear h hm
  go_enter Try.func11, Try.ntmps11
  go_wp2
  go_ret2
  exact ⟨rfl, hA, hK⟩

theorem Ar.setRow (h : Ar w p S F ss fr) {ss' : List Slot} (hl : ss'.length = ss.length) (hg : Good ss' fr) : Ar (w.setRow S (rowCells ss').toArray) p S F ss' fr := by
  obtain ⟨j, hj, hl'⟩ := h.list
  refine ⟨?_, ?_, ⟨j, ?_, ?_⟩, h.pS, h.pF, h.SF, hg⟩
  · rw [setRow_other _ _ _ _ h.pS, h.head, hl]
  · rw [setRow_heap w S _ _ _ _ h.row]
  · rw [setRow_other _ _ _ _ h.SF.symm]; exact hj
  · omega

theorem write_no (h : Ar w p S F ss fr) (id k : Int) (v : Value) (hi : Gone ss id) :
    Calls Try.prog 12 #[.pointer (some ⟨p, 0, none⟩), .int .i64 id, .int .i64 k, v] w fun e w' => e = .returned (.int .i64 4) ∧ w = w' := by
  have hc := held_no h id hi
  clear h hi
  go_enter Try.func12, Try.ntmps12
  go_wp2_with (go_at_call 19; refine hc.mono ?_; rintro e w' ⟨rfl, rfl⟩)
  go_ret
  exact ⟨rfl, rfl⟩

theorem write_range (h : Ar w p S F ss fr) (i : Nat) (s : Slot) (hi : ss[i]? = some s) (hh : s.holds ≠ 0) (k : Int) (a : Option Addr) (n cap : Nat) (hk : -9223372036854775808 ≤ k ∧ k ≤ 9223372036854775807) (hn : n ≤ 9223372036854775807) (hr : inside k n = false) :
    Calls Try.prog 12 #[.pointer (some ⟨p, 0, none⟩), .int .i64 (i : Int), .int .i64 k, .slice a n cap] w fun e w' => e = .returned (.int .i64 1) ∧ w = w' := by
  have hc := held_yes h i s hi hh
  have hw := within_w k n w hk (by omega)
  rw [hr] at hw
  clear h hi hr
  go_enter Try.func12, Try.ntmps12
  go_wp2_with fail
  refine hc.mono ?_
  rintro e w' ⟨rfl, rfl⟩
  go_wp2_with fail
  refine hw.mono ?_
  rintro e w' ⟨rfl, rfl⟩
  go_wp2
  go_ret
  exact ⟨rfl, rfl⟩

theorem write_yes (h : Ar w p S F ss fr) (i : Nat) (s : Slot) (hi : ss[i]? = some s) (hh : s.holds ≠ 0) (k : Nat) (a : Option Addr) (zs : List Int) (cap : Nat) (hr : k + zs.length ≤ 64) (hsrc : Src w a zs) :
    Calls Try.prog 12 #[.pointer (some ⟨p, 0, none⟩), .int .i64 (i : Int), .int .i64 (k : Int), .slice a zs.length cap] w fun e w' => e = .returned (.int .i64 0) ∧ Ar w' p S F (ss.set i ⟨splice s.bytes k zs, s.holds⟩) fr ∧ Keeps p S F w w' := by
  have hc := held_yes h i s hi hh
  have hw := within_w k zs.length w (by omega) (by omega)
  rw [show inside k zs.length = true by simp [inside]; omega] at hw
  have hb := h.good.whole s (mem_of_some hi)
  have hlt := lt_of_some hi
  have hsp := row_set_bytes ss i s hi h.good.whole k zs hr
  have hA := h.setRow (ss' := ss.set i ⟨splice s.bytes k zs, s.holds⟩) (by simp) (h.good.set_held hi hh hh (h.good.most s (mem_of_some hi)) (by rw [length_splice _ _ _ (by omega)]; exact hb))
  rw [← hsp] at hA
  have hrow := h.row
  have hfit : 65 * i + k + (cellsOf zs).length ≤ (rowCells ss).length := by
    rw [rowCells_length _ h.good.whole, cellsOf_length]; omega
  have hlen := cellsOf_length zs
  have hK : Keeps p S F w (w.setRow S (splice (rowCells ss) (65 * i + k) (cellsOf zs)).toArray) := (Keeps.refl p S F w).setRow (by simp) _
  have hone := oneCell_bytes zs
  unfold Src at hsrc
  rw [← hlen] at hsrc hw ⊢
  generalize cellsOf zs = cs at *
  generalize rowCells ss = cur at *
  generalize ss.set i ⟨splice s.bytes k zs, s.holds⟩ = ss' at *
  have hk : k + cs.length ≤ 64 := by omega
  have H : Hid (w.heap[S]? = some (.cells cur.toArray 55 (0, 0))) := hrow
  clear h hi hsp hlen hr hrow
  go_enter Try.func12, Try.ntmps12
  go_wp2_with fail
  refine hc.mono ?_
  rintro e w' ⟨rfl, rfl⟩
  go_wp2_with fail
  refine hw.mono ?_
  rintro e w' ⟨rfl, rfl⟩
  clear hc hw
  by_cases c : k = 64
  · subst c
    obtain rfl : cs = [] := List.eq_nil_of_length_eq_zero (by omega)
    have hcp := run_copy_ex (P := Try.prog) w 30 30 3 5 Try.underlying30 info5 (some ⟨S, i * 65, none⟩) a 0 0 0 cap S (65 * i + 64) cur 55 H.out [] (by simp) (by simp) hfit (by simp)
    generalize w.setRow S (splice cur (65 * i + 64) []).toArray = W at *
    go_wp2
    go_ret
    exact ⟨rfl, hA, hK⟩
  · have c' : k < 64 := by omega
    have c3 : k ≤ 64 := by omega
    have c4 : ¬ 64 = k := by omega
    have hcp := run_copy_ex (P := Try.prog) w 30 30 3 5 Try.underlying30 info5 (some ⟨S, i * 65 + k, none⟩) a (64 - k) (64 - k) cs.length cap S (65 * i + k) cur 55 H.out cs (by simp [Nat.min_def]; omega)
      (fun h0 => ⟨by rw [Nat.mul_comm], hsrc h0⟩) hfit hone
    generalize w.setRow S (splice cur (65 * i + k) cs).toArray = W at *
    have hsl := run_arr w S (i * 65) k c'
    clear hsrc hone
    go_wp2
    go_ret
    exact ⟨rfl, hA, hK⟩

theorem read_no (h : Ar w p S F ss fr) (id k n : Int) (hi : Gone ss id) :
    Calls Try.prog 15 #[.pointer (some ⟨p, 0, none⟩), .int .i64 id, .int .i64 k, .int .i64 n] w fun e w' => e = .returned (.tuple #[.slice none 0 0, .int .i64 4]) ∧ w = w' := by
  have hc := held_no h id hi
  clear h hi
  go_enter Try.func15, Try.ntmps15
  go_wp2_with (go_at_call 19; refine hc.mono ?_; rintro e w' ⟨rfl, rfl⟩)
  go_ret2
  exact ⟨rfl, rfl⟩

theorem read_range (h : Ar w p S F ss fr) (i : Nat) (s : Slot) (hi : ss[i]? = some s) (hh : s.holds ≠ 0) (k n : Int) (hk : -9223372036854775808 ≤ k ∧ k ≤ 9223372036854775807) (hn : -9223372036854775808 ≤ n ∧ n ≤ 9223372036854775807) (hr : inside k n = false) :
    Calls Try.prog 15 #[.pointer (some ⟨p, 0, none⟩), .int .i64 (i : Int), .int .i64 k, .int .i64 n] w fun e w' => e = .returned (.tuple #[.slice none 0 0, .int .i64 1]) ∧ w = w' := by
  have hc := held_yes h i s hi hh
  have hw := within_w k n w hk hn
  rw [hr] at hw
  clear h hi hr
  go_enter Try.func15, Try.ntmps15
  go_wp2_with fail
  refine hc.mono ?_
  rintro e w' ⟨rfl, rfl⟩
  go_wp2_with fail
  refine hw.mono ?_
  rintro e w' ⟨rfl, rfl⟩
  go_wp2
  go_ret2
  exact ⟨rfl, rfl⟩

def part (L : List Int) (k n : Nat) : List Int := (L.drop k).take n
theorem part_length (L : List Int) (k n : Nat) (h : k + n ≤ L.length) : (part L k n).length = n := by simp [part]; omega

theorem make30 (k : Nat) (hk : k ≤ 1048576) (w : World) : (Instr.makeSlice 30 (.int .i64 (k : Int)) (.int .i64 (k : Int))).run Try.prog w = .ok (.slice (some ⟨w.heap.size, 0, none⟩) k k) (w.alloc (.cells (cellsOf (zeros k)).toArray 5)) := by
  have a : (Try.prog.info? 5).map (fun i => (i.size, i.bytes)) = some (1, 1) := by kernel_rfl
  have b : (Try.prog.info? 5).bind (fun i => i.zero) = some (.int .u8 0) := by kernel_rfl
  cases hq : Try.prog.info? 5 with
  | none => rw [hq] at a; simp at a
  | some i =>
    rw [hq] at a b; simp at a b
    have h := run_make (P := Try.prog) w 30 5 i _ Try.underlying30 hq b .i64 .i64 k k (by omega) (by omega) (by rw [a.2]; omega) (by omega)
    rw [h, a.1, Int.toNat_natCast, Nat.mul_one]
    refine congrArg (fun c => Result.ok _ (w.alloc (.cells c 5))) ?_
    apply Array.ext
    · simp [madeCells, cellsOf, zeros]
    · intro j h1 h2
      simp [madeCells, cellsOf, zeros, Value.cells, Nat.mod_one]

theorem setRow_alloc (w : World) (c d : Array Value) (t : TypeId) : (w.alloc (.cells c t)).setRow w.heap.size d = w.alloc (.cells d t) := by
  unfold World.setRow World.alloc
  simp only
  congr 1
  apply Array.ext
  · simp
  · intro j h1 h2
    simp only [Array.getElem_modify, Array.getElem_push]
    by_cases h : j < w.heap.size
    · have : ¬ w.heap.size = j := by omega
      simp [h, this]
    · have : w.heap.size = j := by simp at h1; omega
      simp [h, this]

theorem read_yes (h : Ar w p S F ss fr) (i : Nat) (s : Slot) (hi : ss[i]? = some s) (hh : s.holds ≠ 0) (k n : Nat) (hr : k + n ≤ 64) :
    Calls Try.prog 15 #[.pointer (some ⟨p, 0, none⟩), .int .i64 (i : Int), .int .i64 (k : Int), .int .i64 (n : Int)] w fun e w' => e = .returned (.tuple #[.slice (some ⟨w.heap.size, 0, none⟩) n n, .int .i64 0]) ∧ w' = w.alloc (.cells (cellsOf (part s.bytes k n)).toArray 5) := by
  have hc := held_yes h i s hi hh
  have hw := within_w k n w (by omega) (by omega)
  rw [show inside k n = true by simp [inside]; omega] at hw
  have hb := h.good.whole s (mem_of_some hi)
  have hlen : (cellsOf (part s.bytes k n)).length = n := by rw [cellsOf_length, part_length _ _ _ (by omega)]
  have hmk := make30 n (by omega) w
  have hone := oneCell_bytes (part s.bytes k n)
  have hsrc : ∀ j v, (cellsOf (part s.bytes k n))[j]? = some v → (w.alloc (.cells (cellsOf (zeros n)).toArray 5)).cell? ((⟨S, i * 65 + k, none⟩ : Addr).add j) = some v := by
    intro j v hv
    have hj : j < n := by rw [← hlen]; exact (List.getElem?_eq_some_iff.1 hv).1
    have e1 : (⟨S, i * 65 + k, none⟩ : Addr).add j = ⟨S, i * 65 + k + j, none⟩ := by unfold Addr.add; split <;> simp_all
    have := row_byte ss i s hi h.good.whole (k + j) (by omega)
    rw [e1]
    simp only [World.cell?, Below.heap_alloc _ _ _ h.lt.2.1, h.row]
    rw [show i * 65 + k + j = 65 * i + (k + j) by omega]
    simp only [List.getElem?_toArray, this]
    simp [cellsOf, part] at hv ⊢
    simpa [List.getElem?_take, hj] using hv
  have hnew : (w.alloc (.cells (cellsOf (zeros n)).toArray 5)).heap[w.heap.size]? = some (.cells (cellsOf (zeros n)).toArray 5 (0, 0)) := heap_alloc_new w _
  have hz : (cellsOf (zeros n)).length = n := by rw [cellsOf_length, zeros_length]
  have hsp : splice (cellsOf (zeros n)) 0 (cellsOf (part s.bytes k n)) = cellsOf (part s.bytes k n) := splice_all _ _ (by omega)
  clear h hi hb
  generalize cellsOf (part s.bytes k n) = cs at *
  generalize cellsOf (zeros n) = zs at *
  by_cases c : k = 64
  · subst c
    obtain rfl : n = 0 := by omega
    have hmk : (Instr.makeSlice 30 (.int .i64 0) (.int .i64 0)).run Try.prog w = .ok (.slice (some ⟨w.heap.size, 0, none⟩) 0 0) (w.alloc (.cells zs.toArray 5)) := hmk
    have hcp := run_copy_ex (P := Try.prog) _ 30 30 3 5 Try.underlying30 info5 (some ⟨w.heap.size, 0, none⟩) (some ⟨S, i * 65, none⟩) 0 0 0 0 w.heap.size 0 zs 5 hnew cs (by simp [hlen]) (by omega) (by omega) hone
    rw [hsp, setRow_alloc] at hcp
    have H : Hid (cs.length = 0) := hlen
    clear hlen hz hsp hsrc hnew hone
    go_enter Try.func15, Try.ntmps15
    go_wp2_with fail
    refine hc.mono ?_
    rintro e w' ⟨rfl, rfl⟩
    go_wp2_with fail
    refine hw.mono ?_
    rintro e w' ⟨rfl, rfl⟩
    go_wp2
    go_ret2
    exact ⟨rfl, rfl⟩
  · have c' : k < 64 := by omega
    have hcp := run_copy_ex (P := Try.prog) _ 30 30 3 5 Try.underlying30 info5 (some ⟨w.heap.size, 0, none⟩) (some ⟨S, i * 65 + k, none⟩) n n (64 - k) (64 - k) w.heap.size 0 zs 5 hnew cs (by show _ = min _ _; omega)
      (fun h0 => ⟨rfl, _, rfl, hsrc⟩) (by omega) hone
    rw [hsp, setRow_alloc] at hcp
    have hsl := run_arr (w.alloc (.cells zs.toArray 5)) S (i * 65) k c'
    have H : Hid (cs.length = n) := hlen
    clear hlen hz hsp hsrc hnew hone
    go_enter Try.func15, Try.ntmps15
    go_wp2_with fail
    refine hc.mono ?_
    rintro e w' ⟨rfl, rfl⟩
    go_wp2_with fail
    refine hw.mono ?_
    rintro e w' ⟨rfl, rfl⟩
    go_wp2
    go_ret2
    exact ⟨rfl, rfl⟩

end
end Go.Proofs.Ytpjfhfbjdcgbjaa
