/-
  What extent.Append does, step by step, as plain data; the facts that its walk wants.
-/
import Derived.Test.YtpjfhfbjdcgbjabMid
namespace Go.Proofs.Ytpjfhfbjdcgbjab
open Go.RowKit
set_option linter.unusedVariables false
set_option linter.unusedSimpArgs false

theorem inf33 : (Try.prog.info? 33).map (·.size) = some 1 := by kernel_rfl
theorem run_store33 (w : World) (g : Nat) (o : Nat) (u : Value) (a : Option Addr) (n c : Nat) (hc : w.cell? ⟨g, o, none⟩ = some u) (hf : w.frozen? ⟨g, o, none⟩ = false) :
    (Instr.storeAt 33 (.pointer (some ⟨g, o, none⟩)) (.slice a n c)).run Try.prog w = .ok () (w.setCell ⟨g, o, none⟩ (.slice a n c)) := by
  have hi := inf33
  cases hq : Try.prog.info? 33 with
  | none => simp [hq] at hi
  | some i =>
    have hs : i.size = 1 := by simpa [hq] using hi
    simp [Instr.storeAt, Instr.sureAddr, storeVar, sizeOf, typeInfo, hq, hs, Value.cells, storeCells, Addr.add]
    rw [run_store _ _ _ _ _ rfl]
    simp [hc, hf]

/-- extent.canAppend of a content that fits -/
theorem can_w {w : World} {p S F : Nat} {ss : List Slot} {fr : List Nat} (h : Ar w p S F ss fr) (a : Option Addr) (cap : Nat) (ids : List Int) (sz n : Nat) (hs : sz ≤ 1048576) (hn : ids.length = need sz) (hI : Ids w a ids) (hbig : n ≤ 1099511627776) :
    Calls Try.prog 18 #[.pointer (some ⟨p, 0, none⟩), .agg #[.slice a ids.length cap, .int .i64 (sz : Int)], .int .i64 (n : Int)] w fun e w' => e = .returned (.int .i64 (canCode ss fr ids sz n)) ∧ Below w.heap.size w w' := by
  unfold canCode
  by_cases c1 : 1048576 < sz + n
  · rw [if_pos c1]; exact can_long h a cap ids sz n hs hn hbig c1
  · rw [if_neg c1]
    have c1' : sz + n ≤ 1048576 := by omega
    cases hsh : isShared ss ids sz with
    | false =>
      simp only [Bool.false_eq_true, if_false, Int.add_zero]
      by_cases c2 : (fr.length : Int) < (need (sz + n) : Int) - (ids.length : Int)
      · rw [if_pos c2]; exact can_full_false h a cap ids sz n hs hn hI c1' hsh c2
      · rw [if_neg c2]
        cases ho : isOpen sz with
        | false => rw [if_neg (by simp)]; exact can_shut h a cap ids sz n hs hn hI c1' hsh c2 ho
        | true =>
          by_cases c3 : lastHolds ss ids = 0
          · rw [if_pos ⟨rfl, c3⟩]; exact can_open_false_gone h a cap ids sz n hs hn hI c1' hsh c2 ho c3
          · rw [if_neg (by simp [c3])]; exact can_open_false_held h a cap ids sz n hs hn hI c1' hsh c2 ho c3
    | true =>
      simp only [if_true]
      by_cases c2 : (fr.length : Int) < (need (sz + n) : Int) - (ids.length : Int) + 1
      · rw [if_pos c2]; exact can_full_true h a cap ids sz n hs hn hI c1' hsh c2
      · rw [if_neg c2]
        have hs2 := hsh
        simp only [isShared, Bool.and_eq_true, decide_eq_true_eq] at hs2
        have c3 : lastHolds ss ids ≠ 0 := by omega
        rw [if_neg (by simp [c3])]
        exact can_open_true_held h a cap ids sz n hs hn hI c1' hsh c2 hs2.1 c3

theorem Own.base {W : World} {B B' : Nat} {v : Value} {ids : List Int} (h : Own W B v ids) (hb : B' ≤ B) : Own W B' v ids := by
  refine ⟨h.1, ?_⟩
  rcases h.2 with h2 | ⟨g, cap, cur, e1, e2, r⟩
  · exact .inl h2
  · exact .inr ⟨g, cap, cur, e1, Nat.le_trans hb e2, r⟩

theorem midA {w w1 : World} {p S F : Nat} {cv x y : Value} {sz : Int} {v : Value} {ids : List Int}
    (hb : Below ((w.alloc (.cells #[cv, .int .i64 sz] 35)).alloc (.cells #[x, y] 35)).drew.heap.size ((w.alloc (.cells #[cv, .int .i64 sz] 35)).alloc (.cells #[x, y] 35)).drew w1)
    (ho : Own w1 ((w.alloc (.cells #[cv, .int .i64 sz] 35)).alloc (.cells #[x, y] 35)).drew.heap.size v ids) :
    Mid w (w1.alloc (.cells #[v, .int .i64 sz] 35)) p S F w.heap.size (w.heap.size + 1) w1.heap.size cv sz v ids sz := by
  obtain ⟨j1, j2, j3, j4, j5⟩ := boxA rfl hb
  have b0 : Below w.heap.size w w1 := (((Below.refl _ w).alloc (Nat.le_refl _) _).alloc (by simp) _).drew.trans (hb.mono (by show w.heap.size ≤ ((w.alloc _).alloc _).heap.size; simp; omega))
  have hB : w.heap.size ≤ ((w.alloc (.cells #[cv, .int .i64 sz] 35)).alloc (.cells #[x, y] 35)).drew.heap.size := by show w.heap.size ≤ ((w.alloc _).alloc _).heap.size; simp; omega
  refine ⟨keeps_below (b0.alloc b0.size _), heap_alloc _ j1, ⟨x, y, heap_alloc _ j2⟩, heap_alloc_new w1 _, ?_, Nat.le_refl _, by omega, by omega, by omega, by omega, by omega⟩
  exact (ho.base hB).moved fun g h1 h2 _ => Below.heap_alloc _ _ _ h2

theorem midB {w w1 : World} {p S F : Nat} {cv x y s t : Value} {sz : Int} {v : Value} {ids : List Int}
    (hb : Below (((w.alloc (.cells #[cv, .int .i64 sz] 35)).alloc (.cells #[x, y] 35)).alloc (.cells #[s, t] 35)).drew.heap.size (((w.alloc (.cells #[cv, .int .i64 sz] 35)).alloc (.cells #[x, y] 35)).alloc (.cells #[s, t] 35)).drew w1)
    (ho : Own w1 (((w.alloc (.cells #[cv, .int .i64 sz] 35)).alloc (.cells #[x, y] 35)).alloc (.cells #[s, t] 35)).drew.heap.size v ids) :
    Mid w ((w1.setCell ⟨w.heap.size + 1 + 1, 0, none⟩ v).setCell ⟨w.heap.size + 1 + 1, 1, none⟩ (.int .i64 sz)) p S F w.heap.size (w.heap.size + 1) (w.heap.size + 1 + 1) cv sz v ids sz := by
  obtain ⟨j1, j2, j3, j4, _⟩ := boxB rfl rfl hb
  have hB : w.heap.size ≤ (((w.alloc (.cells #[cv, .int .i64 sz] 35)).alloc (.cells #[x, y] 35)).alloc (.cells #[s, t] 35)).drew.heap.size := by show w.heap.size ≤ (((w.alloc _).alloc _).alloc _).heap.size; simp; omega
  have b0 : Below w.heap.size w w1 := ((((Below.refl _ w).alloc (Nat.le_refl _) _).alloc (by simp) _).alloc (by simp; omega) _).drew.trans (hb.mono hB)
  have e1 : ((w1.setCell ⟨w.heap.size + 1 + 1, 0, none⟩ v).setCell ⟨w.heap.size + 1 + 1, 1, none⟩ (.int .i64 sz)).heap[w.heap.size + 1 + 1]? = some (.cells #[v, .int .i64 sz] 35 (0, 0)) := by
    rw [setCell_eq_setRow w1 _ 0 _ _ _ _ j4, setCell_eq_setRow _ _ 1 _ _ _ _ (setRow_heap _ _ _ _ _ _ j4), setRow_heap _ _ _ _ _ _ (setRow_heap _ _ _ _ _ _ j4)]; simp
  have e2 : ∀ k, k ≠ w.heap.size + 1 + 1 → ((w1.setCell ⟨w.heap.size + 1 + 1, 0, none⟩ v).setCell ⟨w.heap.size + 1 + 1, 1, none⟩ (.int .i64 sz)).heap[k]? = w1.heap[k]? := fun k hk => by
    rw [Below.heap_setCell _ _ _ _ hk, Below.heap_setCell _ _ _ _ hk]
  refine ⟨keeps_below ((b0.setCell (by show w.heap.size ≤ w.heap.size + 1 + 1; omega) _).setCell (by show w.heap.size ≤ w.heap.size + 1 + 1; omega) _), (e2 _ (by omega)).trans j1, ⟨x, y, (e2 _ (by omega)).trans j2⟩, e1, ?_, Nat.le_refl _, by omega, by omega, by omega, by omega, by omega⟩
  exact (ho.base hB).moved fun g h1 h2 ht => e2 g (by rintro rfl; have := ht _ _ _ j4; cases this)

/-- a block of its own in the place of the last one, where that is shared -/
def OwnStep (ss : List Slot) (fr : List Nat) (ids : List Int) (sz : Nat) (ss1 : List Slot) (fr1 : List Nat) (ids1 : List Int) : Prop :=
  (isShared ss ids sz = false ∧ ss1 = ss ∧ fr1 = fr ∧ ids1 = ids) ∨
  (isShared ss ids sz = true ∧ ∃ (l : List Nat) (j i : Nat) (s : Slot) (k m : Nat), fr = l ++ [j] ∧ ids.length = m + 1 ∧ ids[m]? = some (i : Int) ∧ ss[i]? = some s ∧ s.holds = k + 2 ∧
    ss1 = ((ss.set j ⟨splice (zeros 64) 0 (part s.bytes 0 (sz % 64)), 1⟩).set i ⟨s.bytes, k + 1⟩) ∧ fr1 = l ∧ ids1 = ids.set m (j : Int))

/-- bytes into the room of the last block -/
def OpenStep (ss : List Slot) (ids : List Int) (sz : Nat) (b : List Int) (ss1 : List Slot) (b1 : List Int) : Prop :=
  (isOpen sz = false ∧ ss1 = ss ∧ b1 = b) ∨
  (isOpen sz = true ∧ ∃ (i m : Nat) (s : Slot), ids.length = m + 1 ∧ ids[m]? = some (i : Int) ∧ ss[i]? = some s ∧ s.holds ≠ 0 ∧
    ss1 = ss.set i ⟨splice s.bytes (sz % 64) (b.take (min b.length (64 - sz % 64))), s.holds⟩ ∧ b1 = b.drop (min b.length (64 - sz % 64)))

/-- bytes into new blocks -/
def putAll : Nat → List Slot → List Nat → List Int → List Int → List Slot × List Nat × List Int
  | 0, ss, fr, ids, _ => (ss, fr, ids)
  | m + 1, ss, fr, ids, b => putAll m (ss.set (fr.getLastD 0) ⟨splice (zeros 64) 0 (b.take 64), 1⟩) fr.dropLast (ids ++ [((fr.getLastD 0 : Nat) : Int)]) (b.drop 64)

/-- what is known where nothing stands against it -/
theorem can_zero {ss : List Slot} {fr : List Nat} {ids : List Int} {sz n : Nat} (h : canCode ss fr ids sz n = 0) : sz + n ≤ 1048576 ∧ (need (sz + n) : Int) - (ids.length : Int) + (if isShared ss ids sz then 1 else 0) ≤ (fr.length : Int) ∧ (isOpen sz = true → lastHolds ss ids ≠ 0) := by
  unfold canCode at h
  by_cases c1 : 1048576 < sz + n
  · rw [if_pos c1] at h; omega
  · rw [if_neg c1] at h
    by_cases c2 : (fr.length : Int) < (need (sz + n) : Int) - (ids.length : Int) + (if isShared ss ids sz then 1 else 0)
    · rw [if_pos c2] at h; omega
    · rw [if_neg c2] at h
      by_cases c3 : isOpen sz = true ∧ lastHolds ss ids = 0
      · rw [if_pos c3] at h; omega
      · exact ⟨by omega, by omega, fun ho hl => c3 ⟨ho, hl⟩⟩

theorem last_get (ids : List Int) (m : Nat) (hm : ids.length = m + 1) : ids[m]? = some (ids.getLastD 0) := by
  have hne : ids ≠ [] := by intro e; rw [e] at hm; simp at hm
  rw [List.getLastD_eq_getLast?, List.getLast?_eq_getElem?, hm]
  simp [hm]

theorem open_len {ids : List Int} {sz : Nat} (hn : ids.length = need sz) (ho : isOpen sz = true) : ∃ m, ids.length = m + 1 ∧ m ≤ 16384 + sz := by
  simp only [isOpen, decide_eq_true_eq] at ho
  refine ⟨ids.length - 1, ?_, ?_⟩ <;> (unfold need at hn; omega)

theorem own_len {ss ss1 : List Slot} {fr fr1 : List Nat} {ids ids1 : List Int} {sz : Nat} (h : OwnStep ss fr ids sz ss1 fr1 ids1) : ids1.length = ids.length := by
  rcases h with ⟨_, _, _, rfl⟩ | ⟨_, l, j, i, s, k, m, _, _, _, _, _, _, _, rfl⟩
  · rfl
  · simp

/-- the last block, its room behind it, is the content's own or nobody else's -/
theorem own_held {ss ss1 : List Slot} {fr fr1 : List Nat} {ids ids1 : List Int} {sz : Nat} (h : OwnStep ss fr ids sz ss1 fr1 ids1) (hg : Good ss fr) (ho : isOpen sz = true) (hl : lastHolds ss ids ≠ 0) (hn : ids.length = need sz) :
    ∃ (i m : Nat) (s : Slot), ids1.length = m + 1 ∧ ids1[m]? = some (i : Int) ∧ ss1[i]? = some s ∧ s.holds ≠ 0 := by
  rcases h with ⟨_, rfl, rfl, rfl⟩ | ⟨_, l, j, i, s, k, m, rfl, h2, h3, h4, h5, rfl, rfl, rfl⟩
  · obtain ⟨m, hm, _⟩ := open_len hn ho
    have h1 := last_get ids1 m hm
    obtain ⟨i, s, e, hs, he⟩ := of_held ss1 _ hl
    rw [e] at h1
    exact ⟨i, m, s, hm, h1, hs, by rw [he]; exact hl⟩
  · have hj : ss[j]? = some Slot.none := hg.take.2
    have hij : i ≠ j := by rintro rfl; rw [h4] at hj; cases hj; simp [Slot.none] at h5
    refine ⟨j, m, ⟨splice (zeros 64) 0 (part s.bytes 0 (sz % 64)), 1⟩, by simpa using h2, by simp [h2], ?_, by simp⟩
    rw [set_get, if_neg (fun c => hij c.1.symm), set_get, if_pos ⟨rfl, lt_of_some hj⟩]

section
variable {w W W' : World} {p S F bx rs g8 : Nat} {cv v : Value} {csz sz : Int} {ids : List Int}

/-- the out's list where another block stands in the last one's place -/
theorem Mid.own4 {g cap m : Nat} (h : Mid w W p S F bx rs g8 cv csz (.slice (some ⟨g, 0, none⟩) (m + 1) cap) ids sz) (hp : p < w.heap.size) (hS : S < w.heap.size) (hF : F < w.heap.size) (cur : List Value) (hg : W.heap[g]? = some (.cells cur.toArray 3 (0, 0))) (j : Int) (hm : ids.length = m + 1)
    (hg' : W'.heap[g]? = some (.cells (cur.set m (.int .i64 j)).toArray 3 (0, 0))) (hk : Keeps4 p S F g W W') : Mid w W' p S F bx rs g8 cv csz (.slice (some ⟨g, 0, none⟩) (m + 1) cap) (ids.set m j) sz := by
  obtain ⟨x, y, hxy⟩ := h.res
  have hgw : w.heap.size ≤ g ∧ m + 1 ≤ cap ∧ cap ≤ maxLen ∧ cur.length = cap ∧ cur.take (m + 1) = numCells ids := by
    rcases h.own.2 with ⟨e, _⟩ | ⟨g', cap', cur', e1, e2, e3, e4, e5, e6, e7⟩
    · cases e
    · simp at e1
      obtain ⟨rfl, _, rfl⟩ := e1
      rw [hg] at e3
      cases e3
      rw [hm] at e4 e7
      simp at e6 e7
      exact ⟨e2, e4, e5, e6, by simpa using e7⟩
  obtain ⟨q1, q2, q3, q4, q5⟩ := hgw
  have e : ∀ (k : Nat) (o : Obj), w.heap.size ≤ k → W.heap[k]? = some o → (∀ c, o ≠ .cells c 3 (0, 0)) → W'.heap[k]? = some o := fun k o h1 h2 h3 => by
    rw [hk.block k (lt_of_heap h2) (by omega) (by omega) (by omega) (by rintro rfl; rw [hg] at h2; cases h2; exact h3 _ rfl)]; exact h2
  refine ⟨⟨hk.os.trans h.kp.os, hk.tape.trans h.kp.tape, hk.output.trans h.kp.output, Nat.le_trans h.kp.size hk.size, fun k h1 h2 h3 h4 => ?_⟩, e _ _ h.hb h.box (fun c he => by cases he), ⟨x, y, e _ _ h.hr hxy (fun c he => by cases he)⟩, e _ _ h.hg h.out (fun c he => by cases he), ?_, h.hb, h.hr, h.hg, h.br, h.bg, h.rg⟩
  · rw [hk.block k (Nat.lt_of_lt_of_le h1 h.kp.size) h2 h3 h4 (by omega)]; exact h.kp.block k h1 h2 h3 h4
  · refine ⟨by simp [numCells], .inr ⟨g, cap, _, by simp [hm], q1, hg', by simp [hm]; omega, q3, by simp [q4], ?_⟩⟩
    simp only [List.length_set, hm, Nat.mul_one]
    rw [List.take_set, q5]
    simp [numCells]

end
end Go.Proofs.Ytpjfhfbjdcgbjab
