/-
  Contract: extent.Share of a content whose blocks are all held.
-/
import Derived.Test.YtpjfhfbjdcgbjabInv2
import Derived.Test.YtpjfhfbjdcgbjabApp
namespace Go.Proofs.Ytpjfhfbjdcgbjab
open Go.RowKit
set_option linter.unusedVariables false
set_option linter.unusedSimpArgs false

def hold1 (ss : List Slot) (z : Int) : List Slot := match ss[z.toNat]? with | some s => ss.set z.toNat ⟨s.bytes, s.holds + 1⟩ | none => ss
def holdF : List Slot → List Int → List Slot
  | ss, [] => ss
  | ss, z :: r => holdF (hold1 ss z) r

theorem holdF_snoc : ∀ (ids : List Int) (ss : List Slot) (z : Int), holdF ss (ids ++ [z]) = hold1 (holdF ss ids) z
  | [], ss, z => rfl
  | y :: r, ss, z => by simp only [List.cons_append, holdF]; exact holdF_snoc r _ z

theorem hold1_get (ss : List Slot) (z : Int) (hz : 0 ≤ z) (i : Nat) : (hold1 ss z)[i]? = (ss[i]?).map fun s => ⟨s.bytes, s.holds + (if z == (i : Int) then 1 else 0)⟩ := by
  unfold hold1
  cases hs : ss[z.toNat]? with
  | none =>
    simp only
    by_cases e : i = z.toNat
    · subst e; rw [hs]; rfl
    · have : (z == (i : Int)) = false := by simp; omega
      rw [this]
      cases ss[i]? <;> simp
  | some s =>
    simp only
    rw [set_get]
    by_cases e : i = z.toNat
    · rw [if_pos ⟨e, lt_of_some hs⟩, e, hs]
      have : (z == (z.toNat : Int)) = true := by simp; omega
      rw [this]; simp
    · rw [if_neg (fun c => e c.1)]
      have : (z == (i : Int)) = false := by simp; omega
      rw [this]
      cases ss[i]? <;> simp

theorem holdF_get : ∀ (ids : List Int), (∀ z ∈ ids, 0 ≤ z) → ∀ (ss : List Slot) (i : Nat), (holdF ss ids)[i]? = (ss[i]?).map fun s => ⟨s.bytes, s.holds + ids.count (i : Int)⟩
  | [], _, ss, i => by cases h : ss[i]? <;> simp [holdF, h]
  | z :: r, hz, ss, i => by
    rw [holdF, holdF_get r (fun x hx => hz x (by simp [hx])), hold1_get ss z (hz z (by simp))]
    cases ss[i]? with
    | none => rfl
    | some s => simp [List.count_cons]; omega

theorem held_nonneg {ss : List Slot} {z : Int} (h : Held ss z) : 0 ≤ z := by obtain ⟨i, _, rfl, _⟩ := h; omega

theorem Inv.share {ss : List Slot} {fr : List Nat} {ids L : List Int} {cs : List Ct} (h : Inv ss fr ((ids, L) :: cs)) (hg : Good (holdF ss ids) fr) : Inv (holdF ss ids) fr ((ids, L) :: (ids, L) :: cs) := by
  have hl0 := h.lies (ids, L) (by simp)
  have get := holdF_get ids (fun z hz => held_nonneg (hl0.held z hz)) ss
  have fr1 : ∀ d ∈ (ids, L) :: cs, Lies (holdF ss ids) d.1 d.2 := by
    intro d hd
    refine lies_frame (h.lies d hd) fun i s hi hs => ⟨⟨s.bytes, s.holds + ids.count (i : Int)⟩, by rw [get, hs]; rfl, rfl, ?_⟩
    have := h.held i (tot_mem _ _ ⟨d, hd, hi⟩) s hs
    simp; omega
  refine ⟨hg, fun d hd => ?_, fun i s hs => ?_⟩
  · rcases List.mem_cons.1 hd with rfl | hd
    · exact fr1 _ (by simp)
    · exact fr1 d hd
  · rw [get] at hs
    cases hq : ss[i]? with
    | none => rw [hq] at hs; cases hs
    | some t =>
      rw [hq] at hs
      simp at hs
      subst hs
      have := h.acc i t hq
      simp only [tot] at this ⊢
      omega

set_option maxRecDepth 100000 in
set_option maxHeartbeats 8000000 in
theorem share_ok {w : World} {p S F : Nat} {ss : List Slot} {fr : List Nat} (h : Ar w p S F ss fr) (a : Option Addr) (cap : Nat) (ids : List Int) (sz : Int) (hI : Hid (Ids w a ids)) (hl : ids.length ≤ 1048576) (hnil : Hid (a = none → cap = 0)) (hap : Hid (∀ b off, a = some ⟨b, off, none⟩ → b ≠ p ∧ b ≠ S ∧ b ≠ F))
    (hH : Hid (∀ z ∈ ids, Held ss z)) (hB : Hid (∀ s ∈ ss, s.holds + ids.length < 1073741824)) :
    Calls Try.prog 14 #[.pointer (some ⟨p, 0, none⟩), .agg #[.slice a ids.length cap, .int .i64 sz]] w fun e w' => ∃ a' c', e = .returned (.tuple #[.agg #[.slice a' ids.length c', .int .i64 sz], .int .i64 0]) ∧ Own w' w.heap.size (.slice a' ids.length c') ids ∧ Ar w' p S F (holdF ss ids) fr ∧ Keeps p S F w w' := by
  obtain ⟨hp, hS, hF⟩ := h.lt
  have qc : ∀ W, Ids W a ids → Calls Try.prog 17 #[.slice a ids.length cap] W fun e w' => ∃ a' c', e = .returned (.slice a' ids.length c') ∧ Own w' W.heap.size (.slice a' ids.length c') ids ∧ Below W.heap.size W w' := fun W h => (clone_w a cap ids W h hl hnil.out).mono fun e w' ⟨v, he, ho, hb⟩ => by obtain ⟨a', c', rfl, _⟩ := ho.form; exact ⟨a', c', he, ho, hb⟩
  have e0 : ((w.alloc (.cells #[.slice a ids.length cap, .int .i64 sz] 35)).alloc (.cells #[.slice none 0 0, .int .i64 0] 35)).heap[w.heap.size]? = some (.cells #[.slice a ids.length cap, .int .i64 sz] 35) := heap_alloc _ (heap_alloc_new w _)
  have e1 : ((w.alloc (.cells #[.slice a ids.length cap, .int .i64 sz] 35)).alloc (.cells #[.slice none 0 0, .int .i64 0] 35)).heap[w.heap.size + 1]? = some (.cells #[.slice none 0 0, .int .i64 0] 35) := heap_alloc2_new _ _ _
  have b0 : Below w.heap.size w ((w.alloc (.cells #[.slice a ids.length cap, .int .i64 sz] 35)).alloc (.cells #[.slice none 0 0, .int .i64 0] 35)) := ((Below.refl _ w).alloc (Nat.le_refl _) _).alloc (by simp) _
  have s0 : w.heap.size + 2 ≤ ((w.alloc (.cells #[.slice a ids.length cap, .int .i64 sz] 35)).alloc (.cells #[.slice none 0 0, .int .i64 0] 35)).heap.size := by simp
  go_enter Try.func14, Try.ntmps14
  go_wp2_with fail
  have A0 := h.grow b0
  generalize (w.alloc (.cells #[.slice a ids.length cap, .int .i64 sz] 35)).alloc (.cells #[.slice none 0 0, .int .i64 0] 35) = w1 at *
  have I1 := hI.out.grow b0
  have HE0 : Hid _ := e0
  have HE1 : Hid _ := e1
  have HI1 : Hid (Ids w1 a ids) := I1
  clear e0 e1 I1 h
  go_loopw [12] (fun x wr => ∃ k : Nat, k ≤ ids.length ∧ x = .int .i64 (k : Int) ∧ Ar wr p S F (holdF ss (ids.take k)) fr ∧ Keeps p S F w1 wr) (fun x _ => ids.length - (intOf x).toNat)
  case atStart => exact ⟨0, by omega, rfl, by simpa [holdF] using A0, Keeps.refl _ _ _ _⟩
  case round =>
    clear A0
    obtain ⟨k, hk, rfl, A, K⟩ := hrel
    have hIr : Ids wr a ids := HI1.out.moved fun b off e hb => K.block b hb (hap.out b off e).1 (hap.out b off e).2.1 (hap.out b off e).2.2
    by_cases hlt : k < ids.length
    · obtain ⟨i, s, hz, hs, hh⟩ := hH.out _ (List.getElem_mem hlt)
      have hzk : ids[k]? = some (i : Int) := by rw [List.getElem?_eq_getElem hlt, hz]
      have hst : ids.take (k + 1) = ids.take k ++ [(i : Int)] := by rw [List.take_succ_eq_append_getElem hlt, hz]
      have hnn : ∀ z ∈ ids.take k, 0 ≤ z := fun z hz => held_nonneg (hH.out z (List.mem_of_mem_take hz))
      have hget := holdF_get (ids.take k) hnn ss i
      rw [hs] at hget
      simp only [Option.map_some] at hget
      have hcnt : (ids.take k).count (i : Int) ≤ ids.length := Nat.le_trans List.count_le_length (by rw [List.length_take]; omega)
      have hbd := hB.out s (mem_of_some hs)
      have q := hold_yes A i _ hget (by simp; omega) (by simp; omega)
      have hnx : (holdF ss (ids.take k)).set i ⟨s.bytes, s.holds + (ids.take k).count (i : Int) + 1⟩ = holdF ss (ids.take (k + 1)) := by
        rw [hst, holdF_snoc]
        unfold hold1
        rw [Int.toNat_natCast, hget]
      simp only at q
      rw [hnx] at q
      obtain ⟨b, off, ha, hcell⟩ := hIr (by omega)
      have hck := hcell k _ hzk
      subst ha
      clear hget hnx hst hcell hIr hz hH HI1 hI A
      go_wp2_with fail
      refine q.mono ?_
      rintro e w3 ⟨rfl, A3, K3⟩
      clear q
      go_wp2
      go_roundw
      case rel => exact ⟨k + 1, by omega, by go_num, A3, K.trans K3⟩
      case measure => simp [intOf]; omega
    · obtain rfl : k = ids.length := by omega
      rw [List.take_length] at A
      have g0 := (K.block w.heap.size (lt_of_heap HE0.out) (by omega) (by omega) (by omega)).trans HE0.out
      have g1 := (K.block (w.heap.size + 1) (lt_of_heap HE1.out) (by omega) (by omega) (by omega)).trans HE1.out
      have k0 : wr.cell? ⟨w.heap.size, 0, none⟩ = some (.slice a ids.length cap) := by simp [World.cell?, g0]
      have k1 : wr.cell? ⟨w.heap.size, 1, none⟩ = some (.int .i64 sz) := by simp [World.cell?, g0]
      have q := qc wr.drew (hIr.moved fun _ _ _ _ => rfl)
      have HG0 : Hid _ := g0
      have HG1 : Hid _ := g1
      have HA : Hid _ := A
      have fin : ∀ w4, Below wr.drew.heap.size wr.drew w4 → w4.cell? ⟨w.heap.size, 1, none⟩ = some (.int .i64 sz) ∧ w4.cell? ⟨w.heap.size + 1, 0, none⟩ = some (.slice none 0 0) ∧ w4.cell? ⟨w.heap.size + 1, 1, none⟩ = some (.int .i64 0) ∧ w4.frozen? ⟨w.heap.size + 1, 0, none⟩ = false ∧ w4.frozen? ⟨w.heap.size + 1, 1, none⟩ = false := fun w4 hb => by
        have x0 : w4.heap[w.heap.size]? = _ := heap_below (w := wr.drew) hb HG0.out
        have x1 : w4.heap[w.heap.size + 1]? = _ := heap_below (w := wr.drew) hb HG1.out
        exact ⟨by simp [World.cell?, x0], by simp [World.cell?, x1], by simp [World.cell?, x1], by simp [World.frozen?, x1], by simp [World.frozen?, x1]⟩
      have HF : Hid _ := fin
      have hend : ∀ w4 a' c', Below wr.drew.heap.size wr.drew w4 → Own w4 wr.drew.heap.size (.slice a' ids.length c') ids →
          ((w4.setCell ⟨w.heap.size + 1, 0, none⟩ (.slice a' ids.length c')).setCell ⟨w.heap.size + 1, 1, none⟩ (.int .i64 sz)).heap[w.heap.size + 1]? = some (.cells #[.slice a' ids.length c', .int .i64 sz] 35 (0, 0)) ∧
          Own ((w4.setCell ⟨w.heap.size + 1, 0, none⟩ (.slice a' ids.length c')).setCell ⟨w.heap.size + 1, 1, none⟩ (.int .i64 sz)) w.heap.size (.slice a' ids.length c') ids ∧
          Ar ((w4.setCell ⟨w.heap.size + 1, 0, none⟩ (.slice a' ids.length c')).setCell ⟨w.heap.size + 1, 1, none⟩ (.int .i64 sz)) p S F (holdF ss ids) fr ∧
          Keeps p S F w ((w4.setCell ⟨w.heap.size + 1, 0, none⟩ (.slice a' ids.length c')).setCell ⟨w.heap.size + 1, 1, none⟩ (.int .i64 sz)) := fun w4 a' c' hb ho => by
        have x1 : w4.heap[w.heap.size + 1]? = _ := heap_below (w := wr.drew) hb HG1.out
        have e2 : ∀ k, k ≠ w.heap.size + 1 → ((w4.setCell ⟨w.heap.size + 1, 0, none⟩ (.slice a' ids.length c')).setCell ⟨w.heap.size + 1, 1, none⟩ (.int .i64 sz)).heap[k]? = w4.heap[k]? := fun k hk => by
          rw [Below.heap_setCell _ _ _ _ hk, Below.heap_setCell _ _ _ _ hk]
        have A4 : Ar w4 p S F (holdF ss ids) fr := (HA.out.drew).grow hb
        have K4 : Keeps p S F w w4 := ((Keeps.ofBelow b0).trans K).drew.trans (Keeps.ofBelow hb)
        refine ⟨?_, ?_, ?_, ?_⟩
        · rw [setCell_eq_setRow w4 _ 0 _ _ _ _ x1, setCell_eq_setRow _ _ 1 _ _ _ _ (setRow_heap _ _ _ _ _ _ x1), setRow_heap _ _ _ _ _ _ (setRow_heap _ _ _ _ _ _ x1)]; simp
        · exact (ho.base (by show w.heap.size ≤ wr.heap.size; have := K.size; omega)).moved fun g h1 h2 ht => e2 g (by rintro rfl; have := ht _ _ _ x1; cases this)
        · exact A4.moved (e2 p (by omega)) (e2 S (by omega)) (e2 F (by omega))
        · exact keeps_new (keeps_new K4 (by show w.heap.size ≤ w.heap.size + 1; omega) _) (by show w.heap.size ≤ w.heap.size + 1; omega) _
      have HEnd : Hid _ := hend
      clear hend
      clear fin g0 g1 A hIr qc
      go_wp2_with fail
      go_region_with (go_at_call 17; refine q.mono ?_; rintro e w4 ⟨a', c', rfl, ho, hb⟩; obtain ⟨j1, j2, j3, j4, j5⟩ := HF.out w4 hb)
      all_goals go_wp2
      all_goals (obtain ⟨z1, z2, z3, z4⟩ := HEnd.out _ _ _ hb ho; exact bodyPost_ret (by rw [results_cell_tmp rfl]; simp [asAddr, Act.put, run_loadVar_row _ _ _ 35 _ _ _ z1 Try.underlying35 rfl (by kernel_rfl)]) rfl ⟨a', c', rfl, z2, z3, z4⟩)

end Go.Proofs.Ytpjfhfbjdcgbjab
