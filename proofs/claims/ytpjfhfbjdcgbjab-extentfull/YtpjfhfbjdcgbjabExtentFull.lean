/-
  The law ExtentFull returns true for every two numbers; no condition.
-/
import Derived.Test.YtpjfhfbjdcgbjabRows
import Derived.Test.YtpjfhfbjdcgbjabWrap2
import Derived.Deep.DeepCutAuto
import Derived.ProofKit
import Derived.OpenShut
import Derived.ShutString
import Derived.ChangeOld
import Derived.Below
namespace Go.Proofs.Ytpjfhfbjdcgbjab.extentFull
open Go.ChangeShapes Go.WideShapes Go.ChangeAt Go.RowKit
set_option linter.unusedVariables false
set_option linter.unusedSimpArgs false


theorem bel1 (w : World) (M : Obj) : Below w.heap.size w (w.alloc M).drew := (below_box w M).drew
theorem bel2 (w : World) (M Z : Obj) : Below w.heap.size w ((w.alloc M).alloc Z).drew := ((below_box w M).alloc (by rw [World.size_alloc]; omega) _).drew
theorem fA (w : World) (M : Obj) : (w.alloc M).drew.heap[w.heap.size]? = some M := heap_alloc_new w M
theorem fB (w : World) (M Z : Obj) : ((w.alloc M).alloc Z).drew.heap[w.heap.size]? = some M := heap_alloc Z (heap_alloc_new w M)
theorem fC (w : World) (M Z : Obj) : ((w.alloc Z).alloc M).drew.heap[w.heap.size + 1]? = some M := heap_alloc2_new w Z M
theorem fB2 {p S F : Nat} {w w6 : World} {M : Obj} {x y : Value} (hp : p < w.heap.size) (hS : S < w.heap.size) (hF : F < w.heap.size) (K : Keeps p S F ((w.alloc M).alloc (.cells #[x, y] 35)).drew w6) : w6.heap[w.heap.size + 1]? = some (.cells #[x, y] 35 (0, 0)) :=
  (K.block _ (by show w.heap.size + 1 < ((w.alloc M).alloc _).heap.size; rw [World.size_alloc, World.size_alloc]; omega) (by omega) (by omega) (by omega)).trans (heap_alloc2_new w M _)
theorem fC2 {p S F : Nat} {w w6 : World} {M : Obj} {x y : Value} (hp : p < w.heap.size) (hS : S < w.heap.size) (hF : F < w.heap.size) (K : Keeps p S F ((w.alloc (.cells #[x, y] 35)).alloc M).drew w6) : w6.heap[w.heap.size]? = some (.cells #[x, y] 35 (0, 0)) :=
  (K.block _ (by show w.heap.size < ((w.alloc _).alloc _).heap.size; rw [World.size_alloc, World.size_alloc]; omega) (by omega) (by omega) (by omega)).trans (heap_alloc _ (heap_alloc_new w _))

theorem endA {p S F : Nat} {w W w6 : World} {ss : List Slot} {fr : List Nat} {v z : Value} (hb : Below w.heap.size w W) (A : Ar w6 p S F ss fr) (K : Keeps p S F W w6) :
    (w6.alloc (.cells #[v, z] 35)).heap[w6.heap.size]? = some (.cells #[v, z] 35 (0, 0)) ∧ Ar (w6.alloc (.cells #[v, z] 35)) p S F ss fr ∧ Keeps p S F w (w6.alloc (.cells #[v, z] 35)) :=
  ⟨heap_alloc_new _ _, A.alloc _, ((Keeps.ofBelow hb).trans K).alloc _⟩
theorem endB {p S F g : Nat} {w W w6 : World} {ss : List Slot} {fr : List Nat} {v z x y : Value} (hp : p < w.heap.size) (hS : S < w.heap.size) (hF : F < w.heap.size) (hb : Below w.heap.size w W) (A : Ar w6 p S F ss fr) (K : Keeps p S F W w6) (hg : w.heap.size ≤ g) (h : w6.heap[g]? = some (.cells #[x, y] 35 (0, 0))) :
    ((w6.setCell ⟨g, 0, none⟩ v).setCell ⟨g, 1, none⟩ z).heap[g]? = some (.cells #[v, z] 35 (0, 0)) ∧ Ar ((w6.setCell ⟨g, 0, none⟩ v).setCell ⟨g, 1, none⟩ z) p S F ss fr ∧ Keeps p S F w ((w6.setCell ⟨g, 0, none⟩ v).setCell ⟨g, 1, none⟩ z) := by
  obtain ⟨y1, y2⟩ := two_set h v z
  exact ⟨y1, A.moved (y2 p (by omega)) (y2 S (by omega)) (y2 F (by omega)), keeps_new (keeps_new ((Keeps.ofBelow hb).trans K) hg _) hg _⟩

set_option maxRecDepth 100000 in
set_option maxHeartbeats 16000000 in
theorem walk_yes (n m : Nat) (w : World) (hn : n ≤ 20) (hm : m ≤ 64) :
    Calls Try.prog 5 #[.int .i64 (n : Int), .int .i64 (m : Int)] w fun e w' => e = .returned (.bool true) ∧ Below w.heap.size w w' := by
  have d1 : decide ((n : Int) < 0) = false := decide_eq_false (by omega)
  have d2 : decide ((20 : Int) < (n : Int)) = false := decide_eq_false (by omega)
  have d2n : decide (20 < n) = false := decide_eq_false (by omega)
  have d3 : decide ((m : Int) < 0) = false := decide_eq_false (by omega)
  have d4 : decide ((64 : Int) < (m : Int)) = false := decide_eq_false (by omega)
  have d4n : decide (64 < m) = false := decide_eq_false (by omega)
  have e64 : (64 : Int) * (n : Int) = ((64 * n : Nat) : Int) := by omega
  have hmk := make30 (64 * n) (by omega)
  rw [← e64] at hmk
  have hmk2 := make30 m (by omega)
  go_enter Try.func5, Try.ntmps5
  go_wp2_with fail
  refine (keeps_ok w).mono ?_
  rintro e w1 ⟨rfl, b1⟩
  go_wp2_with fail
  refine (new_yes n w1 (by omega)).mono ?_
  rintro e w2 ⟨p, S, F, rfl, A2, B2, gp, gS, gF⟩
  obtain ⟨lp, lS, lF⟩ := A2.lt
  have s1 := b1.size
  have b2 : Below w.heap.size w w2 := b1.trans (B2.mono s1)
  have s2 := b2.size
  have I2 : Inv (blank n) (down n) [] := blank_inv n _ A2.good
  have HE : Hid _ := e64
  clear e64
  go_wp2_with fail
  go_loopw [31] (fun x wr => ∃ (j : Nat) (ss : List Slot) (fr : List Nat), j ≤ 2 ∧ x = .int .i64 (j : Int) ∧ Ar wr p S F ss fr ∧ Inv ss fr [] ∧ Hid (ss.length = n) ∧ Below w.heap.size w wr ∧ w2.heap.size ≤ wr.heap.size) (fun x _ => 2 - (intOf x).toNat)
  case atStart => exact ⟨0, blank n, down n, by omega, rfl, A2, I2, by simp [blank, Hid], b2, Nat.le_refl _⟩
  case round =>
    clear A2 I2 b2
    obtain ⟨j, ss, fr, hj, rfl, A, I, hl, bb, sw⟩ := hrel
    by_cases hlt : j < 2
    · have hfl := I.empty
      have HFL : Hid (fr.length = n) := by show _ = _; rw [hfl, hl.out]
      clear hfl
      have hzl : (zeros (64 * n)).length = 64 * n := zeros_length _
      have hcan : canCode ss fr [] ([] : List Int).length (zeros (64 * n)).length = 0 := I.begin.can _ (by rw [hzl]; simp; omega) (by
        rw [if_neg (by simp [isShared, isOpen]), hzl, HFL.out]; simp [need]; omega)
      have q := app_inv2 (A.alloc (.cells (cellsOf (zeros (64 * n))).toArray 5)) I.begin none 0 0 (own_nil _ _) (some ⟨wr.heap.size, 0, none⟩) (zeros (64 * n)) (64 * n) (by omega) (by omega) (src_alloc wr _ 5) (fun _ ad e => by cases e; exact ⟨by show wr.heap.size ≠ p; omega, by show wr.heap.size ≠ S; omega, by show wr.heap.size ≠ F; omega⟩) hcan
      simp only [List.length_nil, List.nil_append, Int.natCast_zero] at q
      rw [hzl] at q
      have hmk1 := hmk wr
      clear hcan
      go_wp2_with fail
      refine q.mono ?_
      rintro e w3 ⟨a3, c3, ids3, ss3, fr3, rfl, O3, A3, K3, I3, f3, l3, _⟩
      clear q hmk1
      have HF3 : Hid (fr3.length = 0) := by
        show _ = _
        rw [if_neg (by simp [isShared, isOpen]), HFL.out] at f3
        simp [need] at f3
        omega
      have s3 := K3.size
      rw [World.size_alloc] at s3
      have bb3 : Below w.heap.size w w3 := (bb.alloc bb.size _).trans (K3.below (by rw [World.size_alloc]; omega) (by omega) (by omega) (by omega))
      -- the variable c
      have g7 := heap_alloc_new w3 (.cells #[.slice a3 ids3.length c3, .int .i64 ((64 * n : Nat) : Int)] 35)
      have bx := below_box w3 (.cells #[.slice a3 ids3.length c3, .int .i64 ((64 * n : Nat) : Int)] 35)
      have A4 := A3.grow bx
      have O4 := O3.grow bx
      have bb4 := bb3.trans (bx.mono bb3.size)
      have s4 : w3.heap.size + 1 ≤ (w3.alloc (.cells #[.slice a3 ids3.length c3, .int .i64 ((64 * n : Nat) : Int)] 35)).heap.size := by simp
      have q := free_w A4
      rw [HF3.out] at q
      clear f3 A I K3 A3 O3 bb3 bx bb
      go_wp2_with fail
      refine q.mono ?_
      rintro e w' ⟨rfl, rfl⟩
      clear q
      generalize w3.alloc (.cells #[.slice a3 ids3.length c3, .int .i64 ((64 * n : Nat) : Int)] 35) = w4 at *
      have hL64 : (zeros (64 * n)).length = 64 * n := hzl
      have hop : isOpen (64 * n) = false := by simp [isOpen]
      have qA : ∀ W gb, Below w4.heap.size w4 W → W.heap[gb]? = some (.cells (cellsOf (zeros m)).toArray 5 (0, 0)) → w4.heap.size ≤ gb → Calls Try.prog 12 #[.pointer (some ⟨p, 0, none⟩), .agg #[.slice a3 ids3.length c3, .int .i64 ((64 * n : Nat) : Int)], .slice (some ⟨gb, 0, none⟩) m m] W fun e w' => ∃ (a' : Option Addr) (c' : Nat), e = .returned (.tuple #[.agg #[.slice a' ids3.length c', .int .i64 ((64 * n : Nat) : Int)], .int .i64 (if m = 0 then 0 else 3)]) ∧ Ar w' p S F ss3 fr3 ∧ Keeps p S F W w' := by
        intro W gb hbW hgb hge
        have hsr : Src W (some ⟨gb, 0, none⟩) (zeros m) := src_row (zeros m) [] hgb
        by_cases c0 : m = 0
        · subst c0
          have hcan : canCode ss3 fr3 ids3 (zeros (64 * n)).length (zeros 0).length = 0 := I3.can _ (by rw [hL64]; simp [zeros]; omega) (by rw [hL64, if_neg (by simp [isShared, isOpen])]; simp [zeros])
          have q := app_inv2 (A4.grow hbW) I3 a3 c3 _ (O4.grow hbW) (some ⟨gb, 0, none⟩) (zeros 0) 0 (by simp [zeros]) (by omega) hsr (fun h0 => by simp [zeros] at h0) hcan
          rw [hL64, show (zeros 0).length = 0 from rfl] at q
          refine q.mono ?_
          rintro e w' ⟨a', c', ids', ss', fr', rfl, O, A, K, I, f, l, hsame⟩
          obtain ⟨rfl, rfl, rfl⟩ := hsame hop rfl
          refine ⟨a', c', ?_, A, K⟩
          rw [show zeros (64 * n) ++ zeros 0 = zeros (64 * n) by simp [zeros], hL64]
          rfl
        · have hful := I3.full m (by rw [hL64]; omega) (by rw [hL64, HF3.out, if_neg (by simp [isShared, isOpen])]; unfold need; omega)
          have q := app_err (A4.grow hbW) I3 (by rw [hL64]; omega) a3 c3 _ (O4.grow hbW) (some ⟨gb, 0, none⟩) m m (by omega) (by rw [hful]; decide)
          rw [hful, hL64] at q
          refine q.mono ?_
          rintro e w' ⟨a', c', rfl, O, bw⟩
          exact ⟨a', c', by rw [if_neg c0], (A4.grow hbW).grow bw, Keeps.ofBelow bw⟩
      have hcode : (0 : Int) ≤ (if m = 0 then 0 else 3) ∧ ((if m = 0 then 0 else 3 : Int) ≤ 3) := by split <;> omega
      have HC : Hid ((if m = 0 then 0 else 3 : Int) = if m = 0 then 0 else 3) := rfl
      generalize hcd : (if m = 0 then 0 else 3 : Int) = code at *
      have HCD : Hid _ := hcd
      clear hcd HC
      obtain ⟨k0, k1, k2, k3⟩ := two_cells g7
      have s4b := lt_of_heap g7
      have lp4 : p < w4.heap.size := by omega
      have lS4 : S < w4.heap.size := by omega
      have lF4 : F < w4.heap.size := by omega
      have HQ : Hid _ := qA
      have HG7 : Hid _ := g7
      clear qA g7
      go_upto_region 11 with fail
      go_cut [8, 9] (fun s8 s9 wx => s8 = .int .i64 code ∧ ∃ (g9 : Nat) (v : Value), s9 = .pointer (some ⟨g9, 0, none⟩) ∧ wx.heap[g9]? = some (.cells #[v, .int .i64 ((64 : Int) * (n : Int))] 35 (0, 0)) ∧ Ar wx p S F ss3 fr3 ∧ Keeps p S F w4 wx)
      case first =>
        go_region_with (go_at_call 12; refine (HQ.out _ _ (by first | exact bel2 _ _ _ | exact bel1 _ _) (by first | exact fA _ _ | exact fB _ _ _ | exact fC _ _ _) (by omega)).mono ?_; rintro e w6 ⟨a6, c6, rfl, A6, K6⟩; first | (have jj := fB2 lp4 lS4 lF4 K6; obtain ⟨m0, m1, m2, m3⟩ := two_cells jj) | (have jj := fC2 lp4 lS4 lF4 K6; obtain ⟨m0, m1, m2, m3⟩ := two_cells jj) | skip)
        all_goals go_wp2_with fail
        all_goals go_meet
        all_goals first | exact ⟨rfl, _, _, rfl, endA (bel1 w4 _) A6 K6⟩ | exact ⟨rfl, _, _, rfl, endB lp4 lS4 lF4 (bel2 w4 _ _) A6 K6 (by omega) jj⟩
      case rest =>
        obtain ⟨rfl, g9, v9, rfl, h9, A5, K5⟩ := hcut
        obtain ⟨x0, x1, x2, x3⟩ := two_cells h9
        have g7' := (K5.block _ s4b (by omega) (by omega) (by omega)).trans HG7.out
        obtain ⟨y0, y1, y2, y3⟩ := two_cells g7'
        have O5 := O4.keeps K5 (by rw [World.size_alloc]; omega) (by rw [World.size_alloc]; omega) (by rw [World.size_alloc]; omega)
        have bb5 : Below w.heap.size w wc := bb4.trans (K5.below bb4.size (by omega) (by omega) (by omega))
        have s5 := K5.size
        have q := drop_inv A5 I3 (by rw [hL64]; omega) a3 c3 _ O5 (by rw [World.size_alloc]; omega) (by rw [World.size_alloc]; omega) (by rw [World.size_alloc]; omega) ((64 * n : Nat) : Int)
        have hlen3 := (I3.lies (ids3, zeros (64 * n)) (by simp)).len
        simp only at hlen3
        rw [hL64] at hlen3
        have HLen : Hid (ids3.length = n) := by show _ = _; rw [hlen3]; unfold need; omega
        have hE64 : ((64 * n : Nat) : Int) = (64 : Int) * (n : Int) := by omega
        rw [hE64] at y1 q
        have dm : decide ((64 : Int) * (n : Int) = (64 : Int) * (n : Int)) = true := by simp
        have HO5 : Hid (Own wc ((wr.alloc (.cells (cellsOf (zeros (64 * n))).toArray 5)).heap.size) (.slice a3 ids3.length c3) ids3) := O5
        clear hlen3 hE64 k0 k1 k2 k3 HQ A4 O5 O4 I3 hL64 hzl bb4 A5 HF3
        have hcc : Hid ((code = 0 ∧ m = 0) ∨ (code = 3 ∧ 0 < m)) := by
          have := HCD.out
          show _ ∨ _
          by_cases c0 : m = 0
          · left; rw [if_pos c0] at this; exact ⟨this.symm, c0⟩
          · right; rw [if_neg c0] at this; exact ⟨this.symm, by omega⟩
        rcases hcc.out with ⟨hc0, hm0⟩ | ⟨hc0, hm0⟩
        · subst hc0
          have hmb : ((m : Int) == 0) = true := by simp [hm0]
          clear hm0 hcc HCD hcode
          go_wp2_with fail
          refine q.mono ?_
          rintro e w7 ⟨ss7, fr7, rfl, A7, K7, I7, l7, z7⟩
          clear q
          have HF7 : Hid (fr7.length = n) := by show _ = _; rw [I7.empty, l7, l3, hl.out]
          have HL7 : Hid (ss7.length = n) := by show _ = _; rw [l7, l3, hl.out]
          have bb7 : Below w.heap.size w w7 := bb5.trans (K7.below bb5.size (by omega) (by omega) (by omega))
          have s7 := K7.size
          have g77 := (K7.block _ (by have := lt_of_heap g7'; omega) (by omega) (by omega) (by omega)).trans g7'
          clear y0 y1 y2 y3
          obtain ⟨y0, y1, y2, y3⟩ := two_cells g77
          have O7 : Own w7 ((wr.alloc (.cells (cellsOf (zeros (64 * n))).toArray 5)).heap.size) (.slice a3 ids3.length c3) ids3 := HO5.out.keeps K7 (by rw [World.size_alloc]; omega) (by rw [World.size_alloc]; omega) (by rw [World.size_alloc]; omega)
          by_cases cn : n = 0
          · have hnp : decide ((0 : Int) < (n : Int)) = false := decide_eq_false (by omega)
            have hnp2 : decide (0 < n) = false := decide_eq_false (by omega)
            clear cn
            have q := free_w A7
            rw [HF7.out] at q
            clear O7 l7
            go_wp2_with fail
            refine q.mono ?_
            rintro e w' ⟨rfl, rfl⟩
            clear q
            go_wp2
            go_roundw
            case rel => exact ⟨j + 1, ss7, fr7, by omega, by go_num, A7, I7, HL7, bb7, by omega⟩
            case measure => simp [intOf]; omega
          · obtain ⟨l, hl1⟩ : ∃ l, n = l + 1 := ⟨n - 1, by omega⟩
            have hpos : 0 < ids3.length := by have := HLen.out; omega
            obtain ⟨b9, off9, ea, hcell⟩ := O7.use.2.1 hpos
            have hz0 := hcell 0 _ (List.getElem?_eq_getElem hpos)
            rw [Nat.add_zero] at hz0
            have q := drop_missing A7 b9 off9 c3 l ((64 * n : Nat) : Int) _ (by omega) hz0 (z7 _ (List.getElem_mem hpos) rfl)
            rw [← ea, ← hl1] at q
            have hnl : ids3.length = n := HLen.out
            rw [show ((64 * n : Nat) : Int) = (64 : Int) * (n : Int) by omega] at q
            rw [← hnl] at q
            have hnp : (0 : Int) < (n : Int) := by omega
            have HHN : Hid _ := hnl
            clear hnl hcell hz0 O7 ea hpos
            rw [HHN.out] at q
            clear hl1 l7
            have y0' : w7.cell? ⟨w3.heap.size, 0, none⟩ = some (.slice a3 n c3) := by rw [y0, HHN.out]
            clear y0
            go_wp2_with fail
            refine q.mono ?_
            rintro e w8 ⟨rfl, b8⟩
            clear q
            have A8 := A7.grow b8
            have q := free_w A8
            rw [HF7.out] at q
            have bb8 := bb7.trans (b8.mono bb7.size)
            have s8 := b8.size
            go_wp2_with fail
            refine q.mono ?_
            rintro e w' ⟨rfl, rfl⟩
            clear q
            go_wp2
            go_roundw
            case rel => exact ⟨j + 1, ss7, fr7, by omega, by go_num, A8, I7, HL7, bb8, by omega⟩
            case measure => simp [intOf]; omega
        · subst hc0
          have hmb : ((m : Int) == 0) = false := by simp; omega
          clear hm0 hcc HCD hcode
          go_wp2_with fail
          refine q.mono ?_
          rintro e w7 ⟨ss7, fr7, rfl, A7, K7, I7, l7, z7⟩
          clear q
          have HF7 : Hid (fr7.length = n) := by show _ = _; rw [I7.empty, l7, l3, hl.out]
          have HL7 : Hid (ss7.length = n) := by show _ = _; rw [l7, l3, hl.out]
          have bb7 : Below w.heap.size w w7 := bb5.trans (K7.below bb5.size (by omega) (by omega) (by omega))
          have s7 := K7.size
          have g77 := (K7.block _ (by have := lt_of_heap g7'; omega) (by omega) (by omega) (by omega)).trans g7'
          clear y0 y1 y2 y3
          obtain ⟨y0, y1, y2, y3⟩ := two_cells g77
          have O7 : Own w7 ((wr.alloc (.cells (cellsOf (zeros (64 * n))).toArray 5)).heap.size) (.slice a3 ids3.length c3) ids3 := HO5.out.keeps K7 (by rw [World.size_alloc]; omega) (by rw [World.size_alloc]; omega) (by rw [World.size_alloc]; omega)
          by_cases cn : n = 0
          · have hnp : decide ((0 : Int) < (n : Int)) = false := decide_eq_false (by omega)
            have hnp2 : decide (0 < n) = false := decide_eq_false (by omega)
            clear cn
            have q := free_w A7
            rw [HF7.out] at q
            clear O7 l7
            go_wp2_with fail
            refine q.mono ?_
            rintro e w' ⟨rfl, rfl⟩
            clear q
            go_wp2
            go_roundw
            case rel => exact ⟨j + 1, ss7, fr7, by omega, by go_num, A7, I7, HL7, bb7, by omega⟩
            case measure => simp [intOf]; omega
          · obtain ⟨l, hl1⟩ : ∃ l, n = l + 1 := ⟨n - 1, by omega⟩
            have hpos : 0 < ids3.length := by have := HLen.out; omega
            obtain ⟨b9, off9, ea, hcell⟩ := O7.use.2.1 hpos
            have hz0 := hcell 0 _ (List.getElem?_eq_getElem hpos)
            rw [Nat.add_zero] at hz0
            have q := drop_missing A7 b9 off9 c3 l ((64 * n : Nat) : Int) _ (by omega) hz0 (z7 _ (List.getElem_mem hpos) rfl)
            rw [← ea, ← hl1] at q
            have hnl : ids3.length = n := HLen.out
            rw [show ((64 * n : Nat) : Int) = (64 : Int) * (n : Int) by omega] at q
            rw [← hnl] at q
            have hnp : (0 : Int) < (n : Int) := by omega
            have HHN : Hid _ := hnl
            clear hnl hcell hz0 O7 ea hpos
            rw [HHN.out] at q
            clear hl1 l7
            have y0' : w7.cell? ⟨w3.heap.size, 0, none⟩ = some (.slice a3 n c3) := by rw [y0, HHN.out]
            clear y0
            go_wp2_with fail
            refine q.mono ?_
            rintro e w8 ⟨rfl, b8⟩
            clear q
            have A8 := A7.grow b8
            have q := free_w A8
            rw [HF7.out] at q
            have bb8 := bb7.trans (b8.mono bb7.size)
            have s8 := b8.size
            go_wp2_with fail
            refine q.mono ?_
            rintro e w' ⟨rfl, rfl⟩
            clear q
            go_wp2
            go_roundw
            case rel => exact ⟨j + 1, ss7, fr7, by omega, by go_num, A8, I7, HL7, bb8, by omega⟩
            case measure => simp [intOf]; omega
    · obtain rfl : j = 2 := by omega
      clear A I
      go_wp2
      go_ret
      exact ⟨rfl, bb⟩

theorem walk_no (a b : Int) (w : World) (wa : -9223372036854775808 ≤ a ∧ a ≤ 9223372036854775807) (wb : -9223372036854775808 ≤ b ∧ b ≤ 9223372036854775807) (h : a < 0 ∨ 20 < a ∨ b < 0 ∨ 64 < b) :
    Calls Try.prog 5 #[.int .i64 a, .int .i64 b] w fun e w' => e = .returned (.bool true) ∧ Below w.heap.size w w' := by
  by_cases c1 : a < 0
  · go_enter Try.func5, Try.ntmps5
    go_wp2_with (go_at_call 9; refine (keeps_ok _).mono ?_; rintro e w1 ⟨rfl, hb1⟩)
    go_ret
    exact ⟨rfl, hb1⟩
  by_cases c2 : 20 < a
  · go_enter Try.func5, Try.ntmps5
    go_wp2_with (go_at_call 9; refine (keeps_ok _).mono ?_; rintro e w1 ⟨rfl, hb1⟩)
    go_ret
    exact ⟨rfl, hb1⟩
  by_cases c3 : b < 0
  · go_enter Try.func5, Try.ntmps5
    go_wp2_with (go_at_call 9; refine (keeps_ok _).mono ?_; rintro e w1 ⟨rfl, hb1⟩)
    go_ret
    exact ⟨rfl, hb1⟩
  have c4 : 64 < b := by omega
  go_enter Try.func5, Try.ntmps5
  go_wp2_with (go_at_call 9; refine (keeps_ok _).mono ?_; rintro e w1 ⟨rfl, hb1⟩)
  go_ret
  exact ⟨rfl, hb1⟩

theorem walk (a b : Int) (w : World) (wa : (Lit.int .i64 a).wf = true) (wb : (Lit.int .i64 b).wf = true) :
    Calls Try.prog 5 #[.int .i64 a, .int .i64 b] w fun e w' => e = .returned (.bool true) ∧ Below w.heap.size w w' := by
  by_cases c : a < 0 ∨ 20 < a ∨ b < 0 ∨ 64 < b
  · exact walk_no a b w (bounds_i64 wa) (bounds_i64 wb) c
  · obtain ⟨i, rfl⟩ : ∃ i : Nat, a = (i : Int) := ⟨a.toNat, by omega⟩
    obtain ⟨j, rfl⟩ : ∃ j : Nat, b = (j : Int) := ⟨b.toNat, by omega⟩
    exact walk_yes i j w (by omega) (by omega)

theorem own : ownKnob Try.prog.godebug = none := by kernel_rfl
theorem laidOut : laidOutB Try.prog = true := by kernel_rfl
set_option maxRecDepth 100000 in
theorem lifted (os : Os) (started : os.Started) (H : Type) (enc : TypeId × Value → H) :
    ReturnsInHanded {} Try.checked os 5 .any (Rows.extentFullSpec.pre6 enc Try.prog Try.f5 Rows.extentFullRow.domain false) (Rows.extentFullSpec.post enc Try.prog Try.f5 false true false false) := by
  refine returnsInHanded_of_change (C := Try.checked) own started (by kernel_rfl) Try.func5
    (ChangeSpec.witness6 (enc := enc) (C := Try.checked) false ⟨#[], #[.int .i64 0, .int .i64 0], []⟩ 8 (by kernel_rfl) (by kernel_rfl) (by kernel_rfl) (by kernel_rfl)) ?_
  intro W base args ds gs before hval0 hW hcnd _
  have hval : ∀ (j : Nat) t v, Try.f5.params[j]? = some t → args[j]? = some v → Value.okWide Try.prog W .any base t v := hval0
  have hW' := hW
  obtain ⟨p, q, hA0, hV, rfl, hfz, hnd⟩ := hW
  have hA : DataW.TrodAll enc Try.prog W 0 (fun _ => true) true Try.f5.params.toList args.toList ds p := hA0
  rw [Try.params5] at hA hval
  obtain ⟨v0, vs0, d0, ds0, p0, q0, hargs, rfl, rfl, h0, r0⟩ := trodAll_cons hA
  obtain ⟨v1, vs1, d1, ds1, p1, q1, rfl, rfl, rfl, h1, r1⟩ := trodAll_cons r0
  obtain ⟨rfl, rfl, rfl⟩ := trodAll_nil r1
  obtain rfl : args = #[v0, v1] := by cases args; simp_all
  obtain ⟨rfl, rfl⟩ := trodVars_none hV
  obtain ⟨a0, rfl, rfl, rfl, w0⟩ := open_int Try.underlying3 (hval 0 3 v0 rfl rfl) h0
  obtain ⟨a1, rfl, rfl, rfl, w1⟩ := open_int Try.underlying3 (hval 1 3 v1 rfl rfl) h1
  clear hA0 hval0
  refine (walk a0 a1 W w0 w1).mono fun e W' ⟨he, bel⟩ => ?_
  subst he
  exact ⟨_, rfl, _, _, _, [], _, [], hW', trodAll_mk1 (shut_bool Try.underlying4 _), (trodAll_cons_mk (shut_int Try.underlying3 w0) (trodAll_cons_mk (shut_int Try.underlying3 w1) trodAll_mk0)), rfl, bel.frame _, fun h => by cases h⟩

theorem over : Rows.extentFullRow.holds Try.pinned (OpenSpec.ofChange Rows.extentFullSpec) :=
  OpenClaim.holds_of_wide 5 Try.f5 rfl rfl rfl rfl rfl rfl rfl ⟨rfl, rfl, rfl, rfl, rfl⟩ rfl rfl rfl rfl rfl (by kernel_rfl) Try.func5 (by kernel_rfl)
    (of_decide_eq_true (by kernel_rfl)) (by unfold Func.isWrapper; first | (rw [if_pos (by decide +kernel)]; kernel_rfl) | (rw [if_neg (by decide +kernel)]; exact ⟨rfl, rfl⟩))
    (fun os started H enc _ => lifted os started H enc)

end Go.Proofs.Ytpjfhfbjdcgbjab.extentFull
namespace Go.Proofs.Ytpjfhfbjdcgbjab
theorem extentFull_holds : Rows.ExtentFullSaid := extentFull.over
#print axioms extentFull_holds
end Go.Proofs.Ytpjfhfbjdcgbjab
