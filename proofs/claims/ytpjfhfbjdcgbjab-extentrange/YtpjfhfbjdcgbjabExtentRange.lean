/-
  The law ExtentRange returns true for every content, every place and every length; no condition.
-/
import Derived.Test.YtpjfhfbjdcgbjabRows
import Derived.Test.YtpjfhfbjdcgbjabReadGone
import Derived.Test.YtpjfhfbjdcgbjabWrap2
import Derived.Test.YtpjfhfbjdcgbjabInts
import Derived.BigQuiet
import Derived.Lib.SmallJoins
import Derived.ProofKit
import Derived.OpenShut
import Derived.ShutString
import Derived.ChangeOld
import Derived.Below
namespace Go.Proofs.Ytpjfhfbjdcgbjab.extentRange
open Go.Joins Go.ChangeShapes Go.WideShapes Go.ChangeAt Go.RowKit
set_option linter.unusedVariables false
set_option linter.unusedSimpArgs false


theorem can_ne (ss : List Slot) (fr : List Nat) (ids : List Int) (sz n : Nat) : (canCode ss fr ids sz n == 1) = false := by
  unfold canCode
  by_cases a : 1048576 < sz + n
  · rw [if_pos a]; rfl
  · rw [if_neg a]
    by_cases b : (fr.length : Int) < (need (sz + n) : Int) - (ids.length : Int) + (if isShared ss ids sz then 1 else 0)
    · rw [if_pos b]; rfl
    · rw [if_neg b]
      by_cases c : isOpen sz = true ∧ lastHolds ss ids = 0
      · rw [if_pos c]; rfl
      · rw [if_neg c]; rfl

theorem holds_none (z : Int) : holdsOf [] z = 0 := by unfold holdsOf; split <;> simp

theorem rowI_ids {w : World} {a : Option Addr} {len cap : Nat} {zs : List Int} (h : IsRow .i64 w a len cap zs) : Ids w a (zs.take len) := by
  intro h0
  obtain ⟨hs, hl, hc, _⟩ := rowI_src h
  obtain ⟨ad, rfl, h2⟩ := hs h0
  have hsp : ad.spot = none := by
    have h3 := h2 0 _ (by simp only [numCells, List.getElem?_map]; rw [List.getElem?_eq_getElem h0]; rfl)
    rw [show ad.add 0 = ad by simp [Addr.add]] at h3
    unfold World.cell? at h3
    cases hp : ad.spot with
    | none => rfl
    | some x =>
      rw [hp] at h3
      cases hh : w.heap[ad.block]? with
      | none => rw [hh] at h3; simp at h3
      | some o => rw [hh] at h3; cases o <;> simp at h3
  obtain ⟨b, off, sp⟩ := ad
  simp only at hsp
  subst hsp
  refine ⟨b, off, rfl, fun j z hz => ?_⟩
  have h3 := h2 j (.int .i64 z) (by simp only [numCells, List.getElem?_map, hz]; rfl)
  by_cases e : j = 0
  · subst e; simpa [Addr.add] using h3
  · simpa [Addr.add, e] using h3

set_option maxRecDepth 100000 in
set_option maxHeartbeats 4000000 in
theorem walk_unfit (a : Option Addr) (cap : Nat) (ids : List Int) (sz at_ n : Int) (w : World) (hl : ids.length ≤ 20) (hI : Hid (Ids w a ids)) (hnil : Hid (a = none → cap = 0)) (hz : -9223372036854775808 ≤ sz ∧ sz ≤ 9223372036854775807) (ha : -9223372036854775808 ≤ at_ ∧ at_ ≤ 9223372036854775807) (hn : -9223372036854775808 ≤ n ∧ n ≤ 9223372036854775807) (hf : Hid (fitB ids.length sz = false)) :
    Calls Try.prog 6 #[.agg #[.slice a ids.length cap, .int .i64 sz], .int .i64 at_, .int .i64 n] w fun e w' => e = .returned (.bool true) ∧ Below w.heap.size w w' := by
  have hl' : decide ((20 : Int) < (ids.length : Int)) = false := decide_eq_false (by omega)
  have hl2 : decide (20 < ids.length) = false := decide_eq_false (by omega)
  go_enter Try.func6, Try.ntmps6
  go_wp2_with fail
  refine (keeps_ok _).mono ?_
  rintro e w1 ⟨rfl, b1⟩
  have B1 := (Box.mk w (.slice a ids.length cap) sz).next b1
  clear b1
  have k0 := B1.c0
  go_wp2_with fail
  refine (new_yes 0 w1 (by decide)).mono ?_
  rintro e w2 ⟨p, S, F, rfl, A2, b2, gp, gS, gF⟩
  have B2 := B1.next b2
  have s1 := B1.size
  obtain ⟨lp, lS, lF⟩ := A2.lt
  clear k0 b2 B1
  have k0 : ∀ nq, (w2.drewN nq).cell? ⟨w.heap.size, 0, none⟩ = some (.slice a ids.length cap) := fun nq => B2.c0
  have k1 : ∀ nq, (w2.drewN nq).cell? ⟨w.heap.size, 1, none⟩ = some (.int .i64 sz) := fun nq => B2.c1
  have kk0 := B2.c0
  have kk1 := B2.c1
  by_cases c1 : 0 ≤ sz
  · by_cases c2 : sz ≤ 1048576
    · obtain ⟨k, rfl⟩ : ∃ k : Nat, sz = (k : Int) := ⟨sz.toNat, by omega⟩
      have hnw : ∀ W, Calls Try.prog 13 #[.int .i64 (k : Int)] W fun e w' => e = .returned (.int .i64 (need k : Int)) ∧ w' = W := fun W => (need_w k W (by omega)).mono fun _ _ h => ⟨h.1, h.2.symm⟩
      have hne : ((ids.length : Int) == (need k : Int)) = false := by
        have := hf.out
        simp [fitB] at this
        simp
        have h3 := this (by omega)
        omega
      have hne2 : ¬ ids.length = need k := by
        intro e
        rw [e] at hne
        simp at hne
      clear hne2
      go_wp2_with fail
      go_quiet ((go_at_call 13; exact Calls.quiet_of_same (hnw _)))
      clear hnw hne
      have B3 := B2.drewN nq
      have A3 : Ar (w2.drewN nq) p S F (blank 0) (down 0) := A2.moved rfl rfl rfl
      clear k0 k1 kk0 kk1 B2 A2
      generalize w2.drewN nq = w3 at *
      have k0 := B3.c0
      have k1 := B3.c1
      have q := append_err w3 (.pointer (some ⟨p, 0, none⟩)) a cap ids (k : Int) (hI.out.grow B3.below) (by omega) hnil.out none 0 0 1 (by decide) fun W _ => can_bad _ a ids.length cap (k : Int) 0 W hf.out
      go_wp2_with fail
      refine q.mono ?_
      rintro e w4 ⟨a4, c4, rfl, O4, b4⟩
      clear q k0 k1
      have B4 := B3.next b4
      have B5 := B4.next (below_box w4 (.cells #[.slice a4 ids.length c4, .int .i64 (k : Int)] 35))
      have m0 := B5.c0
      have m1 := B5.c1
      have q := extRead_range (.pointer (some ⟨p, 0, none⟩)) a ids.length cap (k : Int) at_ n (w4.alloc (.cells #[.slice a4 ids.length c4, .int .i64 (k : Int)] 35)) ha hn (.inl hf.out)
      have bb5 := B5.below
      clear A3 O4 B3 B4 B5 b4
      generalize hv5 : w4.alloc (.cells #[.slice a4 ids.length c4, .int .i64 (k : Int)] 35) = w5 at *
      go_wp2_with fail
      refine q.mono ?_
      rintro e w6 ⟨rfl, b6⟩
      clear q hv5 m0 m1
      have bb6 := bb5.trans (b6.mono bb5.size)
      go_wp2
      go_ret
      exact ⟨rfl, bb6⟩
    · have d2 : decide (sz ≤ 1048576) = false := by simp; omega
      clear c2
      go_wp2_with fail
      go_quiet (fail)
      have B3 := B2.drewN nq
      have A3 : Ar (w2.drewN nq) p S F (blank 0) (down 0) := A2.moved rfl rfl rfl
      clear k0 k1 kk0 kk1 B2 A2
      generalize w2.drewN nq = w3 at *
      have k0 := B3.c0
      have k1 := B3.c1
      have q := append_err w3 (.pointer (some ⟨p, 0, none⟩)) a cap ids sz (hI.out.grow B3.below) (by omega) hnil.out none 0 0 1 (by decide) fun W _ => can_bad _ a ids.length cap sz 0 W hf.out
      go_wp2_with fail
      refine q.mono ?_
      rintro e w4 ⟨a4, c4, rfl, O4, b4⟩
      clear q k0 k1
      have B4 := B3.next b4
      have B5 := B4.next (below_box w4 (.cells #[.slice a4 ids.length c4, .int .i64 sz] 35))
      have m0 := B5.c0
      have m1 := B5.c1
      have q := extRead_range (.pointer (some ⟨p, 0, none⟩)) a ids.length cap sz at_ n (w4.alloc (.cells #[.slice a4 ids.length c4, .int .i64 sz] 35)) ha hn (.inl hf.out)
      have bb5 := B5.below
      clear A3 O4 B3 B4 B5 b4
      generalize hv5 : w4.alloc (.cells #[.slice a4 ids.length c4, .int .i64 sz] 35) = w5 at *
      go_wp2_with fail
      refine q.mono ?_
      rintro e w6 ⟨rfl, b6⟩
      clear q hv5 m0 m1
      have bb6 := bb5.trans (b6.mono bb5.size)
      go_wp2
      go_ret
      exact ⟨rfl, bb6⟩
  · have d1 : decide (0 ≤ sz) = false := by simp; omega
    clear c1
    go_wp2_with fail
    go_quiet (fail)
    have B3 := B2.drewN nq
    have A3 : Ar (w2.drewN nq) p S F (blank 0) (down 0) := A2.moved rfl rfl rfl
    clear k0 k1 kk0 kk1 B2 A2
    generalize w2.drewN nq = w3 at *
    have k0 := B3.c0
    have k1 := B3.c1
    have q := append_err w3 (.pointer (some ⟨p, 0, none⟩)) a cap ids sz (hI.out.grow B3.below) (by omega) hnil.out none 0 0 1 (by decide) fun W _ => can_bad _ a ids.length cap sz 0 W hf.out
    go_wp2_with fail
    refine q.mono ?_
    rintro e w4 ⟨a4, c4, rfl, O4, b4⟩
    clear q k0 k1
    have B4 := B3.next b4
    have B5 := B4.next (below_box w4 (.cells #[.slice a4 ids.length c4, .int .i64 sz] 35))
    have m0 := B5.c0
    have m1 := B5.c1
    have q := extRead_range (.pointer (some ⟨p, 0, none⟩)) a ids.length cap sz at_ n (w4.alloc (.cells #[.slice a4 ids.length c4, .int .i64 sz] 35)) ha hn (.inl hf.out)
    have bb5 := B5.below
    clear A3 O4 B3 B4 B5 b4
    generalize hv5 : w4.alloc (.cells #[.slice a4 ids.length c4, .int .i64 sz] 35) = w5 at *
    go_wp2_with fail
    refine q.mono ?_
    rintro e w6 ⟨rfl, b6⟩
    clear q hv5 m0 m1
    have bb6 := bb5.trans (b6.mono bb5.size)
    go_wp2
    go_ret
    exact ⟨rfl, bb6⟩


set_option maxRecDepth 100000 in
set_option maxHeartbeats 4000000 in
theorem walk_fit (a : Option Addr) (cap : Nat) (ids : List Int) (k : Nat) (at_ n : Int) (w : World) (hl : ids.length ≤ 20) (hI : Hid (Ids w a ids)) (hnil : Hid (a = none → cap = 0)) (ha : -9223372036854775808 ≤ at_ ∧ at_ ≤ 9223372036854775807) (hn : -9223372036854775808 ≤ n ∧ n ≤ 9223372036854775807) (hk : k ≤ 1048576) (hf : Hid (ids.length = need k)) :
    Calls Try.prog 6 #[.agg #[.slice a ids.length cap, .int .i64 (k : Int)], .int .i64 at_, .int .i64 n] w fun e w' => e = .returned (.bool true) ∧ Below w.heap.size w w' := by
  have hl' : decide ((20 : Int) < (ids.length : Int)) = false := decide_eq_false (by omega)
  have hl2 : decide (20 < ids.length) = false := decide_eq_false (by omega)
  go_enter Try.func6, Try.ntmps6
  go_wp2_with fail
  refine (keeps_ok _).mono ?_
  rintro e w1 ⟨rfl, b1⟩
  have B1 := (Box.mk w (.slice a ids.length cap) (k : Int)).next b1
  clear b1
  have k0 := B1.c0
  go_wp2_with fail
  refine (new_yes 0 w1 (by decide)).mono ?_
  rintro e w2 ⟨p, S, F, rfl, A2, b2, gp, gS, gF⟩
  have B2 := B1.next b2
  have s1 := B1.size
  obtain ⟨lp, lS, lF⟩ := A2.lt
  clear k0 b2 B1
  have k0 : ∀ nq, (w2.drewN nq).cell? ⟨w.heap.size, 0, none⟩ = some (.slice a ids.length cap) := fun nq => B2.c0
  have k1 : ∀ nq, (w2.drewN nq).cell? ⟨w.heap.size, 1, none⟩ = some (.int .i64 (k : Int)) := fun nq => B2.c1
  have kk0 := B2.c0
  have kk1 := B2.c1
  have hnw : ∀ W, Calls Try.prog 13 #[.int .i64 (k : Int)] W fun e w' => e = .returned (.int .i64 (need k : Int)) ∧ w' = W := fun W => (need_w k W (by omega)).mono fun _ _ h => ⟨h.1, h.2.symm⟩
  rw [← hf.out] at hnw
  have c1 : decide (0 ≤ (k : Int)) = true := decide_eq_true (by omega)
  have c2 : decide ((k : Int) ≤ 1048576) = true := decide_eq_true (by omega)
  have c2n : decide (k ≤ 1048576) = true := decide_eq_true (by omega)
  have hfb : Hid (fitB ids.length (k : Int) = true) := by show _ = _; simp [fitB, hf.out]; omega
  go_wp2_with fail
  go_quiet ((go_at_call 13; exact Calls.quiet_of_same (hnw _)))
  clear hnw
  have B3 := B2.drewN nq
  have A3 : Ar (w2.drewN nq) p S F (blank 0) (down 0) := A2.moved rfl rfl rfl
  clear k0 k1 kk0 kk1 B2 A2
  generalize w2.drewN nq = w3 at *
  have k0 := B3.c0
  have k1 := B3.c1
  have qA : Calls Try.prog 12 #[.pointer (some ⟨p, 0, none⟩), .agg #[.slice a ids.length cap, .int .i64 (k : Int)], .slice none 0 0] w3 fun e w' => ∃ (a' : Option Addr) (n' c' : Nat) (z' code : Int) (fr' : List Nat), e = .returned (.tuple #[.agg #[.slice a' n' c', .int .i64 z'], .int .i64 code]) ∧ (code == 1) = false ∧ Ar w' p S F [] fr' ∧ Keeps p S F w3 w' := by
    have hI3 := hI.out.grow B3.below
    by_cases hc : canCode (blank 0) (down 0) ids k 0 = 0
    · refine (append_ok A3 a cap ids k hf.out hI3 hnil.out none [] 0 (by simp) (by omega) (fun h => by simp at h) (fun h => by simp at h) hc).mono ?_
      rintro e w' ⟨a', c', ss1, fr1, ids1, ss2, b2, ids3, ss3, fr3, h1, h2, h3, rfl, O, A, K⟩
      have hl3 := app_len h1 h2 h3
      have : ss3 = [] := List.eq_nil_of_length_eq_zero (by rw [hl3]; rfl)
      subst this
      exact ⟨a', _, c', _, 0, fr3, rfl, rfl, A, K⟩
    · refine (append_err w3 (.pointer (some ⟨p, 0, none⟩)) a cap ids (k : Int) hI3 (by omega) hnil.out none 0 0 _ hc fun W hb' => can_w (A3.grow hb') a cap ids k 0 hk hf.out (hI3.grow hb') (by omega)).mono ?_
      rintro e w' ⟨a', c', rfl, O, bw⟩
      refine ⟨a', _, c', _, _, down 0, rfl, ?_, A3.grow bw, Keeps.ofBelow bw⟩
      exact can_ne _ _ _ _ _
  go_wp2_with fail
  refine qA.mono ?_
  rintro e w4 ⟨a4, n4, c4, z4, code, fr4, rfl, hcode, A4, K4⟩
  clear qA k0 k1 A3
  have g0 : w4.cell? ⟨w.heap.size, 0, none⟩ = some (.slice a ids.length cap) := (World.cell?_of_block (K4.block _ (World.block_lt_of_cell? w3 _ B3.c0) (by show w.heap.size ≠ p; omega) (by show w.heap.size ≠ S; omega) (by show w.heap.size ≠ F; omega))).trans B3.c0
  have g1 : w4.cell? ⟨w.heap.size, 1, none⟩ = some (.int .i64 (k : Int)) := (World.cell?_of_block (K4.block _ (World.block_lt_of_cell? w3 _ B3.c1) (by show w.heap.size ≠ p; omega) (by show w.heap.size ≠ S; omega) (by show w.heap.size ≠ F; omega))).trans B3.c1
  have bb4 : Below w.heap.size w w4 := B3.below.trans (K4.below B3.below.size (by omega) (by omega) (by omega))
  have bx := below_box w4 (.cells #[.slice a4 n4 c4, .int .i64 z4] 35)
  have m0 := cell_below bx g0
  have m1 := cell_below bx g1
  have A5 := A4.grow bx
  have bb5 := bb4.trans (bx.mono bb4.size)
  clear g0 g1 A4 K4 B3 bb4 bx
  generalize hv5 : w4.alloc (.cells #[.slice a4 n4 c4, .int .i64 z4] 35) = w5 at *
  by_cases hr : at_ < 0 ∨ (k : Int) < at_ ∨ n < 0 ∨ (k : Int) - at_ < n
  · have q := extRead_range (.pointer (some ⟨p, 0, none⟩)) a ids.length cap (k : Int) at_ n w5 ha hn (.inr hr)
    go_wp2_with fail
    refine q.mono ?_
    rintro e w6 ⟨rfl, b6⟩
    clear q hv5
    have m1' := cell_below b6 m1
    clear m0 m1
    have bb6 := bb5.trans (b6.mono bb5.size)
    by_cases e1 : at_ < 0
    · go_wp2
      go_ret
      exact ⟨rfl, bb6⟩
    by_cases e2 : (k : Int) < at_
    · go_wp2
      go_ret
      exact ⟨rfl, bb6⟩
    by_cases e3 : n < 0
    · go_wp2
      go_ret
      exact ⟨rfl, bb6⟩
    have e4 : (k : Int) - at_ < n := by omega
    go_wp2
    go_ret
    exact ⟨rfl, bb6⟩
  · obtain ⟨i, rfl⟩ : ∃ i : Nat, at_ = (i : Int) := ⟨at_.toNat, by omega⟩
    obtain ⟨j, rfl⟩ : ∃ j : Nat, n = (j : Int) := ⟨n.toNat, by omega⟩
    have d1 : decide ((i : Int) < 0) = false := decide_eq_false (by omega)
    have d2 : decide ((k : Int) < (i : Int)) = false := decide_eq_false (by omega)
    have d2n : decide (k < i) = false := decide_eq_false (by omega)
    have d3 : decide ((j : Int) < 0) = false := decide_eq_false (by omega)
    have d4 : decide ((k : Int) - (i : Int) < (j : Int)) = false := decide_eq_false (by omega)
    by_cases hj : j = 0
    · subst hj
      have q := read_zero (.pointer (some ⟨p, 0, none⟩)) a ids.length cap k i w5 hfb.out (by omega)
      go_wp2_with fail
      refine q.mono ?_
      rintro e w6 ⟨g6, rfl, b6⟩
      clear q hv5
      have m1' := cell_below b6 m1
      clear m0 m1
      have bb6 := bb5.trans (b6.mono bb5.size)
      go_wp2
      go_ret
      exact ⟨by simp, bb6⟩
    · have q := read_gone A5 a cap k i j ids hfb.out (hI.out.grow bb5) (by omega) (by omega) holds_none
      have hjb : ((j : Int) == 0) = false := by simp; omega
      go_wp2_with fail
      refine q.mono ?_
      rintro e w6 ⟨rfl, b6⟩
      clear q hv5
      have m1' := cell_below b6 m1
      clear m0 m1
      have bb6 := bb5.trans (b6.mono bb5.size)
      go_wp2
      go_ret
      exact ⟨by simp [hjb], bb6⟩

theorem walk_long (a : Option Addr) (l cap : Nat) (sz at_ n : Int) (w : World) (h : 20 < l) (h1 : l ≤ 9223372036854775807) :
    Calls Try.prog 6 #[.agg #[.slice a l cap, .int .i64 sz], .int .i64 at_, .int .i64 n] w fun e w' => e = .returned (.bool true) ∧ Below w.heap.size w w' := by
  have h2 : (20 : Int) < (l : Int) := by omega
  go_enter Try.func6, Try.ntmps6
  go_wp2_with fail
  refine (keeps_ok _).mono ?_
  rintro e w1 ⟨rfl, b1⟩
  have B1 := (Box.mk w (.slice a l cap) sz).next b1
  clear b1
  have k0 := B1.c0
  have bb := B1.below
  clear B1
  go_wp2
  go_ret
  exact ⟨rfl, bb⟩

theorem walk (a : Option Addr) (l cap : Nat) (zs : List Int) (sz at_ n : Int) (w : World) (hr : IsRow .i64 w a l cap zs) (wz : (Lit.int .i64 sz).wf = true) (wa : (Lit.int .i64 at_).wf = true) (wn : (Lit.int .i64 n).wf = true) :
    Calls Try.prog 6 #[.agg #[.slice a l cap, .int .i64 sz], .int .i64 at_, .int .i64 n] w fun e w' => e = .returned (.bool true) ∧ Below w.heap.size w w' := by
  obtain ⟨_, hl, hcap, hmax, _, hnil⟩ := rowI_src hr
  have hI := rowI_ids hr
  by_cases c : 20 < l
  · exact walk_long a l cap sz at_ n w c (by omega)
  · cases hf : fitB l sz with
    | false =>
      have := walk_unfit a cap (zs.take l) sz at_ n w (by omega) hI (fun e => (hnil e).2) (bounds_i64 wz) (bounds_i64 wa) (bounds_i64 wn) (by show _ = _; rw [hl]; exact hf)
      rw [hl] at this
      exact this
    | true =>
      simp [fitB] at hf
      obtain ⟨k, rfl⟩ : ∃ k : Nat, sz = (k : Int) := ⟨sz.toNat, by omega⟩
      have := walk_fit a cap (zs.take l) k at_ n w (by omega) hI (fun e => (hnil e).2) (bounds_i64 wa) (bounds_i64 wn) (by omega) (by show _ = _; rw [hl]; simpa using hf.2.2)
      rw [hl] at this
      exact this

theorem own : ownKnob Try.prog.godebug = none := by kernel_rfl
theorem laidOut : laidOutB Try.prog = true := by kernel_rfl
set_option maxRecDepth 100000 in
theorem lifted (os : Os) (started : os.Started) (H : Type) (enc : TypeId × Value → H) :
    ReturnsInHanded {} Try.checked os 6 .any (Rows.extentRangeSpec.pre6 enc Try.prog Try.f6 Rows.extentRangeRow.domain false) (Rows.extentRangeSpec.post enc Try.prog Try.f6 false true false false) := by
  refine returnsInHanded_of_change (C := Try.checked) own started (by kernel_rfl) Try.func6
    (ChangeSpec.witness6 (enc := enc) (C := Try.checked) false ⟨#[], #[.agg #[.slice none 0 0, .int .i64 0], .int .i64 0, .int .i64 0], []⟩ 8 (by kernel_rfl) (by kernel_rfl) (by kernel_rfl) (by kernel_rfl)) ?_
  intro W base args ds gs before hval0 hW hcnd _
  have hval : ∀ (j : Nat) t v, Try.f6.params[j]? = some t → args[j]? = some v → Value.okWide Try.prog W .any base t v := hval0
  have hW' := hW
  obtain ⟨p, q, hA0, hV, rfl, hfz, hnd⟩ := hW
  have hA : DataW.TrodAll enc Try.prog W 0 (fun _ => true) true Try.f6.params.toList args.toList ds p := hA0
  rw [Try.params6] at hA hval
  obtain ⟨v0, vs0, d0, ds0, p0, q0, hargs, rfl, rfl, h0, r0⟩ := trodAll_cons hA
  obtain ⟨v1, vs1, d1, ds1, p1, q1, rfl, rfl, rfl, h1, r1⟩ := trodAll_cons r0
  obtain ⟨v2, vs2, d2, ds2, p2, q2, rfl, rfl, rfl, h2, r2⟩ := trodAll_cons r1
  obtain ⟨rfl, rfl, rfl⟩ := trodAll_nil r2
  obtain rfl : args = #[v0, v1, v2] := by cases args; simp_all
  obtain ⟨rfl, rfl⟩ := trodVars_none hV
  have k0 := h0
  have lt0 : ∀ x ∈ p0, x.block < W.heap.size := by obtain ⟨m, hm⟩ := k0; exact DataW.trod_lt m _ _ _ hm
  obtain ⟨c0, c1, y0, y1, mm, rfl, hd0, hp0, hy0, hy1⟩ := open_agg2 Try.underlying35 (by kernel_rfl) (by kernel_rfl) (hval 0 35 v0 rfl rfl) h0
  obtain ⟨sa, sl, sc, z0, rfl, w0⟩ : ∃ sa sl sc zs, c0 = .slice sa sl sc ∧ IsRow .i64 W sa sl sc zs := by
    rcases open_ints Try.underlying33 Try.underlying3 (by kernel_rfl) hy0 with ⟨hcs, _⟩ | ⟨x, l, c, zs, hcs, _, hl, hm, hz, _, hcell, hwz⟩
    · simp at hcs
      exact ⟨none, 0, 0, [], hcs, .inl ⟨rfl, rfl, rfl, rfl⟩⟩
    · simp at hcs
      exact ⟨some x, l, c, zs, hcs, .inr ⟨_, rfl, hl, hm, by simpa using hz, hcell, hwz⟩⟩
  obtain ⟨sz, rfl, wsz⟩ : ∃ sz, c1 = .int .i64 sz ∧ (Lit.int .i64 sz).wf = true := by
    obtain ⟨z, hz, _, hw⟩ := DataW.trod_int Try.underlying3 hy1
    simp at hz
    exact ⟨z, hz, hw⟩
  obtain ⟨a1, rfl, rfl, rfl, w1⟩ := open_int Try.underlying3 (hval 1 3 v1 rfl rfl) h1
  obtain ⟨a2, rfl, rfl, rfl, w2⟩ := open_int Try.underlying3 (hval 2 3 v2 rfl rfl) h2
  clear hA0 hval0
  refine (walk sa sl sc z0 sz a1 a2 W w0 wsz w1 w2).mono fun e W' ⟨he, bel⟩ => ?_
  subst he
  exact ⟨_, rfl, _, _, _, [], _, [], hW', trodAll_mk1 (shut_bool Try.underlying4 _), (trodAll_cons_mk (Below.trod laidOut (by kernel_rfl) (of_decide_eq_true (by kernel_rfl)) k0 bel lt0) (trodAll_cons_mk (shut_int Try.underlying3 w1) (trodAll_cons_mk (shut_int Try.underlying3 w2) trodAll_mk0))), rfl, bel.frame _, fun h => by cases h⟩

theorem over : Rows.extentRangeRow.holds Try.pinned (OpenSpec.ofChange Rows.extentRangeSpec) :=
  OpenClaim.holds_of_wide 6 Try.f6 rfl rfl rfl rfl rfl rfl rfl ⟨rfl, rfl, rfl, rfl, rfl⟩ rfl rfl rfl rfl rfl (by kernel_rfl) Try.func6 (by kernel_rfl)
    (of_decide_eq_true (by kernel_rfl)) (by unfold Func.isWrapper; first | (rw [if_pos (by decide +kernel)]; kernel_rfl) | (rw [if_neg (by decide +kernel)]; exact ⟨rfl, rfl⟩))
    (fun os started H enc _ => lifted os started H enc)

end Go.Proofs.Ytpjfhfbjdcgbjab.extentRange
namespace Go.Proofs.Ytpjfhfbjdcgbjab
theorem extentRange_holds : Rows.ExtentRangeSaid := extentRange.over
#print axioms extentRange_holds
end Go.Proofs.Ytpjfhfbjdcgbjab
