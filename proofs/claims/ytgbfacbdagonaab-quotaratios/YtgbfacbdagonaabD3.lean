/-
  Contract: pannierref15.times.
-/
import Derived.Test.YtgbfacbdagonaabD1
import Derived.Test.YtgbfacbdagonaabD2
import Derived.Laws.MakeOwn
import Derived.Laws.OwnMore
import Derived.Deep.RegionHeld3
import Derived.Deep.Cut
namespace Go.Proofs.Ytgbfacbdagonaab
open Go.RowKit
set_option linter.unusedVariables false
set_option linter.unusedSimpArgs false

/-- numbers in a block of one's own, all of it -/
def Ow (w0 w : World) (g : Nat) (out : List Nat) : Prop := w.ownsRow g 3 1 (.slice (some ⟨g, 0, none⟩) out.length out.length) out.length (numCells out) ∧ Below g w0 w ∧ g < w.heap.size

theorem Ow.cell {w0 w : World} {g : Nat} {out : List Nat} (h : Ow w0 w g out) {j : Nat} (hj : j < out.length) : w.cell? ⟨g, j, none⟩ = some (.int .i64 (gD out j : Int)) := by
  rw [h.1.cellAt j (by omega)]
  simp [numCells, gD_some hj]

theorem Ow.froz {w0 w : World} {g : Nat} {out : List Nat} (h : Ow w0 w g out) (j : Nat) : w.frozen? ⟨g, j, none⟩ = false := h.1.frozenAt j

theorem Ow.set {w0 w : World} {g : Nat} {out : List Nat} (h : Ow w0 w g out) (j x : Nat) : Ow w0 (w.setCell ⟨g, j, none⟩ (.int .i64 (x : Int))) g (out.set j x) := by
  have := (h.1.stored j (.int .i64 (x : Int)))
  refine ⟨?_, h.2.1.setCell (Nat.le_refl _) _, by simpa using h.2.2⟩
  have e := this.1
  rw [List.length_set]
  simpa [numCells, List.map_set] using e

theorem Ow.other {w0 w : World} {g : Nat} {out : List Nat} (h : Ow w0 w g out) {b j : Nat} {v : Value} (hb : b < g) (hc : w0.cell? ⟨b, j, none⟩ = some v) : w.cell? ⟨b, j, none⟩ = some v := by
  rw [h.2.1.cell (p := ⟨b, j, none⟩) hb]; exact hc

theorem made_zero (n : Nat) : (madeCells (Value.int .i64 0).cells (n * 1)).toList = numCells (List.replicate n 0) := by
  rw [Nat.mul_one]
  rw [show (Value.int .i64 0).cells = #[Value.int .i64 0] from rfl, toList_madeCells_one]
  simp [numCells]

theorem Ow.drew {w0 w : World} {g : Nat} {out : List Nat} (h : Ow w0 w g out) : Ow w0 w.drew g out := ⟨h.1, h.2.1.drew, h.2.2⟩

set_option maxHeartbeats 4000000 in
theorem times_w (xs ys : List Nat) (ada adb : Option Addr) (ca cb : Nat) (w : World) (ha : Ns w ada xs) (hb : Ns w adb ys) (la : xs.length ≤ 7) (lb : ys.length ≤ 7) (da : ∀ d ∈ xs, d < 1000) (db : ∀ d ∈ ys, d < 1000) :
    Calls Try.prog 17 #[.slice ada xs.length ca, .slice adb ys.length cb] w fun e w' => ∃ ad c R, e = .returned (.slice ad R.length c) ∧ Ns w' ad R ∧ Norm R ∧ val R = val xs * val ys ∧ Below w.heap.size w w' := by
  have hga : ∀ j, gD xs j < 1000 := fun j => by
    by_cases c : j < xs.length
    · rw [gD_lt c]; exact da _ (List.getElem_mem c)
    · rw [gD_ge (by omega)]; omega
  have hgb : ∀ j, gD ys j < 1000 := fun j => by
    by_cases c : j < ys.length
    · rw [gD_lt c]; exact db _ (List.getElem_mem c)
    · rw [gD_ge (by omega)]; omega
  have hV : val xs * val ys < 1000 ^ (xs.length + ys.length) := by
    rw [Nat.pow_add]
    exact Nat.mul_lt_mul'' (val_lt xs da) (val_lt ys db)
  obtain ⟨i0, hi0, hi1, hi2, hi3⟩ := i3
  obtain ⟨w1, hmk, hown, hgr⟩ := run_make_full (P := Try.prog) w w.heap.size 45 3 i0 (.int .i64 0) 1 Try.underlying45 hi0 hi3 hi1 .i64 .i64 (xs.length + ys.length + 1) (by rw [hi2]; omega) (by unfold maxLen; omega) (Nat.le_refl _)
  rw [made_zero] at hown
  have hb1 : Below w.heap.size w w1 := (Below.refl _ _).grown hgr (Nat.le_refl _) (fun k hk => by cases hk)
  have H1 : Ow w w1 w.heap.size (List.replicate (xs.length + ys.length + 1) 0) := by
    refine ⟨?_, hb1, ?_⟩
    · rw [List.length_replicate]; exact hown
    · rcases hown.2 with ⟨e1, _⟩ | ⟨g', cap', cur, e1, _, hg, _⟩
      · cases e1
      · cases e1; exact (Array.getElem?_eq_some_iff.1 hg).1
  have A1 := Acc.begin xs ys
  have hl1 : (List.replicate (xs.length + ys.length + 1) 0 : List Nat).length = xs.length + ys.length + 1 := by simp
  generalize (List.replicate (xs.length + ys.length + 1) 0 : List Nat) = out1 at *
  clear hown hgr hb1 hi0 hi1 hi2 hi3
  rw [show ((xs.length + ys.length + 1 : Nat) : Int) = (xs.length : Int) + (ys.length : Int) + 1 by omega] at hmk
  have ww1 : wrap64 ((xs.length : Int) + (ys.length : Int)) = (xs.length : Int) + (ys.length : Int) := by unfold wrap64; omega
  have ww2 : wrap64 ((xs.length : Int) + (ys.length : Int) + 1) = (xs.length : Int) + (ys.length : Int) + 1 := by unfold wrap64; omega
  go_enter Try.func17, Try.ntmps17
  go_wp2_with fail
  have HA : Hid (Ns w ada xs) := ha
  have HB : Hid (Ns w adb ys) := hb
  have HGA : Hid (∀ j, gD xs j < 1000) := hga
  have HGB : Hid (∀ j, gD ys j < 1000) := hgb
  have HV : Hid (val xs * val ys < 1000 ^ (xs.length + ys.length)) := hV
  have HLA : Hid (∃ n, xs.length = n) := ⟨_, rfl⟩
  clear ha hb hga hgb hV da db hmk ww1 ww2 hl1
  generalize hLA : xs.length = LA at *
  generalize hLB : ys.length = LB at *
  have HLA : Hid (xs.length = LA) := hLA
  have HLB : Hid (ys.length = LB) := hLB
  clear hLA hLB
  generalize hNN : LA + LB + 1 = N at *
  have HNN : Hid (LA + LB + 1 = N) := hNN
  clear hNN
  go_loopw [6] (fun x wr => ∃ (i : Nat) (out : List Nat), x = .int .i64 (i : Int) ∧ i ≤ LA ∧ Hid (Ow w wr w.heap.size out) ∧ Hid (Acc xs ys out i 0)) (fun x _ => LA - (intOf x).toNat)
  case atStart => exact ⟨0, out1, rfl, Nat.zero_le _, H1, A1⟩
  case round =>
    obtain ⟨i, out, rfl, hi, HO, HC⟩ := hrel
    by_cases hlt : i < LA
    · obtain ⟨ga, rfl, hga, hca⟩ := HA.out (by rw [HLA.out]; omega)
      have HX : Hid (∀ (j z : Nat), xs[j]? = some z → w.cell? ⟨ga, j, none⟩ = some (.int .i64 (z : Int))) := hca
      clear hca
      go_wp2_with fail
      go_loopw [7] (fun x wr2 => ∃ (k : Nat) (out : List Nat), x = .int .i64 (k : Int) ∧ k ≤ LB ∧ Hid (Ow w wr2 w.heap.size out) ∧ Hid (Acc xs ys out i k)) (fun x _ => LB - (intOf x).toNat)
      case atStart => exact ⟨0, out, rfl, Nat.zero_le _, HO, HC⟩
      case round =>
        obtain ⟨k, out2, rfl, hk, HO2, HC2⟩ := hrel
        by_cases hkt : k < LB
        · obtain ⟨gb, rfl, hgb, hcb⟩ := HB.out (by rw [HLB.out]; omega)
          have lo : out2.length = N := (by rw [HC2.out.len, HLA.out, HLB.out]; exact HNN.out)
          have hnn := HNN.out
          have c1 := HO2.out.cell (j := i + k) (by omega)
          have c2 := HO2.out.other hga (HX.out i _ (gD_some (by rw [HLA.out]; exact hlt)))
          have c3 := HO2.out.other hgb (hcb k _ (gD_some (by rw [HLB.out]; exact hkt)))
          have c4 := HO2.out.froz (i + k)
          have HN : Hid (Acc xs ys (out2.set (i + k) (gD out2 (i + k) + gD xs i * gD ys k)) i (k + 1)) := HC2.out.step (by rw [HLA.out]; exact hlt) (by rw [HLB.out]; exact hkt) (HGA.out i) (HGB.out k)
          have HW : Hid (Ow w _ w.heap.size (out2.set (i + k) (gD out2 (i + k) + gD xs i * gD ys k))) := HO2.out.set (i + k) _
          have t1 := HC2.out.top (i + k)
          have t2 : gD xs i * gD ys k ≤ 998001 := Nat.mul_le_mul (show gD xs i ≤ 999 by have := HGA.out i; omega) (show gD ys k ≤ 999 by have := HGB.out k; omega)
          have t3 : 998001 * (i * ys.length + k) ≤ 998001 * 60 := Nat.mul_le_mul_left _ (by have : i * ys.length ≤ 6 * 7 := Nat.mul_le_mul (by omega) (by rw [HLB.out]; omega); omega)
          have m1 : ((gD xs i : Int) * (gD ys k : Int)) = ((gD xs i * gD ys k : Nat) : Int) := by simp
          clear hcb lo HC2
          generalize gD xs i * gD ys k = P at *
          generalize gD out2 (i + k) = z at *
          have e1 : IntKind.i64.wrap ((gD xs i : Int) * (gD ys k : Int)) = (P : Int) := by rw [m1, IntKind.wrap_i64]; omega
          have e2 : IntKind.i64.wrap ((z : Int) + (P : Int)) = ((z + P : Nat) : Int) := by rw [IntKind.wrap_i64]; omega
          have e3 : IntKind.i64.wrap ((i : Int) + (k : Int)) = ((i + k : Nat) : Int) := by rw [IntKind.wrap_i64]; omega
          clear m1 t1 t2 t3
          generalize gD xs i = x at *
          generalize gD ys k = y at *
          generalize z + P = q at *
          have HSS : Hid (∃ t, t = i + k) := ⟨_, rfl⟩
          have hij : i + k < N := by omega
          clear hnn
          generalize i + k = t at *
          have hi1 : (0 : Int) ≤ (t : Int) := by omega
          have hi2 : (t : Int) < (N : Int) := by omega
          have hi3 : (i : Int) < (LA : Int) := by omega
          have hi4 : (k : Int) < (LB : Int) := by omega
          have hg0 : w.heap.size ≠ ga := by omega
          have hg1 : w.heap.size ≠ gb := by omega
          go_wp2_with fail
          go_region_with (fail)
          all_goals
            have wk : IntKind.i64.wrap ((k : Int) + 1) = (k : Int) + 1 := by rw [IntKind.wrap_i64]; omega
            have wk2 : wrap64 ((k : Int) + 1) = (k : Int) + 1 := by unfold wrap64; omega
            have HW2 : Hid (Ow w (wr.setCell ⟨w.heap.size, t, none⟩ (.int .i64 (q : Int))).drew w.heap.size (out2.set t q)) := HW.out.drew
            clear c1 c2 c3 c4 HW HO2 e1 e2 e3 hi1 hi2 hi3 hi4 hij HSS hg0 hg1
            generalize (wr.setCell ⟨w.heap.size, t, none⟩ (.int .i64 (q : Int))).drew = w6 at *
            go_wp2_with fail
            go_roundw
            case rel => exact ⟨k + 1, _, by simp, by omega, HW2, HN⟩
            case measure => simp [intOf]; omega
        · obtain rfl : k = LB := by omega
          have HC3 : Hid (Acc xs ys out2 (i + 1) 0) := (by have := HC2.out; rw [← HLB.out] at this; exact this.row (by rw [HLA.out]; exact hlt))
          have wk : IntKind.i64.wrap ((i : Int) + 1) = (i : Int) + 1 := by rw [IntKind.wrap_i64]; omega
          have wk2 : wrap64 ((i : Int) + 1) = (i : Int) + 1 := by unfold wrap64; omega
          go_wp2_with fail
          go_roundw
          case rel => exact ⟨i + 1, out2, by simp, by omega, HO2, HC3⟩
          case measure => simp [intOf]; omega
    · have hie : i = LA := by omega
      have hL := HC.out
      rw [hie, ← HLA.out] at hL
      obtain ⟨hL1, hL2⟩ := hL.last (by rw [HLA.out]; exact la) (by rw [HLB.out]; exact lb)
      have hlo : out.length = N := (by rw [HC.out.len, HLA.out, HLB.out]; exact HNN.out)
      have HCar : Hid (Car (val xs * val ys) N out 0) := (by have := Car.begin hL1 hL2; rwa [hlo] at this)
      have HV2 : Hid (∃ n, N = n + 1 ∧ val xs * val ys < 1000 ^ n) := ⟨LA + LB, HNN.out.symm, HV.out⟩
      have hN8 : N ≤ 15 := by have := HNN.out; omega
      have hN0 : 0 < N := by have := HNN.out; omega
      generalize hVV : val xs * val ys = V at *
      have HVV : Hid (V = val xs * val ys) := hVV.symm
      clear hVV
      clear HC hL hL1 hL2 hlo HV HNN HGA HGB HA HB A1 H1 hie
      go_wp2_with fail
      go_loopw [8] (fun x wr2 => ∃ (c : Nat) (o : List Nat), x = .int .i64 (c : Int) ∧ c < N ∧ Hid (Ow w wr2 w.heap.size o) ∧ Hid (Car V N o c)) (fun x _ => N - (intOf x).toNat)
      case atStart => exact ⟨0, out, rfl, hN0, HO, HCar⟩
      case round =>
        obtain ⟨c, o, rfl, hcN, HO2, HC2⟩ := hrel
        have wc : wrap64 ((c : Int) + 1) = ((c + 1 : Nat) : Int) := by unfold wrap64; omega
        have wc2 : IntKind.i64.wrap ((c : Int) + 1) = ((c + 1 : Nat) : Int) := by rw [IntKind.wrap_i64]; omega
        by_cases hc1 : c + 1 < N
        · have lo : o.length = N := HC2.out.len
          have HN : Hid (Car V N ((o.set (c + 1) (gD o (c + 1) + gD o c / 1000)).set c (gD o c % 1000)) (c + 1)) := HC2.out.step hc1
          have HW : Hid (Ow w (wr.setCell ⟨w.heap.size, c + 1, none⟩ (.int .i64 ((gD o (c + 1) + gD o c / 1000 : Nat) : Int))).drew w.heap.size (o.set (c + 1) (gD o (c + 1) + gD o c / 1000))) := (HO2.out.set (c + 1) _).drew
          have c1 := HO2.out.cell (j := c + 1) (by omega)
          have c2 := HO2.out.cell (j := c) (by omega)
          have c3 := HO2.out.froz (c + 1)
          have HP : Hid (gD (o.set (c + 1) (gD o (c + 1) + gD o c / 1000)) c = gD o c) := (by show _ = _; rw [gD_set (by omega), if_neg (by omega)])
          have t1 := HC2.out.at_
          have t2 := HC2.out.top (c + 1) (by omega)
          have hne : c + 1 ≠ c := by omega
          clear HC2
          generalize gD o (c + 1) = r at *
          generalize gD o c = p at *
          have q1 : Int.tdiv (p : Int) 1000 = ((p / 1000 : Nat) : Int) := by rw [Int.tdiv_eq_ediv_of_nonneg (by omega)]; omega
          have q2 : Int.tmod (p : Int) 1000 = ((p % 1000 : Nat) : Int) := by rw [Int.tmod_eq_emod_of_nonneg (by omega)]; omega
          have q3 : IntKind.i64.wrap ((r : Int) + ((p / 1000 : Nat) : Int)) = ((r + p / 1000 : Nat) : Int) := by rw [IntKind.wrap_i64]; omega
          have h1 : (0 : Int) ≤ ((c + 1 : Nat) : Int) := by omega
          have h2 : ((c + 1 : Nat) : Int) < (N : Int) := by omega
          have h3 : (c : Int) < (N : Int) := by omega
          have q4 : IntKind.i64.wrap ((p / 1000 : Nat) : Int) = ((p / 1000 : Nat) : Int) := by rw [IntKind.wrap_i64]; omega
          have q5 : IntKind.i64.wrap ((p % 1000 : Nat) : Int) = ((p % 1000 : Nat) : Int) := by rw [IntKind.wrap_i64]; omega
          have HSC : Hid (c + 1 = c + 1) := rfl
          clear t1 t2
          generalize p / 1000 = pd at *
          generalize p % 1000 = pm at *
          generalize r + pd = rr at *
          generalize hsc : c + 1 = s at *
          have HSC2 : Hid (c + 1 = s) := hsc
          clear hsc HSC
          go_wp2_with fail
          go_region_with (fail)
          all_goals
            have ho2 : o.set s rr = o.set s rr := rfl
            have d1 := HW.out.cell (j := c) (by rw [List.length_set, lo]; omega)
            rw [HP.out] at d1
            have d2 := HW.out.froz c
            have HW2 : Hid (Ow w ((wr.setCell ⟨w.heap.size, s, none⟩ (.int .i64 (rr : Int))).drew.setCell ⟨w.heap.size, c, none⟩ (.int .i64 (pm : Int))) w.heap.size ((o.set s rr).set c pm)) := HW.out.set c pm
            clear c1 c2 c3 HO2 HO HW HP ho2 lo
            generalize (wr.setCell ⟨w.heap.size, s, none⟩ (.int .i64 (rr : Int))).drew = w6 at *
            clear q1 q3 q4 h1 h2 hne
            go_wp2_with fail
            have hs1 := HSC2.out
            clear q2 q5 wc wc2 h3
            go_roundw
            case rel => exact ⟨s, _, by simp, by omega, HW2, HN⟩
            case measure => simp [intOf]; omega
        · obtain ⟨n0, hn0, hn1⟩ := HV2.out
          have hcn : c = n0 := by omega
          have hD := HC2.out
          rw [hcn, hn0] at hD
          have HD : Hid (∀ j, gD o j < 1000) := hD.done hn1
          have lo : o.length = N := HC2.out.len
          have HT : Hid (Trim V o N) := ⟨by rw [lo]; exact Nat.le_refl _, by rw [List.take_of_length_le (by omega)]; exact HC2.out.sm⟩
          clear HC2 hD hn0 hn1 hcn HV2 HO HCar
          go_wp2_with fail
          go_loopw [9] (fun x wr3 => ∃ (n : Nat), x = .int .i64 (n : Int) ∧ n ≤ N ∧ Hid (Ow w wr3 w.heap.size o) ∧ Hid (Trim V o n)) (fun x _ => (intOf x).toNat)
          case atStart => exact ⟨N, rfl, Nat.le_refl _, HO2, HT⟩
          case round =>
            obtain ⟨n, rfl, hn, HO3, HT3⟩ := hrel
            have fin : Hid ((n = 0 ∨ gD o (n - 1) ≠ 0) → ∃ ad cc R, Ending.returned (.slice (some ⟨w.heap.size, 0, none⟩) n N) = .returned (.slice ad R.length cc) ∧ Ns wr ad R ∧ Norm R ∧ val R = val xs * val ys ∧ Below w.heap.size w wr) := fun hq => by
              obtain ⟨nr, nl⟩ := HT3.out.norm HD.out hq
              refine ⟨some ⟨w.heap.size, 0, none⟩, N, o.take n, by rw [nl], fun _ => ⟨w.heap.size, rfl, HO3.out.2.2, fun j z hz => ?_⟩, nr, HT3.out.sm.trans HVV.out, HO3.out.2.1⟩
              rw [List.getElem?_take] at hz
              split at hz
              · have hj : j < o.length := (List.getElem?_eq_some_iff.1 hz).1
                rw [HO3.out.cell hj]
                unfold gD
                rw [hz]
                rfl
              · cases hz
            clear HO2 HT
            by_cases hn0 : n = 0
            · have HF : Hid _ := fin.out (.inl hn0)
              clear fin
              subst hn0
              go_wp2_with fail
              go_ret
              exact HF.out
            · obtain ⟨m, rfl⟩ : ∃ m, n = m + 1 := ⟨n - 1, by omega⟩
              have wm : wrap64 (((m + 1 : Nat) : Int) - 1) = (m : Int) := by unfold wrap64; omega
              have wm2 : IntKind.i64.wrap (((m + 1 : Nat) : Int) - 1) = (m : Int) := by rw [IntKind.wrap_i64]; omega
              have d1 := HO3.out.cell (j := m) (by omega)
              have h1 : (m : Int) < (N : Int) := by omega
              have hp : (0 : Int) < ((m + 1 : Nat) : Int) := by omega
              rw [Nat.add_sub_cancel] at fin
              have HT4 : Hid (gD o m = 0 → Trim V o m) := fun h => HT3.out.step h
              generalize hz : gD o m = z at *
              clear hz HT3
              by_cases hz0 : z = 0
              · subst hz0
                have HM : Hid (m ≤ N) := (by show _ ≤ _; omega)
                have HM2 : Hid (m < m + 1) := Nat.lt_succ_self m
                generalize m + 1 = s at *
                go_wp2_with fail
                go_roundw
                case rel => exact ⟨m, rfl, HM.out, HO3, HT4.out rfl⟩
                case measure => simp [intOf]; exact HM2.out
              · have hzi : (z : Int) ≠ 0 := by omega
                have HF : Hid _ := fin.out (.inr hz0)
                have hsN : ((m + 1 : Nat) : Int) ≤ (N : Int) := by omega
                clear fin hn0
                generalize m + 1 = s at *
                go_wp2_with fail
                go_ret
                exact HF.out

end Go.Proofs.Ytgbfacbdagonaab
