import Derived.Test.YtojbfdlgjjghjaaDoorKK6
namespace Go.Proofs.YtojbfdlgjjghjaaDoor.K
open Go.RowKit
open Go.Lib hiding intOf
set_option linter.unusedVariables false
set_option linter.unusedSimpArgs false
set_option maxRecDepth 20000 in
set_option maxHeartbeats 4000000 in
theorem rdecode_in (s : ByteArray) (h : s.size ≤ 16384) (w : World) :
    Calls Tryd.prog 11 #[.string s] w fun e w' => RefOk e (decP s) ∧ Below w.heap.size w w' := by
  have hz := zeroR
  have q1 := fun W => rcut_w s (by omega) W
  have h3 : ¬ (16384 : Int) < s.size := by omega
  have si := sizeR Ak.zero []
  have sk := one_rc Ak.zero []
  have HS := hid (Rm.start w)
  have KT := hid (kTo_0 (cutW s))
  simp only [Ak.rc, Ak.zero, wdA] at hz si sk HS
  obtain ⟨PP, hPP⟩ : ∃ PP : Ending → World → Prop, PP = fun e w' => RefOk e (decP s) ∧ Below w.heap.size w w' := ⟨_, rfl⟩
  rw [← hPP]
  replace hPP := hid hPP
  have HD : Hid (decP s = if kindP (cutW s) = 0 then .inl 200 else endP (kindP (cutW s)) (goP (flds (kindP (cutW s))) ⟨kindP (cutW s), 0, 0, 0, ⟨#[]⟩⟩ (cutR s))) := by
    show decP s = _
    unfold decP
    rw [if_neg (by omega)]
    rfl
  have HSr : Hid ((cutR s).size ≤ 16384) := Nat.le_trans (cutR_size s) h
  generalize cutW s = t at *
  generalize cutR s = r at *
  go_enter Tryd.func11, Tryd.ntmps11
  go_upto_region 5 with (go_at_call 19; refine (q1 _).mono ?_; rintro e w1 ⟨rfl, hw1⟩)
  obtain ⟨hrm, hwx, hlt⟩ := HS.out w1 hw1
  clear hw1 HS q1
  go_upto_region 6 with fail
  have hg1 := hrm.box.lt
  generalize w1.heap.size = g at *
  generalize World.alloc _ _ = W2 at *
  clear hz si sk h3
  have HRM := hid hrm
  have HWX := hid hwx
  have HLT := hid hlt
  have HG := hid hg1
  clear hrm hwx hlt hg1
  go_upto_block 0 with fail
  go_cut [8] (fun t8 wx => Hid (Rm w wx g ⟨kindP t, 0, 0, 0, ⟨#[]⟩⟩ []))
  case first =>
    go_wp2_with fail
    go_loopw [8] (fun t8 wr => ∃ i : Nat, i ≤ 11 ∧ Hid (Rm w wr g ⟨kTo t i, 0, 0, 0, ⟨#[]⟩⟩ [] ∧ Wx wr (w.heap.size + 1)) ∧ t8 = .int .i64 i) (fun t8 _ => 11 - (intOf t8).toNat)
    case atStart =>
      refine ⟨0, by omega, ?_, rfl⟩
      rw [KT.out]
      exact ⟨HRM.out, HWX.out⟩
    case round =>
      obtain ⟨i, hi, hw, rfl⟩ := hrel
      by_cases c : i < 11
      · have hc := hw.out.2.cell i c
        have hB := (Array.getElem?_eq_some_iff.1 hw.out.2).1
        have y0 := hw.out.1.box.cell 0
        have f0 : wr.frozen? ⟨g, 0, none⟩ = false := by have := hw.out.1.box; unfold Rx at this; simp [World.frozen?, this]
        have hgl := hw.out.1.box.lt
        have cl : (i : Int) < 11 := by omega
        have hw1 : wrap64 ((i : Int) + 1) = i + 1 := by unfold wrap64; omega
        simp only [Ak.rc] at y0
        simp at y0
        by_cases e : wd (i + 1) = t
        · have hk := hid (kTo_hit t i c e)
          have hset := hid (hw.out.1.set (a' := ⟨(i : Int) + 1, 0, 0, 0, ⟨#[]⟩⟩) (ds' := []) 0 (.int .i64 ((i : Int) + 1)) rfl)
          have hx2 : Hid (Wx (wr.setCell ⟨g, 0, none⟩ (.int .i64 ((i : Int) + 1))) (w.heap.size + 1)) := by
            have hb := hw.out.1.box
            have h2 := hw.out.2
            have h3 := HLT.out
            unfold Rx at hb
            show Wx _ _
            rw [setCell_eq_setRow wr g 0 _ _ _ _ hb]
            exact (setRow_other _ _ _ _ (by omega)).trans h2
          rw [e] at hc
          clear e
          go_wp2
          refine ⟨⟨i + 1, by omega, ?_, by simp⟩, by simp [intOf]; omega⟩
          rw [hk.out]
          exact ⟨hset.out, hx2.out⟩
        · have hk := hid (kTo_miss t i c e)
          have e' := ne_list e
          clear e
          generalize wd (i + 1) = u at *
          go_wp2
          refine ⟨⟨i + 1, by omega, ?_, by simp⟩, by simp [intOf]; omega⟩
          rw [hk.out]
          exact hw.out
      · obtain rfl : i = 11 := by omega
        have hfin : Hid (Rm w wr g ⟨kindP t, 0, 0, 0, ⟨#[]⟩⟩ []) := by have := hw.out.1; rw [kTo_11] at this; exact this
        go_wp2
        go_meet
        case rel => exact hfin
  case rest =>
    clear KT HRM HWX
    rename_i K2 hK2
    have HK : Hid (∀ (a : Act) (w : World), Code.wp Tryd.prog ((Tryd.f11.body.bind (tailAt 11)).getD .skip) (bodyPost Tryd.prog Tryd.f11 PP) a w → K2 a w) := hK2
    clear hK2
    refine HK.out _ _ ?_
    exact tail11 (kindP t) (kindP_le t) w wc g r PP _ _ _ _ _ _ _ _ _ _ _ _ _ _ _ _ _ _ _ _ _ _ _ _ _ _ _ _ _ _ _ _ _ _ _ _ _ _ _ _ _ _ _ _ _ _ _ _ _ _ _ _ _ _ _ _ _ _ _ _ _ _ _ _ _ _ _ _ _ _ _ _ _ _ _ _ _ _ _ _ _ _ _ _ _ _ _ _ _ _ _ _ _ _ _ _ _ _ _ _ _ _ _ _ _ _ _ _ _ _ _ _ _ _ _ _ _ _ _ _ _ _ _ _ _ _ _ _ _ _ _ _ _ _ _ _ _ _ _ _ _ _ _ _ _ _ _ _ _ _ _ _ _ _ _ _ _ _ _ _ _ _ _ _ _ _ _ _ _ _ _ _ _ _ _ _ _ HSr (fun e W hr hb => by
      have e1 := hPP.out
      subst e1
      refine ⟨?_, hb⟩
      rw [HD.out]
      exact hr) hcut

/-- the document's Decode, whole -/
theorem rdecode_w (s : ByteArray) (h : s.size ≤ 20000) (w : World) :
    Calls Tryd.prog 11 #[.string s] w fun e w' => RefOk e (decP s) ∧ Below w.heap.size w w' := by
  by_cases c : 16384 < s.size
  · have e : decP s = .inl 2 := by unfold decP; rw [if_pos c]
    rw [e]
    exact rdecode_long s c (by omega) w
  · exact rdecode_in s (by omega) w
end Go.Proofs.YtojbfdlgjjghjaaDoor.K
