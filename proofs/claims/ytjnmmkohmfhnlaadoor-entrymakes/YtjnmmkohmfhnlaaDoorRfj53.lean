/-
  The document's Make at the type 53.
-/
import Derived.Test.YtjnmmkohmfhnlaaDoorRft
namespace Go.Proofs.YtjnmmkohmfhnlaaDoor
open Go.RowKit
set_option linter.unusedVariables false
set_option linter.unusedSimpArgs false

set_option maxRecDepth 100000 in
set_option maxHeartbeats 8000000 in
theorem rmake_53 (x : Hd) (a : Ah) (w : World) (hl : Lst w a.lv a.lK a.lV a.ln) (hg : Lst w a.gv a.gK a.gV a.gn) (n1 : a.ln ≤ 70) (n2 : a.gn ≤ 70) (fx : HdFit x) (hs : ∀ k, (a.val k).size ≤ 281474976710656) (hsz : (tx x a 0).size ≤ 9223372036854775807) (hty : x.typ = 53) :
    Calls Tryd.prog 11 #[.agg x.rcells, a.lv, a.gv, .string a.name, .string a.link] w fun ev w' => ((kd x.typ = 0 ∧ ev = .returned (.tuple #[.agg zeroE.cells, .int .i64 80])) ∨ (kd x.typ ≠ 0 ∧ badN x a ∧ ev = .returned (.tuple #[.agg zeroE.cells, .int .i64 70])) ∨ (kd x.typ ≠ 0 ∧ ¬ badN x a ∧ neg x a ∧ ev = .returned (.tuple #[.agg zeroE.cells, .int .i64 90])) ∨ (kd x.typ ≠ 0 ∧ ¬ badN x a ∧ ¬ neg x a ∧ ev = .returned (.tuple #[.agg (fullE x a).cells, .int .i64 0]))) ∧ Below w.heap.size w w' := by
  generalize hPP : (fun (ev : Ending) (w' : World) => ((kd x.typ = 0 ∧ ev = .returned (.tuple #[.agg zeroE.cells, .int .i64 80])) ∨ (kd x.typ ≠ 0 ∧ badN x a ∧ ev = .returned (.tuple #[.agg zeroE.cells, .int .i64 70])) ∨ (kd x.typ ≠ 0 ∧ ¬ badN x a ∧ neg x a ∧ ev = .returned (.tuple #[.agg zeroE.cells, .int .i64 90])) ∨ (kd x.typ ≠ 0 ∧ ¬ badN x a ∧ ¬ neg x a ∧ ev = .returned (.tuple #[.agg (fullE x a).cells, .int .i64 0]))) ∧ Below w.heap.size w w') = PP
  have HPP : Hid (∀ (ev : Ending) (w' : World), Below w.heap.size w w' → ((kd x.typ = 0 ∧ ev = .returned (.tuple #[.agg zeroE.cells, .int .i64 80])) ∨ (kd x.typ ≠ 0 ∧ badN x a ∧ ev = .returned (.tuple #[.agg zeroE.cells, .int .i64 70])) ∨ (kd x.typ ≠ 0 ∧ ¬ badN x a ∧ neg x a ∧ ev = .returned (.tuple #[.agg zeroE.cells, .int .i64 90])) ∨ (kd x.typ ≠ 0 ∧ ¬ badN x a ∧ ¬ neg x a ∧ ev = .returned (.tuple #[.agg (fullE x a).cells, .int .i64 0]))) → PP ev w') := fun ev w' b h => by rw [← hPP]; exact ⟨h, b⟩
  clear hPP
  have hM := mr_start w x
  have HV : Hid (∀ W e1, Mr w W e1 x → ∀ key, Calls Tryd.prog 22 #[a.lv, a.gv, .string key] W fun e w' => e = .returned (.string (a.val key)) ∧ W = w') := fun W e1 p key => rvalue_w a.lv a.gv a.lK a.lV a.gK a.gV a.ln a.gn key W (hl.below p.bel) (hg.below p.bel) n1 n2
  have HX : Hid (x.full = if emp x.prefx then x.name else x.prefx ++ ⟨#[47]⟩ ++ x.name) := rfl
  have HT0 : Hid (tx x a 0 = or3 (a.val ⟨#[112, 97, 116, 104]⟩) a.name x.full) := rfl
  have HT1 : Hid (tx x a 1 = or3 (a.val ⟨#[108, 105, 110, 107, 112, 97, 116, 104]⟩) a.link x.link) := rfl
  have HT2 : Hid (tx x a 2 = or3 (a.val ⟨#[117, 110, 97, 109, 101]⟩) ⟨#[]⟩ x.user) := rfl
  have HT3 : Hid (tx x a 3 = or3 (a.val ⟨#[103, 110, 97, 109, 101]⟩) ⟨#[]⟩ x.group) := rfl
  have HN0 : Hid (numV x a 0 = rnv (a.val ⟨#[115, 105, 122, 101]⟩) x.size) := rfl
  have HN1 : Hid (numV x a 1 = rnv (a.val ⟨#[117, 105, 100]⟩) x.uid) := rfl
  have HN2 : Hid (numV x a 2 = rnv (a.val ⟨#[103, 105, 100]⟩) x.gid) := rfl
  have HN3 : Hid (numV x a 3 = rnv (a.val ⟨#[109, 116, 105, 109, 101]⟩) x.mtime) := rfl
  have HBad : Hid (badN x a ↔ (numV x a 0 = none ∨ numV x a 1 = none ∨ numV x a 2 = none ∨ numV x a 3 = none)) := by
    constructor
    · rintro ⟨k, hk, h⟩
      match k, hk with
      | 0, _ => exact .inl h
      | 1, _ => exact .inr (.inl h)
      | 2, _ => exact .inr (.inr (.inl h))
      | 3, _ => exact .inr (.inr (.inr h))
    · rintro (h | h | h | h)
      · exact ⟨0, by omega, h⟩
      · exact ⟨1, by omega, h⟩
      · exact ⟨2, by omega, h⟩
      · exact ⟨3, by omega, h⟩
  have HFull : Hid (∀ K7, K7 = kindF ⟨tx x a 0, tx x a 1, kd x.typ, x.mode % 4096, (numV x a 1).getD 0, (numV x a 2).getD 0, (numV x a 3).getD 0, (numV x a 0).getD 0, tx x a 2, tx x a 3⟩ x.form → ¬ kd x.typ = 0 → fullE x a = ⟨tx x a 0, if K7 = 1 ∨ K7 = 4 then ⟨#[]⟩ else tx x a 1, K7, x.mode % 4096, (numV x a 1).getD 0, (numV x a 2).getD 0, (numV x a 3).getD 0, if K7 = 1 then (numV x a 0).getD 0 else 0, tx x a 2, tx x a 3⟩) := fun K7 h7 hk => by
    have hkr : kd x.typ = 1 ∨ kd x.typ = 2 ∨ kd x.typ = 3 ∨ kd x.typ = 4 := by
      unfold kd at hk ⊢
      repeat' split
      all_goals simp_all
    rw [fullE_eq, mode_and, settle_steps _ _ hkr _ rfl, ← h7]
    rfl
  have HNeg : Hid (neg x a ↔ ((fullE x a).size < 0 ∨ (fullE x a).uid < 0 ∨ (fullE x a).gid < 0)) := Iff.rfl
  have HKF : Hid (∀ T0 T1 M u g m s T2 T3, kindF ⟨T0, T1, kd x.typ, M, u, g, m, s, T2, T3⟩ x.form = if kd x.typ = 1 ∧ x.form = 0 ∧ slashB T0 = true then 4 else kd x.typ) := fun _ _ _ _ _ _ _ _ _ => rfl
  have hsp := fx.prefx
  have hsn := fx.name
  have hmo := fx.mode
  clear hl hg n1 n2 fx
  generalize badN x a = BN at *
  generalize neg x a = NG at *
  generalize fullE x a = FE at *
  generalize tx x a 0 = T0 at *
  generalize tx x a 1 = T1 at *
  generalize tx x a 2 = T2 at *
  generalize tx x a 3 = T3 at *
  generalize numV x a 0 = V0 at *
  generalize numV x a 1 = V1 at *
  generalize numV x a 2 = V2 at *
  generalize numV x a 3 = V3 at *
  generalize x.full = FU at *
  generalize hAV : a.val = AV at *
  generalize hMR : (fun W e1 => Mr w W e1 x) = MR
  have HM0 : Hid (MR (((w.alloc (.cells x.rcells 36)).alloc (.cells #[.string ⟨#[]⟩, .string ⟨#[]⟩, .int .i64 0, .int .i64 0, .int .i64 0, .int .i64 0, .int .i64 0, .int .i64 0, .string ⟨#[]⟩, .string ⟨#[]⟩] 29)).alloc (.cells #[.string ⟨#[]⟩, .string ⟨#[]⟩, .int .i64 0, .int .i64 0, .int .i64 0, .int .i64 0, .int .i64 0, .int .i64 0, .string ⟨#[]⟩, .string ⟨#[]⟩] 29)) zeroE) := by subst hMR; exact hM
  have HD : Hid (∀ W e1, MR W e1 → MR W.drew e1) := fun W e1 p => by subst hMR; exact p.drew
  have HP : Hid (∀ W e1, MR W e1 → ∀ m v e2, e1.cells.setIfInBounds m v = e2.cells → MR (W.setCell ⟨w.heap.size + 2, m, none⟩ v) e2) := fun W e1 p m v e2 h => by subst hMR; exact p.put m v h
  have HB : Hid (∀ W e1, MR W e1 → ∀ m, W.cell? ⟨w.heap.size, m, none⟩ = x.rcells[m]?) := fun W e1 p m => by subst hMR; exact p.bc m
  have HR : Hid (∀ W e1, MR W e1 → (∀ m, W.cell? ⟨w.heap.size + 1, m, none⟩ = zeroE.cells[m]?) ∧ (∀ m, W.frozen? ⟨w.heap.size + 1, m, none⟩ = false) ∧ Below w.heap.size w W ∧ W.heap[w.heap.size + 1]? = some (.cells zeroE.cells 29 (0, 0))) := fun W e1 p => by subst hMR; exact ⟨p.rc, p.rf, p.bel, p.res⟩
  have HE : Hid (∀ W e1, MR W e1 → EntAt W (w.heap.size + 2) e1) := fun W e1 p => by subst hMR; exact p.ent
  replace HV : Hid (∀ W e1, MR W e1 → ∀ key, Calls Tryd.prog 22 #[a.lv, a.gv, .string key] W fun e w' => e = .returned (.string (AV key)) ∧ W = w') := by subst hMR; exact HV
  clear hMR hAV hM
  obtain ⟨form, name, link, prefx, user, group, typ, mode, uid, gid, size, mtime⟩ := x
  obtain ⟨gv, lv, gK, gV, gn, lK, lV, ln, aname, alink⟩ := a
  simp only [Hd.rcells] at HM0 HB HV HX HT0 HT1 HT2 HT3 HN0 HN1 HN2 HN3 HFull HKF HPP hsp hsn hmo ⊢
  change typ = 53 at hty
  subst hty
  generalize hKD : kd 53 = KD at *
  have HKD : Hid (kd 53 = KD) := hKD
  clear hKD
  go_enter Tryd.func11, Tryd.ntmps11
  go_upto_region 1 with fail
  go_cut [12] (fun s12 wx => s12 = .pointer (some ⟨w.heap.size + 2, 0, none⟩) ∧ Hid (MR wx zeroE))
  case first =>
    go_wp2_with fail
    go_meet
    exact ⟨rfl, HM0⟩
  case rest =>
    obtain ⟨rfl, HM1⟩ := hcut
    clear HM0
    rename_i KK hgo
    refine hgo _ _ ?_
    clear hgo
    refine wp_seq_k (fun K2 hK2 => ?_)
    have bt : wc.cell? ⟨w.heap.size, 1, none⟩ = some (.int .u8 53) := HB.out _ _ HM1.out 1
    have e2 := (HE.out _ _ HM1.out).c 2
    have f2 := (HE.out _ _ HM1.out).frozen 2
    simp only [zeroE, En.cells, List.getElem?_toArray, List.getElem?_cons_zero, List.getElem?_cons_succ] at e2
    go_cut [] (fun wx => Hid (MR wx (setK zeroE KD)) ∧ Hid (¬ KD = 0))
    case first =>
      clear hK2
      have hput : ∀ k : Int, kd 53 = k → Hid (MR (wc.setCell ⟨w.heap.size + 2, 2, none⟩ (.int .i64 k)) (setK zeroE KD)) := fun k hk => HP.out _ _ HM1.out 2 _ _ (by rw [← HKD.out, hk]; rfl)
      have HPut : Hid _ := hput
      clear hput
      go_wp2_with fail
      go_meet
      exact ⟨HPut.out 4 (by decide), by have h := HKD.out; intro h2; rw [h2] at h; revert h; decide⟩
    case rest =>
      obtain ⟨HM2, HKn⟩ := hcut
      clear HM1 bt e2 f2
      refine hK2 _ _ ?_
      clear hK2
      go_upto_region 14 with fail
      have bn : wc.cell? ⟨w.heap.size, 2, none⟩ = some (.string name) := HB.out _ _ HM2.out 2
      go_cut [13] (fun s13 wx => s13 = .string name ∧ Hid (MR wx (setK zeroE KD)))
      case first =>
        go_wp2_with fail
        go_meet
        exact ⟨rfl, HM2⟩
      case rest =>
        obtain ⟨rfl, HM3⟩ := hcut
        clear HM2 bn
        rename_i K3 h3
        refine h3 _ _ ?_
        clear h3
        refine wp_seq_k (fun K4 h4 => ?_)
        have bp : wc.cell? ⟨w.heap.size, 4, none⟩ = some (.string prefx) := HB.out _ _ HM3.out 4
        go_cut [13] (fun s13 wx => s13 = .string FU ∧ Hid (MR wx (setK zeroE KD)))
        case first =>
          clear h4
          have HX2 := HX.out
          cases hep : emp prefx with
          | true =>
            rw [hep] at HX2
            have HX3 : Hid (FU = name) := HX2
            unfold emp at hep
            clear HX2
            go_wp2_with fail
            go_meet
            exact ⟨by rw [HX3.out], HM3⟩
          | false =>
            rw [hep] at HX2
            have HX3 : Hid (FU = prefx ++ ⟨#[47]⟩ ++ name) := HX2
            unfold emp at hep
            have q3 : (prefx ++ ⟨#[47]⟩ : ByteArray).size = prefx.size + 1 := by rw [ByteArray.size_append]; rfl
            have q4 : (prefx ++ ⟨#[47]⟩ ++ name : ByteArray).size = prefx.size + 1 + name.size := by rw [ByteArray.size_append, ByteArray.size_append]; rfl
            clear HX2
            go_wp2_with fail
            go_meet
            exact ⟨by rw [HX3.out], HM3⟩
        case rest =>
          obtain ⟨rfl, HM4⟩ := hcut
          clear HM3 bp HX
          refine h4 _ _ ?_
          clear h4
          have q0 := HV.out _ _ HM4.out ⟨#[112, 97, 116, 104]⟩
          have q0t := fun W => text_w (AV ⟨#[112, 97, 116, 104]⟩) aname FU W
          rw [← HT0.out] at q0t
          have e0 := (HE.out _ _ HM4.out).c 0
          have f0 := (HE.out _ _ HM4.out).frozen 0
          replace e0 : wc.cell? ⟨w.heap.size + 2, 0, none⟩ = some (.string ⟨#[]⟩) := e0
          go_upto_region 18 with (first | (go_at_call 22; refine q0.mono ?_; rintro e w5 ⟨rfl, rfl⟩) | (go_at_call 21; refine (q0t _).mono ?_; rintro e w5 ⟨rfl, rfl⟩))
          have HM5 : Hid (MR (wc.setCell ⟨w.heap.size + 2, 0, none⟩ (.string T0)) (setT (setK zeroE KD) T0 0)) := HP.out _ _ HM4.out 0 _ _ rfl
          clear q0 q0t e0 f0 HM4 HT0
          generalize World.setCell _ _ _ = w5 at *
          have HM5d : Hid (MR w5.drew (setT (setK zeroE KD) T0 0)) := HD.out _ _ HM5.out
          have bk : w5.cell? ⟨w.heap.size, 3, none⟩ = some (.string link) := HB.out _ _ HM5.out 3
          have q1 := HV.out _ _ HM5d.out ⟨#[108, 105, 110, 107, 112, 97, 116, 104]⟩
          have q1t := fun W => text_w (AV ⟨#[108, 105, 110, 107, 112, 97, 116, 104]⟩) alink link W
          rw [← HT1.out] at q1t
          have eE : w5.drew.cell? ⟨w.heap.size + 2, 1, none⟩ = some (.string ⟨#[]⟩) := (HE.out _ _ HM5d.out).c 1
          have fE : w5.drew.frozen? ⟨w.heap.size + 2, 1, none⟩ = false := (HE.out _ _ HM5d.out).frozen 1
          go_region_held3 (fun W => W.cell? ⟨w.heap.size, 3, none⟩ = some (.string link)) (first | assumption | exact keptN bk | go_keep) (first | (go_at_call 22; refine q1.mono ?_; rintro e w8 ⟨rfl, hw8⟩; subst hw8) | (go_at_call 21; refine (q1t _).mono ?_; rintro e w8 ⟨rfl, hw8⟩; subst hw8))
          rename_i hHeld
          clear hHeld
          have HM6 : Hid (MR (w5.setCell ⟨w.heap.size + 2, 1, none⟩ (.string T1)).drew (setT (setT (setK zeroE KD) T0 0) T1 1)) := HD.out _ _ (HP.out _ _ HM5.out 1 _ _ rfl)
          clear q1 q1t eE fE HM5 HM5d HT1 bk
          generalize World.drew _ = w6 at *
          go_upto_region 19 with fail
          have HMd : Hid (MR w6.drew (setT (setT (setK zeroE KD) T0 0) T1 1)) := HD.out _ _ HM6.out
          have bk : w6.cell? ⟨w.heap.size, 5, none⟩ = some (.string user) := HB.out _ _ HM6.out 5
          have q1 := HV.out _ _ HMd.out ⟨#[117, 110, 97, 109, 101]⟩
          have q1t := fun W => text_w (AV ⟨#[117, 110, 97, 109, 101]⟩) ⟨#[]⟩ user W
          rw [← HT2.out] at q1t
          have eE : w6.drew.cell? ⟨w.heap.size + 2, 8, none⟩ = some (.string ⟨#[]⟩) := (HE.out _ _ HMd.out).c 8
          have fE : w6.drew.frozen? ⟨w.heap.size + 2, 8, none⟩ = false := (HE.out _ _ HMd.out).frozen 8
          go_region_held3 (fun W => W.cell? ⟨w.heap.size, 5, none⟩ = some (.string user)) (first | assumption | exact keptN bk | go_keep) (first | (go_at_call 22; refine q1.mono ?_; rintro e w18 ⟨rfl, hw8⟩; subst hw8) | (go_at_call 21; refine (q1t _).mono ?_; rintro e w18 ⟨rfl, hw8⟩; subst hw8))
          rename_i hHeld
          clear hHeld
          have HM7 : Hid (MR (w6.setCell ⟨w.heap.size + 2, 8, none⟩ (.string T2)).drew (setT (setT (setT (setK zeroE KD) T0 0) T1 1) T2 2)) := HD.out _ _ (HP.out _ _ HM6.out 8 _ _ rfl)
          clear q1 q1t eE fE HM6 HMd HT2 bk
          generalize World.drew _ = w7 at *
          go_upto_region 20 with fail
          have HMd : Hid (MR w7.drew (setT (setT (setT (setK zeroE KD) T0 0) T1 1) T2 2)) := HD.out _ _ HM7.out
          have bk : w7.cell? ⟨w.heap.size, 6, none⟩ = some (.string group) := HB.out _ _ HM7.out 6
          have q1 := HV.out _ _ HMd.out ⟨#[103, 110, 97, 109, 101]⟩
          have q1t := fun W => text_w (AV ⟨#[103, 110, 97, 109, 101]⟩) ⟨#[]⟩ group W
          rw [← HT3.out] at q1t
          have eE : w7.drew.cell? ⟨w.heap.size + 2, 9, none⟩ = some (.string ⟨#[]⟩) := (HE.out _ _ HMd.out).c 9
          have fE : w7.drew.frozen? ⟨w.heap.size + 2, 9, none⟩ = false := (HE.out _ _ HMd.out).frozen 9
          go_region_held3 (fun W => W.cell? ⟨w.heap.size, 6, none⟩ = some (.string group)) (first | assumption | exact keptN bk | go_keep) (first | (go_at_call 22; refine q1.mono ?_; rintro e w18 ⟨rfl, hw8⟩; subst hw8) | (go_at_call 21; refine (q1t _).mono ?_; rintro e w18 ⟨rfl, hw8⟩; subst hw8))
          rename_i hHeld
          clear hHeld
          have HM8 : Hid (MR (w7.setCell ⟨w.heap.size + 2, 9, none⟩ (.string T3)).drew (setT (setT (setT (setT (setK zeroE KD) T0 0) T1 1) T2 2) T3 3)) := HD.out _ _ (HP.out _ _ HM7.out 9 _ _ rfl)
          clear q1 q1t eE fE HM7 HMd HT3 bk
          generalize World.drew _ = w8 at *
          generalize hE5 : (setT (setT (setT (setT (setK zeroE KD) T0 0) T1 1) T2 2) T3 3) = E5 at *
          have HE5 : Hid (E5 = ⟨T0, T1, KD, 0, 0, 0, 0, 0, T2, T3⟩) := hE5.symm
          clear hE5
          go_upto_region 21 with fail
          have HMd : Hid (MR w8.drew E5) := HD.out _ _ HM8.out
          have bk : w8.cell? ⟨w.heap.size, 10, none⟩ = some (.int .i64 size) := HB.out _ _ HM8.out 10
          have q1 := HV.out _ _ HMd.out ⟨#[115, 105, 122, 101]⟩
          have q1t := fun W => rnumber_w (AV ⟨#[115, 105, 122, 101]⟩) size W (hs _)
          rw [← HN0.out] at q1t
          go_region_held3 (fun W => W.cell? ⟨w.heap.size, 10, none⟩ = some (.int .i64 size)) (first | assumption | go_keep) (first | (go_at_call 22; refine q1.mono ?_; rintro e w18 ⟨rfl, hw8⟩; subst hw8) | (go_at_call 23; refine (q1t _).mono ?_; rintro e w18 ⟨rfl, hw8⟩; subst hw8))
          rename_i hHeld
          clear hHeld
          clear q1 q1t HM8 HN0 bk
          have HM9 : Hid (MR w8.drew E5) := HMd
          clear HMd
          generalize World.drew _ = w9 at *
          go_upto_region 22 with fail
          have HMd : Hid (MR w9.drew E5) := HD.out _ _ HM9.out
          have bk : w9.cell? ⟨w.heap.size, 8, none⟩ = some (.int .i64 uid) := HB.out _ _ HM9.out 8
          have q1 := HV.out _ _ HMd.out ⟨#[117, 105, 100]⟩
          have q1t := fun W => rnumber_w (AV ⟨#[117, 105, 100]⟩) uid W (hs _)
          rw [← HN1.out] at q1t
          go_region_held3 (fun W => W.cell? ⟨w.heap.size, 8, none⟩ = some (.int .i64 uid)) (first | assumption | go_keep) (first | (go_at_call 22; refine q1.mono ?_; rintro e w18 ⟨rfl, hw8⟩; subst hw8) | (go_at_call 23; refine (q1t _).mono ?_; rintro e w18 ⟨rfl, hw8⟩; subst hw8))
          rename_i hHeld
          clear hHeld
          clear q1 q1t HM9 HN1 bk
          have HM10 : Hid (MR w9.drew E5) := HMd
          clear HMd
          generalize World.drew _ = w10 at *
          go_upto_region 23 with fail
          have HMd : Hid (MR w10.drew E5) := HD.out _ _ HM10.out
          have bk : w10.cell? ⟨w.heap.size, 9, none⟩ = some (.int .i64 gid) := HB.out _ _ HM10.out 9
          have q1 := HV.out _ _ HMd.out ⟨#[103, 105, 100]⟩
          have q1t := fun W => rnumber_w (AV ⟨#[103, 105, 100]⟩) gid W (hs _)
          rw [← HN2.out] at q1t
          go_region_held3 (fun W => W.cell? ⟨w.heap.size, 9, none⟩ = some (.int .i64 gid)) (first | assumption | go_keep) (first | (go_at_call 22; refine q1.mono ?_; rintro e w18 ⟨rfl, hw8⟩; subst hw8) | (go_at_call 23; refine (q1t _).mono ?_; rintro e w18 ⟨rfl, hw8⟩; subst hw8))
          rename_i hHeld
          clear hHeld
          clear q1 q1t HM10 HN2 bk
          have HM11 : Hid (MR w10.drew E5) := HMd
          clear HMd
          generalize World.drew _ = w11 at *
          go_upto_region 24 with fail
          have HMd : Hid (MR w11.drew E5) := HD.out _ _ HM11.out
          have bk : w11.cell? ⟨w.heap.size, 11, none⟩ = some (.int .i64 mtime) := HB.out _ _ HM11.out 11
          have q1 := HV.out _ _ HMd.out ⟨#[109, 116, 105, 109, 101]⟩
          have q1t := fun W => rnumber_w (AV ⟨#[109, 116, 105, 109, 101]⟩) mtime W (hs _)
          rw [← HN3.out] at q1t
          go_region_held3 (fun W => W.cell? ⟨w.heap.size, 11, none⟩ = some (.int .i64 mtime)) (first | assumption | go_keep) (first | (go_at_call 22; refine q1.mono ?_; rintro e w18 ⟨rfl, hw8⟩; subst hw8) | (go_at_call 23; refine (q1t _).mono ?_; rintro e w18 ⟨rfl, hw8⟩; subst hw8))
          rename_i hHeld
          clear hHeld
          clear q1 q1t HM11 HN3 bk
          have HM12 : Hid (MR w11.drew E5) := HMd
          clear HMd
          generalize World.drew _ = w12 at *
          rename_i KL hKL
          cases hV0 : V0 with
          | none =>
            have HBN : Hid BN := HBad.out.2 (.inl hV0)
            subst hV0
            clear HBad HFull
            obtain ⟨z0a, F1, Bl1, Rs1⟩ := HR.out _ _ HM12.out
            have z0 := z0a 0
            have z1 := z0a 1
            have z2 := z0a 2
            have z3 := z0a 3
            have z4 := z0a 4
            have z5 := z0a 5
            have z6 := z0a 6
            have z7 := z0a 7
            have z8 := z0a 8
            have z9 := z0a 9
            simp only [zeroE, En.cells, List.getElem?_toArray, List.getElem?_cons_zero, List.getElem?_cons_succ] at z0 z1 z2 z3 z4 z5 z6 z7 z8 z9
            clear z0a
            have HBl1 : Hid _ := Bl1
            have HRs1 : Hid _ := Rs1
            clear Bl1 Rs1
            go_wp2
            generalize hwF : World.setCell _ _ _ = wF
            obtain ⟨fB, f0, f1, f2, f3, f4, f5, f6, f7, f8, f9⟩ := ten HRs1.out HBl1.out (by omega) (.string ⟨#[]⟩) (.string ⟨#[]⟩) (.int .i64 0) (.int .i64 0) (.int .i64 0) (.int .i64 0) (.int .i64 0) (.int .i64 0) (.string ⟨#[]⟩) (.string ⟨#[]⟩) wF hwF
            clear hwF
            refine bodyPost_ret (v := .tuple #[.agg #[.string ⟨#[]⟩, .string ⟨#[]⟩, .int .i64 0, .int .i64 0, .int .i64 0, .int .i64 0, .int .i64 0, .int .i64 0, .string ⟨#[]⟩, .string ⟨#[]⟩], .int .i64 70]) (by simp [results, Tryd.results11, go_sem, f0, f1, f2, f3, f4, f5, f6, f7, f8, f9]) rfl (HPP.out _ _ fB ?_)
            exact .inr (.inl ⟨HKn.out, HBN.out, rfl⟩)
          | some m0 =>
            cases hV1 : V1 with
            | none =>
              have HBN : Hid BN := HBad.out.2 (.inr (.inl hV1))
              subst hV1
              clear HBad HFull
              obtain ⟨z0a, F1, Bl1, Rs1⟩ := HR.out _ _ HM12.out
              have z0 := z0a 0
              have z1 := z0a 1
              have z2 := z0a 2
              have z3 := z0a 3
              have z4 := z0a 4
              have z5 := z0a 5
              have z6 := z0a 6
              have z7 := z0a 7
              have z8 := z0a 8
              have z9 := z0a 9
              simp only [zeroE, En.cells, List.getElem?_toArray, List.getElem?_cons_zero, List.getElem?_cons_succ] at z0 z1 z2 z3 z4 z5 z6 z7 z8 z9
              clear z0a
              have HBl1 : Hid _ := Bl1
              have HRs1 : Hid _ := Rs1
              clear Bl1 Rs1
              go_wp2
              generalize hwF : World.setCell _ _ _ = wF
              obtain ⟨fB, f0, f1, f2, f3, f4, f5, f6, f7, f8, f9⟩ := ten HRs1.out HBl1.out (by omega) (.string ⟨#[]⟩) (.string ⟨#[]⟩) (.int .i64 0) (.int .i64 0) (.int .i64 0) (.int .i64 0) (.int .i64 0) (.int .i64 0) (.string ⟨#[]⟩) (.string ⟨#[]⟩) wF hwF
              clear hwF
              refine bodyPost_ret (v := .tuple #[.agg #[.string ⟨#[]⟩, .string ⟨#[]⟩, .int .i64 0, .int .i64 0, .int .i64 0, .int .i64 0, .int .i64 0, .int .i64 0, .string ⟨#[]⟩, .string ⟨#[]⟩], .int .i64 70]) (by simp [results, Tryd.results11, go_sem, f0, f1, f2, f3, f4, f5, f6, f7, f8, f9]) rfl (HPP.out _ _ fB ?_)
              exact .inr (.inl ⟨HKn.out, HBN.out, rfl⟩)
            | some m1 =>
              cases hV2 : V2 with
              | none =>
                have HBN : Hid BN := HBad.out.2 (.inr (.inr (.inl hV2)))
                subst hV2
                clear HBad HFull
                obtain ⟨z0a, F1, Bl1, Rs1⟩ := HR.out _ _ HM12.out
                have z0 := z0a 0
                have z1 := z0a 1
                have z2 := z0a 2
                have z3 := z0a 3
                have z4 := z0a 4
                have z5 := z0a 5
                have z6 := z0a 6
                have z7 := z0a 7
                have z8 := z0a 8
                have z9 := z0a 9
                simp only [zeroE, En.cells, List.getElem?_toArray, List.getElem?_cons_zero, List.getElem?_cons_succ] at z0 z1 z2 z3 z4 z5 z6 z7 z8 z9
                clear z0a
                have HBl1 : Hid _ := Bl1
                have HRs1 : Hid _ := Rs1
                clear Bl1 Rs1
                go_wp2
                generalize hwF : World.setCell _ _ _ = wF
                obtain ⟨fB, f0, f1, f2, f3, f4, f5, f6, f7, f8, f9⟩ := ten HRs1.out HBl1.out (by omega) (.string ⟨#[]⟩) (.string ⟨#[]⟩) (.int .i64 0) (.int .i64 0) (.int .i64 0) (.int .i64 0) (.int .i64 0) (.int .i64 0) (.string ⟨#[]⟩) (.string ⟨#[]⟩) wF hwF
                clear hwF
                refine bodyPost_ret (v := .tuple #[.agg #[.string ⟨#[]⟩, .string ⟨#[]⟩, .int .i64 0, .int .i64 0, .int .i64 0, .int .i64 0, .int .i64 0, .int .i64 0, .string ⟨#[]⟩, .string ⟨#[]⟩], .int .i64 70]) (by simp [results, Tryd.results11, go_sem, f0, f1, f2, f3, f4, f5, f6, f7, f8, f9]) rfl (HPP.out _ _ fB ?_)
                exact .inr (.inl ⟨HKn.out, HBN.out, rfl⟩)
              | some m2 =>
                cases hV3 : V3 with
                | none =>
                  have HBN : Hid BN := HBad.out.2 (.inr (.inr (.inr hV3)))
                  subst hV3
                  clear HBad HFull
                  obtain ⟨z0a, F1, Bl1, Rs1⟩ := HR.out _ _ HM12.out
                  have z0 := z0a 0
                  have z1 := z0a 1
                  have z2 := z0a 2
                  have z3 := z0a 3
                  have z4 := z0a 4
                  have z5 := z0a 5
                  have z6 := z0a 6
                  have z7 := z0a 7
                  have z8 := z0a 8
                  have z9 := z0a 9
                  simp only [zeroE, En.cells, List.getElem?_toArray, List.getElem?_cons_zero, List.getElem?_cons_succ] at z0 z1 z2 z3 z4 z5 z6 z7 z8 z9
                  clear z0a
                  have HBl1 : Hid _ := Bl1
                  have HRs1 : Hid _ := Rs1
                  clear Bl1 Rs1
                  go_wp2
                  generalize hwF : World.setCell _ _ _ = wF
                  obtain ⟨fB, f0, f1, f2, f3, f4, f5, f6, f7, f8, f9⟩ := ten HRs1.out HBl1.out (by omega) (.string ⟨#[]⟩) (.string ⟨#[]⟩) (.int .i64 0) (.int .i64 0) (.int .i64 0) (.int .i64 0) (.int .i64 0) (.int .i64 0) (.string ⟨#[]⟩) (.string ⟨#[]⟩) wF hwF
                  clear hwF
                  refine bodyPost_ret (v := .tuple #[.agg #[.string ⟨#[]⟩, .string ⟨#[]⟩, .int .i64 0, .int .i64 0, .int .i64 0, .int .i64 0, .int .i64 0, .int .i64 0, .string ⟨#[]⟩, .string ⟨#[]⟩], .int .i64 70]) (by simp [results, Tryd.results11, go_sem, f0, f1, f2, f3, f4, f5, f6, f7, f8, f9]) rfl (HPP.out _ _ fB ?_)
                  exact .inr (.inl ⟨HKn.out, HBN.out, rfl⟩)
                | some m3 =>
                  have HNB : Hid (¬ BN) := fun h => by rcases HBad.out.1 h with h | h | h | h; exact absurd (hV0.symm.trans h) (by simp); exact absurd (hV1.symm.trans h) (by simp); exact absurd (hV2.symm.trans h) (by simp); exact absurd (hV3.symm.trans h) (by simp)
                  subst hV0 hV1 hV2 hV3
                  clear HBad
                  simp only [Option.getD_some, Option.isSome_some] at HFull ⊢
                  refine hKL _ _ ?_
                  exact rtail w PP BN NG FE T0 T1 T2 T3 MR form name link prefx user group _ mode uid gid size mtime KD E5 w12 m0 m1 m2 m3 HNeg hsz HP HR HE HB hmo HPP HKF HKn HE5 HM12 HNB HFull _ _ _ _ _ _ _ _ _ _ _ _ _ _ _ _ _ _ _ _ _ _ _ _ _ _ _ _ _ _ _ _ _ _ _ _ _ _ _ _ _ _ _ _ _ _ _ _ _ _ _ _ _ _ _ _ _ _ _ _ _ _ _ _ _ _ _ _ _ _ _ _ _ _ _ _ _ _ _ _ _ _ _ _ _ _ _ _ _ _ _ _ _ _ _ _ _ _ _ _ _ _ _ _ _ _ _ _ _ _ _ _ _ _ _ _ _ _ _ _ _ _ _ _ _ _ _ _ _ _ _ _ _ _ _ _ _ _ _ _ _ _ _ _ _ _ _ _ _ _ _ _ _ _ _ _ _ _ _ _ _ _ _ _ _ _ _ _ _ _ _ _ _ _ _ _ _ _ _ _ _ _ _ _ _ _ _ _ _ _ _ _ _ _ _ _ _ _

end Go.Proofs.YtjnmmkohmfhnlaaDoor
