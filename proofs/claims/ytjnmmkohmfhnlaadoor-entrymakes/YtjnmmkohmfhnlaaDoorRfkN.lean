/-
  The document's Make at all other types.
-/
import Derived.Test.YtjnmmkohmfhnlaaDoorRfp
namespace Go.Proofs.YtjnmmkohmfhnlaaDoor
open Go.RowKit
set_option linter.unusedVariables false
set_option linter.unusedSimpArgs false

set_option maxRecDepth 100000 in
set_option maxHeartbeats 8000000 in
theorem rmake_no (x : Hd) (a : Ah) (w : World) (hl : Lst w a.lv a.lK a.lV a.ln) (hg : Lst w a.gv a.gK a.gV a.gn) (n1 : a.ln ≤ 70) (n2 : a.gn ≤ 70) (fx : HdFit x) (hs : ∀ k, (a.val k).size ≤ 281474976710656) (hsz : (tx x a 0).size ≤ 9223372036854775807) (hty : ¬ x.typ = 0 ∧ ¬ x.typ = 48 ∧ ¬ x.typ = 55 ∧ ¬ x.typ = 49 ∧ ¬ x.typ = 50 ∧ ¬ x.typ = 53) :
    Calls Tryd.prog 11 #[.agg x.rcells, a.lv, a.gv, .string a.name, .string a.link] w fun ev w' => ((kd x.typ = 0 ∧ ev = .returned (.tuple #[.agg zeroE.cells, .int .i64 80])) ∨ (kd x.typ ≠ 0 ∧ badN x a ∧ ev = .returned (.tuple #[.agg zeroE.cells, .int .i64 70])) ∨ (kd x.typ ≠ 0 ∧ ¬ badN x a ∧ neg x a ∧ ev = .returned (.tuple #[.agg zeroE.cells, .int .i64 90])) ∨ (kd x.typ ≠ 0 ∧ ¬ badN x a ∧ ¬ neg x a ∧ ev = .returned (.tuple #[.agg (fullE x a).cells, .int .i64 0]))) ∧ Below w.heap.size w w' := by
  generalize hPP : (fun (ev : Ending) (w' : World) => ((kd x.typ = 0 ∧ ev = .returned (.tuple #[.agg zeroE.cells, .int .i64 80])) ∨ (kd x.typ ≠ 0 ∧ badN x a ∧ ev = .returned (.tuple #[.agg zeroE.cells, .int .i64 70])) ∨ (kd x.typ ≠ 0 ∧ ¬ badN x a ∧ neg x a ∧ ev = .returned (.tuple #[.agg zeroE.cells, .int .i64 90])) ∨ (kd x.typ ≠ 0 ∧ ¬ badN x a ∧ ¬ neg x a ∧ ev = .returned (.tuple #[.agg (fullE x a).cells, .int .i64 0]))) ∧ Below w.heap.size w w') = PP
  have HPP : Hid (∀ (ev : Ending) (w' : World), Below w.heap.size w w' → ((kd x.typ = 0 ∧ ev = .returned (.tuple #[.agg zeroE.cells, .int .i64 80])) ∨ (kd x.typ ≠ 0 ∧ badN x a ∧ ev = .returned (.tuple #[.agg zeroE.cells, .int .i64 70])) ∨ (kd x.typ ≠ 0 ∧ ¬ badN x a ∧ neg x a ∧ ev = .returned (.tuple #[.agg zeroE.cells, .int .i64 90])) ∨ (kd x.typ ≠ 0 ∧ ¬ badN x a ∧ ¬ neg x a ∧ ev = .returned (.tuple #[.agg (fullE x a).cells, .int .i64 0]))) → PP ev w') := fun ev w' b h => by rw [← hPP]; exact ⟨h, b⟩
  clear hPP
  have hM := mr_start w x
  have HV : Hid (∀ W e1, Mr w W e1 x → ∀ key, Calls Tryd.prog 22 #[a.lv, a.gv, .string key] W fun e w' => e = .returned (.string (a.val key)) ∧ W = w') := fun W e1 p key => rvalue_w a.lv a.gv a.lK a.lV a.gK a.gV a.ln a.gn key W (hl.below p.bel) (hg.below p.bel) n1 n2
  have HX : Hid (x.full = if emp x.prefx then x.name else x.prefx ++ ⟨#[47]⟩ ++ x.name) := rfl
  have HT0 : Hid (tx x a 0 = or3 (a.val ⟨#[112, 97, 116, 104]⟩) a.name x.full) := rfl
  have HT1 : Hid (tx x a 1 = or3 (a.val ⟨#[108, 105, 110, 107, 112, 97, 116, 104]⟩) a.link x.link) := rfl
  have HT2 : Hid (tx x a 2 = or3 (a.val ⟨#[117, 110, 97, 109, 101]⟩) ⟨#[]⟩ x.user) := rfl
  have HT3 : Hid (tx x a 3 = or3 (a.val ⟨#[103, 110, 97, 109, 101]⟩) ⟨#[]⟩ x.group) := rfl
  have HN0 : Hid (numV x a 0 = rnv (a.val ⟨#[115, 105, 122, 101]⟩) x.size) := rfl
  have HN1 : Hid (numV x a 1 = rnv (a.val ⟨#[117, 105, 100]⟩) x.uid) := rfl
  have HN2 : Hid (numV x a 2 = rnv (a.val ⟨#[103, 105, 100]⟩) x.gid) := rfl
  have HN3 : Hid (numV x a 3 = rnv (a.val ⟨#[109, 116, 105, 109, 101]⟩) x.mtime) := rfl
  have HBad : Hid (badN x a ↔ (numV x a 0 = none ∨ numV x a 1 = none ∨ numV x a 2 = none ∨ numV x a 3 = none)) := by
    constructor
    · rintro ⟨k, hk, h⟩
      match k, hk with
      | 0, _ => exact .inl h
      | 1, _ => exact .inr (.inl h)
      | 2, _ => exact .inr (.inr (.inl h))
      | 3, _ => exact .inr (.inr (.inr h))
    · rintro (h | h | h | h)
      · exact ⟨0, by omega, h⟩
      · exact ⟨1, by omega, h⟩
      · exact ⟨2, by omega, h⟩
      · exact ⟨3, by omega, h⟩
  have HFull : Hid (∀ K7, K7 = kindF ⟨tx x a 0, tx x a 1, kd x.typ, x.mode % 4096, (numV x a 1).getD 0, (numV x a 2).getD 0, (numV x a 3).getD 0, (numV x a 0).getD 0, tx x a 2, tx x a 3⟩ x.form → ¬ kd x.typ = 0 → fullE x a = ⟨tx x a 0, if K7 = 1 ∨ K7 = 4 then ⟨#[]⟩ else tx x a 1, K7, x.mode % 4096, (numV x a 1).getD 0, (numV x a 2).getD 0, (numV x a 3).getD 0, if K7 = 1 then (numV x a 0).getD 0 else 0, tx x a 2, tx x a 3⟩) := fun K7 h7 hk => by
    have hkr : kd x.typ = 1 ∨ kd x.typ = 2 ∨ kd x.typ = 3 ∨ kd x.typ = 4 := by
      unfold kd at hk ⊢
      repeat' split
      all_goals simp_all
    rw [fullE_eq, mode_and, settle_steps _ _ hkr _ rfl, ← h7]
    rfl
  have HNeg : Hid (neg x a ↔ ((fullE x a).size < 0 ∨ (fullE x a).uid < 0 ∨ (fullE x a).gid < 0)) := Iff.rfl
  have HKF : Hid (∀ T0 T1 M u g m s T2 T3, kindF ⟨T0, T1, kd x.typ, M, u, g, m, s, T2, T3⟩ x.form = if kd x.typ = 1 ∧ x.form = 0 ∧ slashB T0 = true then 4 else kd x.typ) := fun _ _ _ _ _ _ _ _ _ => rfl
  have hsp := fx.prefx
  have hsn := fx.name
  have hmo := fx.mode
  clear hl hg n1 n2 fx
  generalize badN x a = BN at *
  generalize neg x a = NG at *
  generalize fullE x a = FE at *
  generalize tx x a 0 = T0 at *
  generalize tx x a 1 = T1 at *
  generalize tx x a 2 = T2 at *
  generalize tx x a 3 = T3 at *
  generalize numV x a 0 = V0 at *
  generalize numV x a 1 = V1 at *
  generalize numV x a 2 = V2 at *
  generalize numV x a 3 = V3 at *
  generalize x.full = FU at *
  generalize hAV : a.val = AV at *
  generalize hMR : (fun W e1 => Mr w W e1 x) = MR
  have HM0 : Hid (MR (((w.alloc (.cells x.rcells 36)).alloc (.cells #[.string ⟨#[]⟩, .string ⟨#[]⟩, .int .i64 0, .int .i64 0, .int .i64 0, .int .i64 0, .int .i64 0, .int .i64 0, .string ⟨#[]⟩, .string ⟨#[]⟩] 29)).alloc (.cells #[.string ⟨#[]⟩, .string ⟨#[]⟩, .int .i64 0, .int .i64 0, .int .i64 0, .int .i64 0, .int .i64 0, .int .i64 0, .string ⟨#[]⟩, .string ⟨#[]⟩] 29)) zeroE) := by subst hMR; exact hM
  have HD : Hid (∀ W e1, MR W e1 → MR W.drew e1) := fun W e1 p => by subst hMR; exact p.drew
  have HP : Hid (∀ W e1, MR W e1 → ∀ m v e2, e1.cells.setIfInBounds m v = e2.cells → MR (W.setCell ⟨w.heap.size + 2, m, none⟩ v) e2) := fun W e1 p m v e2 h => by subst hMR; exact p.put m v h
  have HB : Hid (∀ W e1, MR W e1 → ∀ m, W.cell? ⟨w.heap.size, m, none⟩ = x.rcells[m]?) := fun W e1 p m => by subst hMR; exact p.bc m
  have HR : Hid (∀ W e1, MR W e1 → (∀ m, W.cell? ⟨w.heap.size + 1, m, none⟩ = zeroE.cells[m]?) ∧ (∀ m, W.frozen? ⟨w.heap.size + 1, m, none⟩ = false) ∧ Below w.heap.size w W ∧ W.heap[w.heap.size + 1]? = some (.cells zeroE.cells 29 (0, 0))) := fun W e1 p => by subst hMR; exact ⟨p.rc, p.rf, p.bel, p.res⟩
  have HE : Hid (∀ W e1, MR W e1 → EntAt W (w.heap.size + 2) e1) := fun W e1 p => by subst hMR; exact p.ent
  replace HV : Hid (∀ W e1, MR W e1 → ∀ key, Calls Tryd.prog 22 #[a.lv, a.gv, .string key] W fun e w' => e = .returned (.string (AV key)) ∧ W = w') := by subst hMR; exact HV
  clear hMR hAV hM
  obtain ⟨form, name, link, prefx, user, group, typ, mode, uid, gid, size, mtime⟩ := x
  obtain ⟨gv, lv, gK, gV, gn, lK, lV, ln, aname, alink⟩ := a
  simp only [Hd.rcells] at HM0 HB HV HX HT0 HT1 HT2 HT3 HN0 HN1 HN2 HN3 HFull HKF HPP hsp hsn hmo ⊢
  change ¬ typ = 0 ∧ ¬ typ = 48 ∧ ¬ typ = 55 ∧ ¬ typ = 49 ∧ ¬ typ = 50 ∧ ¬ typ = 53 at hty
  obtain ⟨c0, c1, c2, c3, c4, c5⟩ := hty
  have hkz : Hid (kd typ = 0) := by show _ = _; unfold kd; simp [c0, c1, c2, c3, c4, c5]
  generalize hKD : kd typ = KD at *
  have HKD : Hid (kd typ = KD) := hKD
  clear hKD
  go_enter Tryd.func11, Tryd.ntmps11
  go_upto_region 1 with fail
  go_cut [12] (fun s12 wx => s12 = .pointer (some ⟨w.heap.size + 2, 0, none⟩) ∧ Hid (MR wx zeroE))
  case first =>
    go_wp2_with fail
    go_meet
    exact ⟨rfl, HM0⟩
  case rest =>
    obtain ⟨rfl, HM1⟩ := hcut
    clear HM0
    rename_i KK hgo
    refine hgo _ _ ?_
    clear hgo
    refine wp_seq_k (fun K2 hK2 => ?_)
    have bt : wc.cell? ⟨w.heap.size, 1, none⟩ = some (.int .u8 typ) := HB.out _ _ HM1.out 1
    have e2 := (HE.out _ _ HM1.out).c 2
    have f2 := (HE.out _ _ HM1.out).frozen 2
    simp only [zeroE, En.cells, List.getElem?_toArray, List.getElem?_cons_zero, List.getElem?_cons_succ] at e2
    go_cut [] (fun wx => Hid (MR wx (setK zeroE KD)) ∧ Hid (¬ KD = 0))
    case first =>
      clear hK2
      have hput : ∀ k : Int, kd typ = k → Hid (MR (wc.setCell ⟨w.heap.size + 2, 2, none⟩ (.int .i64 k)) (setK zeroE KD)) := fun k hk => HP.out _ _ HM1.out 2 _ _ (by rw [← HKD.out, hk]; rfl)
      have HPut : Hid _ := hput
      clear hput

      obtain ⟨z0a, F1, Bl1, Rs1⟩ := HR.out _ _ HM1.out
      have z0 := z0a 0
      have z1 := z0a 1
      have z2 := z0a 2
      have z3 := z0a 3
      have z4 := z0a 4
      have z5 := z0a 5
      have z6 := z0a 6
      have z7 := z0a 7
      have z8 := z0a 8
      have z9 := z0a 9
      simp only [zeroE, En.cells, List.getElem?_toArray, List.getElem?_cons_zero, List.getElem?_cons_succ] at z0 z1 z2 z3 z4 z5 z6 z7 z8 z9
      clear z0a
      have HBl1 : Hid _ := Bl1
      have HRs1 : Hid _ := Rs1
      clear Bl1 Rs1 e2 f2
      have hk0 : kd typ = 0 := by unfold kd; simp [c0, c1, c2, c3, c4, c5]
      have HK0 : Hid (KD = 0) := HKD.out.symm.trans hk0
      clear hk0
      go_wp2
      generalize hwF : World.setCell _ _ _ = wF
      obtain ⟨fB, f0, f1, f2, f3, f4, f5, f6, f7, f8, f9⟩ := ten HRs1.out HBl1.out (by omega) (.string ⟨#[]⟩) (.string ⟨#[]⟩) (.int .i64 0) (.int .i64 0) (.int .i64 0) (.int .i64 0) (.int .i64 0) (.int .i64 0) (.string ⟨#[]⟩) (.string ⟨#[]⟩) wF hwF
      clear hwF
      refine bodyPost_ret (v := .tuple #[.agg #[.string ⟨#[]⟩, .string ⟨#[]⟩, .int .i64 0, .int .i64 0, .int .i64 0, .int .i64 0, .int .i64 0, .int .i64 0, .string ⟨#[]⟩, .string ⟨#[]⟩], .int .i64 80]) (by simp [results, Tryd.results11, go_sem, f0, f1, f2, f3, f4, f5, f6, f7, f8, f9]) rfl (HPP.out _ _ fB ?_)
      exact .inl ⟨HK0.out, rfl⟩
    case rest =>
      obtain ⟨HM2, HKn⟩ := hcut
      exact absurd hkz.out HKn.out

end Go.Proofs.YtjnmmkohmfhnlaaDoor
