/-
  The document's Make behind its numbers: a declaration of its own.
-/
import Derived.Test.YtjnmmkohmfhnlaaDoorRfp
namespace Go.Proofs.YtjnmmkohmfhnlaaDoor
open Go.RowKit
set_option linter.unusedVariables false
set_option linter.unusedSimpArgs false

def headReg : Code → Option Nat
  | .region n _ _ => some n
  | .seq a _ => headReg a
  | .block _ c => headReg c
  | .scope c => headReg c
  | _ => none
def tailAt (n : Nat) : Code → Option Code
  | .seq a b => if headReg a = some n then some (.seq a b) else tailAt n b
  | .block _ c => tailAt n c
  | .scope c => tailAt n c
  | _ => none

theorem rest33_is : (Tryd.f11.body.bind (tailAt 33)).isSome = true := by kernel_rfl

set_option maxRecDepth 100000 in
set_option maxHeartbeats 8000000 in
theorem rtail2 (w : World) (PP : Ending → World → Prop) (BN NG : Prop) (FE : En) (T0 T1 T2 T3 : ByteArray) (MR : World → En → Prop) (KD KS MO : Int) (wc : World) (m0 m1 m2 m3 : Int)
    (HNeg : Hid (NG ↔ FE.size < 0 ∨ FE.uid < 0 ∨ FE.gid < 0))
    (HP : Hid (∀ W e1, MR W e1 → ∀ m v e2, e1.cells.setIfInBounds m v = e2.cells → MR (W.setCell ⟨w.heap.size + 2, m, none⟩ v) e2))
    (HR : Hid (∀ W e1, MR W e1 → (∀ m, W.cell? ⟨w.heap.size + 1, m, none⟩ = zeroE.cells[m]?) ∧ (∀ m, W.frozen? ⟨w.heap.size + 1, m, none⟩ = false) ∧ Below w.heap.size w W ∧ W.heap[w.heap.size + 1]? = some (.cells zeroE.cells 29 (0, 0))))
    (HE : Hid (∀ W e1, MR W e1 → EntAt W (w.heap.size + 2) e1))
    (HPP : Hid (∀ (ev : Ending) (w' : World), Below w.heap.size w w' → (KD = 0 ∧ ev = .returned (.tuple #[.agg zeroE.cells, .int .i64 80])) ∨ (KD ≠ 0 ∧ BN ∧ ev = .returned (.tuple #[.agg zeroE.cells, .int .i64 70])) ∨ (KD ≠ 0 ∧ ¬ BN ∧ NG ∧ ev = .returned (.tuple #[.agg zeroE.cells, .int .i64 90])) ∨ (KD ≠ 0 ∧ ¬ BN ∧ ¬ NG ∧ ev = .returned (.tuple #[.agg FE.cells, .int .i64 0])) → PP ev w'))
    (HKn : Hid (¬ KD = 0)) (HNB : Hid (¬ BN)) (HM16 : Hid (MR wc ⟨T0, T1, KS, MO, 0, 0, 0, 0, T2, T3⟩))
    (HFK2 : Hid (FE = ⟨T0, if KS = 1 ∨ KS = 4 then ⟨#[]⟩ else T1, KS, MO, m1, m2, m3, if KS = 1 then m0 else 0, T2, T3⟩))
    (s0 s1 s2 s3 s4 s6 s7 s8 s9 s11 s13 s15 s17 s19 s21 s22 s23 s24 s25 s26 s27 s28 s29 s30 s31 s32 s33 s34 s35 s36 s37 s38 s39 s40 s41 s42 s43 s44 s45 s46 s47 s48 s49 s50 s51 s52 s53 s54 s55 s56 s57 s58 s59 s60 s61 s62 s63 s64 s65 s66 s67 s68 s69 s70 s71 s72 s73 s74 s75 s76 s77 s78 s79 s80 s81 s82 s83 s84 s85 s86 s87 s88 s89 s90 s91 s92 s93 s94 s95 s96 s97 s98 s99 s100 s101 s102 s103 s104 s105 s106 s107 s108 s109 s110 s111 s112 s113 s114 s115 s116 s117 s118 s119 s120 s121 s122 s123 s124 s125 s126 s127 s128 s129 s130 s131 s132 s133 s134 s135 s136 s137 s138 s139 s140 s141 s142 s143 s144 s145 s146 s147 s148 s149 s150 s151 s152 s153 s154 s155 s156 s157 s158 s159 s160 s161 s162 s163 s164 s165 s166 s167 s168 s169 s170 s171 s172 s173 s174 s175 s176 s177 s178 s179 s180 s181 s182 s183 s184 s185 s186 s187 s188 s189 s190 s191 s192 s193 s194 s195 s196 s197 s198 s199 s200 s201 s202 s203 s204 s205 s206 s207 s208 : Value) :
    Code.wp Tryd.prog ((Tryd.f11.body.bind (tailAt 33)).getD .skip) (bodyPost Tryd.prog Tryd.f11 PP) ⟨#[s0, s1, s2, s3, s4, .pointer (some ⟨w.heap.size, 0, none⟩), s6, s7, s8, s9, .pointer (some ⟨w.heap.size + 1, 0, none⟩), s11, .pointer (some ⟨w.heap.size + 2, 0, none⟩), s13, .int .i64 m0, s15, .int .i64 m1, s17, .int .i64 m2, s19, .int .i64 m3, s21, s22, s23, s24, s25, s26, s27, s28, s29, s30, s31, s32, s33, s34, s35, s36, s37, s38, s39, s40, s41, s42, s43, s44, s45, s46, s47, s48, s49, s50, s51, s52, s53, s54, s55, s56, s57, s58, s59, s60, s61, s62, s63, s64, s65, s66, s67, s68, s69, s70, s71, s72, s73, s74, s75, s76, s77, s78, s79, s80, s81, s82, s83, s84, s85, s86, s87, s88, s89, s90, s91, s92, s93, s94, s95, s96, s97, s98, s99, s100, s101, s102, s103, s104, s105, s106, s107, s108, s109, s110, s111, s112, s113, s114, s115, s116, s117, s118, s119, s120, s121, s122, s123, s124, s125, s126, s127, s128, s129, s130, s131, s132, s133, s134, s135, s136, s137, s138, s139, s140, s141, s142, s143, s144, s145, s146, s147, s148, s149, s150, s151, s152, s153, s154, s155, s156, s157, s158, s159, s160, s161, s162, s163, s164, s165, s166, s167, s168, s169, s170, s171, s172, s173, s174, s175, s176, s177, s178, s179, s180, s181, s182, s183, s184, s185, s186, s187, s188, s189, s190, s191, s192, s193, s194, s195, s196, s197, s198, s199, s200, s201, s202, s203, s204, s205, s206, s207, s208], []⟩ wc := by
  conv => arg 2; whnf
  have e4 : wc.cell? ⟨w.heap.size + 2, 4, none⟩ = some (.int .i64 0) := (HE.out _ _ HM16.out).c 4
  have f4 : wc.frozen? ⟨w.heap.size + 2, 4, none⟩ = false := (HE.out _ _ HM16.out).frozen 4
  have e5 : wc.cell? ⟨w.heap.size + 2, 5, none⟩ = some (.int .i64 0) := (HE.out _ _ HM16.out).c 5
  have f5 : wc.frozen? ⟨w.heap.size + 2, 5, none⟩ = false := (HE.out _ _ HM16.out).frozen 5
  have e6 : wc.cell? ⟨w.heap.size + 2, 6, none⟩ = some (.int .i64 0) := (HE.out _ _ HM16.out).c 6
  have f6 : wc.frozen? ⟨w.heap.size + 2, 6, none⟩ = false := (HE.out _ _ HM16.out).frozen 6
  have e7 : wc.cell? ⟨w.heap.size + 2, 7, none⟩ = some (.int .i64 0) := (HE.out _ _ HM16.out).c 7
  have f7 : wc.frozen? ⟨w.heap.size + 2, 7, none⟩ = false := (HE.out _ _ HM16.out).frozen 7
  go_upto_region 36 with fail
  go_cut [] (fun wx => Hid (MR wx ⟨T0, T1, KS, MO, m1, m2, m3, m0, T2, T3⟩))
  case first =>
    go_wp2_with fail
    go_meet
    exact HP.out _ _ (HP.out _ _ (HP.out _ _ (HP.out _ _ HM16.out 7 (.int .i64 m0) ⟨T0, T1, KS, MO, 0, 0, 0, m0, T2, T3⟩ rfl) 4 (.int .i64 m1) ⟨T0, T1, KS, MO, m1, 0, 0, m0, T2, T3⟩ rfl) 5 (.int .i64 m2) ⟨T0, T1, KS, MO, m1, m2, 0, m0, T2, T3⟩ rfl) 6 (.int .i64 m3) _ rfl
  case rest =>
    have HM17 := hcut
    clear hcut HM16 e4 f4 e5 f5 e6 f6 e7 f7
    rename_i K9 h9
    refine h9 _ _ ?_
    clear h9
    refine wp_seq_k (fun K10 h10 => ?_)
    have e2 : wc.cell? ⟨w.heap.size + 2, 2, none⟩ = some (.int .i64 KS) := (HE.out _ _ HM17.out).c 2
    have e7 : wc.cell? ⟨w.heap.size + 2, 7, none⟩ = some (.int .i64 m0) := (HE.out _ _ HM17.out).c 7
    have f7 : wc.frozen? ⟨w.heap.size + 2, 7, none⟩ = false := (HE.out _ _ HM17.out).frozen 7
    generalize hSS : (if KS = 1 then m0 else 0 : Int) = SS at *
    have HSS : Hid (SS = (if KS = 1 then m0 else 0)) := hSS.symm
    clear hSS
    generalize hLL : (if KS = 1 ∨ KS = 4 then (⟨#[]⟩ : ByteArray) else T1) = LL at *
    have HLL : Hid (LL = (if KS = 1 ∨ KS = 4 then (⟨#[]⟩ : ByteArray) else T1)) := hLL.symm
    clear hLL
    go_cut [] (fun wx => Hid (MR wx ⟨T0, T1, KS, MO, m1, m2, m3, SS, T2, T3⟩))
    case first =>
      clear h10
      by_cases k1 : KS = 1
      · have HS1 : Hid (SS = m0) := by show SS = m0; rw [HSS.out, if_pos k1]
        have k1b : (KS != 1) = false := by simpa using k1
        clear HFK2
        subst k1
        go_wp2_with fail
        go_meet
        rw [HS1.out]; exact HM17
      · have HS1 : Hid (SS = 0) := by show SS = 0; rw [HSS.out, if_neg k1]
        have k1b : (KS != 1) = true := by simpa using k1
        go_wp2_with fail
        go_meet
        rw [HS1.out]; exact HP.out _ _ HM17.out 7 _ _ rfl
    case rest =>
      have HM18 := hcut
      clear hcut HM17 e2 e7 f7 HSS
      refine h10 _ _ ?_
      clear h10
      refine wp_seq_k (fun K11 h11 => ?_)
      have e2 : wc.cell? ⟨w.heap.size + 2, 2, none⟩ = some (.int .i64 KS) := (HE.out _ _ HM18.out).c 2
      have e1 : wc.cell? ⟨w.heap.size + 2, 1, none⟩ = some (.string T1) := (HE.out _ _ HM18.out).c 1
      have f1 : wc.frozen? ⟨w.heap.size + 2, 1, none⟩ = false := (HE.out _ _ HM18.out).frozen 1
      go_cut [] (fun wx => Hid (MR wx ⟨T0, LL, KS, MO, m1, m2, m3, SS, T2, T3⟩))
      case first =>
        clear h11
        by_cases k1 : KS = 1
        · have HS1 : Hid (LL = ⟨#[]⟩) := by show LL = ⟨#[]⟩; rw [HLL.out, if_pos (.inl k1)]
          clear HFK2
          subst k1
          go_wp2_with fail
          go_meet
          rw [HS1.out]; exact HP.out _ _ HM18.out 1 _ _ rfl
        · by_cases k4 : KS = 4
          · have HS1 : Hid (LL = ⟨#[]⟩) := by show LL = ⟨#[]⟩; rw [HLL.out, if_pos (.inr k4)]
            clear HFK2
            subst k4
            go_wp2_with fail
            go_meet
            rw [HS1.out]; exact HP.out _ _ HM18.out 1 _ _ rfl
          · have HS1 : Hid (LL = T1) := by show LL = T1; rw [HLL.out, if_neg (fun h => by rcases h with h | h; exact k1 h; exact k4 h)]
            have k1b : (KS == 1) = false := by simpa using k1
            have k4b : (KS == 4) = false := by simpa using k4
            go_wp2_with fail
            go_meet
            rw [HS1.out]; exact HM18
      case rest =>
        have HM19 := hcut
        clear hcut HM18 e2 e1 f1 HLL
        refine h11 _ _ ?_
        clear h11
        have y0 : wc.cell? ⟨w.heap.size + 2, 0, none⟩ = some (.string T0) := (HE.out _ _ HM19.out).c 0
        have y1 : wc.cell? ⟨w.heap.size + 2, 1, none⟩ = some (.string LL) := (HE.out _ _ HM19.out).c 1
        have y2 : wc.cell? ⟨w.heap.size + 2, 2, none⟩ = some (.int .i64 KS) := (HE.out _ _ HM19.out).c 2
        have y3 : wc.cell? ⟨w.heap.size + 2, 3, none⟩ = some (.int .i64 MO) := (HE.out _ _ HM19.out).c 3
        have y4 : wc.cell? ⟨w.heap.size + 2, 4, none⟩ = some (.int .i64 m1) := (HE.out _ _ HM19.out).c 4
        have y5 : wc.cell? ⟨w.heap.size + 2, 5, none⟩ = some (.int .i64 m2) := (HE.out _ _ HM19.out).c 5
        have y6 : wc.cell? ⟨w.heap.size + 2, 6, none⟩ = some (.int .i64 m3) := (HE.out _ _ HM19.out).c 6
        have y7 : wc.cell? ⟨w.heap.size + 2, 7, none⟩ = some (.int .i64 SS) := (HE.out _ _ HM19.out).c 7
        have y8 : wc.cell? ⟨w.heap.size + 2, 8, none⟩ = some (.string T2) := (HE.out _ _ HM19.out).c 8
        have y9 : wc.cell? ⟨w.heap.size + 2, 9, none⟩ = some (.string T3) := (HE.out _ _ HM19.out).c 9
        obtain ⟨z0a, F1, Bl1, Rs1⟩ := HR.out _ _ HM19.out
        have z0 := z0a 0
        have z1 := z0a 1
        have z2 := z0a 2
        have z3 := z0a 3
        have z4 := z0a 4
        have z5 := z0a 5
        have z6 := z0a 6
        have z7 := z0a 7
        have z8 := z0a 8
        have z9 := z0a 9
        simp only [zeroE, En.cells, List.getElem?_toArray, List.getElem?_cons_zero, List.getElem?_cons_succ] at z0 z1 z2 z3 z4 z5 z6 z7 z8 z9
        clear z0a
        have HBl1 : Hid _ := Bl1
        have HRs1 : Hid _ := Rs1
        clear Bl1 Rs1
        have HNG : Hid (NG ↔ (SS < 0 ∨ m1 < 0 ∨ m2 < 0)) := by have h := HNeg.out; rw [HFK2.out] at h; exact h
        clear HNeg
        by_cases g1 : SS < 0
        · go_wp2
          generalize hwF : World.setCell _ _ _ = wF
          obtain ⟨fB, f0, f1, f2, f3, f4, f5, f6, f7, f8, f9⟩ := ten HRs1.out HBl1.out (by omega) (.string ⟨#[]⟩) (.string ⟨#[]⟩) (.int .i64 0) (.int .i64 0) (.int .i64 0) (.int .i64 0) (.int .i64 0) (.int .i64 0) (.string ⟨#[]⟩) (.string ⟨#[]⟩) wF hwF
          clear hwF
          refine bodyPost_ret (v := .tuple #[.agg #[.string ⟨#[]⟩, .string ⟨#[]⟩, .int .i64 0, .int .i64 0, .int .i64 0, .int .i64 0, .int .i64 0, .int .i64 0, .string ⟨#[]⟩, .string ⟨#[]⟩], .int .i64 90]) (by simp [results, Tryd.results11, go_sem, f0, f1, f2, f3, f4, f5, f6, f7, f8, f9]) rfl (HPP.out _ _ fB ?_)
          exact .inr (.inr (.inl ⟨HKn.out, HNB.out, HNG.out.2 (.inl g1), rfl⟩))
        by_cases g2 : m1 < 0
        · go_wp2
          generalize hwF : World.setCell _ _ _ = wF
          obtain ⟨fB, f0, f1, f2, f3, f4, f5, f6, f7, f8, f9⟩ := ten HRs1.out HBl1.out (by omega) (.string ⟨#[]⟩) (.string ⟨#[]⟩) (.int .i64 0) (.int .i64 0) (.int .i64 0) (.int .i64 0) (.int .i64 0) (.int .i64 0) (.string ⟨#[]⟩) (.string ⟨#[]⟩) wF hwF
          clear hwF
          refine bodyPost_ret (v := .tuple #[.agg #[.string ⟨#[]⟩, .string ⟨#[]⟩, .int .i64 0, .int .i64 0, .int .i64 0, .int .i64 0, .int .i64 0, .int .i64 0, .string ⟨#[]⟩, .string ⟨#[]⟩], .int .i64 90]) (by simp [results, Tryd.results11, go_sem, f0, f1, f2, f3, f4, f5, f6, f7, f8, f9]) rfl (HPP.out _ _ fB ?_)
          exact .inr (.inr (.inl ⟨HKn.out, HNB.out, HNG.out.2 (.inr (.inl g2)), rfl⟩))
        by_cases g3 : m2 < 0
        · go_wp2
          generalize hwF : World.setCell _ _ _ = wF
          obtain ⟨fB, f0, f1, f2, f3, f4, f5, f6, f7, f8, f9⟩ := ten HRs1.out HBl1.out (by omega) (.string ⟨#[]⟩) (.string ⟨#[]⟩) (.int .i64 0) (.int .i64 0) (.int .i64 0) (.int .i64 0) (.int .i64 0) (.int .i64 0) (.string ⟨#[]⟩) (.string ⟨#[]⟩) wF hwF
          clear hwF
          refine bodyPost_ret (v := .tuple #[.agg #[.string ⟨#[]⟩, .string ⟨#[]⟩, .int .i64 0, .int .i64 0, .int .i64 0, .int .i64 0, .int .i64 0, .int .i64 0, .string ⟨#[]⟩, .string ⟨#[]⟩], .int .i64 90]) (by simp [results, Tryd.results11, go_sem, f0, f1, f2, f3, f4, f5, f6, f7, f8, f9]) rfl (HPP.out _ _ fB ?_)
          exact .inr (.inr (.inl ⟨HKn.out, HNB.out, HNG.out.2 (.inr (.inr g3)), rfl⟩))
        · go_wp2
          generalize hwF : World.setCell _ _ _ = wF
          obtain ⟨fB, f0, f1, f2, f3, f4, f5, f6, f7, f8, f9⟩ := ten HRs1.out HBl1.out (by omega) (.string T0) (.string LL) (.int .i64 KS) (.int .i64 MO) (.int .i64 m1) (.int .i64 m2) (.int .i64 m3) (.int .i64 SS) (.string T2) (.string T3) wF hwF
          clear hwF
          refine bodyPost_ret (v := .tuple #[.agg #[.string T0, .string LL, .int .i64 KS, .int .i64 MO, .int .i64 m1, .int .i64 m2, .int .i64 m3, .int .i64 SS, .string T2, .string T3], .int .i64 0]) (by simp [results, Tryd.results11, go_sem, f0, f1, f2, f3, f4, f5, f6, f7, f8, f9]) rfl (HPP.out _ _ fB ?_)
          exact .inr (.inr (.inr ⟨HKn.out, HNB.out, fun h => by rcases HNG.out.1 h with h | h | h <;> omega, by rw [HFK2.out]; rfl⟩))

end Go.Proofs.YtjnmmkohmfhnlaaDoor
