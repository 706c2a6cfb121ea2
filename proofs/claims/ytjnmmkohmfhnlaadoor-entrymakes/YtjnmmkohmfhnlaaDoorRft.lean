/-
  The document's Make behind its numbers: a declaration of its own.
-/
import Derived.Test.YtjnmmkohmfhnlaaDoorRfu
namespace Go.Proofs.YtjnmmkohmfhnlaaDoor
open Go.RowKit
set_option linter.unusedVariables false
set_option linter.unusedSimpArgs false


set_option maxRecDepth 100000 in
set_option maxHeartbeats 8000000 in
theorem rtail (w : World) (PP : Ending → World → Prop) (BN NG : Prop) (FE : En) (T0 T1 T2 T3 : ByteArray) (MR : World → En → Prop) (form : Int) (name link prefx user group : ByteArray) (typ mode uid gid size mtime KD : Int) (E5 : En) (w12 : World) (m0 m1 m2 m3 : Int)
    (HNeg : Hid (NG ↔ FE.size < 0 ∨ FE.uid < 0 ∨ FE.gid < 0)) (hsz : T0.size ≤ 9223372036854775807)
    (HP : Hid (∀ W e1, MR W e1 → ∀ m v e2, e1.cells.setIfInBounds m v = e2.cells → MR (W.setCell ⟨w.heap.size + 2, m, none⟩ v) e2))
    (HR : Hid (∀ W e1, MR W e1 → (∀ m, W.cell? ⟨w.heap.size + 1, m, none⟩ = zeroE.cells[m]?) ∧ (∀ m, W.frozen? ⟨w.heap.size + 1, m, none⟩ = false) ∧ Below w.heap.size w W ∧ W.heap[w.heap.size + 1]? = some (.cells zeroE.cells 29 (0, 0))))
    (HE : Hid (∀ W e1, MR W e1 → EntAt W (w.heap.size + 2) e1))
    (HB : Hid (∀ W e1, MR W e1 → ∀ m, W.cell? ⟨w.heap.size, m, none⟩ = (#[.int .i64 form, .int .u8 typ, .string name, .string link, .string prefx, .string user, .string group, .int .i64 mode, .int .i64 uid, .int .i64 gid, .int .i64 size, .int .i64 mtime] : Array Value)[m]?))
    (hmo : -9223372036854775808 ≤ mode ∧ mode ≤ 9223372036854775807)
    (HPP : Hid (∀ (ev : Ending) (w' : World), Below w.heap.size w w' → (KD = 0 ∧ ev = .returned (.tuple #[.agg zeroE.cells, .int .i64 80])) ∨ (KD ≠ 0 ∧ BN ∧ ev = .returned (.tuple #[.agg zeroE.cells, .int .i64 70])) ∨ (KD ≠ 0 ∧ ¬ BN ∧ NG ∧ ev = .returned (.tuple #[.agg zeroE.cells, .int .i64 90])) ∨ (KD ≠ 0 ∧ ¬ BN ∧ ¬ NG ∧ ev = .returned (.tuple #[.agg FE.cells, .int .i64 0])) → PP ev w'))
    (HKF : Hid (∀ (T0 T1 : ByteArray) (M u g m s : Int) (T2 T3 : ByteArray), kindF ⟨T0, T1, KD, M, u, g, m, s, T2, T3⟩ form = if KD = 1 ∧ form = 0 ∧ slashB T0 = true then 4 else KD))
    (HKn : Hid (¬ KD = 0)) (HE5 : Hid (E5 = ⟨T0, T1, KD, 0, 0, 0, 0, 0, T2, T3⟩)) (HM12 : Hid (MR w12 E5)) (HNB : Hid (¬ BN))
    (HFull : Hid (∀ K7 : Int, K7 = kindF ⟨T0, T1, KD, mode % 4096, m1, m2, m3, m0, T2, T3⟩ form → ¬ KD = 0 → FE = ⟨T0, if K7 = 1 ∨ K7 = 4 then ⟨#[]⟩ else T1, K7, mode % 4096, m1, m2, m3, if K7 = 1 then m0 else 0, T2, T3⟩))
    (s0 s1 s2 s3 s4 s6 s7 s8 s9 s11 s13 s22 s23 s24 s25 s26 s27 s28 s29 s30 s31 s32 s33 s34 s35 s36 s37 s38 s39 s40 s41 s42 s43 s44 s45 s46 s47 s48 s49 s50 s51 s52 s53 s54 s55 s56 s57 s58 s59 s60 s61 s62 s63 s64 s65 s66 s67 s68 s69 s70 s71 s72 s73 s74 s75 s76 s77 s78 s79 s80 s81 s82 s83 s84 s85 s86 s87 s88 s89 s90 s91 s92 s93 s94 s95 s96 s97 s98 s99 s100 s101 s102 s103 s104 s105 s106 s107 s108 s109 s110 s111 s112 s113 s114 s115 s116 s117 s118 s119 s120 s121 s122 s123 s124 s125 s126 s127 s128 s129 s130 s131 s132 s133 s134 s135 s136 s137 s138 s139 s140 s141 s142 s143 s144 s145 s146 s147 s148 s149 s150 s151 s152 s153 s154 s155 s156 s157 s158 s159 s160 s161 s162 s163 s164 s165 s166 s167 s168 s169 s170 s171 s172 s173 s174 s175 s176 s177 s178 s179 s180 s181 s182 s183 s184 s185 s186 s187 s188 s189 s190 s191 s192 s193 s194 s195 s196 s197 s198 s199 s200 s201 s202 s203 s204 s205 s206 s207 s208 : Value) :
    Code.wp Tryd.prog ((Tryd.f11.body.bind (tailAt 25)).getD .skip) (bodyPost Tryd.prog Tryd.f11 PP) ⟨#[s0, s1, s2, s3, s4, .pointer (some ⟨w.heap.size, 0, none⟩), s6, s7, s8, s9, .pointer (some ⟨w.heap.size + 1, 0, none⟩), s11, .pointer (some ⟨w.heap.size + 2, 0, none⟩), s13, .int .i64 m0, .bool true, .int .i64 m1, .bool true, .int .i64 m2, .bool true, .int .i64 m3, .bool true, s22, s23, s24, s25, s26, s27, s28, s29, s30, s31, s32, s33, s34, s35, s36, s37, s38, s39, s40, s41, s42, s43, s44, s45, s46, s47, s48, s49, s50, s51, s52, s53, s54, s55, s56, s57, s58, s59, s60, s61, s62, s63, s64, s65, s66, s67, s68, s69, s70, s71, s72, s73, s74, s75, s76, s77, s78, s79, s80, s81, s82, s83, s84, s85, s86, s87, s88, s89, s90, s91, s92, s93, s94, s95, s96, s97, s98, s99, s100, s101, s102, s103, s104, s105, s106, s107, s108, s109, s110, s111, s112, s113, s114, s115, s116, s117, s118, s119, s120, s121, s122, s123, s124, s125, s126, s127, s128, s129, s130, s131, s132, s133, s134, s135, s136, s137, s138, s139, s140, s141, s142, s143, s144, s145, s146, s147, s148, s149, s150, s151, s152, s153, s154, s155, s156, s157, s158, s159, s160, s161, s162, s163, s164, s165, s166, s167, s168, s169, s170, s171, s172, s173, s174, s175, s176, s177, s178, s179, s180, s181, s182, s183, s184, s185, s186, s187, s188, s189, s190, s191, s192, s193, s194, s195, s196, s197, s198, s199, s200, s201, s202, s203, s204, s205, s206, s207, s208], []⟩ w12 := by
  conv => arg 2; whnf
  have bm : w12.cell? ⟨w.heap.size, 7, none⟩ = some (.int .i64 mode) := HB.out _ _ HM12.out 7
  obtain ⟨hmo1, hmo2⟩ := hmo
  go_upto_region 27 with fail
  go_cut [22] (fun s22 wx => s22 = .int .i64 (Int.tmod mode 4096) ∧ Hid (MR wx E5))
  case first =>
    go_wp2_with fail
    go_meet
    exact ⟨by first | rfl | (congr 1), HM12⟩
  case rest =>
    obtain ⟨rfl, HM13⟩ := hcut
    clear HM12 bm
    rename_i K5 h5
    refine h5 _ _ ?_
    clear h5
    refine wp_seq_k (fun K6 h6 => ?_)
    have htm := tmod_fix mode
    have ht0 : -4096 < Int.tmod mode 4096 ∧ Int.tmod mode 4096 < 4096 := ⟨Int.lt_tmod_of_pos mode (by omega), Int.tmod_lt_of_pos mode (by omega)⟩
    obtain ⟨ht1, ht2⟩ := ht0
    generalize Int.tmod mode 4096 = tm at *
    have HTM : Hid ((if tm < 0 then tm + 4096 else tm) = mode % 4096) := htm
    clear htm
    go_cut [22] (fun s22 wx => s22 = .int .i64 (mode % 4096) ∧ Hid (MR wx E5))
    case first =>
      clear h6
      by_cases hneg : tm < 0
      · go_wp2_with fail
        go_meet
        exact ⟨by rw [← HTM.out, if_pos hneg], HM13⟩
      · go_wp2_with fail
        go_meet
        exact ⟨by rw [← HTM.out, if_neg (by omega)], HM13⟩
    case rest =>
      obtain ⟨rfl, HM14⟩ := hcut
      clear HM13 HTM
      refine h6 _ _ ?_
      clear h6
      generalize hMo : mode % 4096 = MO at *
      clear hMo
      have e3 : wc.cell? ⟨w.heap.size + 2, 3, none⟩ = some (.int .i64 0) := by have h := (HE.out _ _ HM14.out).c 3; rw [HE5.out] at h; exact h
      have f3 : wc.frozen? ⟨w.heap.size + 2, 3, none⟩ = false := (HE.out _ _ HM14.out).frozen 3
      go_upto_region 30 with fail
      go_cut [] (fun wx => Hid (MR wx ⟨T0, T1, KD, MO, 0, 0, 0, 0, T2, T3⟩))
      case first =>
        go_wp2_with fail
        go_meet
        exact HP.out _ _ HM14.out 3 _ _ (by rw [HE5.out]; rfl)
      case rest =>
        have HM15 := hcut
        clear hcut HM14 e3 f3 HE5
        rename_i K7 h7
        refine h7 _ _ ?_
        clear h7
        refine wp_seq_k (fun K8 h8 => ?_)
        have e0 : wc.cell? ⟨w.heap.size + 2, 0, none⟩ = some (.string T0) := (HE.out _ _ HM15.out).c 0
        have e2 : wc.cell? ⟨w.heap.size + 2, 2, none⟩ = some (.int .i64 KD) := (HE.out _ _ HM15.out).c 2
        have f2 : wc.frozen? ⟨w.heap.size + 2, 2, none⟩ = false := (HE.out _ _ HM15.out).frozen 2
        have bf : wc.cell? ⟨w.heap.size, 0, none⟩ = some (.int .i64 form) := HB.out _ _ HM15.out 0
        have HFK := HFull.out _ rfl HKn.out
        rw [HKF.out] at HFK
        have HFK2 : Hid _ := HFK
        clear HFK HFull HKF
        generalize hKS : (if KD = 1 ∧ form = 0 ∧ slashB T0 = true then 4 else KD : Int) = KS at *
        have HKS : Hid (KS = (if KD = 1 ∧ form = 0 ∧ slashB T0 = true then 4 else KD)) := hKS.symm
        clear hKS
        go_cut [] (fun wx => Hid (MR wx ⟨T0, T1, KS, MO, 0, 0, 0, 0, T2, T3⟩))
        case first =>
          clear h8
          by_cases k1 : KD = 1
          · subst k1
            by_cases hf : form = 0
            · subst hf
              by_cases hz : T0.size = 0
              · have hk : KS = 1 := by rw [HKS.out, if_neg (fun h => by have := h.2.2; unfold slashB at this; rw [if_pos hz] at this; cases this)]
                have HK1 : Hid (KS = 1) := hk
                clear hk
                obtain rfl : T0 = ⟨#[]⟩ := by apply ByteArray.ext; exact Array.eq_empty_of_size_eq_zero hz
                go_wp2_with fail
                go_meet
                rw [HK1.out]; exact HM15
              · have hpos : 0 < T0.size := by omega
                have hsl := slash_at T0 hpos
                have hne : T0.toList.isEmpty = false := by
                  cases he : T0.toList.isEmpty with
                  | false => rfl
                  | true => exact absurd (show T0.size = 0 by rw [emp_true he]; rfl) hz
                have hi : (0 : Int) ≤ (T0.size : Int) - 1 := by omega
                have hj : (T0.size : Int) - 1 < (T0.size : Int) := by omega
                have ht : ((T0.size : Int) - 1).toNat = T0.size - 1 := by omega
                by_cases c : ((T0[T0.size - 1]'(by omega)).toNat : Int) = 47
                · have hk : KS = 4 := by rw [HKS.out, if_pos ⟨rfl, rfl, by rw [hsl]; exact decide_eq_true c⟩]
                  have HK1 : Hid (KS = 4) := hk
                  clear hk hsl hz
                  go_wp2_with fail
                  go_meet
                  rw [HK1.out]; exact HP.out _ _ HM15.out 2 _ _ rfl
                · have hk : KS = 1 := by rw [HKS.out, if_neg (fun h => by have := h.2.2; rw [hsl, decide_eq_false c] at this; cases this)]
                  have HK1 : Hid (KS = 1) := hk
                  clear hk hsl hz
                  go_wp2_with fail
                  go_meet
                  rw [HK1.out]; exact HM15
            · have hk : KS = 1 := by rw [HKS.out, if_neg (fun h => hf h.2.1)]
              have HK1 : Hid (KS = 1) := hk
              clear hk
              go_wp2_with fail
              go_meet
              rw [HK1.out]; exact HM15
          · have hk : KS = KD := by rw [HKS.out, if_neg (fun h => k1 h.1)]
            have HK1 : Hid (KS = KD) := hk
            have k1b : (KD == 1) = false := by simpa using k1
            clear hk
            go_wp2_with fail
            go_meet
            rw [HK1.out]; exact HM15
        case rest =>
          have HM16 := hcut
          clear hcut
          refine h8 _ _ ?_
          exact rtail2 w PP BN NG FE T0 T1 T2 T3 MR KD KS MO wc m0 m1 m2 m3 HNeg HP HR HE HPP HKn HNB HM16 HFK2 _ _ _ _ _ _ _ _ _ _ _ _ _ _ _ _ _ _ _ _ _ _ _ _ _ _ _ _ _ _ _ _ _ _ _ _ _ _ _ _ _ _ _ _ _ _ _ _ _ _ _ _ _ _ _ _ _ _ _ _ _ _ _ _ _ _ _ _ _ _ _ _ _ _ _ _ _ _ _ _ _ _ _ _ _ _ _ _ _ _ _ _ _ _ _ _ _ _ _ _ _ _ _ _ _ _ _ _ _ _ _ _ _ _ _ _ _ _ _ _ _ _ _ _ _ _ _ _ _ _ _ _ _ _ _ _ _ _ _ _ _ _ _ _ _ _ _ _ _ _ _ _ _ _ _ _ _ _ _ _ _ _ _ _ _ _ _ _ _ _ _ _ _ _ _ _ _ _ _ _ _ _ _ _ _ _ _ _ _ _ _ _ _ _ _ _ _ _ _ _ _ _

end Go.Proofs.YtjnmmkohmfhnlaaDoor
