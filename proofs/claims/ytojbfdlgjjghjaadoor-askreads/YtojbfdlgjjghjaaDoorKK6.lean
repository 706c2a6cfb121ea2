/-
  The document's Decode behind its first word, and whole.
-/
import Derived.Test.YtojbfdlgjjghjaaDoorKK5
namespace Go.Proofs.YtojbfdlgjjghjaaDoor.K
open Go.RowKit
open Go.Lib hiding intOf
set_option linter.unusedVariables false
set_option linter.unusedSimpArgs false

set_option maxRecDepth 100000 in
set_option maxHeartbeats 8000000 in
theorem tail11z (k : Nat) (hk : k = 0) (w wc : World) (g : Nat) (r : ByteArray) (PP : Ending → World → Prop)
    (s0 s1 s3 s4 s5 s8 s9 s10 s11 s12 s13 s14 s15 s16 s17 s18 s19 s20 s21 s22 s23 s24 s25 s26 s27 s28 s29 s30 s31 s32 s33 s34 s35 s36 s37 s38 s39 s40 s41 s42 s43 s44 s45 s46 s47 s48 s49 s50 s51 s52 s53 s54 s55 s56 s57 s58 s59 s60 s61 s62 s63 s64 s65 s66 s67 s68 s69 s70 s71 s72 s73 s74 s75 s76 s77 s78 s79 s80 s81 s82 s83 s84 s85 s86 s87 s88 s89 s90 s91 s92 s93 s94 s95 s96 s97 s98 s99 s100 s101 s102 s103 s104 s105 s106 s107 s108 s109 s110 s111 s112 s113 s114 s115 s116 s117 s118 s119 s120 s121 s122 s123 s124 s125 s126 s127 s128 s129 s130 s131 s132 s133 s134 s135 s136 s137 s138 s139 s140 s141 s142 s143 s144 s145 s146 s147 s148 s149 s150 s151 s152 s153 s154 s155 s156 s157 s158 s159 s160 s161 s162 s163 s164 s165 s166 s167 s168 s169 s170 s171 s172 s173 s174 s175 s176 s177 s178 s179 : Value)
    (HP : Hid (∀ W, Below w.heap.size w W → PP (.returned (.tuple #[.agg (Ak.zero.rc []), .int .i64 200])) W))
    (HR : Hid (Rm w wc g (⟨k, 0, 0, 0, ⟨#[]⟩⟩ : Ak) [])) :
    Code.wp Tryd.prog ((Tryd.f11.body.bind (tailAt 11)).getD .skip) (bodyPost Tryd.prog Tryd.f11 PP) { tmps := #[s0, s1, .pointer (some ⟨w.heap.size, 0, none⟩), s3, s4, s5, .string r, .pointer (some ⟨g, 0, none⟩), s8, s9, s10, s11, s12, s13, s14, s15, s16, s17, s18, s19, s20, s21, s22, s23, s24, s25, s26, s27, s28, s29, s30, s31, s32, s33, s34, s35, s36, s37, s38, s39, s40, s41, s42, s43, s44, s45, s46, s47, s48, s49, s50, s51, s52, s53, s54, s55, s56, s57, s58, s59, s60, s61, s62, s63, s64, s65, s66, s67, s68, s69, s70, s71, s72, s73, s74, s75, s76, s77, s78, s79, s80, s81, s82, s83, s84, s85, s86, s87, s88, s89, s90, s91, s92, s93, s94, s95, s96, s97, s98, s99, s100, s101, s102, s103, s104, s105, s106, s107, s108, s109, s110, s111, s112, s113, s114, s115, s116, s117, s118, s119, s120, s121, s122, s123, s124, s125, s126, s127, s128, s129, s130, s131, s132, s133, s134, s135, s136, s137, s138, s139, s140, s141, s142, s143, s144, s145, s146, s147, s148, s149, s150, s151, s152, s153, s154, s155, s156, s157, s158, s159, s160, s161, s162, s163, s164, s165, s166, s167, s168, s169, s170, s171, s172, s173, s174, s175, s176, s177, s178, s179], defers := [] } wc := by
  conv => arg 2; whnf
  subst hk
  have y0 := HR.out.box.cell 0
  have hgl := HR.out.box.lt
  simp only [Ak.rc] at y0
  simp at y0
  have hrs := (HR.out).res
  have hdn := (HR.out).done (Ak.zero.rc [])
  have HB := HP.out _ hdn.2
  have hg2 := hdn.1
  have si := sizeR Ak.zero []
  have sk := one_rc Ak.zero []
  have hz := zeroR
  unfold Rx at hrs hg2
  clear hdn
  simp only [Ak.rc, Ak.zero] at hrs hg2 HB si sk hz
  clear HP HR
  go_wp2_with (first
    | (refine wpList_store_row rfl 30 _ _ rfl _ _ rfl rfl 30 _ hrs si rfl sk ?_))
  have hld := run_loadVar_row _ _ _ 30 _ _ _ hg2 Tryd.underlying30 rfl si
  try simp only [Exit.inBlock, Exit.then]
  exact bodyPost_ret (by rw [results_cell_tmp rfl]; simp [asAddr, hld]) rfl HB

set_option maxRecDepth 100000 in
set_option maxHeartbeats 8000000 in
theorem tail11e (k : Nat) (hk : k = 11) (w wc : World) (g : Nat) (r : ByteArray) (PP : Ending → World → Prop)
    (s0 s1 s3 s4 s5 s8 s9 s10 s11 s12 s13 s14 s15 s16 s17 s18 s19 s20 s21 s22 s23 s24 s25 s26 s27 s28 s29 s30 s31 s32 s33 s34 s35 s36 s37 s38 s39 s40 s41 s42 s43 s44 s45 s46 s47 s48 s49 s50 s51 s52 s53 s54 s55 s56 s57 s58 s59 s60 s61 s62 s63 s64 s65 s66 s67 s68 s69 s70 s71 s72 s73 s74 s75 s76 s77 s78 s79 s80 s81 s82 s83 s84 s85 s86 s87 s88 s89 s90 s91 s92 s93 s94 s95 s96 s97 s98 s99 s100 s101 s102 s103 s104 s105 s106 s107 s108 s109 s110 s111 s112 s113 s114 s115 s116 s117 s118 s119 s120 s121 s122 s123 s124 s125 s126 s127 s128 s129 s130 s131 s132 s133 s134 s135 s136 s137 s138 s139 s140 s141 s142 s143 s144 s145 s146 s147 s148 s149 s150 s151 s152 s153 s154 s155 s156 s157 s158 s159 s160 s161 s162 s163 s164 s165 s166 s167 s168 s169 s170 s171 s172 s173 s174 s175 s176 s177 s178 s179 : Value)
    (HS : Hid (r.size ≤ 16384))
    (HP : Hid (∀ e W, RefOk e (endP k (goP [3] (⟨k, 0, 0, 0, ⟨#[]⟩⟩ : Ak) r)) → Below w.heap.size w W → PP e W))
    (HR : Hid (Rm w wc g (⟨k, 0, 0, 0, ⟨#[]⟩⟩ : Ak) [])) :
    Code.wp Tryd.prog ((Tryd.f11.body.bind (tailAt 11)).getD .skip) (bodyPost Tryd.prog Tryd.f11 PP) { tmps := #[s0, s1, .pointer (some ⟨w.heap.size, 0, none⟩), s3, s4, s5, .string r, .pointer (some ⟨g, 0, none⟩), s8, s9, s10, s11, s12, s13, s14, s15, s16, s17, s18, s19, s20, s21, s22, s23, s24, s25, s26, s27, s28, s29, s30, s31, s32, s33, s34, s35, s36, s37, s38, s39, s40, s41, s42, s43, s44, s45, s46, s47, s48, s49, s50, s51, s52, s53, s54, s55, s56, s57, s58, s59, s60, s61, s62, s63, s64, s65, s66, s67, s68, s69, s70, s71, s72, s73, s74, s75, s76, s77, s78, s79, s80, s81, s82, s83, s84, s85, s86, s87, s88, s89, s90, s91, s92, s93, s94, s95, s96, s97, s98, s99, s100, s101, s102, s103, s104, s105, s106, s107, s108, s109, s110, s111, s112, s113, s114, s115, s116, s117, s118, s119, s120, s121, s122, s123, s124, s125, s126, s127, s128, s129, s130, s131, s132, s133, s134, s135, s136, s137, s138, s139, s140, s141, s142, s143, s144, s145, s146, s147, s148, s149, s150, s151, s152, s153, s154, s155, s156, s157, s158, s159, s160, s161, s162, s163, s164, s165, s166, s167, s168, s169, s170, s171, s172, s173, s174, s175, s176, s177, s178, s179], defers := [] } wc := by
  conv => arg 2; whnf
  subst hk
  have y0 := HR.out.box.cell 0
  have hgl := HR.out.box.lt
  simp only [Ak.rc] at y0
  simp at y0
  go_upto_region 15 with fail
  rename_i K2 hK2 K1 hK1
  have HK : Hid (∀ (a : Act) (w : World), Code.wp Tryd.prog ((Tryd.f11.body.bind (tailAt 21)).getD .skip) (bodyPost Tryd.prog Tryd.f11 PP) a w → K2 a w) := hK2
  clear hK2
  go_wp2_with fail
  refine HK.out _ _ ?_
  exact tail21 11 (by omega) (by omega) w _ g r ⟨11, 0, 0, 0, ⟨#[]⟩⟩ PP _ _ _ _ _ _ _ _ _ _ _ _ _ _ _ _ _ _ _ _ _ _ _ _ _ _ _ _ _ _ _ _ _ _ _ _ _ _ _ _ _ _ _ _ _ _ _ _ _ _ _ _ _ _ _ _ _ _ _ _ _ _ _ _ _ _ _ _ _ _ _ _ _ _ _ _ _ _ _ _ _ _ _ _ _ _ _ _ _ _ _ _ _ _ _ _ _ _ _ _ _ _ _ _ _ _ _ _ _ _ _ _ _ _ _ _ _ _ _ _ _ _ _ _ _ _ _ _ _ _ _ _ _ _ _ _ _ _ _ _ _ _ _ _ _ _ _ _ _ _ _ _ _ _ _ _ _ _ _ _ _ _ _ _ _ _ _ _ _ _ _ _ _ _ _ _ HS (rfl : (⟨#[]⟩ : ByteArray) = ⟨#[]⟩) HP HR

set_option maxRecDepth 100000 in
set_option maxHeartbeats 8000000 in
theorem tail11y (k : Nat) (k1 : 1 ≤ k) (k2 : k ≤ 10) (w wc : World) (g : Nat) (r : ByteArray) (PP : Ending → World → Prop)
    (s0 s1 s3 s4 s5 s8 s9 s10 s11 s12 s13 s14 s15 s16 s17 s18 s19 s20 s21 s22 s23 s24 s25 s26 s27 s28 s29 s30 s31 s32 s33 s34 s35 s36 s37 s38 s39 s40 s41 s42 s43 s44 s45 s46 s47 s48 s49 s50 s51 s52 s53 s54 s55 s56 s57 s58 s59 s60 s61 s62 s63 s64 s65 s66 s67 s68 s69 s70 s71 s72 s73 s74 s75 s76 s77 s78 s79 s80 s81 s82 s83 s84 s85 s86 s87 s88 s89 s90 s91 s92 s93 s94 s95 s96 s97 s98 s99 s100 s101 s102 s103 s104 s105 s106 s107 s108 s109 s110 s111 s112 s113 s114 s115 s116 s117 s118 s119 s120 s121 s122 s123 s124 s125 s126 s127 s128 s129 s130 s131 s132 s133 s134 s135 s136 s137 s138 s139 s140 s141 s142 s143 s144 s145 s146 s147 s148 s149 s150 s151 s152 s153 s154 s155 s156 s157 s158 s159 s160 s161 s162 s163 s164 s165 s166 s167 s168 s169 s170 s171 s172 s173 s174 s175 s176 s177 s178 s179 : Value)
    (HS : Hid (r.size ≤ 16384))
    (HP : Hid (∀ e W, RefOk e (endP k (goP (1 :: at21 k) (⟨k, 0, 0, 0, ⟨#[]⟩⟩ : Ak) r)) → Below w.heap.size w W → PP e W))
    (HR : Hid (Rm w wc g (⟨k, 0, 0, 0, ⟨#[]⟩⟩ : Ak) [])) :
    Code.wp Tryd.prog ((Tryd.f11.body.bind (tailAt 11)).getD .skip) (bodyPost Tryd.prog Tryd.f11 PP) { tmps := #[s0, s1, .pointer (some ⟨w.heap.size, 0, none⟩), s3, s4, s5, .string r, .pointer (some ⟨g, 0, none⟩), s8, s9, s10, s11, s12, s13, s14, s15, s16, s17, s18, s19, s20, s21, s22, s23, s24, s25, s26, s27, s28, s29, s30, s31, s32, s33, s34, s35, s36, s37, s38, s39, s40, s41, s42, s43, s44, s45, s46, s47, s48, s49, s50, s51, s52, s53, s54, s55, s56, s57, s58, s59, s60, s61, s62, s63, s64, s65, s66, s67, s68, s69, s70, s71, s72, s73, s74, s75, s76, s77, s78, s79, s80, s81, s82, s83, s84, s85, s86, s87, s88, s89, s90, s91, s92, s93, s94, s95, s96, s97, s98, s99, s100, s101, s102, s103, s104, s105, s106, s107, s108, s109, s110, s111, s112, s113, s114, s115, s116, s117, s118, s119, s120, s121, s122, s123, s124, s125, s126, s127, s128, s129, s130, s131, s132, s133, s134, s135, s136, s137, s138, s139, s140, s141, s142, s143, s144, s145, s146, s147, s148, s149, s150, s151, s152, s153, s154, s155, s156, s157, s158, s159, s160, s161, s162, s163, s164, s165, s166, s167, s168, s169, s170, s171, s172, s173, s174, s175, s176, s177, s178, s179], defers := [] } wc := by
  conv => arg 2; whnf
  have y0 := HR.out.box.cell 0
  have hgl := HR.out.box.lt
  simp only [Ak.rc] at y0
  simp at y0
  have KB : Hid (1 ≤ k ∧ k ≤ 11) := by show _ ∧ _; omega
  have h0 : ¬ (k : Int) = 0 := by omega
  have h1 : ((k : Int) == 0) = false := by simp; omega
  have h2 : ¬ (k : Int) = 11 := by omega
  have h3 : ((k : Int) == 11) = false := by simp; omega
  have q1 := fun W => rcut_w r (by have := HS.out; omega) W
  have hq := rnumber_w (cutW r) (by have := cutW_size r; have := HS.out; omega)
  have HS2 : Hid ((cutR r).size ≤ 16384) := Nat.le_trans (cutR_size r) HS.out
  have hv0 : numV (cutW r) = match numP (cutW r) with | .inl e => .tuple #[.int .i64 0, .int .i64 e] | .inr v => .tuple #[.int .i64 v, .int .i64 0] := rfl
  rw [hv0] at hq
  clear hv0
  cases hx : numP (cutW r) with
  | inl x =>
    have hb := numP_bad hx
    have hx0 : ¬ x = 0 := by omega
    have hx1 : (x == 0) = false := by simpa using hx0
    have FH : Hid (∀ W, Below w.heap.size w W → PP (.returned (.tuple #[.agg (Ak.zero.rc []), .int .i64 x])) W) := fun W b => HP.out (.returned (.tuple #[.agg (Ak.zero.rc []), .int .i64 x])) W (by unfold goP; rw [hx]; rfl) b
    rw [hx] at hq
    simp only at hq
    clear hb hx HP HS2
    generalize cutW r = t1 at *
    generalize cutR r = r1 at *
    go_upto_region 18 with (go_at_call 19; refine (q1 _).mono ?_; rintro e w1 ⟨rfl, hw1⟩)
    have hrm1 := HR.out.grow hw1
    have yy := hrm1.box.cell 1
    have ff := hrm1.box.froz 1
    have hgl1 := hrm1.box.lt
    have hst := hrm1.set (a' := { (⟨k, 0, 0, 0, ⟨#[]⟩⟩ : Ak) with t := 0 }) (ds' := []) 1 (.int .i64 0) (by simp [Ak.rc])
    simp only [Ak.rc] at yy
    simp at yy
    have hrs := (hst).res
    have hdn := (hst).done (Ak.zero.rc [])
    have HB := FH.out _ hdn.2
    have hg2 := hdn.1
    have si := sizeR Ak.zero []
    have sk := one_rc Ak.zero []
    have hz := zeroR
    unfold Rx at hrs hg2
    clear hdn
    simp only [Ak.rc, Ak.zero] at hrs hg2 HB si sk hz
    clear hst hrm1 hw1 q1 HR FH y0
    go_wp2_with (first
      | (go_at_call 20; refine (hq _).mono ?_; rintro e w2 ⟨rfl, rfl⟩)
      | (refine wpList_store_row rfl 30 _ _ rfl _ _ rfl rfl 30 _ hrs si rfl sk ?_))
    have hld := run_loadVar_row _ _ _ 30 _ _ _ hg2 Tryd.underlying30 rfl si
    try simp only [Exit.inBlock, Exit.then]
    exact bodyPost_ret (by rw [results_cell_tmp rfl]; simp [asAddr, hld]) rfl HB
  | inr v =>
    have HP2 : Hid (∀ e W, RefOk e (endP k (goP (at21 k) { (⟨k, 0, 0, 0, ⟨#[]⟩⟩ : Ak) with t := v } (cutR r))) → Below w.heap.size w W → PP e W) := fun e W h b => HP.out e W (by unfold goP; rw [hx]; exact h) b
    rw [hx] at hq
    simp only at hq
    clear hx HP HS
    generalize cutW r = t1 at *
    generalize cutR r = r1 at *
    go_upto_region 18 with (go_at_call 19; refine (q1 _).mono ?_; rintro e w1 ⟨rfl, hw1⟩)
    rename_i K2 hK2 hne K1 hK1
    have HK : Hid (∀ (a : Act) (w : World), Code.wp Tryd.prog ((Tryd.f11.body.bind (tailAt 21)).getD .skip) (bodyPost Tryd.prog Tryd.f11 PP) a w → K2 a w) := hK2
    clear hK2
    have hrm1 := HR.out.grow hw1
    have yy := hrm1.box.cell 1
    have ff := hrm1.box.froz 1
    have hgl1 := hrm1.box.lt
    have hst : Hid _ := hrm1.set (a' := { (⟨k, 0, 0, 0, ⟨#[]⟩⟩ : Ak) with t := v }) (ds' := []) 1 (.int .i64 v) (by simp [Ak.rc])
    simp only [Ak.rc] at yy
    simp at yy
    clear hrm1 hw1 q1 HR y0
    go_wp2_with (first
      | (go_at_call 20; refine (hq _).mono ?_; rintro e w2 ⟨rfl, rfl⟩))
    refine HK.out _ _ ?_
    exact tail21 k KB.out.1 KB.out.2 w _ g r1 { (⟨k, 0, 0, 0, ⟨#[]⟩⟩ : Ak) with t := v } PP _ _ _ _ _ _ _ _ _ _ _ _ _ _ _ _ _ _ _ _ _ _ _ _ _ _ _ _ _ _ _ _ _ _ _ _ _ _ _ _ _ _ _ _ _ _ _ _ _ _ _ _ _ _ _ _ _ _ _ _ _ _ _ _ _ _ _ _ _ _ _ _ _ _ _ _ _ _ _ _ _ _ _ _ _ _ _ _ _ _ _ _ _ _ _ _ _ _ _ _ _ _ _ _ _ _ _ _ _ _ _ _ _ _ _ _ _ _ _ _ _ _ _ _ _ _ _ _ _ _ _ _ _ _ _ _ _ _ _ _ _ _ _ _ _ _ _ _ _ _ _ _ _ _ _ _ _ _ _ _ _ _ _ _ _ _ _ _ _ _ _ _ _ _ _ _ HS2 (rfl : (⟨#[]⟩ : ByteArray) = ⟨#[]⟩) HP2 hst

set_option maxRecDepth 100000 in
set_option maxHeartbeats 8000000 in
theorem tail11 (k : Nat) (k2 : k ≤ 11) (w wc : World) (g : Nat) (r : ByteArray) (PP : Ending → World → Prop)
    (s0 s1 s3 s4 s5 s8 s9 s10 s11 s12 s13 s14 s15 s16 s17 s18 s19 s20 s21 s22 s23 s24 s25 s26 s27 s28 s29 s30 s31 s32 s33 s34 s35 s36 s37 s38 s39 s40 s41 s42 s43 s44 s45 s46 s47 s48 s49 s50 s51 s52 s53 s54 s55 s56 s57 s58 s59 s60 s61 s62 s63 s64 s65 s66 s67 s68 s69 s70 s71 s72 s73 s74 s75 s76 s77 s78 s79 s80 s81 s82 s83 s84 s85 s86 s87 s88 s89 s90 s91 s92 s93 s94 s95 s96 s97 s98 s99 s100 s101 s102 s103 s104 s105 s106 s107 s108 s109 s110 s111 s112 s113 s114 s115 s116 s117 s118 s119 s120 s121 s122 s123 s124 s125 s126 s127 s128 s129 s130 s131 s132 s133 s134 s135 s136 s137 s138 s139 s140 s141 s142 s143 s144 s145 s146 s147 s148 s149 s150 s151 s152 s153 s154 s155 s156 s157 s158 s159 s160 s161 s162 s163 s164 s165 s166 s167 s168 s169 s170 s171 s172 s173 s174 s175 s176 s177 s178 s179 : Value)
    (HS : Hid (r.size ≤ 16384))
    (HP : Hid (∀ e W, RefOk e (if k = 0 then .inl 200 else endP k (goP (flds k) (⟨k, 0, 0, 0, ⟨#[]⟩⟩ : Ak) r)) → Below w.heap.size w W → PP e W))
    (HR : Hid (Rm w wc g (⟨k, 0, 0, 0, ⟨#[]⟩⟩ : Ak) [])) :
    Code.wp Tryd.prog ((Tryd.f11.body.bind (tailAt 11)).getD .skip) (bodyPost Tryd.prog Tryd.f11 PP) { tmps := #[s0, s1, .pointer (some ⟨w.heap.size, 0, none⟩), s3, s4, s5, .string r, .pointer (some ⟨g, 0, none⟩), s8, s9, s10, s11, s12, s13, s14, s15, s16, s17, s18, s19, s20, s21, s22, s23, s24, s25, s26, s27, s28, s29, s30, s31, s32, s33, s34, s35, s36, s37, s38, s39, s40, s41, s42, s43, s44, s45, s46, s47, s48, s49, s50, s51, s52, s53, s54, s55, s56, s57, s58, s59, s60, s61, s62, s63, s64, s65, s66, s67, s68, s69, s70, s71, s72, s73, s74, s75, s76, s77, s78, s79, s80, s81, s82, s83, s84, s85, s86, s87, s88, s89, s90, s91, s92, s93, s94, s95, s96, s97, s98, s99, s100, s101, s102, s103, s104, s105, s106, s107, s108, s109, s110, s111, s112, s113, s114, s115, s116, s117, s118, s119, s120, s121, s122, s123, s124, s125, s126, s127, s128, s129, s130, s131, s132, s133, s134, s135, s136, s137, s138, s139, s140, s141, s142, s143, s144, s145, s146, s147, s148, s149, s150, s151, s152, s153, s154, s155, s156, s157, s158, s159, s160, s161, s162, s163, s164, s165, s166, s167, s168, s169, s170, s171, s172, s173, s174, s175, s176, s177, s178, s179], defers := [] } wc := by
  by_cases h0 : k = 0
  · refine tail11z k h0 w wc g r PP s0 s1 s3 s4 s5 s8 s9 s10 s11 s12 s13 s14 s15 s16 s17 s18 s19 s20 s21 s22 s23 s24 s25 s26 s27 s28 s29 s30 s31 s32 s33 s34 s35 s36 s37 s38 s39 s40 s41 s42 s43 s44 s45 s46 s47 s48 s49 s50 s51 s52 s53 s54 s55 s56 s57 s58 s59 s60 s61 s62 s63 s64 s65 s66 s67 s68 s69 s70 s71 s72 s73 s74 s75 s76 s77 s78 s79 s80 s81 s82 s83 s84 s85 s86 s87 s88 s89 s90 s91 s92 s93 s94 s95 s96 s97 s98 s99 s100 s101 s102 s103 s104 s105 s106 s107 s108 s109 s110 s111 s112 s113 s114 s115 s116 s117 s118 s119 s120 s121 s122 s123 s124 s125 s126 s127 s128 s129 s130 s131 s132 s133 s134 s135 s136 s137 s138 s139 s140 s141 s142 s143 s144 s145 s146 s147 s148 s149 s150 s151 s152 s153 s154 s155 s156 s157 s158 s159 s160 s161 s162 s163 s164 s165 s166 s167 s168 s169 s170 s171 s172 s173 s174 s175 s176 s177 s178 s179 (fun W b => HP.out _ _ ?_ b) HR
    rw [if_pos h0]
    rfl
  · by_cases h1 : k = 11
    · refine tail11e k h1 w wc g r PP s0 s1 s3 s4 s5 s8 s9 s10 s11 s12 s13 s14 s15 s16 s17 s18 s19 s20 s21 s22 s23 s24 s25 s26 s27 s28 s29 s30 s31 s32 s33 s34 s35 s36 s37 s38 s39 s40 s41 s42 s43 s44 s45 s46 s47 s48 s49 s50 s51 s52 s53 s54 s55 s56 s57 s58 s59 s60 s61 s62 s63 s64 s65 s66 s67 s68 s69 s70 s71 s72 s73 s74 s75 s76 s77 s78 s79 s80 s81 s82 s83 s84 s85 s86 s87 s88 s89 s90 s91 s92 s93 s94 s95 s96 s97 s98 s99 s100 s101 s102 s103 s104 s105 s106 s107 s108 s109 s110 s111 s112 s113 s114 s115 s116 s117 s118 s119 s120 s121 s122 s123 s124 s125 s126 s127 s128 s129 s130 s131 s132 s133 s134 s135 s136 s137 s138 s139 s140 s141 s142 s143 s144 s145 s146 s147 s148 s149 s150 s151 s152 s153 s154 s155 s156 s157 s158 s159 s160 s161 s162 s163 s164 s165 s166 s167 s168 s169 s170 s171 s172 s173 s174 s175 s176 s177 s178 s179 HS (fun e W h b => HP.out e W ?_ b) HR
      rw [if_neg h0]
      subst h1
      exact h
    · refine tail11y k (by omega) (by omega) w wc g r PP s0 s1 s3 s4 s5 s8 s9 s10 s11 s12 s13 s14 s15 s16 s17 s18 s19 s20 s21 s22 s23 s24 s25 s26 s27 s28 s29 s30 s31 s32 s33 s34 s35 s36 s37 s38 s39 s40 s41 s42 s43 s44 s45 s46 s47 s48 s49 s50 s51 s52 s53 s54 s55 s56 s57 s58 s59 s60 s61 s62 s63 s64 s65 s66 s67 s68 s69 s70 s71 s72 s73 s74 s75 s76 s77 s78 s79 s80 s81 s82 s83 s84 s85 s86 s87 s88 s89 s90 s91 s92 s93 s94 s95 s96 s97 s98 s99 s100 s101 s102 s103 s104 s105 s106 s107 s108 s109 s110 s111 s112 s113 s114 s115 s116 s117 s118 s119 s120 s121 s122 s123 s124 s125 s126 s127 s128 s129 s130 s131 s132 s133 s134 s135 s136 s137 s138 s139 s140 s141 s142 s143 s144 s145 s146 s147 s148 s149 s150 s151 s152 s153 s154 s155 s156 s157 s158 s159 s160 s161 s162 s163 s164 s165 s166 s167 s168 s169 s170 s171 s172 s173 s174 s175 s176 s177 s178 s179 HS (fun e W h b => HP.out e W ?_ b) HR
      rw [if_neg h0, flds_one k (by omega) (by omega)]
      exact h

end Go.Proofs.YtojbfdlgjjghjaaDoor.K
