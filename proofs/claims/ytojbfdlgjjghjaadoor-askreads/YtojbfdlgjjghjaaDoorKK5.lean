/-
  The document's Decode from its numbers on, and whole.
-/
import Derived.Test.YtojbfdlgjjghjaaDoorKK4
namespace Go.Proofs.YtojbfdlgjjghjaaDoor.K
open Go.RowKit
open Go.Lib hiding intOf
set_option linter.unusedVariables false
set_option linter.unusedSimpArgs false

/-- what is still to be read ahead of a region -/
def at21 (k : Nat) : List Nat := if k = 2 ∨ k = 3 ∨ k = 4 ∨ k = 10 then [2] else if k = 9 then [2, 3] else if k = 11 then [3] else []
def at27 (k : Nat) : List Nat := if k = 9 ∨ k = 11 then [3] else []
theorem flds_11 : flds 11 = at21 11 := rfl
theorem flds_one (k : Nat) (h1 : 1 ≤ k) (h2 : k ≤ 10) : flds (k : Int) = 1 :: at21 k := by
  match k, h1, h2 with
  | 1, _, _ | 2, _, _ | 3, _, _ | 4, _, _ | 5, _, _ | 6, _, _ | 7, _, _ | 8, _, _ | 9, _, _ | 10, _, _ => rfl
  | n + 11, _, h => exact absurd h (by omega)

set_option maxRecDepth 100000 in
set_option maxHeartbeats 8000000 in
theorem tail33 (k : Nat) (k1 : 1 ≤ k) (k2 : k ≤ 11) (w wc : World) (g : Nat) (r : ByteArray) (a : Ak) (PP : Ending → World → Prop)
    (s0 s1 s3 s4 s5 s8 s10 s11 s12 s13 s14 s15 s16 s17 s18 s19 s20 s21 s22 s23 s24 s25 s26 s27 s28 s29 s30 s31 s32 s33 s34 s35 s36 s37 s38 s39 s40 s41 s42 s43 s44 s45 s46 s47 s48 s49 s50 s51 s52 s53 s54 s55 s56 s57 s58 s59 s60 s61 s62 s63 s64 s65 s66 s67 s68 s69 s70 s71 s72 s73 s74 s75 s76 s77 s78 s79 s80 s81 s82 s83 s84 s85 s86 s87 s88 s89 s90 s91 s92 s93 s94 s95 s96 s97 s98 s99 s100 s101 s102 s103 s104 s105 s106 s107 s108 s109 s110 s111 s112 s113 s114 s115 s116 s117 s118 s119 s120 s121 s122 s123 s124 s125 s126 s127 s128 s129 s130 s131 s132 s133 s134 s135 s136 s137 s138 s139 s140 s141 s142 s143 s144 s145 s146 s147 s148 s149 s150 s151 s152 s153 s154 s155 s156 s157 s158 s159 s160 s161 s162 s163 s164 s165 s166 s167 s168 s169 s170 s171 s172 s173 s174 s175 s176 s177 s178 s179 : Value)
    (HS : Hid (r.size ≤ 16384)) (HA : Hid (a.p = ⟨#[]⟩))
    (HP : Hid (∀ e W, RefOk e (endP k (goP [] a r)) → Below w.heap.size w W → PP e W))
    (HR : Hid (Rm w wc g a [])) :
    Code.wp Tryd.prog ((Tryd.f11.body.bind (tailAt 33)).getD .skip) (bodyPost Tryd.prog Tryd.f11 PP) { tmps := #[s0, s1, .pointer (some ⟨w.heap.size, 0, none⟩), s3, s4, s5, .string r, .pointer (some ⟨g, 0, none⟩), s8, .int .i64 (k : Int), s10, s11, s12, s13, s14, s15, s16, s17, s18, s19, s20, s21, s22, s23, s24, s25, s26, s27, s28, s29, s30, s31, s32, s33, s34, s35, s36, s37, s38, s39, s40, s41, s42, s43, s44, s45, s46, s47, s48, s49, s50, s51, s52, s53, s54, s55, s56, s57, s58, s59, s60, s61, s62, s63, s64, s65, s66, s67, s68, s69, s70, s71, s72, s73, s74, s75, s76, s77, s78, s79, s80, s81, s82, s83, s84, s85, s86, s87, s88, s89, s90, s91, s92, s93, s94, s95, s96, s97, s98, s99, s100, s101, s102, s103, s104, s105, s106, s107, s108, s109, s110, s111, s112, s113, s114, s115, s116, s117, s118, s119, s120, s121, s122, s123, s124, s125, s126, s127, s128, s129, s130, s131, s132, s133, s134, s135, s136, s137, s138, s139, s140, s141, s142, s143, s144, s145, s146, s147, s148, s149, s150, s151, s152, s153, s154, s155, s156, s157, s158, s159, s160, s161, s162, s163, s164, s165, s166, s167, s168, s169, s170, s171, s172, s173, s174, s175, s176, s177, s178, s179], defers := [] } wc := by
  have ea : ({ a with p := ⟨#[]⟩ } : Ak) = a := by have := HA.out; rw [← this]
  have hd : (k = 5 ∨ k = 6 ∨ k = 7 ∨ k = 8) ∨ k = 2 ∨ (k = 1 ∨ k = 3 ∨ k = 4 ∨ k = 9 ∨ k = 10 ∨ k = 11) := by omega
  rcases hd with hk | rfl | hk
  · have hl : lastP k r = some (r, []) := by unfold lastP; rw [if_pos hk]
    refine tail33p k hk w wc g r a PP s0 s1 s3 s4 s5 s8 s10 s11 s12 s13 s14 s15 s16 s17 s18 s19 s20 s21 s22 s23 s24 s25 s26 s27 s28 s29 s30 s31 s32 s33 s34 s35 s36 s37 s38 s39 s40 s41 s42 s43 s44 s45 s46 s47 s48 s49 s50 s51 s52 s53 s54 s55 s56 s57 s58 s59 s60 s61 s62 s63 s64 s65 s66 s67 s68 s69 s70 s71 s72 s73 s74 s75 s76 s77 s78 s79 s80 s81 s82 s83 s84 s85 s86 s87 s88 s89 s90 s91 s92 s93 s94 s95 s96 s97 s98 s99 s100 s101 s102 s103 s104 s105 s106 s107 s108 s109 s110 s111 s112 s113 s114 s115 s116 s117 s118 s119 s120 s121 s122 s123 s124 s125 s126 s127 s128 s129 s130 s131 s132 s133 s134 s135 s136 s137 s138 s139 s140 s141 s142 s143 s144 s145 s146 s147 s148 s149 s150 s151 s152 s153 s154 s155 s156 s157 s158 s159 s160 s161 s162 s163 s164 s165 s166 s167 s168 s169 s170 s171 s172 s173 s174 s175 s176 s177 s178 s179 (fun W b => HP.out _ _ ?_ b) HR
    show RefOk _ (match lastP k r with | none => .inl 200 | some (p, bs) => .inr ({ a with p := p }, bs))
    rw [hl]
    rfl
  · have hl : lastP 2 r = (unsp r.data.toList).map fun b => (⟨#[]⟩, b) := rfl
    refine tail33s w wc g r a PP s0 s1 s3 s4 s5 s8 s10 s11 s12 s13 s14 s15 s16 s17 s18 s19 s20 s21 s22 s23 s24 s25 s26 s27 s28 s29 s30 s31 s32 s33 s34 s35 s36 s37 s38 s39 s40 s41 s42 s43 s44 s45 s46 s47 s48 s49 s50 s51 s52 s53 s54 s55 s56 s57 s58 s59 s60 s61 s62 s63 s64 s65 s66 s67 s68 s69 s70 s71 s72 s73 s74 s75 s76 s77 s78 s79 s80 s81 s82 s83 s84 s85 s86 s87 s88 s89 s90 s91 s92 s93 s94 s95 s96 s97 s98 s99 s100 s101 s102 s103 s104 s105 s106 s107 s108 s109 s110 s111 s112 s113 s114 s115 s116 s117 s118 s119 s120 s121 s122 s123 s124 s125 s126 s127 s128 s129 s130 s131 s132 s133 s134 s135 s136 s137 s138 s139 s140 s141 s142 s143 s144 s145 s146 s147 s148 s149 s150 s151 s152 s153 s154 s155 s156 s157 s158 s159 s160 s161 s162 s163 s164 s165 s166 s167 s168 s169 s170 s171 s172 s173 s174 s175 s176 s177 s178 s179 HS (fun hu W b => HP.out _ _ ?_ b) (fun bs hu W b => HP.out _ _ ?_ b) HR
    · show RefOk _ (match lastP 2 r with | none => .inl 200 | some (p, bs) => .inr ({ a with p := p }, bs))
      rw [hl, hu]
      rfl
    · show RefOk _ (match lastP 2 r with | none => .inl 200 | some (p, bs) => .inr ({ a with p := p }, bs))
      rw [hl, hu]
      show RefOk _ (.inr (({ a with p := ⟨#[]⟩ } : Ak), bs))
      rw [ea]
      rfl
  · have hl : lastP k r = if r = ⟨#[]⟩ then some (⟨#[]⟩, []) else none := by unfold lastP; rw [if_neg (by omega), if_neg (by omega)]
    by_cases hr : r = ⟨#[]⟩
    · refine tail33n k hk w wc g r a PP s0 s1 s3 s4 s5 s8 s10 s11 s12 s13 s14 s15 s16 s17 s18 s19 s20 s21 s22 s23 s24 s25 s26 s27 s28 s29 s30 s31 s32 s33 s34 s35 s36 s37 s38 s39 s40 s41 s42 s43 s44 s45 s46 s47 s48 s49 s50 s51 s52 s53 s54 s55 s56 s57 s58 s59 s60 s61 s62 s63 s64 s65 s66 s67 s68 s69 s70 s71 s72 s73 s74 s75 s76 s77 s78 s79 s80 s81 s82 s83 s84 s85 s86 s87 s88 s89 s90 s91 s92 s93 s94 s95 s96 s97 s98 s99 s100 s101 s102 s103 s104 s105 s106 s107 s108 s109 s110 s111 s112 s113 s114 s115 s116 s117 s118 s119 s120 s121 s122 s123 s124 s125 s126 s127 s128 s129 s130 s131 s132 s133 s134 s135 s136 s137 s138 s139 s140 s141 s142 s143 s144 s145 s146 s147 s148 s149 s150 s151 s152 s153 s154 s155 s156 s157 s158 s159 s160 s161 s162 s163 s164 s165 s166 s167 s168 s169 s170 s171 s172 s173 s174 s175 s176 s177 s178 s179 hr (fun W b => HP.out _ _ ?_ b) HR
      show RefOk _ (match lastP k r with | none => .inl 200 | some (p, bs) => .inr ({ a with p := p }, bs))
      rw [hl, if_pos hr]
      show RefOk _ (.inr (({ a with p := ⟨#[]⟩ } : Ak), []))
      rw [ea]
      rfl
    · refine tail33x k hk w wc g r a PP s0 s1 s3 s4 s5 s8 s10 s11 s12 s13 s14 s15 s16 s17 s18 s19 s20 s21 s22 s23 s24 s25 s26 s27 s28 s29 s30 s31 s32 s33 s34 s35 s36 s37 s38 s39 s40 s41 s42 s43 s44 s45 s46 s47 s48 s49 s50 s51 s52 s53 s54 s55 s56 s57 s58 s59 s60 s61 s62 s63 s64 s65 s66 s67 s68 s69 s70 s71 s72 s73 s74 s75 s76 s77 s78 s79 s80 s81 s82 s83 s84 s85 s86 s87 s88 s89 s90 s91 s92 s93 s94 s95 s96 s97 s98 s99 s100 s101 s102 s103 s104 s105 s106 s107 s108 s109 s110 s111 s112 s113 s114 s115 s116 s117 s118 s119 s120 s121 s122 s123 s124 s125 s126 s127 s128 s129 s130 s131 s132 s133 s134 s135 s136 s137 s138 s139 s140 s141 s142 s143 s144 s145 s146 s147 s148 s149 s150 s151 s152 s153 s154 s155 s156 s157 s158 s159 s160 s161 s162 s163 s164 s165 s166 s167 s168 s169 s170 s171 s172 s173 s174 s175 s176 s177 s178 s179 hr (fun W b => HP.out _ _ ?_ b) HR
      show RefOk _ (match lastP k r with | none => .inl 200 | some (p, bs) => .inr ({ a with p := p }, bs))
      rw [hl, if_neg hr]
      rfl

set_option maxRecDepth 100000 in
set_option maxHeartbeats 8000000 in
theorem tail27y (k : Nat) (hk : k = 9 ∨ k = 11) (w wc : World) (g : Nat) (r : ByteArray) (a : Ak) (PP : Ending → World → Prop)
    (s0 s1 s3 s4 s5 s8 s10 s11 s12 s13 s14 s15 s16 s17 s18 s19 s20 s21 s22 s23 s24 s25 s26 s27 s28 s29 s30 s31 s32 s33 s34 s35 s36 s37 s38 s39 s40 s41 s42 s43 s44 s45 s46 s47 s48 s49 s50 s51 s52 s53 s54 s55 s56 s57 s58 s59 s60 s61 s62 s63 s64 s65 s66 s67 s68 s69 s70 s71 s72 s73 s74 s75 s76 s77 s78 s79 s80 s81 s82 s83 s84 s85 s86 s87 s88 s89 s90 s91 s92 s93 s94 s95 s96 s97 s98 s99 s100 s101 s102 s103 s104 s105 s106 s107 s108 s109 s110 s111 s112 s113 s114 s115 s116 s117 s118 s119 s120 s121 s122 s123 s124 s125 s126 s127 s128 s129 s130 s131 s132 s133 s134 s135 s136 s137 s138 s139 s140 s141 s142 s143 s144 s145 s146 s147 s148 s149 s150 s151 s152 s153 s154 s155 s156 s157 s158 s159 s160 s161 s162 s163 s164 s165 s166 s167 s168 s169 s170 s171 s172 s173 s174 s175 s176 s177 s178 s179 : Value)
    (HS : Hid (r.size ≤ 16384)) (HA : Hid (a.p = ⟨#[]⟩))
    (HP : Hid (∀ e W, RefOk e (endP k (goP [3] a r)) → Below w.heap.size w W → PP e W))
    (HR : Hid (Rm w wc g a [])) :
    Code.wp Tryd.prog ((Tryd.f11.body.bind (tailAt 27)).getD .skip) (bodyPost Tryd.prog Tryd.f11 PP) { tmps := #[s0, s1, .pointer (some ⟨w.heap.size, 0, none⟩), s3, s4, s5, .string r, .pointer (some ⟨g, 0, none⟩), s8, .int .i64 (k : Int), s10, s11, s12, s13, s14, s15, s16, s17, s18, s19, s20, s21, s22, s23, s24, s25, s26, s27, s28, s29, s30, s31, s32, s33, s34, s35, s36, s37, s38, s39, s40, s41, s42, s43, s44, s45, s46, s47, s48, s49, s50, s51, s52, s53, s54, s55, s56, s57, s58, s59, s60, s61, s62, s63, s64, s65, s66, s67, s68, s69, s70, s71, s72, s73, s74, s75, s76, s77, s78, s79, s80, s81, s82, s83, s84, s85, s86, s87, s88, s89, s90, s91, s92, s93, s94, s95, s96, s97, s98, s99, s100, s101, s102, s103, s104, s105, s106, s107, s108, s109, s110, s111, s112, s113, s114, s115, s116, s117, s118, s119, s120, s121, s122, s123, s124, s125, s126, s127, s128, s129, s130, s131, s132, s133, s134, s135, s136, s137, s138, s139, s140, s141, s142, s143, s144, s145, s146, s147, s148, s149, s150, s151, s152, s153, s154, s155, s156, s157, s158, s159, s160, s161, s162, s163, s164, s165, s166, s167, s168, s169, s170, s171, s172, s173, s174, s175, s176, s177, s178, s179], defers := [] } wc := by
  conv => arg 2; whnf
  refine wp_seq_k (fun K2 hK2 => ?_)
  have HK : Hid (∀ (a : Act) (w : World), Code.wp Tryd.prog ((Tryd.f11.body.bind (tailAt 33)).getD .skip) (bodyPost Tryd.prog Tryd.f11 PP) a w → K2 a w) := hK2
  clear hK2
  have KB : Hid (1 ≤ k ∧ k ≤ 11) := by show _ ∧ _; omega
  have q1 := fun W => rcut_w r (by have := HS.out; omega) W
  have hq := rnumber_w (cutW r) (by have := cutW_size r; have := HS.out; omega)
  have HS2 : Hid ((cutR r).size ≤ 16384) := Nat.le_trans (cutR_size r) HS.out
  have hv0 : numV (cutW r) = match numP (cutW r) with | .inl e => .tuple #[.int .i64 0, .int .i64 e] | .inr v => .tuple #[.int .i64 v, .int .i64 0] := rfl
  rw [hv0] at hq
  clear hv0
  cases hx : numP (cutW r) with
  | inl x =>
    have hb := numP_bad hx
    have hx0 : ¬ x = 0 := by omega
    have hx1 : (x == 0) = false := by simpa using hx0
    have F := fun W b => HP.out (.returned (.tuple #[.agg (Ak.zero.rc []), .int .i64 x])) W (by unfold goP; rw [hx]; rfl) b
    have FH : Hid (∀ W, Below w.heap.size w W → PP (.returned (.tuple #[.agg (Ak.zero.rc []), .int .i64 x])) W) := F
    rw [hx] at hq
    simp only at hq
    clear hb F hx HP HS2 HK
    generalize cutW r = t1 at *
    generalize cutR r = r1 at *
    rcases hk with rfl | rfl
    all_goals
      go_upto_region 30 with (go_at_call 19; refine (q1 _).mono ?_; rintro e w1 ⟨rfl, hw1⟩)
      have hrm1 := HR.out.grow hw1
      have yy := hrm1.box.cell 3
      have ff := hrm1.box.froz 3
      have hgl := hrm1.box.lt
      have hst := hrm1.set (a' := { a with c := 0 }) (ds' := []) 3 (.int .i64 0) (by simp [Ak.rc])
      simp only [Ak.rc] at yy
      simp at yy
      have hrs := (hst).res
      have hdn := (hst).done (Ak.zero.rc [])
      have HB := FH.out _ hdn.2
      have hg2 := hdn.1
      have si := sizeR Ak.zero []
      have sk := one_rc Ak.zero []
      have hz := zeroR
      unfold Rx at hrs hg2
      clear hdn
      simp only [Ak.rc, Ak.zero] at hrs hg2 HB si sk hz
      clear hst hrm1 hw1 q1 HR FH
      go_wp2_with (first
        | (go_at_call 20; refine (hq _).mono ?_; rintro e w2 ⟨rfl, rfl⟩)
        | (refine wpList_store_row rfl 30 _ _ rfl _ _ rfl rfl 30 _ hrs si rfl sk ?_))
      have hld := run_loadVar_row _ _ _ 30 _ _ _ hg2 Tryd.underlying30 rfl si
      try simp only [Exit.inBlock, Exit.then]
      exact bodyPost_ret (by rw [results_cell_tmp rfl]; simp [asAddr, hld]) rfl HB
  | inr v =>
    have HP2 : Hid (∀ e W, RefOk e (endP k (goP ([]) { a with c := v } (cutR r))) → Below w.heap.size w W → PP e W) := fun e W h b => HP.out e W (by unfold goP; rw [hx]; exact h) b
    rw [hx] at hq
    simp only at hq
    clear hx HP HS
    generalize cutW r = t1 at *
    generalize cutR r = r1 at *
    rcases hk with rfl | rfl
    all_goals
      go_upto_region 30 with (go_at_call 19; refine (q1 _).mono ?_; rintro e w1 ⟨rfl, hw1⟩)
      have hrm1 := HR.out.grow hw1
      have yy := hrm1.box.cell 3
      have ff := hrm1.box.froz 3
      have hgl := hrm1.box.lt
      have hst : Hid _ := hrm1.set (a' := { a with c := v }) (ds' := []) 3 (.int .i64 v) (by simp [Ak.rc])
      simp only [Ak.rc] at yy
      simp at yy
      clear hrm1 hw1 q1 HR
      go_wp2_with (first
        | (go_at_call 20; refine (hq _).mono ?_; rintro e w2 ⟨rfl, rfl⟩))
      refine HK.out _ _ ?_
      exact tail33 _ KB.out.1 KB.out.2 w _ g r1 { a with c := v } PP _ _ _ _ _ _ _ _ _ _ _ _ _ _ _ _ _ _ _ _ _ _ _ _ _ _ _ _ _ _ _ _ _ _ _ _ _ _ _ _ _ _ _ _ _ _ _ _ _ _ _ _ _ _ _ _ _ _ _ _ _ _ _ _ _ _ _ _ _ _ _ _ _ _ _ _ _ _ _ _ _ _ _ _ _ _ _ _ _ _ _ _ _ _ _ _ _ _ _ _ _ _ _ _ _ _ _ _ _ _ _ _ _ _ _ _ _ _ _ _ _ _ _ _ _ _ _ _ _ _ _ _ _ _ _ _ _ _ _ _ _ _ _ _ _ _ _ _ _ _ _ _ _ _ _ _ _ _ _ _ _ _ _ _ _ _ _ _ _ _ _ _ _ _ _ _ HS2 HA HP2 hst

set_option maxRecDepth 100000 in
set_option maxHeartbeats 8000000 in
theorem tail27n (k : Nat) (hk : k = 1 ∨ k = 2 ∨ k = 3 ∨ k = 4 ∨ k = 5 ∨ k = 6 ∨ k = 7 ∨ k = 8 ∨ k = 10) (w wc : World) (g : Nat) (r : ByteArray) (a : Ak) (PP : Ending → World → Prop)
    (s0 s1 s3 s4 s5 s8 s10 s11 s12 s13 s14 s15 s16 s17 s18 s19 s20 s21 s22 s23 s24 s25 s26 s27 s28 s29 s30 s31 s32 s33 s34 s35 s36 s37 s38 s39 s40 s41 s42 s43 s44 s45 s46 s47 s48 s49 s50 s51 s52 s53 s54 s55 s56 s57 s58 s59 s60 s61 s62 s63 s64 s65 s66 s67 s68 s69 s70 s71 s72 s73 s74 s75 s76 s77 s78 s79 s80 s81 s82 s83 s84 s85 s86 s87 s88 s89 s90 s91 s92 s93 s94 s95 s96 s97 s98 s99 s100 s101 s102 s103 s104 s105 s106 s107 s108 s109 s110 s111 s112 s113 s114 s115 s116 s117 s118 s119 s120 s121 s122 s123 s124 s125 s126 s127 s128 s129 s130 s131 s132 s133 s134 s135 s136 s137 s138 s139 s140 s141 s142 s143 s144 s145 s146 s147 s148 s149 s150 s151 s152 s153 s154 s155 s156 s157 s158 s159 s160 s161 s162 s163 s164 s165 s166 s167 s168 s169 s170 s171 s172 s173 s174 s175 s176 s177 s178 s179 : Value)
    (HS : Hid (r.size ≤ 16384)) (HA : Hid (a.p = ⟨#[]⟩))
    (HP : Hid (∀ e W, RefOk e (endP k (goP [] a r)) → Below w.heap.size w W → PP e W))
    (HR : Hid (Rm w wc g a [])) :
    Code.wp Tryd.prog ((Tryd.f11.body.bind (tailAt 27)).getD .skip) (bodyPost Tryd.prog Tryd.f11 PP) { tmps := #[s0, s1, .pointer (some ⟨w.heap.size, 0, none⟩), s3, s4, s5, .string r, .pointer (some ⟨g, 0, none⟩), s8, .int .i64 (k : Int), s10, s11, s12, s13, s14, s15, s16, s17, s18, s19, s20, s21, s22, s23, s24, s25, s26, s27, s28, s29, s30, s31, s32, s33, s34, s35, s36, s37, s38, s39, s40, s41, s42, s43, s44, s45, s46, s47, s48, s49, s50, s51, s52, s53, s54, s55, s56, s57, s58, s59, s60, s61, s62, s63, s64, s65, s66, s67, s68, s69, s70, s71, s72, s73, s74, s75, s76, s77, s78, s79, s80, s81, s82, s83, s84, s85, s86, s87, s88, s89, s90, s91, s92, s93, s94, s95, s96, s97, s98, s99, s100, s101, s102, s103, s104, s105, s106, s107, s108, s109, s110, s111, s112, s113, s114, s115, s116, s117, s118, s119, s120, s121, s122, s123, s124, s125, s126, s127, s128, s129, s130, s131, s132, s133, s134, s135, s136, s137, s138, s139, s140, s141, s142, s143, s144, s145, s146, s147, s148, s149, s150, s151, s152, s153, s154, s155, s156, s157, s158, s159, s160, s161, s162, s163, s164, s165, s166, s167, s168, s169, s170, s171, s172, s173, s174, s175, s176, s177, s178, s179], defers := [] } wc := by
  conv => arg 2; whnf
  refine wp_seq_k (fun K2 hK2 => ?_)
  have HK : Hid (∀ (a : Act) (w : World), Code.wp Tryd.prog ((Tryd.f11.body.bind (tailAt 33)).getD .skip) (bodyPost Tryd.prog Tryd.f11 PP) a w → K2 a w) := hK2
  clear hK2
  have KB : Hid (1 ≤ k ∧ k ≤ 11) := by show _ ∧ _; omega
  rcases hk with rfl | rfl | rfl | rfl | rfl | rfl | rfl | rfl | rfl
  all_goals
    go_wp2_with fail
    refine HK.out _ _ ?_
    exact tail33 _ KB.out.1 KB.out.2 w _ g r a PP _ _ _ _ _ _ _ _ _ _ _ _ _ _ _ _ _ _ _ _ _ _ _ _ _ _ _ _ _ _ _ _ _ _ _ _ _ _ _ _ _ _ _ _ _ _ _ _ _ _ _ _ _ _ _ _ _ _ _ _ _ _ _ _ _ _ _ _ _ _ _ _ _ _ _ _ _ _ _ _ _ _ _ _ _ _ _ _ _ _ _ _ _ _ _ _ _ _ _ _ _ _ _ _ _ _ _ _ _ _ _ _ _ _ _ _ _ _ _ _ _ _ _ _ _ _ _ _ _ _ _ _ _ _ _ _ _ _ _ _ _ _ _ _ _ _ _ _ _ _ _ _ _ _ _ _ _ _ _ _ _ _ _ _ _ _ _ _ _ _ _ _ _ _ _ _ HS HA HP HR

set_option maxRecDepth 100000 in
set_option maxHeartbeats 8000000 in
theorem tail27 (k : Nat) (k1 : 1 ≤ k) (k2 : k ≤ 11) (w wc : World) (g : Nat) (r : ByteArray) (a : Ak) (PP : Ending → World → Prop)
    (s0 s1 s3 s4 s5 s8 s10 s11 s12 s13 s14 s15 s16 s17 s18 s19 s20 s21 s22 s23 s24 s25 s26 s27 s28 s29 s30 s31 s32 s33 s34 s35 s36 s37 s38 s39 s40 s41 s42 s43 s44 s45 s46 s47 s48 s49 s50 s51 s52 s53 s54 s55 s56 s57 s58 s59 s60 s61 s62 s63 s64 s65 s66 s67 s68 s69 s70 s71 s72 s73 s74 s75 s76 s77 s78 s79 s80 s81 s82 s83 s84 s85 s86 s87 s88 s89 s90 s91 s92 s93 s94 s95 s96 s97 s98 s99 s100 s101 s102 s103 s104 s105 s106 s107 s108 s109 s110 s111 s112 s113 s114 s115 s116 s117 s118 s119 s120 s121 s122 s123 s124 s125 s126 s127 s128 s129 s130 s131 s132 s133 s134 s135 s136 s137 s138 s139 s140 s141 s142 s143 s144 s145 s146 s147 s148 s149 s150 s151 s152 s153 s154 s155 s156 s157 s158 s159 s160 s161 s162 s163 s164 s165 s166 s167 s168 s169 s170 s171 s172 s173 s174 s175 s176 s177 s178 s179 : Value)
    (HS : Hid (r.size ≤ 16384)) (HA : Hid (a.p = ⟨#[]⟩))
    (HP : Hid (∀ e W, RefOk e (endP k (goP (at27 k) a r)) → Below w.heap.size w W → PP e W))
    (HR : Hid (Rm w wc g a [])) :
    Code.wp Tryd.prog ((Tryd.f11.body.bind (tailAt 27)).getD .skip) (bodyPost Tryd.prog Tryd.f11 PP) { tmps := #[s0, s1, .pointer (some ⟨w.heap.size, 0, none⟩), s3, s4, s5, .string r, .pointer (some ⟨g, 0, none⟩), s8, .int .i64 (k : Int), s10, s11, s12, s13, s14, s15, s16, s17, s18, s19, s20, s21, s22, s23, s24, s25, s26, s27, s28, s29, s30, s31, s32, s33, s34, s35, s36, s37, s38, s39, s40, s41, s42, s43, s44, s45, s46, s47, s48, s49, s50, s51, s52, s53, s54, s55, s56, s57, s58, s59, s60, s61, s62, s63, s64, s65, s66, s67, s68, s69, s70, s71, s72, s73, s74, s75, s76, s77, s78, s79, s80, s81, s82, s83, s84, s85, s86, s87, s88, s89, s90, s91, s92, s93, s94, s95, s96, s97, s98, s99, s100, s101, s102, s103, s104, s105, s106, s107, s108, s109, s110, s111, s112, s113, s114, s115, s116, s117, s118, s119, s120, s121, s122, s123, s124, s125, s126, s127, s128, s129, s130, s131, s132, s133, s134, s135, s136, s137, s138, s139, s140, s141, s142, s143, s144, s145, s146, s147, s148, s149, s150, s151, s152, s153, s154, s155, s156, s157, s158, s159, s160, s161, s162, s163, s164, s165, s166, s167, s168, s169, s170, s171, s172, s173, s174, s175, s176, s177, s178, s179], defers := [] } wc := by
  by_cases hk : k = 9 ∨ k = 11
  · have e : at27 k = [3] := if_pos hk
    rw [e] at HP
    exact tail27y k hk w wc g r a PP s0 s1 s3 s4 s5 s8 s10 s11 s12 s13 s14 s15 s16 s17 s18 s19 s20 s21 s22 s23 s24 s25 s26 s27 s28 s29 s30 s31 s32 s33 s34 s35 s36 s37 s38 s39 s40 s41 s42 s43 s44 s45 s46 s47 s48 s49 s50 s51 s52 s53 s54 s55 s56 s57 s58 s59 s60 s61 s62 s63 s64 s65 s66 s67 s68 s69 s70 s71 s72 s73 s74 s75 s76 s77 s78 s79 s80 s81 s82 s83 s84 s85 s86 s87 s88 s89 s90 s91 s92 s93 s94 s95 s96 s97 s98 s99 s100 s101 s102 s103 s104 s105 s106 s107 s108 s109 s110 s111 s112 s113 s114 s115 s116 s117 s118 s119 s120 s121 s122 s123 s124 s125 s126 s127 s128 s129 s130 s131 s132 s133 s134 s135 s136 s137 s138 s139 s140 s141 s142 s143 s144 s145 s146 s147 s148 s149 s150 s151 s152 s153 s154 s155 s156 s157 s158 s159 s160 s161 s162 s163 s164 s165 s166 s167 s168 s169 s170 s171 s172 s173 s174 s175 s176 s177 s178 s179 HS HA HP HR
  · have e : at27 k = [] := if_neg hk
    rw [e] at HP
    exact tail27n k (by omega) w wc g r a PP s0 s1 s3 s4 s5 s8 s10 s11 s12 s13 s14 s15 s16 s17 s18 s19 s20 s21 s22 s23 s24 s25 s26 s27 s28 s29 s30 s31 s32 s33 s34 s35 s36 s37 s38 s39 s40 s41 s42 s43 s44 s45 s46 s47 s48 s49 s50 s51 s52 s53 s54 s55 s56 s57 s58 s59 s60 s61 s62 s63 s64 s65 s66 s67 s68 s69 s70 s71 s72 s73 s74 s75 s76 s77 s78 s79 s80 s81 s82 s83 s84 s85 s86 s87 s88 s89 s90 s91 s92 s93 s94 s95 s96 s97 s98 s99 s100 s101 s102 s103 s104 s105 s106 s107 s108 s109 s110 s111 s112 s113 s114 s115 s116 s117 s118 s119 s120 s121 s122 s123 s124 s125 s126 s127 s128 s129 s130 s131 s132 s133 s134 s135 s136 s137 s138 s139 s140 s141 s142 s143 s144 s145 s146 s147 s148 s149 s150 s151 s152 s153 s154 s155 s156 s157 s158 s159 s160 s161 s162 s163 s164 s165 s166 s167 s168 s169 s170 s171 s172 s173 s174 s175 s176 s177 s178 s179 HS HA HP HR

set_option maxRecDepth 100000 in
set_option maxHeartbeats 8000000 in
theorem tail21y (k : Nat) (hk : k = 2 ∨ k = 3 ∨ k = 4 ∨ k = 9 ∨ k = 10) (w wc : World) (g : Nat) (r : ByteArray) (a : Ak) (PP : Ending → World → Prop)
    (s0 s1 s3 s4 s5 s8 s10 s11 s12 s13 s14 s15 s16 s17 s18 s19 s20 s21 s22 s23 s24 s25 s26 s27 s28 s29 s30 s31 s32 s33 s34 s35 s36 s37 s38 s39 s40 s41 s42 s43 s44 s45 s46 s47 s48 s49 s50 s51 s52 s53 s54 s55 s56 s57 s58 s59 s60 s61 s62 s63 s64 s65 s66 s67 s68 s69 s70 s71 s72 s73 s74 s75 s76 s77 s78 s79 s80 s81 s82 s83 s84 s85 s86 s87 s88 s89 s90 s91 s92 s93 s94 s95 s96 s97 s98 s99 s100 s101 s102 s103 s104 s105 s106 s107 s108 s109 s110 s111 s112 s113 s114 s115 s116 s117 s118 s119 s120 s121 s122 s123 s124 s125 s126 s127 s128 s129 s130 s131 s132 s133 s134 s135 s136 s137 s138 s139 s140 s141 s142 s143 s144 s145 s146 s147 s148 s149 s150 s151 s152 s153 s154 s155 s156 s157 s158 s159 s160 s161 s162 s163 s164 s165 s166 s167 s168 s169 s170 s171 s172 s173 s174 s175 s176 s177 s178 s179 : Value)
    (HS : Hid (r.size ≤ 16384)) (HA : Hid (a.p = ⟨#[]⟩))
    (HP : Hid (∀ e W, RefOk e (endP k (goP (2 :: at27 k) a r)) → Below w.heap.size w W → PP e W))
    (HR : Hid (Rm w wc g a [])) :
    Code.wp Tryd.prog ((Tryd.f11.body.bind (tailAt 21)).getD .skip) (bodyPost Tryd.prog Tryd.f11 PP) { tmps := #[s0, s1, .pointer (some ⟨w.heap.size, 0, none⟩), s3, s4, s5, .string r, .pointer (some ⟨g, 0, none⟩), s8, .int .i64 (k : Int), s10, s11, s12, s13, s14, s15, s16, s17, s18, s19, s20, s21, s22, s23, s24, s25, s26, s27, s28, s29, s30, s31, s32, s33, s34, s35, s36, s37, s38, s39, s40, s41, s42, s43, s44, s45, s46, s47, s48, s49, s50, s51, s52, s53, s54, s55, s56, s57, s58, s59, s60, s61, s62, s63, s64, s65, s66, s67, s68, s69, s70, s71, s72, s73, s74, s75, s76, s77, s78, s79, s80, s81, s82, s83, s84, s85, s86, s87, s88, s89, s90, s91, s92, s93, s94, s95, s96, s97, s98, s99, s100, s101, s102, s103, s104, s105, s106, s107, s108, s109, s110, s111, s112, s113, s114, s115, s116, s117, s118, s119, s120, s121, s122, s123, s124, s125, s126, s127, s128, s129, s130, s131, s132, s133, s134, s135, s136, s137, s138, s139, s140, s141, s142, s143, s144, s145, s146, s147, s148, s149, s150, s151, s152, s153, s154, s155, s156, s157, s158, s159, s160, s161, s162, s163, s164, s165, s166, s167, s168, s169, s170, s171, s172, s173, s174, s175, s176, s177, s178, s179], defers := [] } wc := by
  conv => arg 2; whnf
  refine wp_seq_k (fun K2 hK2 => ?_)
  have HK : Hid (∀ (a : Act) (w : World), Code.wp Tryd.prog ((Tryd.f11.body.bind (tailAt 27)).getD .skip) (bodyPost Tryd.prog Tryd.f11 PP) a w → K2 a w) := hK2
  clear hK2
  have KB : Hid (1 ≤ k ∧ k ≤ 11) := by show _ ∧ _; omega
  have q1 := fun W => rcut_w r (by have := HS.out; omega) W
  have hq := rnumber_w (cutW r) (by have := cutW_size r; have := HS.out; omega)
  have HS2 : Hid ((cutR r).size ≤ 16384) := Nat.le_trans (cutR_size r) HS.out
  have hv0 : numV (cutW r) = match numP (cutW r) with | .inl e => .tuple #[.int .i64 0, .int .i64 e] | .inr v => .tuple #[.int .i64 v, .int .i64 0] := rfl
  rw [hv0] at hq
  clear hv0
  cases hx : numP (cutW r) with
  | inl x =>
    have hb := numP_bad hx
    have hx0 : ¬ x = 0 := by omega
    have hx1 : (x == 0) = false := by simpa using hx0
    have F := fun W b => HP.out (.returned (.tuple #[.agg (Ak.zero.rc []), .int .i64 x])) W (by unfold goP; rw [hx]; rfl) b
    have FH : Hid (∀ W, Below w.heap.size w W → PP (.returned (.tuple #[.agg (Ak.zero.rc []), .int .i64 x])) W) := F
    rw [hx] at hq
    simp only at hq
    clear hb F hx HP HS2 HK
    generalize cutW r = t1 at *
    generalize cutR r = r1 at *
    rcases hk with rfl | rfl | rfl | rfl | rfl
    all_goals
      go_upto_region 24 with (go_at_call 19; refine (q1 _).mono ?_; rintro e w1 ⟨rfl, hw1⟩)
      have hrm1 := HR.out.grow hw1
      have yy := hrm1.box.cell 2
      have ff := hrm1.box.froz 2
      have hgl := hrm1.box.lt
      have hst := hrm1.set (a' := { a with n := 0 }) (ds' := []) 2 (.int .i64 0) (by simp [Ak.rc])
      simp only [Ak.rc] at yy
      simp at yy
      have hrs := (hst).res
      have hdn := (hst).done (Ak.zero.rc [])
      have HB := FH.out _ hdn.2
      have hg2 := hdn.1
      have si := sizeR Ak.zero []
      have sk := one_rc Ak.zero []
      have hz := zeroR
      unfold Rx at hrs hg2
      clear hdn
      simp only [Ak.rc, Ak.zero] at hrs hg2 HB si sk hz
      clear hst hrm1 hw1 q1 HR FH
      go_wp2_with (first
        | (go_at_call 20; refine (hq _).mono ?_; rintro e w2 ⟨rfl, rfl⟩)
        | (refine wpList_store_row rfl 30 _ _ rfl _ _ rfl rfl 30 _ hrs si rfl sk ?_))
      have hld := run_loadVar_row _ _ _ 30 _ _ _ hg2 Tryd.underlying30 rfl si
      try simp only [Exit.inBlock, Exit.then]
      exact bodyPost_ret (by rw [results_cell_tmp rfl]; simp [asAddr, hld]) rfl HB
  | inr v =>
    have HP2 : Hid (∀ e W, RefOk e (endP k (goP (at27 k) { a with n := v } (cutR r))) → Below w.heap.size w W → PP e W) := fun e W h b => HP.out e W (by unfold goP; rw [hx]; exact h) b
    rw [hx] at hq
    simp only at hq
    clear hx HP HS
    generalize cutW r = t1 at *
    generalize cutR r = r1 at *
    rcases hk with rfl | rfl | rfl | rfl | rfl
    all_goals
      go_upto_region 24 with (go_at_call 19; refine (q1 _).mono ?_; rintro e w1 ⟨rfl, hw1⟩)
      have hrm1 := HR.out.grow hw1
      have yy := hrm1.box.cell 2
      have ff := hrm1.box.froz 2
      have hgl := hrm1.box.lt
      have hst : Hid _ := hrm1.set (a' := { a with n := v }) (ds' := []) 2 (.int .i64 v) (by simp [Ak.rc])
      simp only [Ak.rc] at yy
      simp at yy
      clear hrm1 hw1 q1 HR
      go_wp2_with (first
        | (go_at_call 20; refine (hq _).mono ?_; rintro e w2 ⟨rfl, rfl⟩))
      refine HK.out _ _ ?_
      exact tail27 _ KB.out.1 KB.out.2 w _ g r1 { a with n := v } PP _ _ _ _ _ _ _ _ _ _ _ _ _ _ _ _ _ _ _ _ _ _ _ _ _ _ _ _ _ _ _ _ _ _ _ _ _ _ _ _ _ _ _ _ _ _ _ _ _ _ _ _ _ _ _ _ _ _ _ _ _ _ _ _ _ _ _ _ _ _ _ _ _ _ _ _ _ _ _ _ _ _ _ _ _ _ _ _ _ _ _ _ _ _ _ _ _ _ _ _ _ _ _ _ _ _ _ _ _ _ _ _ _ _ _ _ _ _ _ _ _ _ _ _ _ _ _ _ _ _ _ _ _ _ _ _ _ _ _ _ _ _ _ _ _ _ _ _ _ _ _ _ _ _ _ _ _ _ _ _ _ _ _ _ _ _ _ _ _ _ _ _ _ _ _ _ HS2 HA HP2 hst

set_option maxRecDepth 100000 in
set_option maxHeartbeats 8000000 in
theorem tail21n (k : Nat) (hk : k = 1 ∨ k = 5 ∨ k = 6 ∨ k = 7 ∨ k = 8 ∨ k = 11) (w wc : World) (g : Nat) (r : ByteArray) (a : Ak) (PP : Ending → World → Prop)
    (s0 s1 s3 s4 s5 s8 s10 s11 s12 s13 s14 s15 s16 s17 s18 s19 s20 s21 s22 s23 s24 s25 s26 s27 s28 s29 s30 s31 s32 s33 s34 s35 s36 s37 s38 s39 s40 s41 s42 s43 s44 s45 s46 s47 s48 s49 s50 s51 s52 s53 s54 s55 s56 s57 s58 s59 s60 s61 s62 s63 s64 s65 s66 s67 s68 s69 s70 s71 s72 s73 s74 s75 s76 s77 s78 s79 s80 s81 s82 s83 s84 s85 s86 s87 s88 s89 s90 s91 s92 s93 s94 s95 s96 s97 s98 s99 s100 s101 s102 s103 s104 s105 s106 s107 s108 s109 s110 s111 s112 s113 s114 s115 s116 s117 s118 s119 s120 s121 s122 s123 s124 s125 s126 s127 s128 s129 s130 s131 s132 s133 s134 s135 s136 s137 s138 s139 s140 s141 s142 s143 s144 s145 s146 s147 s148 s149 s150 s151 s152 s153 s154 s155 s156 s157 s158 s159 s160 s161 s162 s163 s164 s165 s166 s167 s168 s169 s170 s171 s172 s173 s174 s175 s176 s177 s178 s179 : Value)
    (HS : Hid (r.size ≤ 16384)) (HA : Hid (a.p = ⟨#[]⟩))
    (HP : Hid (∀ e W, RefOk e (endP k (goP (at27 k) a r)) → Below w.heap.size w W → PP e W))
    (HR : Hid (Rm w wc g a [])) :
    Code.wp Tryd.prog ((Tryd.f11.body.bind (tailAt 21)).getD .skip) (bodyPost Tryd.prog Tryd.f11 PP) { tmps := #[s0, s1, .pointer (some ⟨w.heap.size, 0, none⟩), s3, s4, s5, .string r, .pointer (some ⟨g, 0, none⟩), s8, .int .i64 (k : Int), s10, s11, s12, s13, s14, s15, s16, s17, s18, s19, s20, s21, s22, s23, s24, s25, s26, s27, s28, s29, s30, s31, s32, s33, s34, s35, s36, s37, s38, s39, s40, s41, s42, s43, s44, s45, s46, s47, s48, s49, s50, s51, s52, s53, s54, s55, s56, s57, s58, s59, s60, s61, s62, s63, s64, s65, s66, s67, s68, s69, s70, s71, s72, s73, s74, s75, s76, s77, s78, s79, s80, s81, s82, s83, s84, s85, s86, s87, s88, s89, s90, s91, s92, s93, s94, s95, s96, s97, s98, s99, s100, s101, s102, s103, s104, s105, s106, s107, s108, s109, s110, s111, s112, s113, s114, s115, s116, s117, s118, s119, s120, s121, s122, s123, s124, s125, s126, s127, s128, s129, s130, s131, s132, s133, s134, s135, s136, s137, s138, s139, s140, s141, s142, s143, s144, s145, s146, s147, s148, s149, s150, s151, s152, s153, s154, s155, s156, s157, s158, s159, s160, s161, s162, s163, s164, s165, s166, s167, s168, s169, s170, s171, s172, s173, s174, s175, s176, s177, s178, s179], defers := [] } wc := by
  conv => arg 2; whnf
  refine wp_seq_k (fun K2 hK2 => ?_)
  have HK : Hid (∀ (a : Act) (w : World), Code.wp Tryd.prog ((Tryd.f11.body.bind (tailAt 27)).getD .skip) (bodyPost Tryd.prog Tryd.f11 PP) a w → K2 a w) := hK2
  clear hK2
  have KB : Hid (1 ≤ k ∧ k ≤ 11) := by show _ ∧ _; omega
  rcases hk with rfl | rfl | rfl | rfl | rfl | rfl
  all_goals
    go_wp2_with fail
    refine HK.out _ _ ?_
    exact tail27 _ KB.out.1 KB.out.2 w _ g r a PP _ _ _ _ _ _ _ _ _ _ _ _ _ _ _ _ _ _ _ _ _ _ _ _ _ _ _ _ _ _ _ _ _ _ _ _ _ _ _ _ _ _ _ _ _ _ _ _ _ _ _ _ _ _ _ _ _ _ _ _ _ _ _ _ _ _ _ _ _ _ _ _ _ _ _ _ _ _ _ _ _ _ _ _ _ _ _ _ _ _ _ _ _ _ _ _ _ _ _ _ _ _ _ _ _ _ _ _ _ _ _ _ _ _ _ _ _ _ _ _ _ _ _ _ _ _ _ _ _ _ _ _ _ _ _ _ _ _ _ _ _ _ _ _ _ _ _ _ _ _ _ _ _ _ _ _ _ _ _ _ _ _ _ _ _ _ _ _ _ _ _ _ _ _ _ _ HS HA HP HR

set_option maxRecDepth 100000 in
set_option maxHeartbeats 8000000 in
theorem tail21 (k : Nat) (k1 : 1 ≤ k) (k2 : k ≤ 11) (w wc : World) (g : Nat) (r : ByteArray) (a : Ak) (PP : Ending → World → Prop)
    (s0 s1 s3 s4 s5 s8 s10 s11 s12 s13 s14 s15 s16 s17 s18 s19 s20 s21 s22 s23 s24 s25 s26 s27 s28 s29 s30 s31 s32 s33 s34 s35 s36 s37 s38 s39 s40 s41 s42 s43 s44 s45 s46 s47 s48 s49 s50 s51 s52 s53 s54 s55 s56 s57 s58 s59 s60 s61 s62 s63 s64 s65 s66 s67 s68 s69 s70 s71 s72 s73 s74 s75 s76 s77 s78 s79 s80 s81 s82 s83 s84 s85 s86 s87 s88 s89 s90 s91 s92 s93 s94 s95 s96 s97 s98 s99 s100 s101 s102 s103 s104 s105 s106 s107 s108 s109 s110 s111 s112 s113 s114 s115 s116 s117 s118 s119 s120 s121 s122 s123 s124 s125 s126 s127 s128 s129 s130 s131 s132 s133 s134 s135 s136 s137 s138 s139 s140 s141 s142 s143 s144 s145 s146 s147 s148 s149 s150 s151 s152 s153 s154 s155 s156 s157 s158 s159 s160 s161 s162 s163 s164 s165 s166 s167 s168 s169 s170 s171 s172 s173 s174 s175 s176 s177 s178 s179 : Value)
    (HS : Hid (r.size ≤ 16384)) (HA : Hid (a.p = ⟨#[]⟩))
    (HP : Hid (∀ e W, RefOk e (endP k (goP (at21 k) a r)) → Below w.heap.size w W → PP e W))
    (HR : Hid (Rm w wc g a [])) :
    Code.wp Tryd.prog ((Tryd.f11.body.bind (tailAt 21)).getD .skip) (bodyPost Tryd.prog Tryd.f11 PP) { tmps := #[s0, s1, .pointer (some ⟨w.heap.size, 0, none⟩), s3, s4, s5, .string r, .pointer (some ⟨g, 0, none⟩), s8, .int .i64 (k : Int), s10, s11, s12, s13, s14, s15, s16, s17, s18, s19, s20, s21, s22, s23, s24, s25, s26, s27, s28, s29, s30, s31, s32, s33, s34, s35, s36, s37, s38, s39, s40, s41, s42, s43, s44, s45, s46, s47, s48, s49, s50, s51, s52, s53, s54, s55, s56, s57, s58, s59, s60, s61, s62, s63, s64, s65, s66, s67, s68, s69, s70, s71, s72, s73, s74, s75, s76, s77, s78, s79, s80, s81, s82, s83, s84, s85, s86, s87, s88, s89, s90, s91, s92, s93, s94, s95, s96, s97, s98, s99, s100, s101, s102, s103, s104, s105, s106, s107, s108, s109, s110, s111, s112, s113, s114, s115, s116, s117, s118, s119, s120, s121, s122, s123, s124, s125, s126, s127, s128, s129, s130, s131, s132, s133, s134, s135, s136, s137, s138, s139, s140, s141, s142, s143, s144, s145, s146, s147, s148, s149, s150, s151, s152, s153, s154, s155, s156, s157, s158, s159, s160, s161, s162, s163, s164, s165, s166, s167, s168, s169, s170, s171, s172, s173, s174, s175, s176, s177, s178, s179], defers := [] } wc := by
  by_cases hk : k = 2 ∨ k = 3 ∨ k = 4 ∨ k = 9 ∨ k = 10
  · have e : at21 k = 2 :: at27 k := by rcases hk with rfl | rfl | rfl | rfl | rfl <;> rfl
    rw [e] at HP
    exact tail21y k hk w wc g r a PP s0 s1 s3 s4 s5 s8 s10 s11 s12 s13 s14 s15 s16 s17 s18 s19 s20 s21 s22 s23 s24 s25 s26 s27 s28 s29 s30 s31 s32 s33 s34 s35 s36 s37 s38 s39 s40 s41 s42 s43 s44 s45 s46 s47 s48 s49 s50 s51 s52 s53 s54 s55 s56 s57 s58 s59 s60 s61 s62 s63 s64 s65 s66 s67 s68 s69 s70 s71 s72 s73 s74 s75 s76 s77 s78 s79 s80 s81 s82 s83 s84 s85 s86 s87 s88 s89 s90 s91 s92 s93 s94 s95 s96 s97 s98 s99 s100 s101 s102 s103 s104 s105 s106 s107 s108 s109 s110 s111 s112 s113 s114 s115 s116 s117 s118 s119 s120 s121 s122 s123 s124 s125 s126 s127 s128 s129 s130 s131 s132 s133 s134 s135 s136 s137 s138 s139 s140 s141 s142 s143 s144 s145 s146 s147 s148 s149 s150 s151 s152 s153 s154 s155 s156 s157 s158 s159 s160 s161 s162 s163 s164 s165 s166 s167 s168 s169 s170 s171 s172 s173 s174 s175 s176 s177 s178 s179 HS HA HP HR
  · have hk' : k = 1 ∨ k = 5 ∨ k = 6 ∨ k = 7 ∨ k = 8 ∨ k = 11 := by omega
    have e : at21 k = at27 k := by rcases hk' with rfl | rfl | rfl | rfl | rfl | rfl <;> rfl
    rw [e] at HP
    exact tail21n k hk' w wc g r a PP s0 s1 s3 s4 s5 s8 s10 s11 s12 s13 s14 s15 s16 s17 s18 s19 s20 s21 s22 s23 s24 s25 s26 s27 s28 s29 s30 s31 s32 s33 s34 s35 s36 s37 s38 s39 s40 s41 s42 s43 s44 s45 s46 s47 s48 s49 s50 s51 s52 s53 s54 s55 s56 s57 s58 s59 s60 s61 s62 s63 s64 s65 s66 s67 s68 s69 s70 s71 s72 s73 s74 s75 s76 s77 s78 s79 s80 s81 s82 s83 s84 s85 s86 s87 s88 s89 s90 s91 s92 s93 s94 s95 s96 s97 s98 s99 s100 s101 s102 s103 s104 s105 s106 s107 s108 s109 s110 s111 s112 s113 s114 s115 s116 s117 s118 s119 s120 s121 s122 s123 s124 s125 s126 s127 s128 s129 s130 s131 s132 s133 s134 s135 s136 s137 s138 s139 s140 s141 s142 s143 s144 s145 s146 s147 s148 s149 s150 s151 s152 s153 s154 s155 s156 s157 s158 s159 s160 s161 s162 s163 s164 s165 s166 s167 s168 s169 s170 s171 s172 s173 s174 s175 s176 s177 s178 s179 HS HA HP HR

end Go.Proofs.YtojbfdlgjjghjaaDoor.K
