/-
  The document's Decode behind its numbers: declarations of their own.
-/
import Derived.Test.YtojbfdlgjjghjaaDoorKK2
import Derived.Deep.LoopGhost
namespace Go.Proofs.YtojbfdlgjjghjaaDoor.K
open Go.RowKit
open Go.Lib hiding intOf
set_option linter.unusedVariables false
set_option linter.unusedSimpArgs false

def headReg : Code → Option Nat
  | .region n _ _ => some n
  | .seq a _ => headReg a
  | .block _ c => headReg c
  | .scope c => headReg c
  | _ => none
def tailAt (n : Nat) : Code → Option Code
  | .seq a b => if headReg a = some n then some (.seq a b) else tailAt n b
  | .block _ c => tailAt n c
  | .scope c => tailAt n c
  | _ => none

theorem wrap_u8_nat (n : Nat) (h : n < 256) : IntKind.u8.wrap (n : Int) = (n : Int) := by
  have := IntKind.wrap_u8 (n : Int)
  rw [this]
  omega
theorem one_byte (W : World) (B : UInt8) : (convert 23 9 (.slice (some ⟨W.heap.size, 0, none⟩) 1 1)).run Tryd.prog (W.alloc (.cells #[.int .u8 (B.toNat : Int)] 5)) = .ok (.string ⟨#[B]⟩) (W.alloc (.cells #[.int .u8 (B.toNat : Int)] 5)) := by
  have := bytes_str (w := W.alloc (.cells #[.int .u8 (B.toNat : Int)] 5)) (g := W.heap.size) (o := 0) (l := [B]) (fun i hi => by
    match i, hi with
    | 0, _ =>
      rw [World.cell?_alloc_new]
      simp) 1
  exact this
theorem Rx.froz {w : World} {g : Nat} {C : Array Value} (h : Rx w g C) (i : Nat) : w.frozen? ⟨g, i, none⟩ = false := by unfold Rx at h; simp [World.frozen?, h]

set_option maxRecDepth 100000 in
set_option maxHeartbeats 8000000 in
theorem tail33p (k : Nat) (hk : k = 5 ∨ k = 6 ∨ k = 7 ∨ k = 8) (w wc : World) (g : Nat) (r : ByteArray) (a : Ak) (PP : Ending → World → Prop)
    (s0 s1 s3 s4 s5 s8 s10 s11 s12 s13 s14 s15 s16 s17 s18 s19 s20 s21 s22 s23 s24 s25 s26 s27 s28 s29 s30 s31 s32 s33 s34 s35 s36 s37 s38 s39 s40 s41 s42 s43 s44 s45 s46 s47 s48 s49 s50 s51 s52 s53 s54 s55 s56 s57 s58 s59 s60 s61 s62 s63 s64 s65 s66 s67 s68 s69 s70 s71 s72 s73 s74 s75 s76 s77 s78 s79 s80 s81 s82 s83 s84 s85 s86 s87 s88 s89 s90 s91 s92 s93 s94 s95 s96 s97 s98 s99 s100 s101 s102 s103 s104 s105 s106 s107 s108 s109 s110 s111 s112 s113 s114 s115 s116 s117 s118 s119 s120 s121 s122 s123 s124 s125 s126 s127 s128 s129 s130 s131 s132 s133 s134 s135 s136 s137 s138 s139 s140 s141 s142 s143 s144 s145 s146 s147 s148 s149 s150 s151 s152 s153 s154 s155 s156 s157 s158 s159 s160 s161 s162 s163 s164 s165 s166 s167 s168 s169 s170 s171 s172 s173 s174 s175 s176 s177 s178 s179 : Value)
    (HP : Hid (∀ W, Below w.heap.size w W → PP (.returned (.tuple #[.agg ((({ a with p := r } : Ak)).rc []), .int .i64 0])) W))
    (HR : Hid (Rm w wc g a [])) :
    Code.wp Tryd.prog ((Tryd.f11.body.bind (tailAt 33)).getD .skip) (bodyPost Tryd.prog Tryd.f11 PP) { tmps := #[s0, s1, .pointer (some ⟨w.heap.size, 0, none⟩), s3, s4, s5, .string r, .pointer (some ⟨g, 0, none⟩), s8, .int .i64 (k : Int), s10, s11, s12, s13, s14, s15, s16, s17, s18, s19, s20, s21, s22, s23, s24, s25, s26, s27, s28, s29, s30, s31, s32, s33, s34, s35, s36, s37, s38, s39, s40, s41, s42, s43, s44, s45, s46, s47, s48, s49, s50, s51, s52, s53, s54, s55, s56, s57, s58, s59, s60, s61, s62, s63, s64, s65, s66, s67, s68, s69, s70, s71, s72, s73, s74, s75, s76, s77, s78, s79, s80, s81, s82, s83, s84, s85, s86, s87, s88, s89, s90, s91, s92, s93, s94, s95, s96, s97, s98, s99, s100, s101, s102, s103, s104, s105, s106, s107, s108, s109, s110, s111, s112, s113, s114, s115, s116, s117, s118, s119, s120, s121, s122, s123, s124, s125, s126, s127, s128, s129, s130, s131, s132, s133, s134, s135, s136, s137, s138, s139, s140, s141, s142, s143, s144, s145, s146, s147, s148, s149, s150, s151, s152, s153, s154, s155, s156, s157, s158, s159, s160, s161, s162, s163, s164, s165, s166, s167, s168, s169, s170, s171, s172, s173, s174, s175, s176, s177, s178, s179], defers := [] } wc := by
  conv => arg 2; whnf
  have y4 := HR.out.box.cell 4
  have f4 := HR.out.box.froz 4
  have hgl := HR.out.box.lt
  have hst := HR.out.set (a' := { a with p := r }) (ds' := []) 4 (.string r) (by simp [Ak.rc])
  simp only [Ak.rc] at y4
  simp at y4
  have hbx := (hst).box
  have hrs := (hst).res
  have hdn := (hst).done ((({ a with p := r } : Ak)).rc [])
  have HB := HP.out _ hdn.2
  have hg2 := hdn.1
  have hsz := sizeR (({ a with p := r } : Ak)) []
  have hone := one_rc (({ a with p := r } : Ak)) []
  have hj : (Ak.zero.rc []).size = ((({ a with p := r } : Ak)).rc []).size := by simp [Ak.rc]
  unfold Rx at hbx hrs hg2
  clear hdn
  generalize (({ a with p := r } : Ak)).rc [] = C at *
  clear HP HR hst
  rcases hk with rfl | rfl | rfl | rfl
  all_goals
    go_wp2_with (first
      | (refine wpList_load_row rfl 30 _ rfl _ rfl 30 C _ _ hbx Tryd.underlying30 rfl hsz ?_)
      | (refine wpList_store_row rfl 30 _ _ rfl _ C rfl rfl 30 _ hrs hsz hj hone ?_))
    have hld := run_loadVar_row _ _ _ 30 _ _ _ hg2 Tryd.underlying30 rfl hsz
    try simp only [Exit.inBlock, Exit.then]
    exact bodyPost_ret (by rw [results_cell_tmp rfl]; simp [asAddr, hld]) rfl HB

set_option maxRecDepth 100000 in
set_option maxHeartbeats 8000000 in
theorem tail33n (k : Nat) (hk : k = 1 ∨ k = 3 ∨ k = 4 ∨ k = 9 ∨ k = 10 ∨ k = 11) (w wc : World) (g : Nat) (r : ByteArray) (a : Ak) (PP : Ending → World → Prop)
    (s0 s1 s3 s4 s5 s8 s10 s11 s12 s13 s14 s15 s16 s17 s18 s19 s20 s21 s22 s23 s24 s25 s26 s27 s28 s29 s30 s31 s32 s33 s34 s35 s36 s37 s38 s39 s40 s41 s42 s43 s44 s45 s46 s47 s48 s49 s50 s51 s52 s53 s54 s55 s56 s57 s58 s59 s60 s61 s62 s63 s64 s65 s66 s67 s68 s69 s70 s71 s72 s73 s74 s75 s76 s77 s78 s79 s80 s81 s82 s83 s84 s85 s86 s87 s88 s89 s90 s91 s92 s93 s94 s95 s96 s97 s98 s99 s100 s101 s102 s103 s104 s105 s106 s107 s108 s109 s110 s111 s112 s113 s114 s115 s116 s117 s118 s119 s120 s121 s122 s123 s124 s125 s126 s127 s128 s129 s130 s131 s132 s133 s134 s135 s136 s137 s138 s139 s140 s141 s142 s143 s144 s145 s146 s147 s148 s149 s150 s151 s152 s153 s154 s155 s156 s157 s158 s159 s160 s161 s162 s163 s164 s165 s166 s167 s168 s169 s170 s171 s172 s173 s174 s175 s176 s177 s178 s179 : Value)
    (HE : Hid (r = ⟨#[]⟩))
    (HP : Hid (∀ W, Below w.heap.size w W → PP (.returned (.tuple #[.agg (a.rc []), .int .i64 0])) W))
    (HR : Hid (Rm w wc g a [])) :
    Code.wp Tryd.prog ((Tryd.f11.body.bind (tailAt 33)).getD .skip) (bodyPost Tryd.prog Tryd.f11 PP) { tmps := #[s0, s1, .pointer (some ⟨w.heap.size, 0, none⟩), s3, s4, s5, .string r, .pointer (some ⟨g, 0, none⟩), s8, .int .i64 (k : Int), s10, s11, s12, s13, s14, s15, s16, s17, s18, s19, s20, s21, s22, s23, s24, s25, s26, s27, s28, s29, s30, s31, s32, s33, s34, s35, s36, s37, s38, s39, s40, s41, s42, s43, s44, s45, s46, s47, s48, s49, s50, s51, s52, s53, s54, s55, s56, s57, s58, s59, s60, s61, s62, s63, s64, s65, s66, s67, s68, s69, s70, s71, s72, s73, s74, s75, s76, s77, s78, s79, s80, s81, s82, s83, s84, s85, s86, s87, s88, s89, s90, s91, s92, s93, s94, s95, s96, s97, s98, s99, s100, s101, s102, s103, s104, s105, s106, s107, s108, s109, s110, s111, s112, s113, s114, s115, s116, s117, s118, s119, s120, s121, s122, s123, s124, s125, s126, s127, s128, s129, s130, s131, s132, s133, s134, s135, s136, s137, s138, s139, s140, s141, s142, s143, s144, s145, s146, s147, s148, s149, s150, s151, s152, s153, s154, s155, s156, s157, s158, s159, s160, s161, s162, s163, s164, s165, s166, s167, s168, s169, s170, s171, s172, s173, s174, s175, s176, s177, s178, s179], defers := [] } wc := by
  conv => arg 2; whnf
  have hE := HE.out
  subst hE
  clear HE
  have hgl := HR.out.box.lt
  have hbx := (HR.out).box
  have hrs := (HR.out).res
  have hdn := (HR.out).done ((a).rc [])
  have HB := HP.out _ hdn.2
  have hg2 := hdn.1
  have hsz := sizeR (a) []
  have hone := one_rc (a) []
  have hj : (Ak.zero.rc []).size = ((a).rc []).size := by simp [Ak.rc]
  unfold Rx at hbx hrs hg2
  clear hdn
  generalize (a).rc [] = C at *
  clear HP HR
  rcases hk with rfl | rfl | rfl | rfl | rfl | rfl
  all_goals
    go_wp2_with (first
      | (refine wpList_load_row rfl 30 _ rfl _ rfl 30 C _ _ hbx Tryd.underlying30 rfl hsz ?_)
      | (refine wpList_store_row rfl 30 _ _ rfl _ C rfl rfl 30 _ hrs hsz hj hone ?_))
    have hld := run_loadVar_row _ _ _ 30 _ _ _ hg2 Tryd.underlying30 rfl hsz
    try simp only [Exit.inBlock, Exit.then]
    exact bodyPost_ret (by rw [results_cell_tmp rfl]; simp [asAddr, hld]) rfl HB

set_option maxRecDepth 100000 in
set_option maxHeartbeats 8000000 in
theorem tail33x (k : Nat) (hk : k = 1 ∨ k = 3 ∨ k = 4 ∨ k = 9 ∨ k = 10 ∨ k = 11) (w wc : World) (g : Nat) (r : ByteArray) (a : Ak) (PP : Ending → World → Prop)
    (s0 s1 s3 s4 s5 s8 s10 s11 s12 s13 s14 s15 s16 s17 s18 s19 s20 s21 s22 s23 s24 s25 s26 s27 s28 s29 s30 s31 s32 s33 s34 s35 s36 s37 s38 s39 s40 s41 s42 s43 s44 s45 s46 s47 s48 s49 s50 s51 s52 s53 s54 s55 s56 s57 s58 s59 s60 s61 s62 s63 s64 s65 s66 s67 s68 s69 s70 s71 s72 s73 s74 s75 s76 s77 s78 s79 s80 s81 s82 s83 s84 s85 s86 s87 s88 s89 s90 s91 s92 s93 s94 s95 s96 s97 s98 s99 s100 s101 s102 s103 s104 s105 s106 s107 s108 s109 s110 s111 s112 s113 s114 s115 s116 s117 s118 s119 s120 s121 s122 s123 s124 s125 s126 s127 s128 s129 s130 s131 s132 s133 s134 s135 s136 s137 s138 s139 s140 s141 s142 s143 s144 s145 s146 s147 s148 s149 s150 s151 s152 s153 s154 s155 s156 s157 s158 s159 s160 s161 s162 s163 s164 s165 s166 s167 s168 s169 s170 s171 s172 s173 s174 s175 s176 s177 s178 s179 : Value)
    (HE : Hid (¬ r = ⟨#[]⟩))
    (HP : Hid (∀ W, Below w.heap.size w W → PP (.returned (.tuple #[.agg (Ak.zero.rc []), .int .i64 200])) W))
    (HR : Hid (Rm w wc g a [])) :
    Code.wp Tryd.prog ((Tryd.f11.body.bind (tailAt 33)).getD .skip) (bodyPost Tryd.prog Tryd.f11 PP) { tmps := #[s0, s1, .pointer (some ⟨w.heap.size, 0, none⟩), s3, s4, s5, .string r, .pointer (some ⟨g, 0, none⟩), s8, .int .i64 (k : Int), s10, s11, s12, s13, s14, s15, s16, s17, s18, s19, s20, s21, s22, s23, s24, s25, s26, s27, s28, s29, s30, s31, s32, s33, s34, s35, s36, s37, s38, s39, s40, s41, s42, s43, s44, s45, s46, s47, s48, s49, s50, s51, s52, s53, s54, s55, s56, s57, s58, s59, s60, s61, s62, s63, s64, s65, s66, s67, s68, s69, s70, s71, s72, s73, s74, s75, s76, s77, s78, s79, s80, s81, s82, s83, s84, s85, s86, s87, s88, s89, s90, s91, s92, s93, s94, s95, s96, s97, s98, s99, s100, s101, s102, s103, s104, s105, s106, s107, s108, s109, s110, s111, s112, s113, s114, s115, s116, s117, s118, s119, s120, s121, s122, s123, s124, s125, s126, s127, s128, s129, s130, s131, s132, s133, s134, s135, s136, s137, s138, s139, s140, s141, s142, s143, s144, s145, s146, s147, s148, s149, s150, s151, s152, s153, s154, s155, s156, s157, s158, s159, s160, s161, s162, s163, s164, s165, s166, s167, s168, s169, s170, s171, s172, s173, s174, s175, s176, s177, s178, s179], defers := [] } wc := by
  conv => arg 2; whnf
  have c' := ne_list HE.out
  have c2 : ¬ r = (⟨#[]⟩ : ByteArray) := HE.out
  have c3 : (r.toList == ([] : List UInt8)) = false := by simpa using c'
  have hgl := HR.out.box.lt
  have hrs := (HR.out).res
  have hdn := (HR.out).done (Ak.zero.rc [])
  have HB := HP.out _ hdn.2
  have hg2 := hdn.1
  have si := sizeR Ak.zero []
  have sk := one_rc Ak.zero []
  have hz := zeroR
  unfold Rx at hrs hg2
  clear hdn
  simp only [Ak.rc, Ak.zero] at hrs hg2 HB si sk hz
  clear HP HR HE
  rcases hk with rfl | rfl | rfl | rfl | rfl | rfl
  all_goals
    go_wp2_with (first
      | (refine wpList_store_row rfl 30 _ _ rfl _ _ rfl rfl 30 _ hrs si rfl sk ?_))
    have hld := run_loadVar_row _ _ _ 30 _ _ _ hg2 Tryd.underlying30 rfl si
    try simp only [Exit.inBlock, Exit.then]
    exact bodyPost_ret (by rw [results_cell_tmp rfl]; simp [asAddr, hld]) rfl HB

set_option maxRecDepth 100000 in
set_option maxHeartbeats 8000000 in
theorem tail33s  (w wc : World) (g : Nat) (r : ByteArray) (a : Ak) (PP : Ending → World → Prop)
    (s0 s1 s3 s4 s5 s8 s10 s11 s12 s13 s14 s15 s16 s17 s18 s19 s20 s21 s22 s23 s24 s25 s26 s27 s28 s29 s30 s31 s32 s33 s34 s35 s36 s37 s38 s39 s40 s41 s42 s43 s44 s45 s46 s47 s48 s49 s50 s51 s52 s53 s54 s55 s56 s57 s58 s59 s60 s61 s62 s63 s64 s65 s66 s67 s68 s69 s70 s71 s72 s73 s74 s75 s76 s77 s78 s79 s80 s81 s82 s83 s84 s85 s86 s87 s88 s89 s90 s91 s92 s93 s94 s95 s96 s97 s98 s99 s100 s101 s102 s103 s104 s105 s106 s107 s108 s109 s110 s111 s112 s113 s114 s115 s116 s117 s118 s119 s120 s121 s122 s123 s124 s125 s126 s127 s128 s129 s130 s131 s132 s133 s134 s135 s136 s137 s138 s139 s140 s141 s142 s143 s144 s145 s146 s147 s148 s149 s150 s151 s152 s153 s154 s155 s156 s157 s158 s159 s160 s161 s162 s163 s164 s165 s166 s167 s168 s169 s170 s171 s172 s173 s174 s175 s176 s177 s178 s179 : Value)
    (HS : Hid (r.size ≤ 16384))
    (HX : Hid (unsp r.data.toList = none → ∀ W, Below w.heap.size w W → PP (.returned (.tuple #[.agg (Ak.zero.rc []), .int .i64 200])) W))
    (HP : Hid (∀ bs, unsp r.data.toList = some bs → ∀ W, Below w.heap.size w W → PP (.returned (.tuple #[.agg (a.rc bs), .int .i64 0])) W))
    (HR : Hid (Rm w wc g a [])) :
    Code.wp Tryd.prog ((Tryd.f11.body.bind (tailAt 33)).getD .skip) (bodyPost Tryd.prog Tryd.f11 PP) { tmps := #[s0, s1, .pointer (some ⟨w.heap.size, 0, none⟩), s3, s4, s5, .string r, .pointer (some ⟨g, 0, none⟩), s8, .int .i64 2, s10, s11, s12, s13, s14, s15, s16, s17, s18, s19, s20, s21, s22, s23, s24, s25, s26, s27, s28, s29, s30, s31, s32, s33, s34, s35, s36, s37, s38, s39, s40, s41, s42, s43, s44, s45, s46, s47, s48, s49, s50, s51, s52, s53, s54, s55, s56, s57, s58, s59, s60, s61, s62, s63, s64, s65, s66, s67, s68, s69, s70, s71, s72, s73, s74, s75, s76, s77, s78, s79, s80, s81, s82, s83, s84, s85, s86, s87, s88, s89, s90, s91, s92, s93, s94, s95, s96, s97, s98, s99, s100, s101, s102, s103, s104, s105, s106, s107, s108, s109, s110, s111, s112, s113, s114, s115, s116, s117, s118, s119, s120, s121, s122, s123, s124, s125, s126, s127, s128, s129, s130, s131, s132, s133, s134, s135, s136, s137, s138, s139, s140, s141, s142, s143, s144, s145, s146, s147, s148, s149, s150, s151, s152, s153, s154, s155, s156, s157, s158, s159, s160, s161, s162, s163, s164, s165, s166, s167, s168, s169, s170, s171, s172, s173, s174, s175, s176, s177, s178, s179], defers := [] } wc := by
  conv => arg 2; whnf
  have hlen : r.data.toList.length = r.size := rfl
  have hr16 := HS.out
  by_cases c : r.size % 2 = 0
  · obtain ⟨n, hn⟩ : ∃ n, r.size = 2 * n := ⟨r.size / 2, by omega⟩
    have c1 : ((r.size : Int) % 2) = 0 := by omega
    have c1' : ((r.size : Int).tmod 2) = 0 := by rw [Int.tmod_eq_emod_of_nonneg (by omega)]; exact c1
    have S0 : Hid (Sofar r.data.toList 0 []) := sofar_0 _
    have HN2 : Hid (r.size = 2 * n) := hn
    clear hn c
    go_upto_region 39 with fail
    clear c1 c1'
    go_wp2_with fail
    go_loopg [17] r.size (fun gk u wr => ∃ (i m : Nat) (ds : List UInt8), m + gk = r.size ∧ u = .int .i64 (m : Int) ∧ Hid (m = 2 * i) ∧ Hid (Rm w wr g a ds) ∧ Hid (Sofar r.data.toList i ds))
    case atStart => exact ⟨0, 0, [], by omega, rfl, rfl, HR, S0⟩
    case round =>
      obtain ⟨i, m, ds, hig, rfl, hmi, hrm, hso⟩ := hrel
      clear HR S0
      by_cases hlt : (m : Int) < (r.size : Int)
      · have i1 : 2 * i + 1 < r.data.toList.length := by have := hmi.out; have := HN2.out; omega
        have hm1 : (m : Int) + 1 < (r.size : Int) := by have := hmi.out; have := HN2.out; omega
        obtain ⟨b0, hb0⟩ : ∃ b : UInt8, r.data.toList[2 * i]'(by omega) = b := ⟨_, rfl⟩
        obtain ⟨b1, hb1⟩ : ∃ b : UInt8, r.data.toList[2 * i + 1]'(by omega) = b := ⟨_, rfl⟩
        have hx0 : ∀ W, (Instr.index 9 (.string r) (.int .i64 (m : Int))).run Tryd.prog W = .ok (.int .u8 (b0.toNat : Int)) W := fun W => by
          have hm := hmi.out
          subst hm
          rw [← hb0]
          exact idx_at r (2 * i) (by omega) W
        have hx1 : ∀ W, (Instr.index 9 (.string r) (.int .i64 ((m : Int) + 1))).run Tryd.prog W = .ok (.int .u8 (b1.toNat : Int)) W := fun W => by
          have hm := hmi.out
          subst hm
          rw [← hb1]
          exact idx_at r (2 * i + 1) (by omega) W
        have hib := fun (b : UInt8) W => rdigit_w b W
        have hw1 : wrap64 ((m : Int) + 1) = m + 1 := by unfold wrap64; omega
        go_upto_region 42 with fail
        go_quiet ((go_at_call 21; exact Calls.quiet_of_same (hib _ _)))
        have hrm7 : Hid (Rm w (wr.drewN nq) g a ds) := hrm.out.grow (bel_drewN (Below.refl _ wr) nq)
        have hg0 := hx_ge b0
        have hg1 := hx_ge b1
        clear hrm hx0 hx1 hib hw1
        generalize wr.drewN nq = w7 at *
        have hgl := hrm7.out.box.lt
        by_cases h0 : hx b0 < 0
        · have F := HX.out (hso.out.bad i1 (.inl (by rw [hb0]; exact h0)))
          clear HX HP hso
          generalize hx b0 = x at *
          generalize hx b1 = y at *
          have hrs := (hrm7.out).res
          have hdn := (hrm7.out).done (Ak.zero.rc [])
          have HB := F _ hdn.2
          have hg2 := hdn.1
          have si := sizeR Ak.zero []
          have sk := one_rc Ak.zero []
          have hz := zeroR
          unfold Rx at hrs hg2
          clear hdn
          simp only [Ak.rc, Ak.zero] at hrs hg2 HB si sk hz
          clear F hrm7
          go_wp2_with (first
            | (refine wpList_store_row rfl 30 _ _ rfl _ _ rfl rfl 30 _ hrs si rfl sk ?_))
          have hld := run_loadVar_row _ _ _ 30 _ _ _ hg2 Tryd.underlying30 rfl si
          try simp only [Exit.inBlock, Exit.then]
          exact bodyPost_ret (by rw [results_cell_tmp rfl]; simp [asAddr, hld]) rfl HB
        by_cases h1 : hx b1 < 0
        · have F := HX.out (hso.out.bad i1 (.inr (by rw [hb1]; exact h1)))
          clear HX HP hso
          generalize hx b0 = x at *
          generalize hx b1 = y at *
          have hrs := (hrm7.out).res
          have hdn := (hrm7.out).done (Ak.zero.rc [])
          have HB := F _ hdn.2
          have hg2 := hdn.1
          have si := sizeR Ak.zero []
          have sk := one_rc Ak.zero []
          have hz := zeroR
          unfold Rx at hrs hg2
          clear hdn
          simp only [Ak.rc, Ak.zero] at hrs hg2 HB si sk hz
          clear F hrm7
          go_wp2_with (first
            | (refine wpList_store_row rfl 30 _ _ rfl _ _ rfl rfl 30 _ hrs si rfl sk ?_))
          have hld := run_loadVar_row _ _ _ 30 _ _ _ hg2 Tryd.underlying30 rfl si
          try simp only [Exit.inBlock, Exit.then]
          exact bodyPost_ret (by rw [results_cell_tmp rfl]; simp [asAddr, hld]) rfl HB
        · have hn := hso.out.next i1 (by rw [hb0, hb1]; intro h; rcases h with h | h; exact h0 h; exact h1 h)
          rw [hb0, hb1] at hn
          have HN : Hid _ := hn
          have hcv8 : ((UInt8.ofNat (16 * (hx b0).toNat + (hx b1).toNat)).toNat : Int) = 16 * hx b0 + hx b1 := by
            rw [UInt8.toNat_ofNat']; omega
          obtain ⟨B, hB⟩ : ∃ B, UInt8.ofNat (16 * (hx b0).toNat + (hx b1).toNat) = B := ⟨_, rfl⟩
          rw [hB] at hcv8 HN
          have hu8 : IntKind.u8.wrap (16 * hx b0 + hx b1) = (B.toNat : Int) := by rw [← hcv8]; have := B.toNat_lt; exact wrap_u8_nat _ this
          have hcv := one_byte w7 B
          have hdl : ds.length = i := hso.out.1
          have hs3 : ¬ 9223372036854775807 < (⟨ds.toArray⟩ : ByteArray).size + (⟨#[B]⟩ : ByteArray).size := by
            show ¬ _ < ds.toArray.size + 1
            have := hmi.out
            simp
            omega
          have hap : (⟨ds.toArray⟩ : ByteArray) ++ ⟨#[B]⟩ = ⟨(ds ++ [B]).toArray⟩ := by apply ByteArray.ext; simp [ByteArray.data_append]
          have y5 := hrm7.out.box.cell 5
          have f5 := hrm7.out.box.froz 5
          have H8 := (hrm7.out.set (a' := a) (ds' := ds ++ [B]) 5 (.string ⟨(ds ++ [B]).toArray⟩) (by simp [Ak.rc])).grow ((Below.refl _ _).alloc (Nat.le_refl _) (.cells #[.int .u8 (B.toNat : Int)] 5))
          rw [← hap] at H8
          have H9 : Hid _ := H8
          simp only [Ak.rc] at y5
          simp at y5
          have hwx : wrap64 (16 * hx b0) = 16 * hx b0 := by unfold wrap64; omega
          have HM2 : Hid (m + 2 = 2 * (i + 1)) := by have := hmi.out; show _ = _; omega
          clear H8 hn hcv8 hB HX HP hso hrm7 hdl hap hb0 hb1
          generalize (⟨ds.toArray⟩ : ByteArray) = sd at *
          generalize hx b0 = x at *
          generalize hx b1 = y at *
          go_wp2_with fail
          go_roundg (r.size - (m + 2))
          case rel => exact ⟨i + 1, m + 2, ds ++ [B], by omega, by simp, HM2, H9, HN⟩
          case measure => omega
      · have hd : i = n := by have := hmi.out; have := HN2.out; omega
        have F := HP.out ds (hso.out.done (by rw [hlen]; have := hmi.out; omega))
        have hgl := hrm.out.box.lt
        have hbx := (hrm.out).box
        have hrs := (hrm.out).res
        have hdn := (hrm.out).done ((a).rc ds)
        have HB := F _ hdn.2
        have hg2 := hdn.1
        have hsz := sizeR (a) ds
        have hone := one_rc (a) ds
        have hj : (Ak.zero.rc []).size = ((a).rc ds).size := by simp [Ak.rc]
        unfold Rx at hbx hrs hg2
        clear hdn
        generalize (a).rc ds = C at *
        clear HX HP hso F hrm
        go_wp2_with (first
          | (refine wpList_load_row rfl 30 _ rfl _ rfl 30 C _ _ hbx Tryd.underlying30 rfl hsz ?_)
          | (refine wpList_store_row rfl 30 _ _ rfl _ C rfl rfl 30 _ hrs hsz hj hone ?_))
        have hld := run_loadVar_row _ _ _ 30 _ _ _ hg2 Tryd.underlying30 rfl hsz
        try simp only [Exit.inBlock, Exit.then]
        exact bodyPost_ret (by rw [results_cell_tmp rfl]; simp [asAddr, hld]) rfl HB
  · have c1 : ¬ ((r.size : Int) % 2) = 0 := by omega
    have c' : ((r.size : Int) % 2 == 0) = false := by simp; omega
    have F := HX.out (unsp_odd r.data.toList (by rw [hlen]; omega))
    have hgl := HR.out.box.lt
    have hrs := (HR.out).res
    have hdn := (HR.out).done (Ak.zero.rc [])
    have HB := F _ hdn.2
    have hg2 := hdn.1
    have si := sizeR Ak.zero []
    have sk := one_rc Ak.zero []
    have hz := zeroR
    unfold Rx at hrs hg2
    clear hdn
    simp only [Ak.rc, Ak.zero] at hrs hg2 HB si sk hz
    clear HX HP F HR
    go_wp2_with (first
      | (refine wpList_store_row rfl 30 _ _ rfl _ _ rfl rfl 30 _ hrs si rfl sk ?_))
    have hld := run_loadVar_row _ _ _ 30 _ _ _ hg2 Tryd.underlying30 rfl si
    try simp only [Exit.inBlock, Exit.then]
    exact bodyPost_ret (by rw [results_cell_tmp rfl]; simp [asAddr, hld]) rfl HB
end Go.Proofs.YtojbfdlgjjghjaaDoor.K
