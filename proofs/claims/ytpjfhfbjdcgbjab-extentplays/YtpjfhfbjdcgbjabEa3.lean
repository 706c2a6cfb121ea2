/-
  ExtentPlays: a part is read.
-/
import Derived.Test.YtpjfhfbjdcgbjabE2
import Derived.Deep.RegionHeld3
import Derived.Deep.QuietTactic
namespace Go.Proofs.Ytpjfhfbjdcgbjab
open Go.RowKit
set_option linter.unusedVariables false
set_option linter.unusedSimpArgs false

set_option maxRecDepth 100000 in
set_option maxHeartbeats 8000000 in
theorem arm3_good (w w5 : World) (p S F B n j gr k cv gs cs g10 i : Nat) (xs : List Cn) (ss : List Slot) (fr : List Nat) (xa : Option Addr) (xc : Nat) (xi xL : List Int) (o0 o1 o2 o3 : Int) (da : Option Addr) (dl dc : Nat) (D : List Int)
    (s1 s2 s3 s4 s6 s9 s13 s14 s15 s16 s17 s18 s19 s20 s21 s22 s23 s24 s25 s26 s27 s28 s29 s30 s31 s32 s33 s34 s35 s36 s37 s38 s39 s40 s41 s42 s43 s44 s45 s46 s47 s48 s49 s50 s51 s52 s53 s54 s55 s56 s57 s58 s59 s60 s61 s62 s63 s64 s65 s66 s67 s68 s69 s70 s71 s72 s73 s74 s75 s76 s77 s78 s79 s80 s81 s82 s83 s84 s85 s86 s87 s88 s89 s90 s91 s92 s93 s94 s95 s96 s97 s98 s99 s100 s101 s102 s103 s104 s105 s106 s107 s108 s109 s110 s111 s112 s113 s114 s115 s116 s117 s118 s119 s120 s121 s122 s123 s124 s125 s126 s127 s128 s129 s130 s131 s132 s133 s134 s135 s136 s137 s138 s139 s140 s141 s142 s143 s144 s145 s146 s147 s148 s149 s150 s151 s152 s153 s154 s155 s156 s157 s158 s159 s160 s161 s162 s163 s164 s165 s166 s167 s168 s169 s170 s171 s172 s173 s174 s175 s176 s177 s178 s179 s180 s181 s182 s183 s184 s185 s186 s187 s188 s189 s190 s191 s192 s193 s194 s195 s196 s197 s198 s199 s200 s201 s202 s203 s204 s205 s206 s207 s208 s209 s210 s211 s212 s213 s214 s215 s216 s217 s218 s219 s220 s221 s222 s223 s224 s225 s226 s227 s228 s229 s230 s231 s232 s233 s234 s235 s236 s237 s238 s239 s240 s241 s242 s243 s244 s245 s246 s247 s248 s249 s250 s251 s252 s253 s254 s255 s256 s257 s258 s259 s260 s261 s262 s263 s264 s265 s266 s267 s268 s269 s270 s271 s272 s273 s274 s275 s276 s277 s278 s279 s280 s281 s282 s283 s284 s285 s286 s287 s288 s289 s290 s291 s292 s293 s294 s295 s296 s297 s298 s299 s300 s301 s302 s303 s304 s305 s306 s307 s308 s309 s310 s311 s312 s313 s314 s315 s316 s317 s318 s319 s320 s321 s322 s323 s324 s325 s326 s327 s328 s329 s330 s331 s332 s333 s334 s335 s336 s337 s338 s339 s340 s341 s342 s343 s344 s345 s346 s347 s348 s349 s350 s351 s352 s353 s354 s355 : Value) (Q : Exit → Act → World → Prop) (HP : Hid (∀ c a (d : Nat) v w, Q (.panic c) (Act.put a (some d) v) w → Q (.panic c) a w))
    (H5 : Hid (Es w w5 p S F B n j (.slice (some ⟨gr, 0, none⟩) k cv) (.slice (some ⟨gs, 0, none⟩) k cs) xs ss fr)) (HX : Hid (xs[i]? = some ⟨xa, xc, xi, xL⟩)) (hik : i < k) (hj : j < 60) (hkj : k ≤ 60)
    (HD : Hid (Src w5 da D)) (HDl : Hid (D.length = dl)) (hdl : dl ≤ 1000) (hdc : dl ≤ dc) (hdm : dc ≤ 9223372036854775807) (HDa : Hid (∀ ad, da = some ad → 0 < dl → ad.block < w.heap.size))
    (hg10B : B ≤ g10) (HOp : Hid (w5.heap[g10]? = some (.cells #[.int .i64 o0, .int .i64 o1, .int .i64 o2, .int .i64 o3, .slice da dl dc] 32 (0, 0))))
    (hz2 : -9223372036854775808 ≤ o2 ∧ o2 ≤ 9223372036854775807) (hz3 : -9223372036854775808 ≤ o3 ∧ o3 ≤ 9223372036854775807)
    (at_ nn : Nat) (HA : Hid (o2 = (at_ : Int))) (HNn : Hid (o3 = (nn : Int))) (hg : at_ + nn ≤ xL.length)
    (HQ : Hid (∀ (x18 x19 x20 x215 x216 x217 x218 x219 x220 x221 x222 x223 x224 x225 x226 x227 x228 x229 x230 x231 x232 x233 x234 x235 x236 x237 x238 x239 x240 x241 x242 x243 x244 x245 x246 x247 x248 x249 x250 x251 x252 x253 x254 x255 x256 x257 x258 x259 x260 x261 x262 x263 x264 x265 x266 x267 x268 x269 x270 x271 x272 x273 x274 x275 x276 x277 x278 x279 x280 x281 x282 x283 x284 x285 x286 x287 x288 x289 x290 : Value) W, Es w W p S F B n (j + 1) (.slice (some ⟨gr, 0, none⟩) k cv) (.slice (some ⟨gs, 0, none⟩) k cs) xs ss fr → Q .normal { tmps := #[.int .i64 (n : Int), s1, s2, s3, s4, .pointer (some ⟨p, 0, none⟩), s6, .slice (some ⟨gr, 0, none⟩) k cv, .slice (some ⟨gs, 0, none⟩) k cs, s9, .pointer (some ⟨g10, 0, none⟩), .int .i64 (i : Int), .int .i64 (fr.length : Int), s13, s14, s15, s16, s17, x18, x19, x20, s21, s22, s23, s24, s25, s26, s27, s28, s29, s30, s31, s32, s33, s34, s35, s36, s37, s38, s39, s40, s41, s42, s43, s44, s45, s46, s47, s48, s49, s50, s51, s52, s53, s54, s55, s56, s57, s58, s59, s60, s61, s62, s63, s64, s65, s66, s67, s68, s69, s70, s71, s72, s73, s74, s75, s76, s77, s78, s79, s80, s81, s82, s83, s84, s85, s86, s87, s88, s89, s90, s91, s92, s93, s94, s95, s96, s97, s98, s99, s100, s101, s102, s103, s104, s105, s106, s107, s108, s109, s110, s111, s112, s113, s114, s115, s116, s117, s118, s119, s120, s121, s122, s123, s124, s125, s126, s127, s128, s129, s130, s131, s132, s133, s134, s135, s136, s137, s138, s139, s140, s141, s142, s143, s144, s145, s146, s147, s148, s149, s150, s151, s152, s153, s154, s155, s156, s157, s158, s159, s160, s161, s162, s163, s164, s165, s166, s167, s168, s169, s170, s171, s172, s173, s174, s175, s176, s177, s178, s179, s180, s181, s182, s183, s184, s185, s186, s187, s188, s189, s190, s191, s192, s193, s194, s195, s196, s197, s198, s199, s200, s201, s202, s203, s204, s205, s206, s207, s208, s209, s210, s211, s212, s213, s214, x215, x216, x217, x218, x219, x220, x221, x222, x223, x224, x225, x226, x227, x228, x229, x230, x231, x232, x233, x234, x235, x236, x237, x238, x239, x240, x241, x242, x243, x244, x245, x246, x247, x248, x249, x250, x251, x252, x253, x254, x255, x256, x257, x258, x259, x260, x261, x262, x263, x264, x265, x266, x267, x268, x269, x270, x271, x272, x273, x274, x275, x276, x277, x278, x279, x280, x281, x282, x283, x284, x285, x286, x287, x288, x289, x290, s291, s292, s293, s294, s295, s296, s297, s298, s299, s300, s301, s302, s303, s304, s305, s306, s307, s308, s309, s310, s311, s312, s313, s314, s315, s316, s317, s318, s319, s320, s321, s322, s323, s324, s325, s326, s327, s328, s329, s330, s331, s332, s333, s334, s335, s336, s337, s338, s339, s340, s341, s342, s343, s344, s345, s346, s347, s348, s349, s350, s351, s352, s353, s354, s355], defers := [] } W)) :
    Code.wp Try.prog ((Try.f3.body.bind (findAt 35)).getD .skip) Q { tmps := #[.int .i64 (n : Int), s1, s2, s3, s4, .pointer (some ⟨p, 0, none⟩), s6, .slice (some ⟨gr, 0, none⟩) k cv, .slice (some ⟨gs, 0, none⟩) k cs, s9, .pointer (some ⟨g10, 0, none⟩), .int .i64 (i : Int), .int .i64 (fr.length : Int), s13, s14, s15, s16, s17, s18, s19, s20, s21, s22, s23, s24, s25, s26, s27, s28, s29, s30, s31, s32, s33, s34, s35, s36, s37, s38, s39, s40, s41, s42, s43, s44, s45, s46, s47, s48, s49, s50, s51, s52, s53, s54, s55, s56, s57, s58, s59, s60, s61, s62, s63, s64, s65, s66, s67, s68, s69, s70, s71, s72, s73, s74, s75, s76, s77, s78, s79, s80, s81, s82, s83, s84, s85, s86, s87, s88, s89, s90, s91, s92, s93, s94, s95, s96, s97, s98, s99, s100, s101, s102, s103, s104, s105, s106, s107, s108, s109, s110, s111, s112, s113, s114, s115, s116, s117, s118, s119, s120, s121, s122, s123, s124, s125, s126, s127, s128, s129, s130, s131, s132, s133, s134, s135, s136, s137, s138, s139, s140, s141, s142, s143, s144, s145, s146, s147, s148, s149, s150, s151, s152, s153, s154, s155, s156, s157, s158, s159, s160, s161, s162, s163, s164, s165, s166, s167, s168, s169, s170, s171, s172, s173, s174, s175, s176, s177, s178, s179, s180, s181, s182, s183, s184, s185, s186, s187, s188, s189, s190, s191, s192, s193, s194, s195, s196, s197, s198, s199, s200, s201, s202, s203, s204, s205, s206, s207, s208, s209, s210, s211, s212, s213, s214, s215, s216, s217, s218, s219, s220, s221, s222, s223, s224, s225, s226, s227, s228, s229, s230, s231, s232, s233, s234, s235, s236, s237, s238, s239, s240, s241, s242, s243, s244, s245, s246, s247, s248, s249, s250, s251, s252, s253, s254, s255, s256, s257, s258, s259, s260, s261, s262, s263, s264, s265, s266, s267, s268, s269, s270, s271, s272, s273, s274, s275, s276, s277, s278, s279, s280, s281, s282, s283, s284, s285, s286, s287, s288, s289, s290, s291, s292, s293, s294, s295, s296, s297, s298, s299, s300, s301, s302, s303, s304, s305, s306, s307, s308, s309, s310, s311, s312, s313, s314, s315, s316, s317, s318, s319, s320, s321, s322, s323, s324, s325, s326, s327, s328, s329, s330, s331, s332, s333, s334, s335, s336, s337, s338, s339, s340, s341, s342, s343, s344, s345, s346, s347, s348, s349, s350, s351, s352, s353, s354, s355], defers := [] } w5 := by
  conv => arg 2; whnf
  have HW : Hid (Ws w5 B (.slice (some ⟨gs, 0, none⟩) k cs) xs) := H5.out.str
  have HC : Hid (Cs w5 B (.slice (some ⟨gr, 0, none⟩) k cv) xs) := H5.out.row
  have HLn : Hid (k = xs.length) := H5.out.row.len.1
  have hcv : k ≤ cv := H5.out.row.len.2.1
  have hcs : k ≤ cs := H5.out.str.len.2.1
  have hbd := H5.out.bound (by omega) (List.mem_of_getElem? HX.out)
  obtain ⟨g', eav, hgB, hgl, c0, c1, fz⟩ := H5.out.row.get HX.out
  simp at eav
  subst eav
  obtain ⟨g', eas, hsB, hsl, d0, fs, curs, hcurs⟩ := H5.out.str.get HX.out
  simp at eas
  subst eas
  have HI : Hid (Inv ss fr ((xi, xL) :: (xs.eraseIdx i).map Cn.ct)) := H5.out.inv.perm (ahead HX.out)
  have HO : Hid (Own w5 B (.slice xa xi.length xc) xi) := H5.out.row.own _ (List.mem_of_getElem? HX.out)
  have HXs : Hid (xL.length ≤ 1000 * j) := H5.out.size _ (List.mem_of_getElem? HX.out)
  simp only [Cn.val] at c0 c1 d0
  simp only at hbd
  have HBd : Hid _ := hbd
  obtain ⟨lp, lS, lF⟩ := H5.out.ar.lt
  have hB0 := H5.out.B0
  have hBw := H5.out.Bw
  have hp1 := H5.out.hp
  have hS1 := H5.out.hS
  have hF1 := H5.out.hF
  have m10 := two10 HOp.out
  have hg10 : g10 < w5.heap.size := lt_of_heap HOp.out
  clear hbd
  obtain ⟨hb1, hb2, hb3⟩ := HBd.out
  have KR : Hid (∀ W, Below w5.heap.size w5 W → Calls Try.prog 16 #[.pointer (some ⟨p, 0, none⟩), .agg #[.slice xa xi.length xc, .int .i64 (xL.length : Int)], .int .i64 (at_ : Int), .int .i64 (nn : Int)] W fun e w' => ∃ g c', e = .returned (.tuple #[.slice (some ⟨g, 0, none⟩) nn c', .int .i64 0]) ∧ OwnB w' (W.heap.size + 1) (.slice (some ⟨g, 0, none⟩) nn c') (part xL at_ nn) ∧ c' ≤ 9223372036854775807 ∧ Below W.heap.size W w') := fun W hb =>
    read_ext (H5.out.ar.grow hb) xa xc xi xL (HI.out.lies (xi, xL) (by simp)) (HO.out.grow hb).use.2.1 (by omega) at_ nn hg
  have hsz := strOf_size xL
  have HP : Hid ((strOf xL).extract at_ (at_ + nn) = strOf (part xL at_ nn)) := strOf_part xL at_ nn hg
  rw [HA.out, HNn.out] at m10
  obtain ⟨m, hm⟩ : ∃ m : Nat, xL.length = m := ⟨_, rfl⟩
  have HM : Hid (xL.length = m) := hm
  rw [hm] at KR c1 hsz hg hb1
  clear hm hb2 hb3
  have HS : Hid (∀ W, Below w5.heap.size w5 W → W.cell? ⟨gr, i * 2, none⟩ = some (.slice xa xi.length xc) ∧ W.cell? ⟨gr, i * 2 + 1, none⟩ = some (.int .i64 (m : Int)) ∧ W.cell? ⟨g10, 2, none⟩ = some (.int .i64 (at_ : Int)) ∧ W.cell? ⟨g10, 3, none⟩ = some (.int .i64 (nn : Int)) ∧ W.cell? ⟨gs, i, none⟩ = some (.string (strOf xL))) := fun W hb => ⟨cell_below hb c0, cell_below hb c1, cell_below hb (m10 2), cell_below hb (m10 3), cell_below hb d0⟩
  have hi0 : (0 : Int) ≤ (i : Int) := by omega
  have hik2 : (i : Int) < (k : Int) := by omega
  clear c0 c1 fz d0 fs hcurs m10
  have b0 : Below w5.heap.size w5 w5.drew := (Below.refl _ _).drew
  have HB0 : Hid (Below w5.heap.size w5 w5.drew) := b0
  clear b0
  go_upto_region 35 with fail
  go_region_held3 (fun W => W.cell? ⟨gr, i * 2, none⟩ = some (.slice xa xi.length xc) ∧ W.cell? ⟨gr, i * 2 + 1, none⟩ = some (.int .i64 (m : Int)) ∧ W.cell? ⟨g10, 2, none⟩ = some (.int .i64 (at_ : Int)) ∧ W.cell? ⟨g10, 3, none⟩ = some (.int .i64 (nn : Int)) ∧ W.cell? ⟨gs, i, none⟩ = some (.string (strOf xL)))
    (first | exact HS.out _ HB0.out | exact HS.out _ B6.out)
    ((go_at_call 16; refine (KR.out _ HB0.out).mono ?_; rintro e w6 ⟨g6, c6, rfl, O6, hc6, b6⟩; have B6 : Hid (Below w5.heap.size w5 w6) := HB0.out.trans (b6.mono HB0.out.size)))
  obtain ⟨r0, r1, r2, r3, r4⟩ := HS.out _ B6.out
  have hcv6 : ∀ N, (convert 30 9 (.slice (some ⟨g6, 0, none⟩) nn c6)).run Try.prog (w6.drewN N) = .ok (.string (strOf (part xL at_ nn))) (w6.drewN N) := fun N => conv_src (w6.drewN N) _ _ nn c6 (by unfold part; rw [List.length_take, List.length_drop]; have := HM.out; omega) (O6.use.2.drewN N)
  have a1 : (0 : Int) ≤ (at_ : Int) := by omega
  have a2 : (at_ : Int) ≤ (m : Int) := by omega
  have a3 : (0 : Int) ≤ (nn : Int) := by omega
  have a4 : (nn : Int) ≤ (m : Int) - (at_ : Int) := by omega
  have hsl : ∀ W, (Instr.sliceAt 9 (.string (strOf xL)) (some (.int .i64 (at_ : Int))) (some (.int .i64 ((at_ : Int) + (nn : Int)))) none).run Try.prog W = .ok (.string (strOf (part xL at_ nn))) W := fun W => by
    have h9 := run_str W (strOf xL) at_ (at_ + nn) (by omega) (by rw [hsz]; exact hg)
    rw [HP.out] at h9
    simpa using h9
  clear O6
  go_upto_region 36 with fail
  go_quiet (fail)
  have kk : Hid (∀ N M, Below w6.heap.size w6 ((w6.drewN N).drewN M)) := fun N M => (below_dN w6 N).trans (below_dN (w6.drewN N) M)
  go_upto_region 37 with fail
  go_quiet (fail)
  go_wp2_with fail
  exact HQ.out _ _ _ _ _ _ _ _ _ _ _ _ _ _ _ _ _ _ _ _ _ _ _ _ _ _ _ _ _ _ _ _ _ _ _ _ _ _ _ _ _ _ _ _ _ _ _ _ _ _ _ _ _ _ _ _ _ _ _ _ _ _ _ _ _ _ _ _ _ _ _ _ _ _ _ _ _ _ _ _ (H5.out.grow (B6.out.trans ((kk.out _ _).mono B6.out.size))).more

set_option maxRecDepth 100000 in
set_option maxHeartbeats 8000000 in
theorem arm3_bad (w w5 : World) (p S F B n j gr k cv gs cs g10 i : Nat) (xs : List Cn) (ss : List Slot) (fr : List Nat) (xa : Option Addr) (xc : Nat) (xi xL : List Int) (o0 o1 o2 o3 : Int) (da : Option Addr) (dl dc : Nat) (D : List Int)
    (s1 s2 s3 s4 s6 s9 s13 s14 s15 s16 s17 s18 s19 s20 s21 s22 s23 s24 s25 s26 s27 s28 s29 s30 s31 s32 s33 s34 s35 s36 s37 s38 s39 s40 s41 s42 s43 s44 s45 s46 s47 s48 s49 s50 s51 s52 s53 s54 s55 s56 s57 s58 s59 s60 s61 s62 s63 s64 s65 s66 s67 s68 s69 s70 s71 s72 s73 s74 s75 s76 s77 s78 s79 s80 s81 s82 s83 s84 s85 s86 s87 s88 s89 s90 s91 s92 s93 s94 s95 s96 s97 s98 s99 s100 s101 s102 s103 s104 s105 s106 s107 s108 s109 s110 s111 s112 s113 s114 s115 s116 s117 s118 s119 s120 s121 s122 s123 s124 s125 s126 s127 s128 s129 s130 s131 s132 s133 s134 s135 s136 s137 s138 s139 s140 s141 s142 s143 s144 s145 s146 s147 s148 s149 s150 s151 s152 s153 s154 s155 s156 s157 s158 s159 s160 s161 s162 s163 s164 s165 s166 s167 s168 s169 s170 s171 s172 s173 s174 s175 s176 s177 s178 s179 s180 s181 s182 s183 s184 s185 s186 s187 s188 s189 s190 s191 s192 s193 s194 s195 s196 s197 s198 s199 s200 s201 s202 s203 s204 s205 s206 s207 s208 s209 s210 s211 s212 s213 s214 s215 s216 s217 s218 s219 s220 s221 s222 s223 s224 s225 s226 s227 s228 s229 s230 s231 s232 s233 s234 s235 s236 s237 s238 s239 s240 s241 s242 s243 s244 s245 s246 s247 s248 s249 s250 s251 s252 s253 s254 s255 s256 s257 s258 s259 s260 s261 s262 s263 s264 s265 s266 s267 s268 s269 s270 s271 s272 s273 s274 s275 s276 s277 s278 s279 s280 s281 s282 s283 s284 s285 s286 s287 s288 s289 s290 s291 s292 s293 s294 s295 s296 s297 s298 s299 s300 s301 s302 s303 s304 s305 s306 s307 s308 s309 s310 s311 s312 s313 s314 s315 s316 s317 s318 s319 s320 s321 s322 s323 s324 s325 s326 s327 s328 s329 s330 s331 s332 s333 s334 s335 s336 s337 s338 s339 s340 s341 s342 s343 s344 s345 s346 s347 s348 s349 s350 s351 s352 s353 s354 s355 : Value) (Q : Exit → Act → World → Prop) (HP : Hid (∀ c a (d : Nat) v w, Q (.panic c) (Act.put a (some d) v) w → Q (.panic c) a w))
    (H5 : Hid (Es w w5 p S F B n j (.slice (some ⟨gr, 0, none⟩) k cv) (.slice (some ⟨gs, 0, none⟩) k cs) xs ss fr)) (HX : Hid (xs[i]? = some ⟨xa, xc, xi, xL⟩)) (hik : i < k) (hj : j < 60) (hkj : k ≤ 60)
    (HD : Hid (Src w5 da D)) (HDl : Hid (D.length = dl)) (hdl : dl ≤ 1000) (hdc : dl ≤ dc) (hdm : dc ≤ 9223372036854775807) (HDa : Hid (∀ ad, da = some ad → 0 < dl → ad.block < w.heap.size))
    (hg10B : B ≤ g10) (HOp : Hid (w5.heap[g10]? = some (.cells #[.int .i64 o0, .int .i64 o1, .int .i64 o2, .int .i64 o3, .slice da dl dc] 32 (0, 0))))
    (hz2 : -9223372036854775808 ≤ o2 ∧ o2 ≤ 9223372036854775807) (hz3 : -9223372036854775808 ≤ o3 ∧ o3 ≤ 9223372036854775807)
    (hg : o2 < 0 ∨ (xL.length : Int) < o2 ∨ o3 < 0 ∨ (xL.length : Int) - o2 < o3)
    (HQ : Hid (∀ (x18 x19 x20 x215 x216 x217 x218 x219 x220 x221 x222 x223 x224 x225 x226 x227 x228 x229 x230 x231 x232 x233 x234 x235 x236 x237 x238 x239 x240 x241 x242 x243 x244 x245 x246 x247 x248 x249 x250 x251 x252 x253 x254 x255 x256 x257 x258 x259 x260 x261 x262 x263 x264 x265 x266 x267 x268 x269 x270 x271 x272 x273 x274 x275 x276 x277 x278 x279 x280 x281 x282 x283 x284 x285 x286 x287 x288 x289 x290 : Value) W, Es w W p S F B n (j + 1) (.slice (some ⟨gr, 0, none⟩) k cv) (.slice (some ⟨gs, 0, none⟩) k cs) xs ss fr → Q .normal { tmps := #[.int .i64 (n : Int), s1, s2, s3, s4, .pointer (some ⟨p, 0, none⟩), s6, .slice (some ⟨gr, 0, none⟩) k cv, .slice (some ⟨gs, 0, none⟩) k cs, s9, .pointer (some ⟨g10, 0, none⟩), .int .i64 (i : Int), .int .i64 (fr.length : Int), s13, s14, s15, s16, s17, x18, x19, x20, s21, s22, s23, s24, s25, s26, s27, s28, s29, s30, s31, s32, s33, s34, s35, s36, s37, s38, s39, s40, s41, s42, s43, s44, s45, s46, s47, s48, s49, s50, s51, s52, s53, s54, s55, s56, s57, s58, s59, s60, s61, s62, s63, s64, s65, s66, s67, s68, s69, s70, s71, s72, s73, s74, s75, s76, s77, s78, s79, s80, s81, s82, s83, s84, s85, s86, s87, s88, s89, s90, s91, s92, s93, s94, s95, s96, s97, s98, s99, s100, s101, s102, s103, s104, s105, s106, s107, s108, s109, s110, s111, s112, s113, s114, s115, s116, s117, s118, s119, s120, s121, s122, s123, s124, s125, s126, s127, s128, s129, s130, s131, s132, s133, s134, s135, s136, s137, s138, s139, s140, s141, s142, s143, s144, s145, s146, s147, s148, s149, s150, s151, s152, s153, s154, s155, s156, s157, s158, s159, s160, s161, s162, s163, s164, s165, s166, s167, s168, s169, s170, s171, s172, s173, s174, s175, s176, s177, s178, s179, s180, s181, s182, s183, s184, s185, s186, s187, s188, s189, s190, s191, s192, s193, s194, s195, s196, s197, s198, s199, s200, s201, s202, s203, s204, s205, s206, s207, s208, s209, s210, s211, s212, s213, s214, x215, x216, x217, x218, x219, x220, x221, x222, x223, x224, x225, x226, x227, x228, x229, x230, x231, x232, x233, x234, x235, x236, x237, x238, x239, x240, x241, x242, x243, x244, x245, x246, x247, x248, x249, x250, x251, x252, x253, x254, x255, x256, x257, x258, x259, x260, x261, x262, x263, x264, x265, x266, x267, x268, x269, x270, x271, x272, x273, x274, x275, x276, x277, x278, x279, x280, x281, x282, x283, x284, x285, x286, x287, x288, x289, x290, s291, s292, s293, s294, s295, s296, s297, s298, s299, s300, s301, s302, s303, s304, s305, s306, s307, s308, s309, s310, s311, s312, s313, s314, s315, s316, s317, s318, s319, s320, s321, s322, s323, s324, s325, s326, s327, s328, s329, s330, s331, s332, s333, s334, s335, s336, s337, s338, s339, s340, s341, s342, s343, s344, s345, s346, s347, s348, s349, s350, s351, s352, s353, s354, s355], defers := [] } W)) :
    Code.wp Try.prog ((Try.f3.body.bind (findAt 35)).getD .skip) Q { tmps := #[.int .i64 (n : Int), s1, s2, s3, s4, .pointer (some ⟨p, 0, none⟩), s6, .slice (some ⟨gr, 0, none⟩) k cv, .slice (some ⟨gs, 0, none⟩) k cs, s9, .pointer (some ⟨g10, 0, none⟩), .int .i64 (i : Int), .int .i64 (fr.length : Int), s13, s14, s15, s16, s17, s18, s19, s20, s21, s22, s23, s24, s25, s26, s27, s28, s29, s30, s31, s32, s33, s34, s35, s36, s37, s38, s39, s40, s41, s42, s43, s44, s45, s46, s47, s48, s49, s50, s51, s52, s53, s54, s55, s56, s57, s58, s59, s60, s61, s62, s63, s64, s65, s66, s67, s68, s69, s70, s71, s72, s73, s74, s75, s76, s77, s78, s79, s80, s81, s82, s83, s84, s85, s86, s87, s88, s89, s90, s91, s92, s93, s94, s95, s96, s97, s98, s99, s100, s101, s102, s103, s104, s105, s106, s107, s108, s109, s110, s111, s112, s113, s114, s115, s116, s117, s118, s119, s120, s121, s122, s123, s124, s125, s126, s127, s128, s129, s130, s131, s132, s133, s134, s135, s136, s137, s138, s139, s140, s141, s142, s143, s144, s145, s146, s147, s148, s149, s150, s151, s152, s153, s154, s155, s156, s157, s158, s159, s160, s161, s162, s163, s164, s165, s166, s167, s168, s169, s170, s171, s172, s173, s174, s175, s176, s177, s178, s179, s180, s181, s182, s183, s184, s185, s186, s187, s188, s189, s190, s191, s192, s193, s194, s195, s196, s197, s198, s199, s200, s201, s202, s203, s204, s205, s206, s207, s208, s209, s210, s211, s212, s213, s214, s215, s216, s217, s218, s219, s220, s221, s222, s223, s224, s225, s226, s227, s228, s229, s230, s231, s232, s233, s234, s235, s236, s237, s238, s239, s240, s241, s242, s243, s244, s245, s246, s247, s248, s249, s250, s251, s252, s253, s254, s255, s256, s257, s258, s259, s260, s261, s262, s263, s264, s265, s266, s267, s268, s269, s270, s271, s272, s273, s274, s275, s276, s277, s278, s279, s280, s281, s282, s283, s284, s285, s286, s287, s288, s289, s290, s291, s292, s293, s294, s295, s296, s297, s298, s299, s300, s301, s302, s303, s304, s305, s306, s307, s308, s309, s310, s311, s312, s313, s314, s315, s316, s317, s318, s319, s320, s321, s322, s323, s324, s325, s326, s327, s328, s329, s330, s331, s332, s333, s334, s335, s336, s337, s338, s339, s340, s341, s342, s343, s344, s345, s346, s347, s348, s349, s350, s351, s352, s353, s354, s355], defers := [] } w5 := by
  conv => arg 2; whnf
  have HW : Hid (Ws w5 B (.slice (some ⟨gs, 0, none⟩) k cs) xs) := H5.out.str
  have HC : Hid (Cs w5 B (.slice (some ⟨gr, 0, none⟩) k cv) xs) := H5.out.row
  have HLn : Hid (k = xs.length) := H5.out.row.len.1
  have hcv : k ≤ cv := H5.out.row.len.2.1
  have hcs : k ≤ cs := H5.out.str.len.2.1
  have hbd := H5.out.bound (by omega) (List.mem_of_getElem? HX.out)
  obtain ⟨g', eav, hgB, hgl, c0, c1, fz⟩ := H5.out.row.get HX.out
  simp at eav
  subst eav
  obtain ⟨g', eas, hsB, hsl, d0, fs, curs, hcurs⟩ := H5.out.str.get HX.out
  simp at eas
  subst eas
  have HI : Hid (Inv ss fr ((xi, xL) :: (xs.eraseIdx i).map Cn.ct)) := H5.out.inv.perm (ahead HX.out)
  have HO : Hid (Own w5 B (.slice xa xi.length xc) xi) := H5.out.row.own _ (List.mem_of_getElem? HX.out)
  have HXs : Hid (xL.length ≤ 1000 * j) := H5.out.size _ (List.mem_of_getElem? HX.out)
  simp only [Cn.val] at c0 c1 d0
  simp only at hbd
  have HBd : Hid _ := hbd
  obtain ⟨lp, lS, lF⟩ := H5.out.ar.lt
  have hB0 := H5.out.B0
  have hBw := H5.out.Bw
  have hp1 := H5.out.hp
  have hS1 := H5.out.hS
  have hF1 := H5.out.hF
  have m10 := two10 HOp.out
  have hg10 : g10 < w5.heap.size := lt_of_heap HOp.out
  clear hbd
  obtain ⟨hb1, hb2, hb3⟩ := HBd.out
  have KR : Hid (∀ W, Below w5.heap.size w5 W → Calls Try.prog 16 #[.pointer (some ⟨p, 0, none⟩), .agg #[.slice xa xi.length xc, .int .i64 (xL.length : Int)], .int .i64 o2, .int .i64 o3] W fun e w' => e = .returned (.tuple #[.slice none 0 0, .int .i64 1]) ∧ Below W.heap.size W w') := fun W hb =>
    extRead_range _ xa xi.length xc _ o2 o3 W hz2 hz3 (.inr hg)
  have hsz := strOf_size xL
  obtain ⟨m, hm⟩ : ∃ m : Nat, xL.length = m := ⟨_, rfl⟩
  rw [hm] at KR c1 hsz hg hb1
  have HG : Hid _ := hg
  clear hm hb2 hb3 hg
  have HS : Hid (∀ W, Below w5.heap.size w5 W → W.cell? ⟨gr, i * 2, none⟩ = some (.slice xa xi.length xc) ∧ W.cell? ⟨gr, i * 2 + 1, none⟩ = some (.int .i64 (m : Int)) ∧ W.cell? ⟨g10, 2, none⟩ = some (.int .i64 o2) ∧ W.cell? ⟨g10, 3, none⟩ = some (.int .i64 o3) ∧ W.cell? ⟨gs, i, none⟩ = some (.string (strOf xL))) := fun W hb => ⟨cell_below hb c0, cell_below hb c1, cell_below hb (m10 2), cell_below hb (m10 3), cell_below hb d0⟩
  have hi0 : (0 : Int) ≤ (i : Int) := by omega
  have hik2 : (i : Int) < (k : Int) := by omega
  clear c0 c1 fz d0 fs hcurs m10
  have HB0 : Hid (Below w5.heap.size w5 w5.drew) := (Below.refl _ _).drew
  go_upto_region 35 with fail
  go_region_held3 (fun W => W.cell? ⟨gr, i * 2, none⟩ = some (.slice xa xi.length xc) ∧ W.cell? ⟨gr, i * 2 + 1, none⟩ = some (.int .i64 (m : Int)) ∧ W.cell? ⟨g10, 2, none⟩ = some (.int .i64 o2) ∧ W.cell? ⟨g10, 3, none⟩ = some (.int .i64 o3) ∧ W.cell? ⟨gs, i, none⟩ = some (.string (strOf xL)))
    (first | exact HS.out _ HB0.out | exact HS.out _ B6.out)
    ((go_at_call 16; refine (KR.out _ HB0.out).mono ?_; rintro e w6 ⟨rfl, b6⟩; have B6 : Hid (Below w5.heap.size w5 w6) := HB0.out.trans (b6.mono HB0.out.size)))
  obtain ⟨r0, r1, r2, r3, r4⟩ := HS.out _ B6.out
  go_upto_region 36 with fail
  have kk : Hid (∀ N, Below w6.heap.size w6 (w6.drewN N)) := fun N => below_dN w6 N
  by_cases a1 : 0 ≤ o2
  · by_cases a2 : o2 ≤ (m : Int)
    · by_cases a3 : 0 ≤ o3
      · have a4 : ¬ o3 ≤ (m : Int) - o2 := by have := HG.out; omega
        have a5 : (m : Int) - o2 < o3 := by omega
        go_quiet (fail)
        go_upto_region 37 with fail
        go_quiet (fail)
        go_wp2_with fail
        exact HQ.out _ _ _ _ _ _ _ _ _ _ _ _ _ _ _ _ _ _ _ _ _ _ _ _ _ _ _ _ _ _ _ _ _ _ _ _ _ _ _ _ _ _ _ _ _ _ _ _ _ _ _ _ _ _ _ _ _ _ _ _ _ _ _ _ _ _ _ _ _ _ _ _ _ _ _ _ _ _ _ _ (H5.out.grow (B6.out.trans ((kk.out _).mono B6.out.size))).more
      · have a3' : o3 < 0 := by omega
        go_quiet (fail)
        go_upto_region 37 with fail
        go_quiet (fail)
        go_wp2_with fail
        exact HQ.out _ _ _ _ _ _ _ _ _ _ _ _ _ _ _ _ _ _ _ _ _ _ _ _ _ _ _ _ _ _ _ _ _ _ _ _ _ _ _ _ _ _ _ _ _ _ _ _ _ _ _ _ _ _ _ _ _ _ _ _ _ _ _ _ _ _ _ _ _ _ _ _ _ _ _ _ _ _ _ _ (H5.out.grow (B6.out.trans ((kk.out _).mono B6.out.size))).more
    · have a2' : (m : Int) < o2 := by omega
      go_quiet (fail)
      go_upto_region 37 with fail
      go_quiet (fail)
      go_wp2_with fail
      exact HQ.out _ _ _ _ _ _ _ _ _ _ _ _ _ _ _ _ _ _ _ _ _ _ _ _ _ _ _ _ _ _ _ _ _ _ _ _ _ _ _ _ _ _ _ _ _ _ _ _ _ _ _ _ _ _ _ _ _ _ _ _ _ _ _ _ _ _ _ _ _ _ _ _ _ _ _ _ _ _ _ _ (H5.out.grow (B6.out.trans ((kk.out _).mono B6.out.size))).more
  · have a1' : o2 < 0 := by omega
    go_quiet (fail)
    go_upto_region 37 with fail
    go_quiet (fail)
    go_wp2_with fail
    exact HQ.out _ _ _ _ _ _ _ _ _ _ _ _ _ _ _ _ _ _ _ _ _ _ _ _ _ _ _ _ _ _ _ _ _ _ _ _ _ _ _ _ _ _ _ _ _ _ _ _ _ _ _ _ _ _ _ _ _ _ _ _ _ _ _ _ _ _ _ _ _ _ _ _ _ _ _ _ _ _ _ _ (H5.out.grow (B6.out.trans ((kk.out _).mono B6.out.size))).more

end Go.Proofs.Ytpjfhfbjdcgbjab
