/-
  ExtentPlays: a content is shared.
-/
import Derived.Test.YtpjfhfbjdcgbjabEr29
import Derived.Deep.RegionWith
namespace Go.Proofs.Ytpjfhfbjdcgbjab
open Go.RowKit
set_option linter.unusedVariables false
set_option linter.unusedSimpArgs false

theorem holdF_length : ∀ (ids : List Int) (ss : List Slot), (holdF ss ids).length = ss.length
  | [], ss => rfl
  | z :: r, ss => by rw [holdF, holdF_length r]; unfold hold1; split <;> simp

set_option maxRecDepth 100000 in
set_option maxHeartbeats 8000000 in
theorem arm1 (w w5 : World) (p S F B n j gr k cv gs cs g10 i : Nat) (xs : List Cn) (ss : List Slot) (fr : List Nat) (xa : Option Addr) (xc : Nat) (xi xL : List Int) (o0 o1 o2 o3 : Int) (da : Option Addr) (dl dc : Nat) (D : List Int)
    (s1 s2 s3 s4 s6 s9 s13 s14 s15 s16 s17 s18 s19 s20 s21 s22 s23 s24 s25 s26 s27 s28 s29 s30 s31 s32 s33 s34 s35 s36 s37 s38 s39 s40 s41 s42 s43 s44 s45 s46 s47 s48 s49 s50 s51 s52 s53 s54 s55 s56 s57 s58 s59 s60 s61 s62 s63 s64 s65 s66 s67 s68 s69 s70 s71 s72 s73 s74 s75 s76 s77 s78 s79 s80 s81 s82 s83 s84 s85 s86 s87 s88 s89 s90 s91 s92 s93 s94 s95 s96 s97 s98 s99 s100 s101 s102 s103 s104 s105 s106 s107 s108 s109 s110 s111 s112 s113 s114 s115 s116 s117 s118 s119 s120 s121 s122 s123 s124 s125 s126 s127 s128 s129 s130 s131 s132 s133 s134 s135 s136 s137 s138 s139 s140 s141 s142 s143 s144 s145 s146 s147 s148 s149 s150 s151 s152 s153 s154 s155 s156 s157 s158 s159 s160 s161 s162 s163 s164 s165 s166 s167 s168 s169 s170 s171 s172 s173 s174 s175 s176 s177 s178 s179 s180 s181 s182 s183 s184 s185 s186 s187 s188 s189 s190 s191 s192 s193 s194 s195 s196 s197 s198 s199 s200 s201 s202 s203 s204 s205 s206 s207 s208 s209 s210 s211 s212 s213 s214 s215 s216 s217 s218 s219 s220 s221 s222 s223 s224 s225 s226 s227 s228 s229 s230 s231 s232 s233 s234 s235 s236 s237 s238 s239 s240 s241 s242 s243 s244 s245 s246 s247 s248 s249 s250 s251 s252 s253 s254 s255 s256 s257 s258 s259 s260 s261 s262 s263 s264 s265 s266 s267 s268 s269 s270 s271 s272 s273 s274 s275 s276 s277 s278 s279 s280 s281 s282 s283 s284 s285 s286 s287 s288 s289 s290 s291 s292 s293 s294 s295 s296 s297 s298 s299 s300 s301 s302 s303 s304 s305 s306 s307 s308 s309 s310 s311 s312 s313 s314 s315 s316 s317 s318 s319 s320 s321 s322 s323 s324 s325 s326 s327 s328 s329 s330 s331 s332 s333 s334 s335 s336 s337 s338 s339 s340 s341 s342 s343 s344 s345 s346 s347 s348 s349 s350 s351 s352 s353 s354 s355 : Value) (Q : Exit → Act → World → Prop) (HP : Hid (∀ c a (d : Nat) v w, Q (.panic c) (Act.put a (some d) v) w → Q (.panic c) a w))
    (H5 : Hid (Es w w5 p S F B n j (.slice (some ⟨gr, 0, none⟩) k cv) (.slice (some ⟨gs, 0, none⟩) k cs) xs ss fr)) (HX : Hid (xs[i]? = some ⟨xa, xc, xi, xL⟩)) (hik : i < k) (hj : j < 60) (hkj : k ≤ 60)
    (HD : Hid (Src w5 da D)) (HDl : Hid (D.length = dl)) (hdl : dl ≤ 1000) (hdc : dl ≤ dc) (hdm : dc ≤ 9223372036854775807) (HDa : Hid (∀ ad, da = some ad → 0 < dl → ad.block < w.heap.size))
    (hg10B : B ≤ g10) (HOp : Hid (w5.heap[g10]? = some (.cells #[.int .i64 o0, .int .i64 o1, .int .i64 o2, .int .i64 o3, .slice da dl dc] 32 (0, 0))))
    (hz2 : -9223372036854775808 ≤ o2 ∧ o2 ≤ 9223372036854775807) (hz3 : -9223372036854775808 ≤ o3 ∧ o3 ≤ 9223372036854775807)
    (HQ : Hid (∀ (x7 x8 x16 x17 x160 x161 x162 x163 x164 x165 x166 x167 x168 x169 x170 x171 x172 x173 x174 x175 x176 x177 x178 x179 x180 x181 x182 x183 x184 x185 x186 x187 : Value) W (g' c' gs' cs' : Nat) (xs' : List Cn) (ss' : List Slot) (fr' : List Nat), x7 = .slice (some ⟨g', 0, none⟩) (k + 1) c' → x8 = .slice (some ⟨gs', 0, none⟩) (k + 1) cs' → Es w W p S F B n (j + 1) (.slice (some ⟨g', 0, none⟩) (k + 1) c') (.slice (some ⟨gs', 0, none⟩) (k + 1) cs') xs' ss' fr' → Q .normal { tmps := #[.int .i64 (n : Int), s1, s2, s3, s4, .pointer (some ⟨p, 0, none⟩), s6, x7, x8, s9, .pointer (some ⟨g10, 0, none⟩), .int .i64 (i : Int), .int .i64 (fr.length : Int), s13, s14, s15, x16, x17, s18, s19, s20, s21, s22, s23, s24, s25, s26, s27, s28, s29, s30, s31, s32, s33, s34, s35, s36, s37, s38, s39, s40, s41, s42, s43, s44, s45, s46, s47, s48, s49, s50, s51, s52, s53, s54, s55, s56, s57, s58, s59, s60, s61, s62, s63, s64, s65, s66, s67, s68, s69, s70, s71, s72, s73, s74, s75, s76, s77, s78, s79, s80, s81, s82, s83, s84, s85, s86, s87, s88, s89, s90, s91, s92, s93, s94, s95, s96, s97, s98, s99, s100, s101, s102, s103, s104, s105, s106, s107, s108, s109, s110, s111, s112, s113, s114, s115, s116, s117, s118, s119, s120, s121, s122, s123, s124, s125, s126, s127, s128, s129, s130, s131, s132, s133, s134, s135, s136, s137, s138, s139, s140, s141, s142, s143, s144, s145, s146, s147, s148, s149, s150, s151, s152, s153, s154, s155, s156, s157, s158, s159, x160, x161, x162, x163, x164, x165, x166, x167, x168, x169, x170, x171, x172, x173, x174, x175, x176, x177, x178, x179, x180, x181, x182, x183, x184, x185, x186, x187, s188, s189, s190, s191, s192, s193, s194, s195, s196, s197, s198, s199, s200, s201, s202, s203, s204, s205, s206, s207, s208, s209, s210, s211, s212, s213, s214, s215, s216, s217, s218, s219, s220, s221, s222, s223, s224, s225, s226, s227, s228, s229, s230, s231, s232, s233, s234, s235, s236, s237, s238, s239, s240, s241, s242, s243, s244, s245, s246, s247, s248, s249, s250, s251, s252, s253, s254, s255, s256, s257, s258, s259, s260, s261, s262, s263, s264, s265, s266, s267, s268, s269, s270, s271, s272, s273, s274, s275, s276, s277, s278, s279, s280, s281, s282, s283, s284, s285, s286, s287, s288, s289, s290, s291, s292, s293, s294, s295, s296, s297, s298, s299, s300, s301, s302, s303, s304, s305, s306, s307, s308, s309, s310, s311, s312, s313, s314, s315, s316, s317, s318, s319, s320, s321, s322, s323, s324, s325, s326, s327, s328, s329, s330, s331, s332, s333, s334, s335, s336, s337, s338, s339, s340, s341, s342, s343, s344, s345, s346, s347, s348, s349, s350, s351, s352, s353, s354, s355], defers := [] } W)) :
    Code.wp Try.prog ((Try.f3.body.bind (findAt 26)).getD .skip) Q { tmps := #[.int .i64 (n : Int), s1, s2, s3, s4, .pointer (some ⟨p, 0, none⟩), s6, .slice (some ⟨gr, 0, none⟩) k cv, .slice (some ⟨gs, 0, none⟩) k cs, s9, .pointer (some ⟨g10, 0, none⟩), .int .i64 (i : Int), .int .i64 (fr.length : Int), s13, s14, s15, s16, s17, s18, s19, s20, s21, s22, s23, s24, s25, s26, s27, s28, s29, s30, s31, s32, s33, s34, s35, s36, s37, s38, s39, s40, s41, s42, s43, s44, s45, s46, s47, s48, s49, s50, s51, s52, s53, s54, s55, s56, s57, s58, s59, s60, s61, s62, s63, s64, s65, s66, s67, s68, s69, s70, s71, s72, s73, s74, s75, s76, s77, s78, s79, s80, s81, s82, s83, s84, s85, s86, s87, s88, s89, s90, s91, s92, s93, s94, s95, s96, s97, s98, s99, s100, s101, s102, s103, s104, s105, s106, s107, s108, s109, s110, s111, s112, s113, s114, s115, s116, s117, s118, s119, s120, s121, s122, s123, s124, s125, s126, s127, s128, s129, s130, s131, s132, s133, s134, s135, s136, s137, s138, s139, s140, s141, s142, s143, s144, s145, s146, s147, s148, s149, s150, s151, s152, s153, s154, s155, s156, s157, s158, s159, s160, s161, s162, s163, s164, s165, s166, s167, s168, s169, s170, s171, s172, s173, s174, s175, s176, s177, s178, s179, s180, s181, s182, s183, s184, s185, s186, s187, s188, s189, s190, s191, s192, s193, s194, s195, s196, s197, s198, s199, s200, s201, s202, s203, s204, s205, s206, s207, s208, s209, s210, s211, s212, s213, s214, s215, s216, s217, s218, s219, s220, s221, s222, s223, s224, s225, s226, s227, s228, s229, s230, s231, s232, s233, s234, s235, s236, s237, s238, s239, s240, s241, s242, s243, s244, s245, s246, s247, s248, s249, s250, s251, s252, s253, s254, s255, s256, s257, s258, s259, s260, s261, s262, s263, s264, s265, s266, s267, s268, s269, s270, s271, s272, s273, s274, s275, s276, s277, s278, s279, s280, s281, s282, s283, s284, s285, s286, s287, s288, s289, s290, s291, s292, s293, s294, s295, s296, s297, s298, s299, s300, s301, s302, s303, s304, s305, s306, s307, s308, s309, s310, s311, s312, s313, s314, s315, s316, s317, s318, s319, s320, s321, s322, s323, s324, s325, s326, s327, s328, s329, s330, s331, s332, s333, s334, s335, s336, s337, s338, s339, s340, s341, s342, s343, s344, s345, s346, s347, s348, s349, s350, s351, s352, s353, s354, s355], defers := [] } w5 := by
  conv => arg 2; whnf
  have HW : Hid (Ws w5 B (.slice (some ⟨gs, 0, none⟩) k cs) xs) := H5.out.str
  have HC : Hid (Cs w5 B (.slice (some ⟨gr, 0, none⟩) k cv) xs) := H5.out.row
  have HLn : Hid (k = xs.length) := H5.out.row.len.1
  have hcv : k ≤ cv := H5.out.row.len.2.1
  have hcs : k ≤ cs := H5.out.str.len.2.1
  have hbd := H5.out.bound (by omega) (List.mem_of_getElem? HX.out)
  obtain ⟨g', eav, hgB, hgl, c0, c1, fz⟩ := H5.out.row.get HX.out
  simp at eav
  subst eav
  obtain ⟨g', eas, hsB, hsl, d0, fs, curs, hcurs⟩ := H5.out.str.get HX.out
  simp at eas
  subst eas
  have HI : Hid (Inv ss fr ((xi, xL) :: (xs.eraseIdx i).map Cn.ct)) := H5.out.inv.perm (ahead HX.out)
  have HO : Hid (Own w5 B (.slice xa xi.length xc) xi) := H5.out.row.own _ (List.mem_of_getElem? HX.out)
  have HXs : Hid (xL.length ≤ 1000 * j) := H5.out.size _ (List.mem_of_getElem? HX.out)
  simp only [Cn.val] at c0 c1 d0
  simp only at hbd
  have HBd : Hid _ := hbd
  obtain ⟨lp, lS, lF⟩ := H5.out.ar.lt
  have hB0 := H5.out.B0
  have hBw := H5.out.Bw
  have hp1 := H5.out.hp
  have hS1 := H5.out.hS
  have hF1 := H5.out.hF
  have m10 := two10 HOp.out
  have hg10 : g10 < w5.heap.size := lt_of_heap HOp.out
  clear hbd
  obtain ⟨hb1, hb2, hb3⟩ := HBd.out
  obtain ⟨_, u1, u2, u3, _⟩ := HO.out.use
  have q := share_ok H5.out.ar xa xc xi (xL.length : Int) u1 (by omega) u2 (fun b off e => by have := u3 b off e; exact ⟨by omega, by omega, by omega⟩) (HI.out.lies (xi, xL) (by simp)).held hb3
  obtain ⟨m, hm⟩ : ∃ m : Nat, xL.length = m := ⟨_, rfl⟩
  rw [hm] at q c1
  have HM : Hid (xL.length = m) := hm
  clear u1 u2 u3 hb1 hb2 hb3 hm
  have hi0 : (0 : Int) ≤ (i : Int) := by omega
  have hik2 : (i : Int) < (k : Int) := by omega
  go_upto_region 27 with (go_at_call 14; refine q.mono ?_; rintro e w6 ⟨a6, c6, rfl, O6, A6, K6⟩)
  have HJ : Hid (Inv (holdF ss xi) fr ((xi, xL) :: (xi, xL) :: (xs.eraseIdx i).map Cn.ct)) := HI.out.share A6.good
  have b7 := below_box w6 (.cells #[.slice a6 xi.length c6, .int .i64 (m : Int)] 35)
  have q7 := heap_alloc_new w6 (.cells #[.slice a6 xi.length c6, .int .i64 (m : Int)] 35)
  generalize w6.alloc (.cells #[.slice a6 xi.length c6, .int .i64 (m : Int)] 35) = w7 at *
  have K7 : Hid (Keeps p S F w5 w7) := K6.trans (Keeps.ofBelow b7)
  have A7 : Hid (Ar w7 p S F (holdF ss xi) fr) := A6.grow b7
  have O7 : Hid (Own w7 B (.slice a6 xi.length c6) xi) := (O6.base hBw).grow b7
  have hlH : Hid ((holdF ss xi).length = ss.length) := holdF_length xi ss
  have hfree := free_w A7.out
  have m7 := two10 q7
  have hg16 : w6.heap.size < w7.heap.size := lt_of_heap q7
  have HK6 : Hid (Keeps p S F w5 w6) := K6
  clear q c0 c1 fz O6 A6 K6 b7
  go_upto_region 29 with (go_at_call 11; refine hfree.mono ?_; rintro e w' ⟨rfl, rfl⟩)
  have C7 : Hid (Cs w7 B (.slice (some ⟨gr, 0, none⟩) k cv) xs) := HC.out.keeps K7.out (by omega) (by omega) (by omega)
  have W7 : Hid (Ws w7 B (.slice (some ⟨gs, 0, none⟩) k cs) xs) := HW.out.keeps K7.out (by omega) (by omega) (by omega)
  have hs56 : w5.heap.size ≤ w6.heap.size := HK6.out.size
  refine reg29 w7 B k cv gr gs cs w6.heap.size i xs xi xL a6 c6 m _ _ _ _ _ _ _ _ _ _ _ _ _ _ _ _ _ _ _ _ _ _ _ _ _ _ _ _ _ _ _ _ _ _ _ _ _ _ _ _ _ _ _ _ _ _ _ _ _ _ _ _ _ _ _ _ _ _ _ _ _ _ _ _ _ _ _ _ _ _ _ _ _ _ _ _ _ _ _ _ _ _ _ _ _ _ _ _ _ _ _ _ _ _ _ _ _ _ _ _ _ _ _ _ _ _ _ _ _ _ _ _ _ _ _ _ _ _ _ _ _ _ _ _ _ _ _ _ _ _ _ _ _ _ _ _ _ _ _ _ _ _ _ _ _ _ _ _ _ _ _ _ _ _ _ _ _ _ _ _ _ _ _ _ _ _ _ _ _ _ _ _ _ _ _ _ _ _ _ _ _ _ _ _ _ _ _ _ _ _ _ _ _ _ _ _ _ _ _ _ _ _ _ _ _ _ _ _ _ _ _ _ _ _ _ _ _ _ _ _ _ _ _ _ _ _ _ _ _ _ _ _ _ _ _ _ _ _ _ _ _ _ _ _ _ _ _ _ _ _ _ _ _ _ _ _ _ _ _ _ _ _ _ _ _ _ _ _ _ _ _ _ _ _ _ _ _ _ _ _ _ _ _ _ _ _ _ _ _ _ _ _ _ _ _ _ _ _ _ _ _ _ _ _ _ _ _ _ _ _ _ _ _ _ _ _ _ _ _ _ _ _ _ _ _ _ _ _ _ _ _ _ _ _ _ _ _ _ _ _ _ _ _ _ _ _ _ _ _ _ _ _ Q hik hkj (by have := K7.out.size; omega) C7 O7 W7 xa xc HX HM q7 (by omega) (by omega) HP ?_
  intro v179 v185 v186 g' c' gs' cs' W hC' hW' hb'
  exact HQ.out _ _ _ _ _ _ _ _ _ _ _ _ _ _ _ _ _ _ _ _ _ _ _ _ _ _ _ _ _ _ _ _ _ _ _ _ _ _ _ _ rfl rfl (H5.out.add K7.out A7.out hC' hW' hb' (HJ.out.perm (List.Perm.cons _ (ahead HX.out).symm)) hlH.out (by show xL.length ≤ _; have := HXs.out; omega))

end Go.Proofs.Ytpjfhfbjdcgbjab
