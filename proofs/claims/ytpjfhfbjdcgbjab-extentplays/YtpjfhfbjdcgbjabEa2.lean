/-
  ExtentPlays: a content is dropped.
-/
import Derived.Test.YtpjfhfbjdcgbjabE2
import Derived.Deep.RegionHeld3
import Derived.Deep.RegionWith
namespace Go.Proofs.Ytpjfhfbjdcgbjab
open Go.RowKit
set_option linter.unusedVariables false
set_option linter.unusedSimpArgs false

set_option maxRecDepth 100000 in
set_option maxHeartbeats 8000000 in
theorem arm2 (w w5 : World) (p S F B n j gr k cv gs cs g10 i : Nat) (xs : List Cn) (ss : List Slot) (fr : List Nat) (xa : Option Addr) (xc : Nat) (xi xL : List Int) (o0 o1 o2 o3 : Int) (da : Option Addr) (dl dc : Nat) (D : List Int)
    (s1 s2 s3 s4 s6 s9 s13 s14 s15 s16 s17 s18 s19 s20 s21 s22 s23 s24 s25 s26 s27 s28 s29 s30 s31 s32 s33 s34 s35 s36 s37 s38 s39 s40 s41 s42 s43 s44 s45 s46 s47 s48 s49 s50 s51 s52 s53 s54 s55 s56 s57 s58 s59 s60 s61 s62 s63 s64 s65 s66 s67 s68 s69 s70 s71 s72 s73 s74 s75 s76 s77 s78 s79 s80 s81 s82 s83 s84 s85 s86 s87 s88 s89 s90 s91 s92 s93 s94 s95 s96 s97 s98 s99 s100 s101 s102 s103 s104 s105 s106 s107 s108 s109 s110 s111 s112 s113 s114 s115 s116 s117 s118 s119 s120 s121 s122 s123 s124 s125 s126 s127 s128 s129 s130 s131 s132 s133 s134 s135 s136 s137 s138 s139 s140 s141 s142 s143 s144 s145 s146 s147 s148 s149 s150 s151 s152 s153 s154 s155 s156 s157 s158 s159 s160 s161 s162 s163 s164 s165 s166 s167 s168 s169 s170 s171 s172 s173 s174 s175 s176 s177 s178 s179 s180 s181 s182 s183 s184 s185 s186 s187 s188 s189 s190 s191 s192 s193 s194 s195 s196 s197 s198 s199 s200 s201 s202 s203 s204 s205 s206 s207 s208 s209 s210 s211 s212 s213 s214 s215 s216 s217 s218 s219 s220 s221 s222 s223 s224 s225 s226 s227 s228 s229 s230 s231 s232 s233 s234 s235 s236 s237 s238 s239 s240 s241 s242 s243 s244 s245 s246 s247 s248 s249 s250 s251 s252 s253 s254 s255 s256 s257 s258 s259 s260 s261 s262 s263 s264 s265 s266 s267 s268 s269 s270 s271 s272 s273 s274 s275 s276 s277 s278 s279 s280 s281 s282 s283 s284 s285 s286 s287 s288 s289 s290 s291 s292 s293 s294 s295 s296 s297 s298 s299 s300 s301 s302 s303 s304 s305 s306 s307 s308 s309 s310 s311 s312 s313 s314 s315 s316 s317 s318 s319 s320 s321 s322 s323 s324 s325 s326 s327 s328 s329 s330 s331 s332 s333 s334 s335 s336 s337 s338 s339 s340 s341 s342 s343 s344 s345 s346 s347 s348 s349 s350 s351 s352 s353 s354 s355 : Value) (Q : Exit → Act → World → Prop) (HP : Hid (∀ c a (d : Nat) v w, Q (.panic c) (Act.put a (some d) v) w → Q (.panic c) a w))
    (H5 : Hid (Es w w5 p S F B n j (.slice (some ⟨gr, 0, none⟩) k cv) (.slice (some ⟨gs, 0, none⟩) k cs) xs ss fr)) (HX : Hid (xs[i]? = some ⟨xa, xc, xi, xL⟩)) (hik : i < k) (hj : j < 60) (hkj : k ≤ 60)
    (HD : Hid (Src w5 da D)) (HDl : Hid (D.length = dl)) (hdl : dl ≤ 1000) (hdc : dl ≤ dc) (hdm : dc ≤ 9223372036854775807) (HDa : Hid (∀ ad, da = some ad → 0 < dl → ad.block < w.heap.size))
    (hg10B : B ≤ g10) (HOp : Hid (w5.heap[g10]? = some (.cells #[.int .i64 o0, .int .i64 o1, .int .i64 o2, .int .i64 o3, .slice da dl dc] 32 (0, 0))))
    (hz2 : -9223372036854775808 ≤ o2 ∧ o2 ≤ 9223372036854775807) (hz3 : -9223372036854775808 ≤ o3 ∧ o3 ≤ 9223372036854775807)
    (HQ : Hid (∀ (x7 x8 x190 x191 x192 x193 x194 x195 x196 x197 x198 x199 x200 x201 x202 x203 x204 x205 x206 x207 x208 x209 x210 x211 x212 : Value) W (xs' : List Cn) (ss' : List Slot) (fr' : List Nat), x7 = .slice (some ⟨gr, 0, none⟩) (k - 1) cv → x8 = .slice (some ⟨gs, 0, none⟩) (k - 1) cs → Es w W p S F B n (j + 1) (.slice (some ⟨gr, 0, none⟩) (k - 1) cv) (.slice (some ⟨gs, 0, none⟩) (k - 1) cs) xs' ss' fr' → Q .normal { tmps := #[.int .i64 (n : Int), s1, s2, s3, s4, .pointer (some ⟨p, 0, none⟩), s6, x7, x8, s9, .pointer (some ⟨g10, 0, none⟩), .int .i64 (i : Int), .int .i64 (fr.length : Int), s13, s14, s15, s16, s17, s18, s19, s20, s21, s22, s23, s24, s25, s26, s27, s28, s29, s30, s31, s32, s33, s34, s35, s36, s37, s38, s39, s40, s41, s42, s43, s44, s45, s46, s47, s48, s49, s50, s51, s52, s53, s54, s55, s56, s57, s58, s59, s60, s61, s62, s63, s64, s65, s66, s67, s68, s69, s70, s71, s72, s73, s74, s75, s76, s77, s78, s79, s80, s81, s82, s83, s84, s85, s86, s87, s88, s89, s90, s91, s92, s93, s94, s95, s96, s97, s98, s99, s100, s101, s102, s103, s104, s105, s106, s107, s108, s109, s110, s111, s112, s113, s114, s115, s116, s117, s118, s119, s120, s121, s122, s123, s124, s125, s126, s127, s128, s129, s130, s131, s132, s133, s134, s135, s136, s137, s138, s139, s140, s141, s142, s143, s144, s145, s146, s147, s148, s149, s150, s151, s152, s153, s154, s155, s156, s157, s158, s159, s160, s161, s162, s163, s164, s165, s166, s167, s168, s169, s170, s171, s172, s173, s174, s175, s176, s177, s178, s179, s180, s181, s182, s183, s184, s185, s186, s187, s188, s189, x190, x191, x192, x193, x194, x195, x196, x197, x198, x199, x200, x201, x202, x203, x204, x205, x206, x207, x208, x209, x210, x211, x212, s213, s214, s215, s216, s217, s218, s219, s220, s221, s222, s223, s224, s225, s226, s227, s228, s229, s230, s231, s232, s233, s234, s235, s236, s237, s238, s239, s240, s241, s242, s243, s244, s245, s246, s247, s248, s249, s250, s251, s252, s253, s254, s255, s256, s257, s258, s259, s260, s261, s262, s263, s264, s265, s266, s267, s268, s269, s270, s271, s272, s273, s274, s275, s276, s277, s278, s279, s280, s281, s282, s283, s284, s285, s286, s287, s288, s289, s290, s291, s292, s293, s294, s295, s296, s297, s298, s299, s300, s301, s302, s303, s304, s305, s306, s307, s308, s309, s310, s311, s312, s313, s314, s315, s316, s317, s318, s319, s320, s321, s322, s323, s324, s325, s326, s327, s328, s329, s330, s331, s332, s333, s334, s335, s336, s337, s338, s339, s340, s341, s342, s343, s344, s345, s346, s347, s348, s349, s350, s351, s352, s353, s354, s355], defers := [] } W)) :
    Code.wp Try.prog ((Try.f3.body.bind (findAt 31)).getD .skip) Q { tmps := #[.int .i64 (n : Int), s1, s2, s3, s4, .pointer (some ⟨p, 0, none⟩), s6, .slice (some ⟨gr, 0, none⟩) k cv, .slice (some ⟨gs, 0, none⟩) k cs, s9, .pointer (some ⟨g10, 0, none⟩), .int .i64 (i : Int), .int .i64 (fr.length : Int), s13, s14, s15, s16, s17, s18, s19, s20, s21, s22, s23, s24, s25, s26, s27, s28, s29, s30, s31, s32, s33, s34, s35, s36, s37, s38, s39, s40, s41, s42, s43, s44, s45, s46, s47, s48, s49, s50, s51, s52, s53, s54, s55, s56, s57, s58, s59, s60, s61, s62, s63, s64, s65, s66, s67, s68, s69, s70, s71, s72, s73, s74, s75, s76, s77, s78, s79, s80, s81, s82, s83, s84, s85, s86, s87, s88, s89, s90, s91, s92, s93, s94, s95, s96, s97, s98, s99, s100, s101, s102, s103, s104, s105, s106, s107, s108, s109, s110, s111, s112, s113, s114, s115, s116, s117, s118, s119, s120, s121, s122, s123, s124, s125, s126, s127, s128, s129, s130, s131, s132, s133, s134, s135, s136, s137, s138, s139, s140, s141, s142, s143, s144, s145, s146, s147, s148, s149, s150, s151, s152, s153, s154, s155, s156, s157, s158, s159, s160, s161, s162, s163, s164, s165, s166, s167, s168, s169, s170, s171, s172, s173, s174, s175, s176, s177, s178, s179, s180, s181, s182, s183, s184, s185, s186, s187, s188, s189, s190, s191, s192, s193, s194, s195, s196, s197, s198, s199, s200, s201, s202, s203, s204, s205, s206, s207, s208, s209, s210, s211, s212, s213, s214, s215, s216, s217, s218, s219, s220, s221, s222, s223, s224, s225, s226, s227, s228, s229, s230, s231, s232, s233, s234, s235, s236, s237, s238, s239, s240, s241, s242, s243, s244, s245, s246, s247, s248, s249, s250, s251, s252, s253, s254, s255, s256, s257, s258, s259, s260, s261, s262, s263, s264, s265, s266, s267, s268, s269, s270, s271, s272, s273, s274, s275, s276, s277, s278, s279, s280, s281, s282, s283, s284, s285, s286, s287, s288, s289, s290, s291, s292, s293, s294, s295, s296, s297, s298, s299, s300, s301, s302, s303, s304, s305, s306, s307, s308, s309, s310, s311, s312, s313, s314, s315, s316, s317, s318, s319, s320, s321, s322, s323, s324, s325, s326, s327, s328, s329, s330, s331, s332, s333, s334, s335, s336, s337, s338, s339, s340, s341, s342, s343, s344, s345, s346, s347, s348, s349, s350, s351, s352, s353, s354, s355], defers := [] } w5 := by
  conv => arg 2; whnf
  have HW : Hid (Ws w5 B (.slice (some ⟨gs, 0, none⟩) k cs) xs) := H5.out.str
  have HC : Hid (Cs w5 B (.slice (some ⟨gr, 0, none⟩) k cv) xs) := H5.out.row
  have HLn : Hid (k = xs.length) := H5.out.row.len.1
  have hcv : k ≤ cv := H5.out.row.len.2.1
  have hcs : k ≤ cs := H5.out.str.len.2.1
  have hbd := H5.out.bound (by omega) (List.mem_of_getElem? HX.out)
  obtain ⟨g', eav, hgB, hgl, c0, c1, fz⟩ := H5.out.row.get HX.out
  simp at eav
  subst eav
  obtain ⟨g', eas, hsB, hsl, d0, fs, curs, hcurs⟩ := H5.out.str.get HX.out
  simp at eas
  subst eas
  have HI : Hid (Inv ss fr ((xi, xL) :: (xs.eraseIdx i).map Cn.ct)) := H5.out.inv.perm (ahead HX.out)
  have HO : Hid (Own w5 B (.slice xa xi.length xc) xi) := H5.out.row.own _ (List.mem_of_getElem? HX.out)
  have HXs : Hid (xL.length ≤ 1000 * j) := H5.out.size _ (List.mem_of_getElem? HX.out)
  simp only [Cn.val] at c0 c1 d0
  simp only at hbd
  have HBd : Hid _ := hbd
  obtain ⟨lp, lS, lF⟩ := H5.out.ar.lt
  have hB0 := H5.out.B0
  have hBw := H5.out.Bw
  have hp1 := H5.out.hp
  have hS1 := H5.out.hS
  have hF1 := H5.out.hF
  have m10 := two10 HOp.out
  have hg10 : g10 < w5.heap.size := lt_of_heap HOp.out
  clear hbd
  obtain ⟨hb1, hb2, hb3⟩ := HBd.out
  have q := drop_inv H5.out.ar HI.out (by omega) xa xc B HO.out (by omega) (by omega) (by omega) (xL.length : Int)
  obtain ⟨m, hm⟩ : ∃ m : Nat, xL.length = m := ⟨_, rfl⟩
  rw [hm] at q c1
  clear hm hb1 hb2 hb3
  go_upto_region 33 with (go_at_call 15; refine q.mono ?_; rintro e w6 ⟨ss6, fr6, rfl, A6, K6, I6, l6, _⟩)
  have C6 := HC.out.keeps K6 (by omega) (by omega) (by omega)
  have W6 := HW.out.keeps K6 (by omega) (by omega) (by omega)
  obtain ⟨w7, hrun1, C7, ot7, mv7, b7⟩ := (C6.moved (W' := w6.drew) fun _ _ _ => rfl).erase hik 28
  have hcur6 : ∃ cur, w6.heap[gr]? = some (.cells cur 35 (0, 0)) := by
    rcases C6.row.2 with ⟨e, _⟩ | ⟨g', cap, cur, e, _, hg, _⟩
    · cases e
    · simp at e
      rw [e.1]
      exact ⟨cur, hg⟩
  obtain ⟨cur6, hcur6⟩ := hcur6
  have W7 : Ws w7 B (.slice (some ⟨gs, 0, none⟩) k cs) xs := W6.far hcur6 (fun q _ hn => ot7 q hn)
  obtain ⟨w8, hrun2, W8, ot8, b8⟩ := W7.erase hik 29
  have hcs7 : ∃ cur, w7.heap[gs]? = some (.cells cur 9 (0, 0)) := by
    obtain ⟨g', e, _, _, _, _, cur, hc⟩ := W7.get HX.out
    simp at e
    rw [e]
    exact ⟨cur, hc⟩
  have HSt : Hid (Es w w8 p S F B n (j + 1) (.slice (some ⟨gr, 0, none⟩) (k - 1) cv) (.slice (some ⟨gs, 0, none⟩) (k - 1) cs) (xs.eraseIdx i) ss6 fr6) := H5.out.erase HX.out K6.drew A6.drew I6 l6 C7 ot7 b7 W8 ot8 b8 hcs7
  have hhi := fun W => run_high2 W (some ⟨gr, 0, none⟩) k cv i (by omega)
  have hlo : ∀ W, (Instr.sliceAt 28 (.slice (some ⟨gr, 0, none⟩) k cv) (some (.int .i64 ((i : Int) + 1))) none none).run Try.prog W = .ok (.slice (lowAt2 (some ⟨gr, 0, none⟩) cv (i + 1)) (k - (i + 1)) (cv - (i + 1))) W := fun W => by have := run_low2 W (some ⟨gr, 0, none⟩) k cv (i + 1) (by omega); simpa using this
  have hhs := fun W => run_high1 W (some ⟨gs, 0, none⟩) k cs i (by omega)
  have hls : ∀ W, (Instr.sliceAt 29 (.slice (some ⟨gs, 0, none⟩) k cs) (some (.int .i64 ((i : Int) + 1))) none none).run Try.prog W = .ok (.slice (lowAt1 (some ⟨gs, 0, none⟩) cs (i + 1)) (k - (i + 1)) (cs - (i + 1))) W := fun W => by have := run_low1 W (some ⟨gs, 0, none⟩) k cs (i + 1) (by omega); simpa using this
  have hi0 : (0 : Int) ≤ (i : Int) := by omega
  have hi60 : (i : Int) ≤ 60 := by omega
  have hwr : IntKind.i64.wrap ((i : Int) + 1) = (i : Int) + 1 := by rw [IntKind.wrap_i64]; omega
  generalize lowAt2 (some ⟨gr, 0, none⟩) cv (i + 1) = lo at *
  generalize lowAt1 (some ⟨gs, 0, none⟩) cs (i + 1) = los at *
  generalize k - (i + 1) = kk at *
  generalize cv - (i + 1) = cc at *
  generalize cs - (i + 1) = ccs at *
  clear C6 W6 C7 ot7 mv7 b7 W7 W8 ot8 b8 hcs7 hcur6 I6 l6 A6 K6 c0 c1 fz d0 fs hcurs m10 q
  go_region_held3 (fun W => True) (trivial) (first
    | (refine Lib.wp_append_run _ (.tmp 199) (.tmp 203) 28 28 rfl _ _ rfl rfl _ _ hrun1 ?_)
    | (refine Lib.wp_append_run _ (.tmp 207) (.tmp 211) 29 29 rfl _ _ rfl rfl _ _ hrun2 ?_))
  exact HQ.out _ _ _ _ _ _ _ _ _ _ _ _ _ _ _ _ _ _ _ _ _ _ _ _ _ _ _ _ _ rfl rfl HSt.out

end Go.Proofs.Ytpjfhfbjdcgbjab
