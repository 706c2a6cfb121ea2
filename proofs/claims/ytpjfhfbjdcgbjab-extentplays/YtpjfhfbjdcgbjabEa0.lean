/-
  ExtentPlays: bytes are put to a content.
-/
import Derived.Test.YtpjfhfbjdcgbjabEr19
import Derived.Test.YtpjfhfbjdcgbjabEr24
import Derived.Deep.QuietTactic
namespace Go.Proofs.Ytpjfhfbjdcgbjab
open Go.RowKit
set_option linter.unusedVariables false
set_option linter.unusedSimpArgs false

set_option maxRecDepth 100000 in
set_option maxHeartbeats 8000000 in
theorem arm0_full (w w5 : World) (p S F B n j gr k cv gs cs g10 i : Nat) (xs : List Cn) (ss : List Slot) (fr : List Nat) (xa : Option Addr) (xc : Nat) (xi xL : List Int) (o0 o1 o2 o3 : Int) (da : Option Addr) (dl dc : Nat) (D : List Int)
    (s1 s2 s3 s4 s6 s9 s13 s14 s15 s16 s17 s18 s19 s20 s21 s22 s23 s24 s25 s26 s27 s28 s29 s30 s31 s32 s33 s34 s35 s36 s37 s38 s39 s40 s41 s42 s43 s44 s45 s46 s47 s48 s49 s50 s51 s52 s53 s54 s55 s56 s57 s58 s59 s60 s61 s62 s63 s64 s65 s66 s67 s68 s69 s70 s71 s72 s73 s74 s75 s76 s77 s78 s79 s80 s81 s82 s83 s84 s85 s86 s87 s88 s89 s90 s91 s92 s93 s94 s95 s96 s97 s98 s99 s100 s101 s102 s103 s104 s105 s106 s107 s108 s109 s110 s111 s112 s113 s114 s115 s116 s117 s118 s119 s120 s121 s122 s123 s124 s125 s126 s127 s128 s129 s130 s131 s132 s133 s134 s135 s136 s137 s138 s139 s140 s141 s142 s143 s144 s145 s146 s147 s148 s149 s150 s151 s152 s153 s154 s155 s156 s157 s158 s159 s160 s161 s162 s163 s164 s165 s166 s167 s168 s169 s170 s171 s172 s173 s174 s175 s176 s177 s178 s179 s180 s181 s182 s183 s184 s185 s186 s187 s188 s189 s190 s191 s192 s193 s194 s195 s196 s197 s198 s199 s200 s201 s202 s203 s204 s205 s206 s207 s208 s209 s210 s211 s212 s213 s214 s215 s216 s217 s218 s219 s220 s221 s222 s223 s224 s225 s226 s227 s228 s229 s230 s231 s232 s233 s234 s235 s236 s237 s238 s239 s240 s241 s242 s243 s244 s245 s246 s247 s248 s249 s250 s251 s252 s253 s254 s255 s256 s257 s258 s259 s260 s261 s262 s263 s264 s265 s266 s267 s268 s269 s270 s271 s272 s273 s274 s275 s276 s277 s278 s279 s280 s281 s282 s283 s284 s285 s286 s287 s288 s289 s290 s291 s292 s293 s294 s295 s296 s297 s298 s299 s300 s301 s302 s303 s304 s305 s306 s307 s308 s309 s310 s311 s312 s313 s314 s315 s316 s317 s318 s319 s320 s321 s322 s323 s324 s325 s326 s327 s328 s329 s330 s331 s332 s333 s334 s335 s336 s337 s338 s339 s340 s341 s342 s343 s344 s345 s346 s347 s348 s349 s350 s351 s352 s353 s354 s355 : Value) (Q : Exit → Act → World → Prop) (HP : Hid (∀ c a (d : Nat) v w, Q (.panic c) (Act.put a (some d) v) w → Q (.panic c) a w))
    (H5 : Hid (Es w w5 p S F B n j (.slice (some ⟨gr, 0, none⟩) k cv) (.slice (some ⟨gs, 0, none⟩) k cs) xs ss fr)) (HX : Hid (xs[i]? = some ⟨xa, xc, xi, xL⟩)) (hik : i < k) (hj : j < 60) (hkj : k ≤ 60)
    (HD : Hid (Src w5 da D)) (HDl : Hid (D.length = dl)) (hdl : dl ≤ 1000) (hdc : dl ≤ dc) (hdm : dc ≤ 9223372036854775807) (HDa : Hid (∀ ad, da = some ad → 0 < dl → ad.block < w.heap.size))
    (hg10B : B ≤ g10) (HOp : Hid (w5.heap[g10]? = some (.cells #[.int .i64 o0, .int .i64 o1, .int .i64 o2, .int .i64 o3, .slice da dl dc] 32 (0, 0))))
    (hz2 : -9223372036854775808 ≤ o2 ∧ o2 ≤ 9223372036854775807) (hz3 : -9223372036854775808 ≤ o3 ∧ o3 ≤ 9223372036854775807)
    (hfull : (fr.length : Int) < (need (xL.length + dl) : Int) - (need xL.length : Int) + (if isShared ss xi xL.length then 1 else 0))
    (HQ : Hid (∀ (x13 x14 x15 x82 x83 x84 x85 x86 x87 x88 x89 x90 x91 x92 x93 x94 x95 x96 x97 x98 x99 x100 x101 x102 x103 x104 x105 x106 x107 x108 x109 x110 x111 x112 x113 x114 x115 x116 x117 x118 x119 x120 x121 x122 x123 x124 x125 x126 x127 x128 x129 x130 x131 x132 x133 x134 x135 x136 x137 x138 x139 x140 x141 x142 x143 x144 x145 x146 x147 x148 x149 x150 x151 x152 x153 x154 x155 x156 x157 : Value) W (xs' : List Cn) (ss' : List Slot) (fr' : List Nat), Es w W p S F B n (j + 1) (.slice (some ⟨gr, 0, none⟩) k cv) (.slice (some ⟨gs, 0, none⟩) k cs) xs' ss' fr' → Q .normal { tmps := #[.int .i64 (n : Int), s1, s2, s3, s4, .pointer (some ⟨p, 0, none⟩), s6, .slice (some ⟨gr, 0, none⟩) k cv, .slice (some ⟨gs, 0, none⟩) k cs, s9, .pointer (some ⟨g10, 0, none⟩), .int .i64 (i : Int), .int .i64 (fr.length : Int), x13, x14, x15, s16, s17, s18, s19, s20, s21, s22, s23, s24, s25, s26, s27, s28, s29, s30, s31, s32, s33, s34, s35, s36, s37, s38, s39, s40, s41, s42, s43, s44, s45, s46, s47, s48, s49, s50, s51, s52, s53, s54, s55, s56, s57, s58, s59, s60, s61, s62, s63, s64, s65, s66, s67, s68, s69, s70, s71, s72, s73, s74, s75, s76, s77, s78, s79, s80, s81, x82, x83, x84, x85, x86, x87, x88, x89, x90, x91, x92, x93, x94, x95, x96, x97, x98, x99, x100, x101, x102, x103, x104, x105, x106, x107, x108, x109, x110, x111, x112, x113, x114, x115, x116, x117, x118, x119, x120, x121, x122, x123, x124, x125, x126, x127, x128, x129, x130, x131, x132, x133, x134, x135, x136, x137, x138, x139, x140, x141, x142, x143, x144, x145, x146, x147, x148, x149, x150, x151, x152, x153, x154, x155, x156, x157, s158, s159, s160, s161, s162, s163, s164, s165, s166, s167, s168, s169, s170, s171, s172, s173, s174, s175, s176, s177, s178, s179, s180, s181, s182, s183, s184, s185, s186, s187, s188, s189, s190, s191, s192, s193, s194, s195, s196, s197, s198, s199, s200, s201, s202, s203, s204, s205, s206, s207, s208, s209, s210, s211, s212, s213, s214, s215, s216, s217, s218, s219, s220, s221, s222, s223, s224, s225, s226, s227, s228, s229, s230, s231, s232, s233, s234, s235, s236, s237, s238, s239, s240, s241, s242, s243, s244, s245, s246, s247, s248, s249, s250, s251, s252, s253, s254, s255, s256, s257, s258, s259, s260, s261, s262, s263, s264, s265, s266, s267, s268, s269, s270, s271, s272, s273, s274, s275, s276, s277, s278, s279, s280, s281, s282, s283, s284, s285, s286, s287, s288, s289, s290, s291, s292, s293, s294, s295, s296, s297, s298, s299, s300, s301, s302, s303, s304, s305, s306, s307, s308, s309, s310, s311, s312, s313, s314, s315, s316, s317, s318, s319, s320, s321, s322, s323, s324, s325, s326, s327, s328, s329, s330, s331, s332, s333, s334, s335, s336, s337, s338, s339, s340, s341, s342, s343, s344, s345, s346, s347, s348, s349, s350, s351, s352, s353, s354, s355], defers := [] } W)) :
    Code.wp Try.prog ((Try.f3.body.bind (findAt 19)).getD .skip) Q { tmps := #[.int .i64 (n : Int), s1, s2, s3, s4, .pointer (some ⟨p, 0, none⟩), s6, .slice (some ⟨gr, 0, none⟩) k cv, .slice (some ⟨gs, 0, none⟩) k cs, s9, .pointer (some ⟨g10, 0, none⟩), .int .i64 (i : Int), .int .i64 (fr.length : Int), s13, s14, s15, s16, s17, s18, s19, s20, s21, s22, s23, s24, s25, s26, s27, s28, s29, s30, s31, s32, s33, s34, s35, s36, s37, s38, s39, s40, s41, s42, s43, s44, s45, s46, s47, s48, s49, s50, s51, s52, s53, s54, s55, s56, s57, s58, s59, s60, s61, s62, s63, s64, s65, s66, s67, s68, s69, s70, s71, s72, s73, s74, s75, s76, s77, s78, s79, s80, s81, s82, s83, s84, s85, s86, s87, s88, s89, s90, s91, s92, s93, s94, s95, s96, s97, s98, s99, s100, s101, s102, s103, s104, s105, s106, s107, s108, s109, s110, s111, s112, s113, s114, s115, s116, s117, s118, s119, s120, s121, s122, s123, s124, s125, s126, s127, s128, s129, s130, s131, s132, s133, s134, s135, s136, s137, s138, s139, s140, s141, s142, s143, s144, s145, s146, s147, s148, s149, s150, s151, s152, s153, s154, s155, s156, s157, s158, s159, s160, s161, s162, s163, s164, s165, s166, s167, s168, s169, s170, s171, s172, s173, s174, s175, s176, s177, s178, s179, s180, s181, s182, s183, s184, s185, s186, s187, s188, s189, s190, s191, s192, s193, s194, s195, s196, s197, s198, s199, s200, s201, s202, s203, s204, s205, s206, s207, s208, s209, s210, s211, s212, s213, s214, s215, s216, s217, s218, s219, s220, s221, s222, s223, s224, s225, s226, s227, s228, s229, s230, s231, s232, s233, s234, s235, s236, s237, s238, s239, s240, s241, s242, s243, s244, s245, s246, s247, s248, s249, s250, s251, s252, s253, s254, s255, s256, s257, s258, s259, s260, s261, s262, s263, s264, s265, s266, s267, s268, s269, s270, s271, s272, s273, s274, s275, s276, s277, s278, s279, s280, s281, s282, s283, s284, s285, s286, s287, s288, s289, s290, s291, s292, s293, s294, s295, s296, s297, s298, s299, s300, s301, s302, s303, s304, s305, s306, s307, s308, s309, s310, s311, s312, s313, s314, s315, s316, s317, s318, s319, s320, s321, s322, s323, s324, s325, s326, s327, s328, s329, s330, s331, s332, s333, s334, s335, s336, s337, s338, s339, s340, s341, s342, s343, s344, s345, s346, s347, s348, s349, s350, s351, s352, s353, s354, s355], defers := [] } w5 := by
  conv => arg 2; whnf
  have HW : Hid (Ws w5 B (.slice (some ⟨gs, 0, none⟩) k cs) xs) := H5.out.str
  have HC : Hid (Cs w5 B (.slice (some ⟨gr, 0, none⟩) k cv) xs) := H5.out.row
  have HLn : Hid (k = xs.length) := H5.out.row.len.1
  have hcv : k ≤ cv := H5.out.row.len.2.1
  have hcs : k ≤ cs := H5.out.str.len.2.1
  have hbd := H5.out.bound (by omega) (List.mem_of_getElem? HX.out)
  obtain ⟨g', eav, hgB, hgl, c0, c1, fz⟩ := H5.out.row.get HX.out
  simp at eav
  subst eav
  obtain ⟨g', eas, hsB, hsl, d0, fs, curs, hcurs⟩ := H5.out.str.get HX.out
  simp at eas
  subst eas
  have HI : Hid (Inv ss fr ((xi, xL) :: (xs.eraseIdx i).map Cn.ct)) := H5.out.inv.perm (ahead HX.out)
  have HO : Hid (Own w5 B (.slice xa xi.length xc) xi) := H5.out.row.own _ (List.mem_of_getElem? HX.out)
  have HXs : Hid (xL.length ≤ 1000 * j) := H5.out.size _ (List.mem_of_getElem? HX.out)
  simp only [Cn.val] at c0 c1 d0
  simp only at hbd
  have HBd : Hid _ := hbd
  obtain ⟨lp, lS, lF⟩ := H5.out.ar.lt
  have hB0 := H5.out.B0
  have hBw := H5.out.Bw
  have hp1 := H5.out.hp
  have hS1 := H5.out.hS
  have hF1 := H5.out.hF
  have m10 := two10 HOp.out
  have hg10 : g10 < w5.heap.size := lt_of_heap HOp.out
  clear hbd
  obtain ⟨hb1, hb2, hb3⟩ := HBd.out
  have hsz := strOf_size xL
  obtain ⟨m, hm⟩ : ∃ m : Nat, xL.length = m := ⟨_, rfl⟩
  have HM : Hid (xL.length = m) := hm
  rw [hm] at c1 hsz hb1
  have hDl := HDl.out
  have hi0 : (0 : Int) ≤ (i : Int) := by omega
  have hik2 : (i : Int) < (k : Int) := by omega
  have HS : Hid (∀ W, Keeps p S F w5 W → W.cell? ⟨gr, i * 2, none⟩ = some (.slice xa xi.length xc) ∧ W.cell? ⟨gr, i * 2 + 1, none⟩ = some (.int .i64 (m : Int)) ∧ W.cell? ⟨g10, 4, none⟩ = some (.slice da dl dc)) := fun W K => ⟨cell_keeps K c0 (by simp; omega) (by simp; omega) (by simp; omega), cell_keeps K c1 (by simp; omega) (by simp; omega) (by simp; omega), cell_keeps K (m10 4) (by simp; omega) (by simp; omega) (by simp; omega)⟩
  have HSs : Hid (∀ W, Keeps p S F w5 W → W.cell? ⟨gs, i, none⟩ = some (.string (strOf xL))) := fun W K => cell_keeps K d0 (by simp; omega) (by simp; omega) (by simp; omega)
  have hn1 : need m ≤ 1000000 := by unfold need; omega
  have hn2 : need (m + dl) ≤ 1000000 := by unfold need; omega
  have KN : Hid (∀ (q : Nat) W N, q ≤ 100000 → Calls Try.prog 13 #[.int .i64 (q : Int)] (World.drewN W N) fun e w'' => e = .returned (.int .i64 (need q : Int)) ∧ ∃ M, w'' = World.drewN W M) := fun q W N hq => Calls.quiet_of_same ((need_w q (W.drewN N) (by omega)).mono fun _ _ h => ⟨h.1, h.2.symm⟩)
  have KN1 : Hid (∀ W N, Calls Try.prog 13 #[.int .i64 ((m : Int) + (dl : Int))] (World.drewN W N) fun e w'' => e = .returned (.int .i64 (need (m + dl) : Int)) ∧ ∃ M, w'' = World.drewN W M) := fun W N => by have h9 := KN.out (m + dl) W N (by omega); simpa using h9
  have KN2 : Hid (∀ W N, Calls Try.prog 13 #[.int .i64 (m : Int)] (World.drewN W N) fun e w'' => e = .returned (.int .i64 (need m : Int)) ∧ ∃ M, w'' = World.drewN W M) := fun W N => KN.out m W N (by omega)
  clear hm c0 c1 fz d0 fs hcurs m10 hb2 hb3
  have hcode : canCode ss fr xi m dl = 3 := by
    have h9 := HI.out.full dl (by rw [HM.out]; omega) hfull
    rwa [HM.out] at h9
  rw [HM.out] at hfull
  have KA : Hid (∀ W, Below w5.heap.size w5 W → Calls Try.prog 12 #[.pointer (some ⟨p, 0, none⟩), .agg #[.slice xa xi.length xc, .int .i64 (m : Int)], .slice da dl dc] W fun e w' => ∃ a' n' c' z, e = .returned (.tuple #[.agg #[.slice a' n' c', .int .i64 z], .int .i64 3]) ∧ Ar w' p S F ss fr ∧ Keeps p S F W w') := fun W hb => by
    have q := app_err (H5.out.ar.grow hb) HI.out (by rw [HM.out]; omega) xa xc B (HO.out.grow hb) da dl dc (by omega) (by rw [HM.out, hcode]; decide)
    rw [HM.out, hcode] at q
    refine q.mono ?_
    rintro e w' ⟨a', c', h1, h2, h3⟩
    exact ⟨a', _, c', _, h1, (H5.out.ar.grow hb).grow h3, Keeps.ofBelow h3⟩
  have hle : (fr.length : Int) < (need (m + dl) : Int) - (need m : Int) + 1 := by
    split at hfull <;> omega
  have hle2 : ¬ (need (m + dl) : Int) - (need m : Int) + 1 ≤ (fr.length : Int) := by omega
  clear hfull hcode
  go_upto_region 19 with fail
  refine reg19 w5 p S F k cv gr g10 i m xa xi.length xc da dl dc 3 (fun W _ _ _ _ => Ar W p S F ss fr) _ _ _ _ _ _ _ _ _ _ _ _ _ _ _ _ _ _ _ _ _ _ _ _ _ _ _ _ _ _ _ _ _ _ _ _ _ _ _ _ _ _ _ _ _ _ _ _ _ _ _ _ _ _ _ _ _ _ _ _ _ _ _ _ _ _ _ _ _ _ _ _ _ _ _ _ _ _ _ _ _ _ _ _ _ _ _ _ _ _ _ _ _ _ _ _ _ _ _ _ _ _ _ _ _ _ _ _ _ _ _ _ _ _ _ _ _ _ _ _ _ _ _ _ _ _ _ _ _ _ _ _ _ _ _ _ _ _ _ _ _ _ _ _ _ _ _ _ _ _ _ _ _ _ _ _ _ _ _ _ _ _ _ _ _ _ _ _ _ _ _ _ _ _ _ _ _ _ _ _ _ _ _ _ _ _ _ _ _ _ _ _ _ _ _ _ _ _ _ _ _ _ _ _ _ _ _ _ _ _ _ _ _ _ _ _ _ _ _ _ _ _ _ _ _ _ _ _ _ _ _ _ _ _ _ _ _ _ _ _ _ _ _ _ _ _ _ _ _ _ _ _ _ _ _ _ _ _ _ _ _ _ _ _ _ _ _ _ _ _ _ _ _ _ _ _ _ _ _ _ _ _ _ _ _ _ _ _ _ _ _ _ _ _ _ _ _ _ _ _ _ _ _ _ _ _ _ _ _ _ _ _ _ _ _ _ _ _ _ _ _ _ _ _ _ _ _ _ _ _ _ _ _ _ _ _ _ _ _ _ _ _ _ _ _ _ _ _ _ _ _ _ _ hik hkj lp lS lF HS KA (fun W W' a' n' c' z h hb => h.grow hb) (fun W g C D a' n' c' z h hg hgl => h.moved (setRow_other _ _ _ _ (by omega)) (setRow_other _ _ _ _ (by omega)) (setRow_other _ _ _ _ (by omega))) (fun c a d v w h => HP.out c a d v w h) ?_
  intro v90 v82 v91 g13 a' n' c' z W hA hK hbox hg13
  have r1 := HSs.out W hK
  have r2 := (HS.out W hK).2.2
  have HAr : Hid (Ar W p S F ss fr) := hA
  have HKp : Hid (Keeps p S F w5 W) := hK
  clear hA hK hbox
  go_upto_region 20 with fail
  go_quiet ((first | (go_at_call 13; exact KN1.out _ _) | (go_at_call 13; exact KN2.out _ _)))
  have kd : Hid (Below W.heap.size W (W.drewN nq)) := below_dN W nq
  generalize W.drewN nq = W2 at *
  have HAr2 : Hid (Ar W2 p S F ss fr) := HAr.out.grow kd.out
  have hfree := free_w HAr2.out
  have HSt : Hid (Es w W2 p S F B n (j + 1) (.slice (some ⟨gr, 0, none⟩) k cv) (.slice (some ⟨gs, 0, none⟩) k cs) xs ss fr) := (H5.out.kept (HKp.out.trans (Keeps.ofBelow kd.out)) HAr2.out H5.out.inv rfl).more
  have hl1 : -1000000 ≤ (need (m + dl) : Int) - (need m : Int) := by omega
  have hl2 : (need (m + dl) : Int) - (need m : Int) ≤ 1000000 := by omega
  generalize (need (m + dl) : Int) - (need m : Int) = le at *
  clear r1 r2 HAr HKp kd KN KN1 KN2 HS HSs
  by_cases hgt : (fr.length : Int) < le
  · go_wp2_with (go_at_call 11; refine hfree.mono ?_; rintro e w' ⟨rfl, rfl⟩)
    exact HQ.out _ _ _ _ _ _ _ _ _ _ _ _ _ _ _ _ _ _ _ _ _ _ _ _ _ _ _ _ _ _ _ _ _ _ _ _ _ _ _ _ _ _ _ _ _ _ _ _ _ _ _ _ _ _ _ _ _ _ _ _ _ _ _ _ _ _ _ _ _ _ _ _ _ _ _ _ _ _ _ _ _ _ _ HSt.out
  · go_wp2_with (go_at_call 11; refine hfree.mono ?_; rintro e w' ⟨rfl, rfl⟩)
    exact HQ.out _ _ _ _ _ _ _ _ _ _ _ _ _ _ _ _ _ _ _ _ _ _ _ _ _ _ _ _ _ _ _ _ _ _ _ _ _ _ _ _ _ _ _ _ _ _ _ _ _ _ _ _ _ _ _ _ _ _ _ _ _ _ _ _ _ _ _ _ _ _ _ _ _ _ _ _ _ _ _ _ _ _ _ HSt.out

set_option maxRecDepth 100000 in
set_option maxHeartbeats 8000000 in
theorem arm0_ok (w w5 : World) (p S F B n j gr k cv gs cs g10 i : Nat) (xs : List Cn) (ss : List Slot) (fr : List Nat) (xa : Option Addr) (xc : Nat) (xi xL : List Int) (o0 o1 o2 o3 : Int) (da : Option Addr) (dl dc : Nat) (D : List Int)
    (s1 s2 s3 s4 s6 s9 s13 s14 s15 s16 s17 s18 s19 s20 s21 s22 s23 s24 s25 s26 s27 s28 s29 s30 s31 s32 s33 s34 s35 s36 s37 s38 s39 s40 s41 s42 s43 s44 s45 s46 s47 s48 s49 s50 s51 s52 s53 s54 s55 s56 s57 s58 s59 s60 s61 s62 s63 s64 s65 s66 s67 s68 s69 s70 s71 s72 s73 s74 s75 s76 s77 s78 s79 s80 s81 s82 s83 s84 s85 s86 s87 s88 s89 s90 s91 s92 s93 s94 s95 s96 s97 s98 s99 s100 s101 s102 s103 s104 s105 s106 s107 s108 s109 s110 s111 s112 s113 s114 s115 s116 s117 s118 s119 s120 s121 s122 s123 s124 s125 s126 s127 s128 s129 s130 s131 s132 s133 s134 s135 s136 s137 s138 s139 s140 s141 s142 s143 s144 s145 s146 s147 s148 s149 s150 s151 s152 s153 s154 s155 s156 s157 s158 s159 s160 s161 s162 s163 s164 s165 s166 s167 s168 s169 s170 s171 s172 s173 s174 s175 s176 s177 s178 s179 s180 s181 s182 s183 s184 s185 s186 s187 s188 s189 s190 s191 s192 s193 s194 s195 s196 s197 s198 s199 s200 s201 s202 s203 s204 s205 s206 s207 s208 s209 s210 s211 s212 s213 s214 s215 s216 s217 s218 s219 s220 s221 s222 s223 s224 s225 s226 s227 s228 s229 s230 s231 s232 s233 s234 s235 s236 s237 s238 s239 s240 s241 s242 s243 s244 s245 s246 s247 s248 s249 s250 s251 s252 s253 s254 s255 s256 s257 s258 s259 s260 s261 s262 s263 s264 s265 s266 s267 s268 s269 s270 s271 s272 s273 s274 s275 s276 s277 s278 s279 s280 s281 s282 s283 s284 s285 s286 s287 s288 s289 s290 s291 s292 s293 s294 s295 s296 s297 s298 s299 s300 s301 s302 s303 s304 s305 s306 s307 s308 s309 s310 s311 s312 s313 s314 s315 s316 s317 s318 s319 s320 s321 s322 s323 s324 s325 s326 s327 s328 s329 s330 s331 s332 s333 s334 s335 s336 s337 s338 s339 s340 s341 s342 s343 s344 s345 s346 s347 s348 s349 s350 s351 s352 s353 s354 s355 : Value) (Q : Exit → Act → World → Prop) (HP : Hid (∀ c a (d : Nat) v w, Q (.panic c) (Act.put a (some d) v) w → Q (.panic c) a w))
    (H5 : Hid (Es w w5 p S F B n j (.slice (some ⟨gr, 0, none⟩) k cv) (.slice (some ⟨gs, 0, none⟩) k cs) xs ss fr)) (HX : Hid (xs[i]? = some ⟨xa, xc, xi, xL⟩)) (hik : i < k) (hj : j < 60) (hkj : k ≤ 60)
    (HD : Hid (Src w5 da D)) (HDl : Hid (D.length = dl)) (hdl : dl ≤ 1000) (hdc : dl ≤ dc) (hdm : dc ≤ 9223372036854775807) (HDa : Hid (∀ ad, da = some ad → 0 < dl → ad.block < w.heap.size))
    (hg10B : B ≤ g10) (HOp : Hid (w5.heap[g10]? = some (.cells #[.int .i64 o0, .int .i64 o1, .int .i64 o2, .int .i64 o3, .slice da dl dc] 32 (0, 0))))
    (hz2 : -9223372036854775808 ≤ o2 ∧ o2 ≤ 9223372036854775807) (hz3 : -9223372036854775808 ≤ o3 ∧ o3 ≤ 9223372036854775807)
    (hfull : ¬ (fr.length : Int) < (need (xL.length + dl) : Int) - (need xL.length : Int) + (if isShared ss xi xL.length then 1 else 0))
    (HQ : Hid (∀ (x13 x14 x15 x82 x83 x84 x85 x86 x87 x88 x89 x90 x91 x92 x93 x94 x95 x96 x97 x98 x99 x100 x101 x102 x103 x104 x105 x106 x107 x108 x109 x110 x111 x112 x113 x114 x115 x116 x117 x118 x119 x120 x121 x122 x123 x124 x125 x126 x127 x128 x129 x130 x131 x132 x133 x134 x135 x136 x137 x138 x139 x140 x141 x142 x143 x144 x145 x146 x147 x148 x149 x150 x151 x152 x153 x154 x155 x156 x157 : Value) W (xs' : List Cn) (ss' : List Slot) (fr' : List Nat), Es w W p S F B n (j + 1) (.slice (some ⟨gr, 0, none⟩) k cv) (.slice (some ⟨gs, 0, none⟩) k cs) xs' ss' fr' → Q .normal { tmps := #[.int .i64 (n : Int), s1, s2, s3, s4, .pointer (some ⟨p, 0, none⟩), s6, .slice (some ⟨gr, 0, none⟩) k cv, .slice (some ⟨gs, 0, none⟩) k cs, s9, .pointer (some ⟨g10, 0, none⟩), .int .i64 (i : Int), .int .i64 (fr.length : Int), x13, x14, x15, s16, s17, s18, s19, s20, s21, s22, s23, s24, s25, s26, s27, s28, s29, s30, s31, s32, s33, s34, s35, s36, s37, s38, s39, s40, s41, s42, s43, s44, s45, s46, s47, s48, s49, s50, s51, s52, s53, s54, s55, s56, s57, s58, s59, s60, s61, s62, s63, s64, s65, s66, s67, s68, s69, s70, s71, s72, s73, s74, s75, s76, s77, s78, s79, s80, s81, x82, x83, x84, x85, x86, x87, x88, x89, x90, x91, x92, x93, x94, x95, x96, x97, x98, x99, x100, x101, x102, x103, x104, x105, x106, x107, x108, x109, x110, x111, x112, x113, x114, x115, x116, x117, x118, x119, x120, x121, x122, x123, x124, x125, x126, x127, x128, x129, x130, x131, x132, x133, x134, x135, x136, x137, x138, x139, x140, x141, x142, x143, x144, x145, x146, x147, x148, x149, x150, x151, x152, x153, x154, x155, x156, x157, s158, s159, s160, s161, s162, s163, s164, s165, s166, s167, s168, s169, s170, s171, s172, s173, s174, s175, s176, s177, s178, s179, s180, s181, s182, s183, s184, s185, s186, s187, s188, s189, s190, s191, s192, s193, s194, s195, s196, s197, s198, s199, s200, s201, s202, s203, s204, s205, s206, s207, s208, s209, s210, s211, s212, s213, s214, s215, s216, s217, s218, s219, s220, s221, s222, s223, s224, s225, s226, s227, s228, s229, s230, s231, s232, s233, s234, s235, s236, s237, s238, s239, s240, s241, s242, s243, s244, s245, s246, s247, s248, s249, s250, s251, s252, s253, s254, s255, s256, s257, s258, s259, s260, s261, s262, s263, s264, s265, s266, s267, s268, s269, s270, s271, s272, s273, s274, s275, s276, s277, s278, s279, s280, s281, s282, s283, s284, s285, s286, s287, s288, s289, s290, s291, s292, s293, s294, s295, s296, s297, s298, s299, s300, s301, s302, s303, s304, s305, s306, s307, s308, s309, s310, s311, s312, s313, s314, s315, s316, s317, s318, s319, s320, s321, s322, s323, s324, s325, s326, s327, s328, s329, s330, s331, s332, s333, s334, s335, s336, s337, s338, s339, s340, s341, s342, s343, s344, s345, s346, s347, s348, s349, s350, s351, s352, s353, s354, s355], defers := [] } W)) :
    Code.wp Try.prog ((Try.f3.body.bind (findAt 19)).getD .skip) Q { tmps := #[.int .i64 (n : Int), s1, s2, s3, s4, .pointer (some ⟨p, 0, none⟩), s6, .slice (some ⟨gr, 0, none⟩) k cv, .slice (some ⟨gs, 0, none⟩) k cs, s9, .pointer (some ⟨g10, 0, none⟩), .int .i64 (i : Int), .int .i64 (fr.length : Int), s13, s14, s15, s16, s17, s18, s19, s20, s21, s22, s23, s24, s25, s26, s27, s28, s29, s30, s31, s32, s33, s34, s35, s36, s37, s38, s39, s40, s41, s42, s43, s44, s45, s46, s47, s48, s49, s50, s51, s52, s53, s54, s55, s56, s57, s58, s59, s60, s61, s62, s63, s64, s65, s66, s67, s68, s69, s70, s71, s72, s73, s74, s75, s76, s77, s78, s79, s80, s81, s82, s83, s84, s85, s86, s87, s88, s89, s90, s91, s92, s93, s94, s95, s96, s97, s98, s99, s100, s101, s102, s103, s104, s105, s106, s107, s108, s109, s110, s111, s112, s113, s114, s115, s116, s117, s118, s119, s120, s121, s122, s123, s124, s125, s126, s127, s128, s129, s130, s131, s132, s133, s134, s135, s136, s137, s138, s139, s140, s141, s142, s143, s144, s145, s146, s147, s148, s149, s150, s151, s152, s153, s154, s155, s156, s157, s158, s159, s160, s161, s162, s163, s164, s165, s166, s167, s168, s169, s170, s171, s172, s173, s174, s175, s176, s177, s178, s179, s180, s181, s182, s183, s184, s185, s186, s187, s188, s189, s190, s191, s192, s193, s194, s195, s196, s197, s198, s199, s200, s201, s202, s203, s204, s205, s206, s207, s208, s209, s210, s211, s212, s213, s214, s215, s216, s217, s218, s219, s220, s221, s222, s223, s224, s225, s226, s227, s228, s229, s230, s231, s232, s233, s234, s235, s236, s237, s238, s239, s240, s241, s242, s243, s244, s245, s246, s247, s248, s249, s250, s251, s252, s253, s254, s255, s256, s257, s258, s259, s260, s261, s262, s263, s264, s265, s266, s267, s268, s269, s270, s271, s272, s273, s274, s275, s276, s277, s278, s279, s280, s281, s282, s283, s284, s285, s286, s287, s288, s289, s290, s291, s292, s293, s294, s295, s296, s297, s298, s299, s300, s301, s302, s303, s304, s305, s306, s307, s308, s309, s310, s311, s312, s313, s314, s315, s316, s317, s318, s319, s320, s321, s322, s323, s324, s325, s326, s327, s328, s329, s330, s331, s332, s333, s334, s335, s336, s337, s338, s339, s340, s341, s342, s343, s344, s345, s346, s347, s348, s349, s350, s351, s352, s353, s354, s355], defers := [] } w5 := by
  conv => arg 2; whnf
  have HW : Hid (Ws w5 B (.slice (some ⟨gs, 0, none⟩) k cs) xs) := H5.out.str
  have HC : Hid (Cs w5 B (.slice (some ⟨gr, 0, none⟩) k cv) xs) := H5.out.row
  have HLn : Hid (k = xs.length) := H5.out.row.len.1
  have hcv : k ≤ cv := H5.out.row.len.2.1
  have hcs : k ≤ cs := H5.out.str.len.2.1
  have hbd := H5.out.bound (by omega) (List.mem_of_getElem? HX.out)
  obtain ⟨g', eav, hgB, hgl, c0, c1, fz⟩ := H5.out.row.get HX.out
  simp at eav
  subst eav
  obtain ⟨g', eas, hsB, hsl, d0, fs, curs, hcurs⟩ := H5.out.str.get HX.out
  simp at eas
  subst eas
  have HI : Hid (Inv ss fr ((xi, xL) :: (xs.eraseIdx i).map Cn.ct)) := H5.out.inv.perm (ahead HX.out)
  have HO : Hid (Own w5 B (.slice xa xi.length xc) xi) := H5.out.row.own _ (List.mem_of_getElem? HX.out)
  have HXs : Hid (xL.length ≤ 1000 * j) := H5.out.size _ (List.mem_of_getElem? HX.out)
  simp only [Cn.val] at c0 c1 d0
  simp only at hbd
  have HBd : Hid _ := hbd
  obtain ⟨lp, lS, lF⟩ := H5.out.ar.lt
  have hB0 := H5.out.B0
  have hBw := H5.out.Bw
  have hp1 := H5.out.hp
  have hS1 := H5.out.hS
  have hF1 := H5.out.hF
  have m10 := two10 HOp.out
  have hg10 : g10 < w5.heap.size := lt_of_heap HOp.out
  clear hbd
  obtain ⟨hb1, hb2, hb3⟩ := HBd.out
  have hsz := strOf_size xL
  obtain ⟨m, hm⟩ : ∃ m : Nat, xL.length = m := ⟨_, rfl⟩
  have HM : Hid (xL.length = m) := hm
  rw [hm] at c1 hsz hb1
  have hDl := HDl.out
  have hi0 : (0 : Int) ≤ (i : Int) := by omega
  have hik2 : (i : Int) < (k : Int) := by omega
  have HS : Hid (∀ W, Keeps p S F w5 W → W.cell? ⟨gr, i * 2, none⟩ = some (.slice xa xi.length xc) ∧ W.cell? ⟨gr, i * 2 + 1, none⟩ = some (.int .i64 (m : Int)) ∧ W.cell? ⟨g10, 4, none⟩ = some (.slice da dl dc)) := fun W K => ⟨cell_keeps K c0 (by simp; omega) (by simp; omega) (by simp; omega), cell_keeps K c1 (by simp; omega) (by simp; omega) (by simp; omega), cell_keeps K (m10 4) (by simp; omega) (by simp; omega) (by simp; omega)⟩
  have HSs : Hid (∀ W, Keeps p S F w5 W → W.cell? ⟨gs, i, none⟩ = some (.string (strOf xL))) := fun W K => cell_keeps K d0 (by simp; omega) (by simp; omega) (by simp; omega)
  have hn1 : need m ≤ 1000000 := by unfold need; omega
  have hn2 : need (m + dl) ≤ 1000000 := by unfold need; omega
  have KN : Hid (∀ (q : Nat) W N, q ≤ 100000 → Calls Try.prog 13 #[.int .i64 (q : Int)] (World.drewN W N) fun e w'' => e = .returned (.int .i64 (need q : Int)) ∧ ∃ M, w'' = World.drewN W M) := fun q W N hq => Calls.quiet_of_same ((need_w q (W.drewN N) (by omega)).mono fun _ _ h => ⟨h.1, h.2.symm⟩)
  have KN1 : Hid (∀ W N, Calls Try.prog 13 #[.int .i64 ((m : Int) + (dl : Int))] (World.drewN W N) fun e w'' => e = .returned (.int .i64 (need (m + dl) : Int)) ∧ ∃ M, w'' = World.drewN W M) := fun W N => by have h9 := KN.out (m + dl) W N (by omega); simpa using h9
  have KN2 : Hid (∀ W N, Calls Try.prog 13 #[.int .i64 (m : Int)] (World.drewN W N) fun e w'' => e = .returned (.int .i64 (need m : Int)) ∧ ∃ M, w'' = World.drewN W M) := fun W N => KN.out m W N (by omega)
  clear hm c0 c1 fz d0 fs hcurs m10 hb2 hb3
  have hcode : canCode ss fr xi m dl = 0 := by
    have h9 := HI.out.can dl (by rw [HM.out]; omega) (by omega)
    rwa [HM.out] at h9
  rw [HM.out] at hfull
  obtain ⟨m2, hm2⟩ : ∃ m2 : Nat, (xL ++ D).length = m2 := ⟨_, rfl⟩
  have HM2 : Hid ((xL ++ D).length = m2) := hm2
  have KA : Hid (∀ W, Below w5.heap.size w5 W → Calls Try.prog 12 #[.pointer (some ⟨p, 0, none⟩), .agg #[.slice xa xi.length xc, .int .i64 (m : Int)], .slice da dl dc] W fun e w' => ∃ a' n' c' z, e = .returned (.tuple #[.agg #[.slice a' n' c', .int .i64 z], .int .i64 0]) ∧ (∃ ids3 ss3 fr3, n' = ids3.length ∧ z = (m2 : Int) ∧ Own w' w5.heap.size (.slice a' ids3.length c') ids3 ∧ Ar w' p S F ss3 fr3 ∧ Inv ss3 fr3 ((ids3, xL ++ D) :: (xs.eraseIdx i).map Cn.ct) ∧ ss3.length = ss.length) ∧ Keeps p S F W w') := fun W hb => by
    have hsrc : Src W da D := HD.out.moved' (fun h0 ad e => hb.block _ (by have := HDa.out ad e (by omega); omega))
    have q := app_inv2 (H5.out.ar.grow hb) HI.out xa xc B (HO.out.grow hb) da D dc (by omega) hdm hsrc (fun h0 ad e => by have := HDa.out ad e (by omega); exact ⟨by omega, by omega, by omega⟩) (by rw [HM.out, hDl]; exact hcode)
    rw [HM.out, hDl, hm2] at q
    refine q.mono ?_
    rintro e w' ⟨a', c', ids3, ss3, fr3, h1, h2, h3, h4, h5, _, h7, _⟩
    exact ⟨a', _, c', _, h1, ⟨ids3, ss3, fr3, rfl, rfl, h2.base hb.size, h3, h5, h7⟩, h4⟩
  have hle : ¬ (fr.length : Int) < (need (m + dl) : Int) - (need m : Int) := by
    split at hfull <;> omega
  clear hfull hcode
  go_upto_region 19 with fail
  refine reg19 w5 p S F k cv gr g10 i m xa xi.length xc da dl dc 0 (fun w' a' n' c' z => ∃ ids3 ss3 fr3, n' = ids3.length ∧ z = (m2 : Int) ∧ Own w' w5.heap.size (.slice a' ids3.length c') ids3 ∧ Ar w' p S F ss3 fr3 ∧ Inv ss3 fr3 ((ids3, xL ++ D) :: (xs.eraseIdx i).map Cn.ct) ∧ ss3.length = ss.length) _ _ _ _ _ _ _ _ _ _ _ _ _ _ _ _ _ _ _ _ _ _ _ _ _ _ _ _ _ _ _ _ _ _ _ _ _ _ _ _ _ _ _ _ _ _ _ _ _ _ _ _ _ _ _ _ _ _ _ _ _ _ _ _ _ _ _ _ _ _ _ _ _ _ _ _ _ _ _ _ _ _ _ _ _ _ _ _ _ _ _ _ _ _ _ _ _ _ _ _ _ _ _ _ _ _ _ _ _ _ _ _ _ _ _ _ _ _ _ _ _ _ _ _ _ _ _ _ _ _ _ _ _ _ _ _ _ _ _ _ _ _ _ _ _ _ _ _ _ _ _ _ _ _ _ _ _ _ _ _ _ _ _ _ _ _ _ _ _ _ _ _ _ _ _ _ _ _ _ _ _ _ _ _ _ _ _ _ _ _ _ _ _ _ _ _ _ _ _ _ _ _ _ _ _ _ _ _ _ _ _ _ _ _ _ _ _ _ _ _ _ _ _ _ _ _ _ _ _ _ _ _ _ _ _ _ _ _ _ _ _ _ _ _ _ _ _ _ _ _ _ _ _ _ _ _ _ _ _ _ _ _ _ _ _ _ _ _ _ _ _ _ _ _ _ _ _ _ _ _ _ _ _ _ _ _ _ _ _ _ _ _ _ _ _ _ _ _ _ _ _ _ _ _ _ _ _ _ _ _ _ _ _ _ _ _ _ _ _ _ _ _ _ _ _ _ _ _ _ _ _ _ _ _ _ _ _ _ _ _ _ _ _ _ _ _ _ _ _ _ _ _ _ hik hkj lp lS lF HS KA (fun W W' a' n' c' z h hb => ?_) (fun W g C D' a' n' c' z h hg hgl => ?_) (fun c a d v w h => HP.out c a d v w h) ?_
  · obtain ⟨ids3, ss3, fr3, h1, h2, h3, h4, h5, h6⟩ := h
    exact ⟨ids3, ss3, fr3, h1, h2, h3.grow hb, h4.grow hb, h5, h6⟩
  · obtain ⟨ids3, ss3, fr3, h1, h2, h3, h4, h5, h6⟩ := h
    refine ⟨ids3, ss3, fr3, h1, h2, h3.moved fun q _ _ ht => setRow_other _ _ _ _ (fun e => ?_), h4.moved (setRow_other _ _ _ _ (by omega)) (setRow_other _ _ _ _ (by omega)) (setRow_other _ _ _ _ (by omega)), h5, h6⟩
    subst e
    have := ht _ _ _ hg
    cases this
  intro v90 v82 v91 g13 a6 n6 c6 z W hA hK hbox hg13
  obtain ⟨ids3, ss3, fr3, rfl, rfl, O3, A3, I3, l3⟩ := hA
  have r1 := HSs.out W hK
  have r2 := (HS.out W hK).2.2
  have HKp : Hid (Keeps p S F w5 W) := hK
  have HA3 : Hid (Ar W p S F ss3 fr3) := A3
  have HO3 : Hid (Own W w5.heap.size (.slice a6 ids3.length c6) ids3) := O3
  have HI3 : Hid (Inv ss3 fr3 ((ids3, xL ++ D) :: (xs.eraseIdx i).map Cn.ct)) := I3
  have Hl3 : Hid (ss3.length = ss.length) := l3
  have HBx : Hid (W.heap[g13]? = some (.cells #[.slice a6 ids3.length c6, .int .i64 (m2 : Int)] 35 (0, 0))) := hbox
  clear A3 hK hbox O3 I3 l3
  go_upto_region 20 with fail
  go_quiet ((first | (go_at_call 13; exact KN1.out _ _) | (go_at_call 13; exact KN2.out _ _)))
  have kd : Hid (Below W.heap.size W (W.drewN nq)) := below_dN W nq
  generalize W.drewN nq = W2 at *
  have HKp2 : Hid (Keeps p S F w5 W2) := HKp.out.trans (Keeps.ofBelow kd.out)
  have HA4 : Hid (Ar W2 p S F ss3 fr3) := HA3.out.grow kd.out
  have HO4 : Hid (Own W2 w5.heap.size (.slice a6 ids3.length c6) ids3) := HO3.out.grow kd.out
  have HBx2 : Hid (W2.heap[g13]? = some (.cells #[.slice a6 ids3.length c6, .int .i64 (m2 : Int)] 35 (0, 0))) := (kd.out.block g13 (lt_of_heap HBx.out)).trans HBx.out
  have hl1 : -1000000 ≤ (need (m + dl) : Int) - (need m : Int) := by omega
  have hl2 : (need (m + dl) : Int) - (need m : Int) ≤ 1000000 := by omega
  generalize (need (m + dl) : Int) - (need m : Int) = le at *
  clear r1 r2 HA3 HKp kd KN KN1 KN2 HO3 HBx
  have hE : Hid (Es w (((W2.drew.setCell ⟨gr, i * 2, none⟩ (.slice a6 ids3.length c6)).setCell ⟨gr, i * 2 + 1, none⟩ (.int .i64 (m2 : Int))).setCell ⟨gs, i, none⟩ (.string (strOf (xL ++ D)))) p S F B n (j + 1) (.slice (some ⟨gr, 0, none⟩) k cv) (.slice (some ⟨gs, 0, none⟩) k cs) (xs.set i ⟨a6, c6, ids3, xL ++ D⟩) ss3 fr3) := by
    have h9 := H5.out.set (y := ⟨a6, c6, ids3, xL ++ D⟩) HX.out HKp2.out.drew HA4.out.drew (by exact ((HO4.out.base hBw).moved (fun _ _ _ _ => rfl))) HI3.out Hl3.out (by show (xL ++ D).length ≤ _; have := HXs.out; rw [List.length_append]; omega)
    simp only [Cn.val] at h9
    rw [HM2.out] at h9
    exact h9
  have hK9 : Keeps p S F w5 W2.drew := HKp2.out.drew
  obtain ⟨e0, e1, e2⟩ := HS.out _ hK9
  have e3 := HSs.out _ hK9
  obtain ⟨gq, eq1, _, _, _, _, fz⟩ := (H5.out.row.keeps hK9 (by omega) (by omega) (by omega)).get HX.out
  simp at eq1
  subst eq1
  obtain ⟨gq, eq2, _, _, _, fs, curs, hcurs⟩ := (H5.out.str.keeps hK9 (by omega) (by omega) (by omega)).get HX.out
  simp at eq2
  subst eq2
  have hrow := (H5.out.row.keeps hK9 (by omega) (by omega) (by omega)).row
  have hne : gs ≠ gr := fun e => own_apart (B' := 0) hrow hcurs (by decide) (by rw [e]; rfl)
  have hgne : g10 ≠ gr := fun e => own_apart (B' := 0) hrow (by have h9 := hK9.block g10 hg10 (by omega) (by omega) (by omega); rw [HOp.out] at h9; exact h9) (by decide) (by rw [e]; rfl)
  have hg13r : ∀ q, W2.drew.cell? ⟨g13, q, none⟩ = (#[.slice a6 ids3.length c6, .int .i64 (m2 : Int)] : Array Value)[q]? := two10 (w := W2.drew) HBx2.out
  have e3' : ((W2.drew.setCell ⟨gr, i * 2, none⟩ (.slice a6 ids3.length c6)).setCell ⟨gr, i * 2 + 1, none⟩ (.int .i64 (m2 : Int))).cell? ⟨gs, i, none⟩ = some (.string (strOf xL)) := by
    rw [World.cell?_setCell_far _ _ _ _ (by simp; omega), World.cell?_setCell_far _ _ _ _ (by simp; omega)]; exact e3
  have fs' : ((W2.drew.setCell ⟨gr, i * 2, none⟩ (.slice a6 ids3.length c6)).setCell ⟨gr, i * 2 + 1, none⟩ (.int .i64 (m2 : Int))).frozen? ⟨gs, i, none⟩ = false := by
    rw [World.frozen?_setCell, World.frozen?_setCell]; exact fs i
  have e2' : ((W2.drew.setCell ⟨gr, i * 2, none⟩ (.slice a6 ids3.length c6)).setCell ⟨gr, i * 2 + 1, none⟩ (.int .i64 (m2 : Int))).cell? ⟨g10, 4, none⟩ = some (.slice da dl dc) := by
    rw [World.cell?_setCell_far _ _ _ _ (by simp; omega), World.cell?_setCell_far _ _ _ _ (by simp; omega)]; exact e2
  have hsrc : Src W2.drew da D := HD.out.moved' (fun h0 ad e => hK9.block _ (by have := HDa.out ad e (by omega); omega) (by have := HDa.out ad e (by omega); omega) (by have := HDa.out ad e (by omega); omega) (by have := HDa.out ad e (by omega); omega))
  have hsrc' : Src ((W2.drew.setCell ⟨gr, i * 2, none⟩ (.slice a6 ids3.length c6)).setCell ⟨gr, i * 2 + 1, none⟩ (.int .i64 (m2 : Int))) da D := hsrc.moved' (fun h0 ad e => by
    have := HDa.out ad e (by omega)
    rw [Below.heap_setCell _ _ _ _ (by simp; omega), Below.heap_setCell _ _ _ _ (by simp; omega)])
  have hcv1 := conv_src _ da D dl dc hDl hsrc
  have hcv2 := conv_src _ da D dl dc hDl hsrc'
  have HF : Hid _ := hE
  have fz0 := fz (i * 2)
  have fz1 := fz (i * 2 + 1)
  have HR : Hid (∀ (s0 s1 s2 s3 s4 s5 s6 s9 s12 s14 s15 s16 s17 s18 s19 s20 s21 s22 s23 s24 s25 s26 s27 s28 s29 s30 s31 s32 s33 s34 s35 s36 s37 s38 s39 s40 s41 s42 s43 s44 s45 s46 s47 s48 s49 s50 s51 s52 s53 s54 s55 s56 s57 s58 s59 s60 s61 s62 s63 s64 s65 s66 s67 s68 s69 s70 s71 s72 s73 s74 s75 s76 s77 s78 s79 s80 s81 s82 s83 s84 s85 s86 s87 s88 s89 s90 s91 s92 s93 s94 s95 s96 s97 s98 s99 s100 s101 s102 s103 s104 s105 s106 s107 s108 s109 s110 s111 s112 s113 s114 s115 s116 s117 s118 s119 s120 s121 s122 s123 s124 s125 s126 s127 s128 s129 s130 s131 s132 s133 s134 s135 s136 s137 s138 s139 s140 s141 s142 s143 s144 s145 s146 s147 s148 s149 s150 s151 s152 s153 s154 s155 s156 s157 s158 s159 s160 s161 s162 s163 s164 s165 s166 s167 s168 s169 s170 s171 s172 s173 s174 s175 s176 s177 s178 s179 s180 s181 s182 s183 s184 s185 s186 s187 s188 s189 s190 s191 s192 s193 s194 s195 s196 s197 s198 s199 s200 s201 s202 s203 s204 s205 s206 s207 s208 s209 s210 s211 s212 s213 s214 s215 s216 s217 s218 s219 s220 s221 s222 s223 s224 s225 s226 s227 s228 s229 s230 s231 s232 s233 s234 s235 s236 s237 s238 s239 s240 s241 s242 s243 s244 s245 s246 s247 s248 s249 s250 s251 s252 s253 s254 s255 s256 s257 s258 s259 s260 s261 s262 s263 s264 s265 s266 s267 s268 s269 s270 s271 s272 s273 s274 s275 s276 s277 s278 s279 s280 s281 s282 s283 s284 s285 s286 s287 s288 s289 s290 s291 s292 s293 s294 s295 s296 s297 s298 s299 s300 s301 s302 s303 s304 s305 s306 s307 s308 s309 s310 s311 s312 s313 s314 s315 s316 s317 s318 s319 s320 s321 s322 s323 s324 s325 s326 s327 s328 s329 s330 s331 s332 s333 s334 s335 s336 s337 s338 s339 s340 s341 s342 s343 s344 s345 s346 s347 s348 s349 s350 s351 s352 s353 s354 s355 : Value) (Q' : Exit → Act → World → Prop), Hid (∀ c a (d : Nat) v w, Q' (.panic c) (Act.put a (some d) v) w → Q' (.panic c) a w) → (∀ v147 v151 v153 v154 v155 v156 v157, Q' .normal { tmps := #[s0, s1, s2, s3, s4, s5, s6, .slice (some ⟨gr, 0, none⟩) k cv, .slice (some ⟨gs, 0, none⟩) k cs, s9, .pointer (some ⟨g10, 0, none⟩), .int .i64 (i : Int), s12, .pointer (some ⟨g13, 0, none⟩), s14, s15, s16, s17, s18, s19, s20, s21, s22, s23, s24, s25, s26, s27, s28, s29, s30, s31, s32, s33, s34, s35, s36, s37, s38, s39, s40, s41, s42, s43, s44, s45, s46, s47, s48, s49, s50, s51, s52, s53, s54, s55, s56, s57, s58, s59, s60, s61, s62, s63, s64, s65, s66, s67, s68, s69, s70, s71, s72, s73, s74, s75, s76, s77, s78, s79, s80, s81, s82, s83, s84, s85, s86, s87, s88, s89, s90, s91, s92, s93, s94, s95, s96, s97, s98, s99, s100, s101, s102, s103, s104, s105, s106, s107, s108, s109, s110, s111, s112, s113, s114, s115, s116, s117, s118, s119, s120, s121, s122, s123, s124, s125, s126, s127, s128, s129, s130, s131, s132, s133, s134, s135, s136, s137, s138, s139, s140, s141, s142, .slice (some ⟨gr, 0, none⟩) k cv, .int .i64 (i : Int), .slice (some ⟨gs, 0, none⟩) k cs, .int .i64 (i : Int), v147, .slice (some ⟨gs, 0, none⟩) k cs, .int .i64 (i : Int), .pointer (some ⟨gs, i, none⟩), v151, .pointer (some ⟨g10, 4, none⟩), v153, v154, v155, v156, v157, s158, s159, s160, s161, s162, s163, s164, s165, s166, s167, s168, s169, s170, s171, s172, s173, s174, s175, s176, s177, s178, s179, s180, s181, s182, s183, s184, s185, s186, s187, s188, s189, s190, s191, s192, s193, s194, s195, s196, s197, s198, s199, s200, s201, s202, s203, s204, s205, s206, s207, s208, s209, s210, s211, s212, s213, s214, s215, s216, s217, s218, s219, s220, s221, s222, s223, s224, s225, s226, s227, s228, s229, s230, s231, s232, s233, s234, s235, s236, s237, s238, s239, s240, s241, s242, s243, s244, s245, s246, s247, s248, s249, s250, s251, s252, s253, s254, s255, s256, s257, s258, s259, s260, s261, s262, s263, s264, s265, s266, s267, s268, s269, s270, s271, s272, s273, s274, s275, s276, s277, s278, s279, s280, s281, s282, s283, s284, s285, s286, s287, s288, s289, s290, s291, s292, s293, s294, s295, s296, s297, s298, s299, s300, s301, s302, s303, s304, s305, s306, s307, s308, s309, s310, s311, s312, s313, s314, s315, s316, s317, s318, s319, s320, s321, s322, s323, s324, s325, s326, s327, s328, s329, s330, s331, s332, s333, s334, s335, s336, s337, s338, s339, s340, s341, s342, s343, s344, s345, s346, s347, s348, s349, s350, s351, s352, s353, s354, s355], defers := [] } (((W2.drew.setCell ⟨gr, i * 2, none⟩ (.slice a6 ids3.length c6)).setCell ⟨gr, i * 2 + 1, none⟩ (.int .i64 (m2 : Int))).setCell ⟨gs, i, none⟩ (.string (strOf (xL ++ D))))) → (Code.region 24 ops24 true).wp Try.prog Q' { tmps := #[s0, s1, s2, s3, s4, s5, s6, .slice (some ⟨gr, 0, none⟩) k cv, .slice (some ⟨gs, 0, none⟩) k cs, s9, .pointer (some ⟨g10, 0, none⟩), .int .i64 (i : Int), s12, .pointer (some ⟨g13, 0, none⟩), s14, s15, s16, s17, s18, s19, s20, s21, s22, s23, s24, s25, s26, s27, s28, s29, s30, s31, s32, s33, s34, s35, s36, s37, s38, s39, s40, s41, s42, s43, s44, s45, s46, s47, s48, s49, s50, s51, s52, s53, s54, s55, s56, s57, s58, s59, s60, s61, s62, s63, s64, s65, s66, s67, s68, s69, s70, s71, s72, s73, s74, s75, s76, s77, s78, s79, s80, s81, s82, s83, s84, s85, s86, s87, s88, s89, s90, s91, s92, s93, s94, s95, s96, s97, s98, s99, s100, s101, s102, s103, s104, s105, s106, s107, s108, s109, s110, s111, s112, s113, s114, s115, s116, s117, s118, s119, s120, s121, s122, s123, s124, s125, s126, s127, s128, s129, s130, s131, s132, s133, s134, s135, s136, s137, s138, s139, s140, s141, s142, s143, s144, s145, s146, s147, s148, s149, s150, s151, s152, s153, s154, s155, s156, s157, s158, s159, s160, s161, s162, s163, s164, s165, s166, s167, s168, s169, s170, s171, s172, s173, s174, s175, s176, s177, s178, s179, s180, s181, s182, s183, s184, s185, s186, s187, s188, s189, s190, s191, s192, s193, s194, s195, s196, s197, s198, s199, s200, s201, s202, s203, s204, s205, s206, s207, s208, s209, s210, s211, s212, s213, s214, s215, s216, s217, s218, s219, s220, s221, s222, s223, s224, s225, s226, s227, s228, s229, s230, s231, s232, s233, s234, s235, s236, s237, s238, s239, s240, s241, s242, s243, s244, s245, s246, s247, s248, s249, s250, s251, s252, s253, s254, s255, s256, s257, s258, s259, s260, s261, s262, s263, s264, s265, s266, s267, s268, s269, s270, s271, s272, s273, s274, s275, s276, s277, s278, s279, s280, s281, s282, s283, s284, s285, s286, s287, s288, s289, s290, s291, s292, s293, s294, s295, s296, s297, s298, s299, s300, s301, s302, s303, s304, s305, s306, s307, s308, s309, s310, s311, s312, s313, s314, s315, s316, s317, s318, s319, s320, s321, s322, s323, s324, s325, s326, s327, s328, s329, s330, s331, s332, s333, s334, s335, s336, s337, s338, s339, s340, s341, s342, s343, s344, s345, s346, s347, s348, s349, s350, s351, s352, s353, s354, s355], defers := [] } W2) := by
    intro s0 s1 s2 s3 s4 s5 s6 s9 s12 s14 s15 s16 s17 s18 s19 s20 s21 s22 s23 s24 s25 s26 s27 s28 s29 s30 s31 s32 s33 s34 s35 s36 s37 s38 s39 s40 s41 s42 s43 s44 s45 s46 s47 s48 s49 s50 s51 s52 s53 s54 s55 s56 s57 s58 s59 s60 s61 s62 s63 s64 s65 s66 s67 s68 s69 s70 s71 s72 s73 s74 s75 s76 s77 s78 s79 s80 s81 s82 s83 s84 s85 s86 s87 s88 s89 s90 s91 s92 s93 s94 s95 s96 s97 s98 s99 s100 s101 s102 s103 s104 s105 s106 s107 s108 s109 s110 s111 s112 s113 s114 s115 s116 s117 s118 s119 s120 s121 s122 s123 s124 s125 s126 s127 s128 s129 s130 s131 s132 s133 s134 s135 s136 s137 s138 s139 s140 s141 s142 s143 s144 s145 s146 s147 s148 s149 s150 s151 s152 s153 s154 s155 s156 s157 s158 s159 s160 s161 s162 s163 s164 s165 s166 s167 s168 s169 s170 s171 s172 s173 s174 s175 s176 s177 s178 s179 s180 s181 s182 s183 s184 s185 s186 s187 s188 s189 s190 s191 s192 s193 s194 s195 s196 s197 s198 s199 s200 s201 s202 s203 s204 s205 s206 s207 s208 s209 s210 s211 s212 s213 s214 s215 s216 s217 s218 s219 s220 s221 s222 s223 s224 s225 s226 s227 s228 s229 s230 s231 s232 s233 s234 s235 s236 s237 s238 s239 s240 s241 s242 s243 s244 s245 s246 s247 s248 s249 s250 s251 s252 s253 s254 s255 s256 s257 s258 s259 s260 s261 s262 s263 s264 s265 s266 s267 s268 s269 s270 s271 s272 s273 s274 s275 s276 s277 s278 s279 s280 s281 s282 s283 s284 s285 s286 s287 s288 s289 s290 s291 s292 s293 s294 s295 s296 s297 s298 s299 s300 s301 s302 s303 s304 s305 s306 s307 s308 s309 s310 s311 s312 s313 s314 s315 s316 s317 s318 s319 s320 s321 s322 s323 s324 s325 s326 s327 s328 s329 s330 s331 s332 s333 s334 s335 s336 s337 s338 s339 s340 s341 s342 s343 s344 s345 s346 s347 s348 s349 s350 s351 s352 s353 s354 s355 Q' hP' hQ'
    exact reg24 W2 W2.drew rfl k cv cs gr gs g10 g13 i m2 a6 ids3.length c6 da dl dc (strOf xL) (strOf D) (strOf (xL ++ D)) _ _ _ _ _ _ _ _ _ _ _ _ _ _ _ _ _ _ _ _ _ _ _ _ _ _ _ _ _ _ _ _ _ _ _ _ _ _ _ _ _ _ _ _ _ _ _ _ _ _ _ _ _ _ _ _ _ _ _ _ _ _ _ _ _ _ _ _ _ _ _ _ _ _ _ _ _ _ _ _ _ _ _ _ _ _ _ _ _ _ _ _ _ _ _ _ _ _ _ _ _ _ _ _ _ _ _ _ _ _ _ _ _ _ _ _ _ _ _ _ _ _ _ _ _ _ _ _ _ _ _ _ _ _ _ _ _ _ _ _ _ _ _ _ _ _ _ _ _ _ _ _ _ _ _ _ _ _ _ _ _ _ _ _ _ _ _ _ _ _ _ _ _ _ _ _ _ _ _ _ _ _ _ _ _ _ _ _ _ _ _ _ _ _ _ _ _ _ _ _ _ _ _ _ _ _ _ _ _ _ _ _ _ _ _ _ _ _ _ _ _ _ _ _ _ _ _ _ _ _ _ _ _ _ _ _ _ _ _ _ _ _ _ _ _ _ _ _ _ _ _ _ _ _ _ _ _ _ _ _ _ _ _ _ _ _ _ _ _ _ _ _ _ _ _ _ _ _ _ _ _ _ _ _ _ _ _ _ _ _ _ _ _ _ _ _ _ _ _ _ _ _ _ _ _ _ _ _ _ _ _ _ _ _ _ _ _ _ _ _ _ _ _ _ _ _ _ _ _ _ _ _ _ _ _ _ _ _ _ _ _ _ _ _ _ _ _ _ _ _ _ _ hik hkj (strOf_append xL D) (by rw [strOf_size, strOf_size, HM.out, hDl]; omega) hg13r e3 e3' fs' e2 e2' hcv1 hcv2 ⟨_, e0⟩ ⟨_, e1⟩ fz0 fz1 hP' hQ'
  clear hE hK9 e0 e1 e2 e3 fz fs hcurs hrow hne hgne hg13r e3' fs' e2' hsrc hsrc' hcv1 hcv2 fz0 fz1 HS HSs HKp2 HA4 HO4 HI3 Hl3
  by_cases hgt : le + 1 ≤ (fr.length : Int)
  · go_upto_region 24 with fail
    refine HR.out _ _ _ _ _ _ _ _ _ _ _ _ _ _ _ _ _ _ _ _ _ _ _ _ _ _ _ _ _ _ _ _ _ _ _ _ _ _ _ _ _ _ _ _ _ _ _ _ _ _ _ _ _ _ _ _ _ _ _ _ _ _ _ _ _ _ _ _ _ _ _ _ _ _ _ _ _ _ _ _ _ _ _ _ _ _ _ _ _ _ _ _ _ _ _ _ _ _ _ _ _ _ _ _ _ _ _ _ _ _ _ _ _ _ _ _ _ _ _ _ _ _ _ _ _ _ _ _ _ _ _ _ _ _ _ _ _ _ _ _ _ _ _ _ _ _ _ _ _ _ _ _ _ _ _ _ _ _ _ _ _ _ _ _ _ _ _ _ _ _ _ _ _ _ _ _ _ _ _ _ _ _ _ _ _ _ _ _ _ _ _ _ _ _ _ _ _ _ _ _ _ _ _ _ _ _ _ _ _ _ _ _ _ _ _ _ _ _ _ _ _ _ _ _ _ _ _ _ _ _ _ _ _ _ _ _ _ _ _ _ _ _ _ _ _ _ _ _ _ _ _ _ _ _ _ _ _ _ _ _ _ _ _ _ _ _ _ _ _ _ _ _ _ _ _ _ _ _ _ _ _ _ _ _ _ _ _ _ _ _ _ _ _ _ _ _ _ _ _ _ _ _ _ _ _ _ _ _ _ _ _ _ _ _ _ _ _ _ _ _ _ _ _ _ _ _ _ _ _ _ _ _ _ _ _ _ _ _ _ _ _ _ _ _ _ _ _ _ _ _ _ _ (fun c a d v w h => HP.out c a d v w h) ?_
    intros
    go_wp2_with fail
    exact HQ.out _ _ _ _ _ _ _ _ _ _ _ _ _ _ _ _ _ _ _ _ _ _ _ _ _ _ _ _ _ _ _ _ _ _ _ _ _ _ _ _ _ _ _ _ _ _ _ _ _ _ _ _ _ _ _ _ _ _ _ _ _ _ _ _ _ _ _ _ _ _ _ _ _ _ _ _ _ _ _ _ _ _ _ HF.out
  · go_upto_region 24 with fail
    refine HR.out _ _ _ _ _ _ _ _ _ _ _ _ _ _ _ _ _ _ _ _ _ _ _ _ _ _ _ _ _ _ _ _ _ _ _ _ _ _ _ _ _ _ _ _ _ _ _ _ _ _ _ _ _ _ _ _ _ _ _ _ _ _ _ _ _ _ _ _ _ _ _ _ _ _ _ _ _ _ _ _ _ _ _ _ _ _ _ _ _ _ _ _ _ _ _ _ _ _ _ _ _ _ _ _ _ _ _ _ _ _ _ _ _ _ _ _ _ _ _ _ _ _ _ _ _ _ _ _ _ _ _ _ _ _ _ _ _ _ _ _ _ _ _ _ _ _ _ _ _ _ _ _ _ _ _ _ _ _ _ _ _ _ _ _ _ _ _ _ _ _ _ _ _ _ _ _ _ _ _ _ _ _ _ _ _ _ _ _ _ _ _ _ _ _ _ _ _ _ _ _ _ _ _ _ _ _ _ _ _ _ _ _ _ _ _ _ _ _ _ _ _ _ _ _ _ _ _ _ _ _ _ _ _ _ _ _ _ _ _ _ _ _ _ _ _ _ _ _ _ _ _ _ _ _ _ _ _ _ _ _ _ _ _ _ _ _ _ _ _ _ _ _ _ _ _ _ _ _ _ _ _ _ _ _ _ _ _ _ _ _ _ _ _ _ _ _ _ _ _ _ _ _ _ _ _ _ _ _ _ _ _ _ _ _ _ _ _ _ _ _ _ _ _ _ _ _ _ _ _ _ _ _ _ _ _ _ _ _ _ _ _ _ _ _ _ _ _ _ _ _ _ _ (fun c a d v w h => HP.out c a d v w h) ?_
    intros
    go_wp2_with fail
    exact HQ.out _ _ _ _ _ _ _ _ _ _ _ _ _ _ _ _ _ _ _ _ _ _ _ _ _ _ _ _ _ _ _ _ _ _ _ _ _ _ _ _ _ _ _ _ _ _ _ _ _ _ _ _ _ _ _ _ _ _ _ _ _ _ _ _ _ _ _ _ _ _ _ _ _ _ _ _ _ _ _ _ _ _ _ HF.out

end Go.Proofs.Ytpjfhfbjdcgbjab
