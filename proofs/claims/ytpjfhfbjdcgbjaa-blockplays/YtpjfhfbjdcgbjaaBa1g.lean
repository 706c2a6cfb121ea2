/-
  BlockPlays: a block is written.
-/
import Derived.Test.YtpjfhfbjdcgbjaaBr38
import Derived.Deep.RegionHeld3
import Derived.Deep.RegionWith
import Derived.Deep.Cut
namespace Go.Proofs.Ytpjfhfbjdcgbjaa
open Go.RowKit
set_option linter.unusedVariables false
set_option linter.unusedSimpArgs false

set_option maxRecDepth 100000 in
set_option maxHeartbeats 8000000 in
theorem arm1_good (w w5 : World) (p S F gm B n j g10 g12 k ec : Nat) (ea : Option Addr) (ks : List Int) (ss : List Slot) (fr : List Nat) (i : Nat) (s : Slot) (s1 s2 s3 s4 s6 s9 s14 s15 s16 s17 s18 s19 s20 s21 s22 s23 s24 s25 s26 s27 s28 s29 s30 s31 s32 s33 s34 s35 s36 s37 s38 s39 s40 s41 s42 s43 s44 s45 s46 s47 s48 s49 s50 s51 s52 s53 s54 s55 s56 s57 s58 s59 s60 s61 s62 s63 s64 s65 s66 s67 s68 s69 s70 s71 s72 s73 s74 s75 s76 s77 s78 s79 s80 s81 s82 s83 s84 s85 s86 s87 s88 s89 s90 s91 s92 s93 s94 s95 s96 s97 s98 s99 s100 s101 s102 s103 s104 s105 s106 s107 s108 s109 s110 s111 s112 s113 s114 s115 s116 s117 s118 s119 s120 s121 s122 s123 s124 s125 s126 s127 s128 s129 s130 s131 s132 s133 s134 s135 s136 s137 s138 s139 s140 s141 s142 s143 s144 s145 s146 s147 s148 s149 s150 s151 s152 s153 s154 s155 s156 s157 s158 s159 s160 s161 s162 s163 s164 s165 s166 s167 s168 s169 s170 s171 s172 s173 s174 s175 s176 s177 s178 s179 s180 s181 s182 s183 s184 s185 s186 s187 s188 s189 s190 s191 s192 s193 s194 s195 s196 s197 s198 s199 s200 s201 s202 s203 s204 s205 s206 s207 s208 s209 s210 s211 s212 s213 s214 s215 s216 s217 s218 s219 s220 s221 s222 s223 s224 s225 s226 s227 s228 s229 s230 s231 s232 s233 s234 s235 s236 s237 s238 s239 s240 s241 s242 s243 s244 s245 s246 s247 s248 s249 s250 s251 s252 s253 s254 s255 s256 s257 s258 s259 s260 s261 s262 s263 s264 s265 s266 s267 s268 s269 s270 s271 s272 s273 s274 s275 s276 s277 s278 s279 s280 s281 s282 s283 s284 s285 s286 s287 s288 s289 s290 s291 s292 s293 s294 s295 s296 s297 s298 s299 s300 s301 s302 s303 s304 s305 s306 s307 s308 s309 s310 s311 s312 s313 s314 s315 s316 s317 s318 s319 s320 s321 s322 s323 s324 s325 s326 s327 s328 s329 s330 s331 s332 s333 s334 s335 s336 s337 s338 s339 s340 s341 s342 s343 s344 s345 s346 s347 s348 s349 s350 s351 s352 s353 s354 s355 s356 s357 s358 s359 s360 s361 s362 s363 s364 s365 s366 s367 s368 s369 s370 s371 s372 s373 s374 s375 s376 s377 s378 s379 : Value) (Q : Exit → Act → World → Prop)
    (H5 : Hid (Bs w w5 p S F gm B n j (.slice ea k ec) ks ss fr)) (hj : j < 100) (HX : Hid (ss[i]? = some s)) (hh : s.holds ≠ 0) (HBx : Hid (w5.heap[g12]? = some (.cells (slotCells s).toArray 35 (0, 0)))) (hg12 : B ≤ g12) (HP : Hid (∀ c a (d : Nat) v w, Q (.panic c) (Act.put a (some d) v) w → Q (.panic c) a w)) (o0 o1 o2 o3 o4 : Int) (da : Option Addr) (dl dc : Nat) (hdl : dl ≤ 200) (hdc : dl ≤ dc) (hdm : dc ≤ 9223372036854775807) (HOp : Hid (w5.heap[g10]? = some (.cells #[.int .i64 o0, .int .i64 o1, .int .i64 o2, .int .i64 o3, .int .i64 o4, .slice da dl dc] 32 (0, 0)))) (hg10 : B ≤ g10)
    (hz2 : -9223372036854775808 ≤ o2 ∧ o2 ≤ 9223372036854775807) (hz3 : -9223372036854775808 ≤ o3 ∧ o3 ≤ 9223372036854775807) (hgg : g10 < g12) (at_ : Nat) (D : List Int) (HA : Hid (o2 = (at_ : Int))) (HDl : Hid (D.length = dl)) (hr : at_ + dl ≤ 64) (HD : Hid (Src w5 da D)) (HDa : Hid (∀ ad, da = some ad → 0 < dl → ad.block < w.heap.size))
    (HQ : Hid (∀ (x18 x19 x140 x141 x142 x143 x144 x145 x146 x147 x148 x149 x150 x151 x152 x153 x154 x155 x156 x157 x158 x159 x160 x161 x162 x163 x164 x165 x166 x167 x168 x169 x170 x171 x172 x173 x174 x175 x176 x177 x178 x179 x180 x181 x182 x183 x184 x185 x186 x187 x188 x189 x190 x191 x192 x193 x194 x195 x196 x197 x198 x199 x200 x201 x202 x203 : Value) W, Bs w W p S F gm B n (j + 1) (.slice ea k ec) ks (ss.set i ⟨splice s.bytes at_ D, s.holds⟩) fr → Q .normal { tmps := #[.int .i64 (n : Int), s1, s2, s3, s4, .pointer (some ⟨p, 0, none⟩), s6, .map (some gm), .slice ea k ec, s9, .pointer (some ⟨g10, 0, none⟩), .int .i64 (i : Int), .pointer (some ⟨g12, 0, none⟩), .bool true, s14, s15, s16, s17, x18, x19, s20, s21, s22, s23, s24, s25, s26, s27, s28, s29, s30, s31, s32, s33, s34, s35, s36, s37, s38, s39, s40, s41, s42, s43, s44, s45, s46, s47, s48, s49, s50, s51, s52, s53, s54, s55, s56, s57, s58, s59, s60, s61, s62, s63, s64, s65, s66, s67, s68, s69, s70, s71, s72, s73, s74, s75, s76, s77, s78, s79, s80, s81, s82, s83, s84, s85, s86, s87, s88, s89, s90, s91, s92, s93, s94, s95, s96, s97, s98, s99, s100, s101, s102, s103, s104, s105, s106, s107, s108, s109, s110, s111, s112, s113, s114, s115, s116, s117, s118, s119, s120, s121, s122, s123, s124, s125, s126, s127, s128, s129, s130, s131, s132, s133, s134, s135, s136, s137, s138, s139, x140, x141, x142, x143, x144, x145, x146, x147, x148, x149, x150, x151, x152, x153, x154, x155, x156, x157, x158, x159, x160, x161, x162, x163, x164, x165, x166, x167, x168, x169, x170, x171, x172, x173, x174, x175, x176, x177, x178, x179, x180, x181, x182, x183, x184, x185, x186, x187, x188, x189, x190, x191, x192, x193, x194, x195, x196, x197, x198, x199, x200, x201, x202, x203, s204, s205, s206, s207, s208, s209, s210, s211, s212, s213, s214, s215, s216, s217, s218, s219, s220, s221, s222, s223, s224, s225, s226, s227, s228, s229, s230, s231, s232, s233, s234, s235, s236, s237, s238, s239, s240, s241, s242, s243, s244, s245, s246, s247, s248, s249, s250, s251, s252, s253, s254, s255, s256, s257, s258, s259, s260, s261, s262, s263, s264, s265, s266, s267, s268, s269, s270, s271, s272, s273, s274, s275, s276, s277, s278, s279, s280, s281, s282, s283, s284, s285, s286, s287, s288, s289, s290, s291, s292, s293, s294, s295, s296, s297, s298, s299, s300, s301, s302, s303, s304, s305, s306, s307, s308, s309, s310, s311, s312, s313, s314, s315, s316, s317, s318, s319, s320, s321, s322, s323, s324, s325, s326, s327, s328, s329, s330, s331, s332, s333, s334, s335, s336, s337, s338, s339, s340, s341, s342, s343, s344, s345, s346, s347, s348, s349, s350, s351, s352, s353, s354, s355, s356, s357, s358, s359, s360, s361, s362, s363, s364, s365, s366, s367, s368, s369, s370, s371, s372, s373, s374, s375, s376, s377, s378, s379], defers := [] } W)) :
    Code.wp Try.prog ((Try.f3.body.bind (findAt 33)).getD .skip) Q { tmps := #[.int .i64 (n : Int), s1, s2, s3, s4, .pointer (some ⟨p, 0, none⟩), s6, .map (some gm), .slice ea k ec, s9, .pointer (some ⟨g10, 0, none⟩), .int .i64 (i : Int), .pointer (some ⟨g12, 0, none⟩), .bool true, s14, s15, s16, s17, s18, s19, s20, s21, s22, s23, s24, s25, s26, s27, s28, s29, s30, s31, s32, s33, s34, s35, s36, s37, s38, s39, s40, s41, s42, s43, s44, s45, s46, s47, s48, s49, s50, s51, s52, s53, s54, s55, s56, s57, s58, s59, s60, s61, s62, s63, s64, s65, s66, s67, s68, s69, s70, s71, s72, s73, s74, s75, s76, s77, s78, s79, s80, s81, s82, s83, s84, s85, s86, s87, s88, s89, s90, s91, s92, s93, s94, s95, s96, s97, s98, s99, s100, s101, s102, s103, s104, s105, s106, s107, s108, s109, s110, s111, s112, s113, s114, s115, s116, s117, s118, s119, s120, s121, s122, s123, s124, s125, s126, s127, s128, s129, s130, s131, s132, s133, s134, s135, s136, s137, s138, s139, s140, s141, s142, s143, s144, s145, s146, s147, s148, s149, s150, s151, s152, s153, s154, s155, s156, s157, s158, s159, s160, s161, s162, s163, s164, s165, s166, s167, s168, s169, s170, s171, s172, s173, s174, s175, s176, s177, s178, s179, s180, s181, s182, s183, s184, s185, s186, s187, s188, s189, s190, s191, s192, s193, s194, s195, s196, s197, s198, s199, s200, s201, s202, s203, s204, s205, s206, s207, s208, s209, s210, s211, s212, s213, s214, s215, s216, s217, s218, s219, s220, s221, s222, s223, s224, s225, s226, s227, s228, s229, s230, s231, s232, s233, s234, s235, s236, s237, s238, s239, s240, s241, s242, s243, s244, s245, s246, s247, s248, s249, s250, s251, s252, s253, s254, s255, s256, s257, s258, s259, s260, s261, s262, s263, s264, s265, s266, s267, s268, s269, s270, s271, s272, s273, s274, s275, s276, s277, s278, s279, s280, s281, s282, s283, s284, s285, s286, s287, s288, s289, s290, s291, s292, s293, s294, s295, s296, s297, s298, s299, s300, s301, s302, s303, s304, s305, s306, s307, s308, s309, s310, s311, s312, s313, s314, s315, s316, s317, s318, s319, s320, s321, s322, s323, s324, s325, s326, s327, s328, s329, s330, s331, s332, s333, s334, s335, s336, s337, s338, s339, s340, s341, s342, s343, s344, s345, s346, s347, s348, s349, s350, s351, s352, s353, s354, s355, s356, s357, s358, s359, s360, s361, s362, s363, s364, s365, s366, s367, s368, s369, s370, s371, s372, s373, s374, s375, s376, s377, s378, s379], defers := [] } w5 := by
  conv => arg 2; whnf
  have hlt := lt_of_some HX.out
  have hln := H5.out.len
  have hsm := H5.out.ar.good.small
  have hbl := H5.out.ar.good.whole s (mem_of_some HX.out)
  have hhm := H5.out.held s (mem_of_some HX.out)
  have m10 := two10 HOp.out
  have hg10w := lt_of_heap HOp.out
  have hg12w := lt_of_heap HBx.out
  have hp1 := H5.out.hp
  have hS1 := H5.out.hS
  have hF1 := H5.out.hF
  have hB0 := H5.out.B0
  have hwB := H5.out.below.size
  have q := write_yes H5.out.ar i s HX.out hh at_ da D dc (by rw [HDl.out]; exact hr) HD.out
  rw [HDl.out] at q
  rw [HA.out] at m10
  have a1 : (0 : Int) ≤ (at_ : Int) := by omega
  have a2 : (at_ : Int) ≤ 64 := by omega
  have a4 : (dl : Int) ≤ 64 - (at_ : Int) := by omega
  go_upto_region 34 with (go_at_call 12; refine q.mono ?_; rintro e w6 ⟨rfl, A6, K6⟩)
  clear q
  obtain ⟨m, hm, M⟩ := H5.out.mp
  have hop6 : w6.drew.heap[g10]? = _ := (K6.block g10 hg10w (by omega) (by omega) (by omega)).trans HOp.out
  rw [HA.out] at hop6
  have m6 : ∀ q, w6.cell? ⟨g10, q, none⟩ = _ := two10 (w := w6) hop6
  have m6b := two10 hop6
  have hsp : splice (slotCells s) at_ (cellsOf D) = slotCells ⟨splice s.bytes at_ D, s.holds⟩ := slot_bytes s at_ D hbl (by rw [HDl.out]; exact hr)
  obtain ⟨c1, c3, c4, c5, c6⟩ := H5.out.boxRow K6.drew HBx.out hg12 (slotCells ⟨splice s.bytes at_ D, s.holds⟩).toArray
  have hsrc6 : Src w6.drew da D := by
    intro h0
    obtain ⟨ad, e1, e2⟩ := HD.out h0
    refine ⟨ad, e1, fun j v hv => ?_⟩
    have hlt := HDa.out ad e1 (by rw [← HDl.out]; exact h0)
    have hbk : w6.drew.heap[ad.block]? = w5.heap[ad.block]? := K6.drew.block _ (by omega) (by omega) (by omega) (by omega)
    have := e2 j v hv
    rw [show w6.drew.cell? (ad.add j) = w5.cell? (ad.add j) by
      have e3 : (ad.add j).block = ad.block := by unfold Addr.add; split <;> rfl
      simp only [World.cell?, e3, hbk]]
    exact this
  have hcl := cellsOf_length D
  have hsl : ∃ (a5 : Option Addr) (l5 c5 : Nat), (∀ W, (Instr.sliceAt 33 (.pointer (some ⟨g12, 0, none⟩)) (some (.int .i64 (at_ : Int))) none none).run Try.prog W = .ok (.slice a5 l5 c5) W) ∧ l5 = 64 - at_ ∧ (0 < dl → a5 = some ⟨g12, at_, none⟩) := by
    by_cases h64 : at_ < 64
    · exact ⟨_, _, _, fun W => by have := run_arr W g12 0 at_ h64; rw [Nat.zero_add] at this; exact this, rfl, fun _ => rfl⟩
    · obtain rfl : at_ = 64 := by omega
      exact ⟨_, _, _, fun W => run_arr64 W g12 0, rfl, fun h => absurd h (by omega)⟩
  obtain ⟨a5, l5, c5', hsl, e5, e6⟩ := hsl
  have hcp := run_copy_ex (P := Try.prog) w6.drew 30 30 3 5 Try.underlying30 info5 a5 da l5 c5' dl dc g12 at_ (slotCells s) 35 c1 (cellsOf D) (by rw [hcl, HDl.out]; show dl = min dl l5; omega)
    (fun h0 => ⟨e6 (by rw [hcl, HDl.out] at h0; exact h0), hsrc6 (by rw [hcl] at h0; exact h0)⟩) (by rw [hcl, HDl.out, slotCells_length s hbl]; omega) (oneCell_bytes D)
  rw [hsp] at hcp
  have hnb : (splice s.bytes at_ D).length = 64 := by rw [length_splice _ _ _ (by rw [HDl.out]; omega)]; exact hbl
  obtain ⟨w8, r1, r2, r3⟩ := (c6 _ _ _ M).put i ⟨splice s.bytes at_ D, s.holds⟩ hlt hh (by omega) (by unfold maxLen; omega) _ (.inl ⟨s, HX.out, hh, rfl⟩)
  have HR : Hid (Bs w w8 p S F gm B n (j + 1) (.slice ea k ec) ks (ss.set i ⟨splice s.bytes at_ D, s.holds⟩) fr) := H5.out.turn K6.drew A6.drew c4 c5 r3 (by omega) r2 (by rw [List.length_set]; exact hln) (fun y hy => by
    rcases List.mem_or_eq_of_mem_set hy with h1 | h1
    · have := H5.out.held y h1; omega
    · rw [h1]; show s.holds ≤ _; omega)
  have m6c : ∀ q, (w6.drew.setRow g12 (slotCells ⟨splice s.bytes at_ D, s.holds⟩).toArray).cell? ⟨g10, q, none⟩ = _ := two10 ((setRow_other _ _ _ _ (by omega)).trans hop6)
  have C3 : Hid _ := c3
  have hsz := size35 ⟨splice s.bytes at_ D, s.holds⟩ hnb
  have Hcp : Hid _ := hcp
  have Hsl : Hid _ := hsl
  have M6b : Hid _ := m6b
  have M6c : Hid _ := m6c
  have R1 : Hid _ := r1
  clear c1 c3 c4 c5 c6 r1 r2 r3 M A6 K6 hcp hsl m6b m6c hsrc6 hop6 hsp hnb e5 e6
  generalize (slotCells ⟨splice s.bytes at_ D, s.holds⟩).toArray = C at *
  generalize ss.set i ⟨splice s.bytes at_ D, s.holds⟩ = ss' at *
  generalize w6.drew.setRow g12 C = w7 at *
  go_upto_region 38 with fail
  refine reg38 _ w7 g10 g12 at_ l5 c5' dl dc a5 da o0 o1 o3 o4 _ M6b.out M6c.out Hsl.out Hcp.out _ _ _ _ _ _ _ _ _ _ _ _ _ _ _ _ _ _ _ _ _ _ _ _ _ _ _ _ _ _ _ _ _ _ _ _ _ _ _ _ _ _ _ _ _ _ _ _ _ _ _ _ _ _ _ _ _ _ _ _ _ _ _ _ _ _ _ _ _ _ _ _ _ _ _ _ _ _ _ _ _ _ _ _ _ _ _ _ _ _ _ _ _ _ _ _ _ _ _ _ _ _ _ _ _ _ _ _ _ _ _ _ _ _ _ _ _ _ _ _ _ _ _ _ _ _ _ _ _ _ _ _ _ _ _ _ _ _ _ _ _ _ _ _ _ _ _ _ _ _ _ _ _ _ _ _ _ _ _ _ _ _ _ _ _ _ _ _ _ _ _ _ _ _ _ _ _ _ _ _ _ _ _ _ _ _ _ _ _ _ _ _ _ _ _ _ _ _ _ _ _ _ _ _ _ _ _ _ _ _ _ _ _ _ _ _ _ _ _ _ _ _ _ _ _ _ _ _ _ _ _ _ _ _ _ _ _ _ _ _ _ _ _ _ _ _ _ _ _ _ _ _ _ _ _ _ _ _ _ _ _ _ _ _ _ _ _ _ _ _ _ _ _ _ _ _ _ _ _ _ _ _ _ _ _ _ _ _ _ _ _ _ _ _ _ _ _ _ _ _ _ _ _ _ _ _ _ _ _ _ _ _ _ _ _ _ _ _ _ _ _ _ _ _ _ _ _ _ _ _ _ _ _ _ _ _ _ _ _ _ _ _ _ _ _ _ _ _ _ _ _ _ _ _ _ _ _ _ _ _ _ _ _ _ _ _ _ _ _ _ _ _ _ _ _ _ _ _ _ (fun c a d v w h => HP.out c a d v w h) ?_
  intro x194 x195 x196 x197 x198 x199 x200
  have r1 := R1.out
  clear M6b M6c Hsl Hcp m6 m10
  go_wp2_with (first
    | (refine wpList_load_row rfl 35 _ rfl _ rfl 35 _ _ _ C3.out Try.underlying35 rfl hsz ?_))
  exact HQ.out _ _ _ _ _ _ _ _ _ _ _ _ _ _ _ _ _ _ _ _ _ _ _ _ _ _ _ _ _ _ _ _ _ _ _ _ _ _ _ _ _ _ _ _ _ _ _ _ _ _ _ _ _ _ _ _ _ _ _ _ _ _ _ _ _ _ _ HR.out

end Go.Proofs.Ytpjfhfbjdcgbjaa
