/-
  BlockPlays: a block is taken.
-/
import Derived.Test.YtpjfhfbjdcgbjaaB1
import Derived.Deep.RegionHeld3
import Derived.Deep.RegionWith
import Derived.Deep.Cut
namespace Go.Proofs.Ytpjfhfbjdcgbjaa
open Go.RowKit
set_option linter.unusedVariables false
set_option linter.unusedSimpArgs false

set_option maxRecDepth 100000 in
set_option maxHeartbeats 8000000 in
theorem arm0_full (w w5 : World) (p S F gm B n j g10 g12 k ec : Nat) (ea : Option Addr) (ks : List Int) (ss : List Slot) (fr : List Nat) (s1 s2 s3 s4 s6 s9 s11 s13 s14 s15 s16 s17 s18 s19 s20 s21 s22 s23 s24 s25 s26 s27 s28 s29 s30 s31 s32 s33 s34 s35 s36 s37 s38 s39 s40 s41 s42 s43 s44 s45 s46 s47 s48 s49 s50 s51 s52 s53 s54 s55 s56 s57 s58 s59 s60 s61 s62 s63 s64 s65 s66 s67 s68 s69 s70 s71 s72 s73 s74 s75 s76 s77 s78 s79 s80 s81 s82 s83 s84 s85 s86 s87 s88 s89 s90 s91 s92 s93 s94 s95 s96 s97 s98 s99 s100 s101 s102 s103 s104 s105 s106 s107 s108 s109 s110 s111 s112 s113 s114 s115 s116 s117 s118 s119 s120 s121 s122 s123 s124 s125 s126 s127 s128 s129 s130 s131 s132 s133 s134 s135 s136 s137 s138 s139 s140 s141 s142 s143 s144 s145 s146 s147 s148 s149 s150 s151 s152 s153 s154 s155 s156 s157 s158 s159 s160 s161 s162 s163 s164 s165 s166 s167 s168 s169 s170 s171 s172 s173 s174 s175 s176 s177 s178 s179 s180 s181 s182 s183 s184 s185 s186 s187 s188 s189 s190 s191 s192 s193 s194 s195 s196 s197 s198 s199 s200 s201 s202 s203 s204 s205 s206 s207 s208 s209 s210 s211 s212 s213 s214 s215 s216 s217 s218 s219 s220 s221 s222 s223 s224 s225 s226 s227 s228 s229 s230 s231 s232 s233 s234 s235 s236 s237 s238 s239 s240 s241 s242 s243 s244 s245 s246 s247 s248 s249 s250 s251 s252 s253 s254 s255 s256 s257 s258 s259 s260 s261 s262 s263 s264 s265 s266 s267 s268 s269 s270 s271 s272 s273 s274 s275 s276 s277 s278 s279 s280 s281 s282 s283 s284 s285 s286 s287 s288 s289 s290 s291 s292 s293 s294 s295 s296 s297 s298 s299 s300 s301 s302 s303 s304 s305 s306 s307 s308 s309 s310 s311 s312 s313 s314 s315 s316 s317 s318 s319 s320 s321 s322 s323 s324 s325 s326 s327 s328 s329 s330 s331 s332 s333 s334 s335 s336 s337 s338 s339 s340 s341 s342 s343 s344 s345 s346 s347 s348 s349 s350 s351 s352 s353 s354 s355 s356 s357 s358 s359 s360 s361 s362 s363 s364 s365 s366 s367 s368 s369 s370 s371 s372 s373 s374 s375 s376 s377 s378 s379 : Value) (Q : Exit → Act → World → Prop)
    (H5 : Hid (Bs w w5 p S F gm B n j (.slice ea k ec) ks ss fr)) (hj : j < 100) (hfr : fr = [])
    (HQ : Hid (∀ (x8 x14 x15 x16 x17 x93 x94 x95 x96 x97 x98 x99 x100 x101 x102 x103 x104 x105 x106 x107 x108 x109 x110 x111 x112 x113 x114 x115 x116 x117 x118 x119 x120 x121 x122 x123 x124 x125 x126 x127 x128 x129 x130 x131 x132 x133 x134 x135 x136 x137 : Value) W k' ea' ec' ks' ss' fr', x8 = .slice ea' k' ec' → Bs w W p S F gm B n (j + 1) (.slice ea' k' ec') ks' ss' fr' → Q (.exit 1) { tmps := #[.int .i64 (n : Int), s1, s2, s3, s4, .pointer (some ⟨p, 0, none⟩), s6, .map (some gm), x8, s9, .pointer (some ⟨g10, 0, none⟩), s11, .pointer (some ⟨g12, 0, none⟩), s13, x14, x15, x16, x17, s18, s19, s20, s21, s22, s23, s24, s25, s26, s27, s28, s29, s30, s31, s32, s33, s34, s35, s36, s37, s38, s39, s40, s41, s42, s43, s44, s45, s46, s47, s48, s49, s50, s51, s52, s53, s54, s55, s56, s57, s58, s59, s60, s61, s62, s63, s64, s65, s66, s67, s68, s69, s70, s71, s72, s73, s74, s75, s76, s77, s78, s79, s80, s81, s82, s83, s84, s85, s86, s87, s88, s89, s90, s91, s92, x93, x94, x95, x96, x97, x98, x99, x100, x101, x102, x103, x104, x105, x106, x107, x108, x109, x110, x111, x112, x113, x114, x115, x116, x117, x118, x119, x120, x121, x122, x123, x124, x125, x126, x127, x128, x129, x130, x131, x132, x133, x134, x135, x136, x137, s138, s139, s140, s141, s142, s143, s144, s145, s146, s147, s148, s149, s150, s151, s152, s153, s154, s155, s156, s157, s158, s159, s160, s161, s162, s163, s164, s165, s166, s167, s168, s169, s170, s171, s172, s173, s174, s175, s176, s177, s178, s179, s180, s181, s182, s183, s184, s185, s186, s187, s188, s189, s190, s191, s192, s193, s194, s195, s196, s197, s198, s199, s200, s201, s202, s203, s204, s205, s206, s207, s208, s209, s210, s211, s212, s213, s214, s215, s216, s217, s218, s219, s220, s221, s222, s223, s224, s225, s226, s227, s228, s229, s230, s231, s232, s233, s234, s235, s236, s237, s238, s239, s240, s241, s242, s243, s244, s245, s246, s247, s248, s249, s250, s251, s252, s253, s254, s255, s256, s257, s258, s259, s260, s261, s262, s263, s264, s265, s266, s267, s268, s269, s270, s271, s272, s273, s274, s275, s276, s277, s278, s279, s280, s281, s282, s283, s284, s285, s286, s287, s288, s289, s290, s291, s292, s293, s294, s295, s296, s297, s298, s299, s300, s301, s302, s303, s304, s305, s306, s307, s308, s309, s310, s311, s312, s313, s314, s315, s316, s317, s318, s319, s320, s321, s322, s323, s324, s325, s326, s327, s328, s329, s330, s331, s332, s333, s334, s335, s336, s337, s338, s339, s340, s341, s342, s343, s344, s345, s346, s347, s348, s349, s350, s351, s352, s353, s354, s355, s356, s357, s358, s359, s360, s361, s362, s363, s364, s365, s366, s367, s368, s369, s370, s371, s372, s373, s374, s375, s376, s377, s378, s379], defers := [] } W)) :
    Code.wp Try.prog ((Try.f3.body.bind (findAt 23)).getD .skip) Q { tmps := #[.int .i64 (n : Int), s1, s2, s3, s4, .pointer (some ⟨p, 0, none⟩), s6, .map (some gm), .slice ea k ec, s9, .pointer (some ⟨g10, 0, none⟩), s11, .pointer (some ⟨g12, 0, none⟩), s13, s14, s15, s16, s17, s18, s19, s20, s21, s22, s23, s24, s25, s26, s27, s28, s29, s30, s31, s32, s33, s34, s35, s36, s37, s38, s39, s40, s41, s42, s43, s44, s45, s46, s47, s48, s49, s50, s51, s52, s53, s54, s55, s56, s57, s58, s59, s60, s61, s62, s63, s64, s65, s66, s67, s68, s69, s70, s71, s72, s73, s74, s75, s76, s77, s78, s79, s80, s81, s82, s83, s84, s85, s86, s87, s88, s89, s90, s91, s92, s93, s94, s95, s96, s97, s98, s99, s100, s101, s102, s103, s104, s105, s106, s107, s108, s109, s110, s111, s112, s113, s114, s115, s116, s117, s118, s119, s120, s121, s122, s123, s124, s125, s126, s127, s128, s129, s130, s131, s132, s133, s134, s135, s136, s137, s138, s139, s140, s141, s142, s143, s144, s145, s146, s147, s148, s149, s150, s151, s152, s153, s154, s155, s156, s157, s158, s159, s160, s161, s162, s163, s164, s165, s166, s167, s168, s169, s170, s171, s172, s173, s174, s175, s176, s177, s178, s179, s180, s181, s182, s183, s184, s185, s186, s187, s188, s189, s190, s191, s192, s193, s194, s195, s196, s197, s198, s199, s200, s201, s202, s203, s204, s205, s206, s207, s208, s209, s210, s211, s212, s213, s214, s215, s216, s217, s218, s219, s220, s221, s222, s223, s224, s225, s226, s227, s228, s229, s230, s231, s232, s233, s234, s235, s236, s237, s238, s239, s240, s241, s242, s243, s244, s245, s246, s247, s248, s249, s250, s251, s252, s253, s254, s255, s256, s257, s258, s259, s260, s261, s262, s263, s264, s265, s266, s267, s268, s269, s270, s271, s272, s273, s274, s275, s276, s277, s278, s279, s280, s281, s282, s283, s284, s285, s286, s287, s288, s289, s290, s291, s292, s293, s294, s295, s296, s297, s298, s299, s300, s301, s302, s303, s304, s305, s306, s307, s308, s309, s310, s311, s312, s313, s314, s315, s316, s317, s318, s319, s320, s321, s322, s323, s324, s325, s326, s327, s328, s329, s330, s331, s332, s333, s334, s335, s336, s337, s338, s339, s340, s341, s342, s343, s344, s345, s346, s347, s348, s349, s350, s351, s352, s353, s354, s355, s356, s357, s358, s359, s360, s361, s362, s363, s364, s365, s366, s367, s368, s369, s370, s371, s372, s373, s374, s375, s376, s377, s378, s379], defers := [] } w5 := by
  conv => arg 2; whnf
  subst hfr
  have q := take_no H5.out.ar
  obtain ⟨m, hm, M⟩ := H5.out.mp
  have hl := fun ty => M.len ty
  simp only [List.length_nil, Nat.sub_zero] at hl
  have hn : n ≤ 16384 := by have := H5.out.ar.good.small; rw [H5.out.len] at this; exact this
  go_wp2_with (first
    | (go_at_call 11; refine q.mono ?_; rintro e w6 ⟨rfl, rfl⟩)
    | (at_builtin; refine wpList_len_own _ rfl _ 28 rfl _ _ key3 Try.underlying28 _ _ _ _ rfl ?_ ?_))
  exact HQ.out _ _ _ _ _ _ _ _ _ _ _ _ _ _ _ _ _ _ _ _ _ _ _ _ _ _ _ _ _ _ _ _ _ _ _ _ _ _ _ _ _ _ _ _ _ _ _ _ _ _ _ _ _ _ _ _ _ rfl H5.out.more

set_option maxRecDepth 100000 in
set_option maxHeartbeats 8000000 in
theorem arm0_ok (w w5 : World) (p S F gm B n j g10 g12 k ec : Nat) (ea : Option Addr) (ks : List Int) (ss : List Slot) (fr : List Nat) (s1 s2 s3 s4 s6 s9 s11 s13 s14 s15 s16 s17 s18 s19 s20 s21 s22 s23 s24 s25 s26 s27 s28 s29 s30 s31 s32 s33 s34 s35 s36 s37 s38 s39 s40 s41 s42 s43 s44 s45 s46 s47 s48 s49 s50 s51 s52 s53 s54 s55 s56 s57 s58 s59 s60 s61 s62 s63 s64 s65 s66 s67 s68 s69 s70 s71 s72 s73 s74 s75 s76 s77 s78 s79 s80 s81 s82 s83 s84 s85 s86 s87 s88 s89 s90 s91 s92 s93 s94 s95 s96 s97 s98 s99 s100 s101 s102 s103 s104 s105 s106 s107 s108 s109 s110 s111 s112 s113 s114 s115 s116 s117 s118 s119 s120 s121 s122 s123 s124 s125 s126 s127 s128 s129 s130 s131 s132 s133 s134 s135 s136 s137 s138 s139 s140 s141 s142 s143 s144 s145 s146 s147 s148 s149 s150 s151 s152 s153 s154 s155 s156 s157 s158 s159 s160 s161 s162 s163 s164 s165 s166 s167 s168 s169 s170 s171 s172 s173 s174 s175 s176 s177 s178 s179 s180 s181 s182 s183 s184 s185 s186 s187 s188 s189 s190 s191 s192 s193 s194 s195 s196 s197 s198 s199 s200 s201 s202 s203 s204 s205 s206 s207 s208 s209 s210 s211 s212 s213 s214 s215 s216 s217 s218 s219 s220 s221 s222 s223 s224 s225 s226 s227 s228 s229 s230 s231 s232 s233 s234 s235 s236 s237 s238 s239 s240 s241 s242 s243 s244 s245 s246 s247 s248 s249 s250 s251 s252 s253 s254 s255 s256 s257 s258 s259 s260 s261 s262 s263 s264 s265 s266 s267 s268 s269 s270 s271 s272 s273 s274 s275 s276 s277 s278 s279 s280 s281 s282 s283 s284 s285 s286 s287 s288 s289 s290 s291 s292 s293 s294 s295 s296 s297 s298 s299 s300 s301 s302 s303 s304 s305 s306 s307 s308 s309 s310 s311 s312 s313 s314 s315 s316 s317 s318 s319 s320 s321 s322 s323 s324 s325 s326 s327 s328 s329 s330 s331 s332 s333 s334 s335 s336 s337 s338 s339 s340 s341 s342 s343 s344 s345 s346 s347 s348 s349 s350 s351 s352 s353 s354 s355 s356 s357 s358 s359 s360 s361 s362 s363 s364 s365 s366 s367 s368 s369 s370 s371 s372 s373 s374 s375 s376 s377 s378 s379 : Value) (Q : Exit → Act → World → Prop)
    (H5 : Hid (Bs w w5 p S F gm B n j (.slice ea k ec) ks ss fr)) (hj : j < 100) (l : List Nat) (i : Nat) (hfr : fr = l ++ [i]) (hkj : k ≤ 100)
    (HQ : Hid (∀ (x8 x14 x15 x16 x17 x93 x94 x95 x96 x97 x98 x99 x100 x101 x102 x103 x104 x105 x106 x107 x108 x109 x110 x111 x112 x113 x114 x115 x116 x117 x118 x119 x120 x121 x122 x123 x124 x125 x126 x127 x128 x129 x130 x131 x132 x133 x134 x135 x136 x137 : Value) W k' ea' ec' ks' ss' fr', x8 = .slice ea' k' ec' → Bs w W p S F gm B n (j + 1) (.slice ea' k' ec') ks' ss' fr' → Q (.exit 1) { tmps := #[.int .i64 (n : Int), s1, s2, s3, s4, .pointer (some ⟨p, 0, none⟩), s6, .map (some gm), x8, s9, .pointer (some ⟨g10, 0, none⟩), s11, .pointer (some ⟨g12, 0, none⟩), s13, x14, x15, x16, x17, s18, s19, s20, s21, s22, s23, s24, s25, s26, s27, s28, s29, s30, s31, s32, s33, s34, s35, s36, s37, s38, s39, s40, s41, s42, s43, s44, s45, s46, s47, s48, s49, s50, s51, s52, s53, s54, s55, s56, s57, s58, s59, s60, s61, s62, s63, s64, s65, s66, s67, s68, s69, s70, s71, s72, s73, s74, s75, s76, s77, s78, s79, s80, s81, s82, s83, s84, s85, s86, s87, s88, s89, s90, s91, s92, x93, x94, x95, x96, x97, x98, x99, x100, x101, x102, x103, x104, x105, x106, x107, x108, x109, x110, x111, x112, x113, x114, x115, x116, x117, x118, x119, x120, x121, x122, x123, x124, x125, x126, x127, x128, x129, x130, x131, x132, x133, x134, x135, x136, x137, s138, s139, s140, s141, s142, s143, s144, s145, s146, s147, s148, s149, s150, s151, s152, s153, s154, s155, s156, s157, s158, s159, s160, s161, s162, s163, s164, s165, s166, s167, s168, s169, s170, s171, s172, s173, s174, s175, s176, s177, s178, s179, s180, s181, s182, s183, s184, s185, s186, s187, s188, s189, s190, s191, s192, s193, s194, s195, s196, s197, s198, s199, s200, s201, s202, s203, s204, s205, s206, s207, s208, s209, s210, s211, s212, s213, s214, s215, s216, s217, s218, s219, s220, s221, s222, s223, s224, s225, s226, s227, s228, s229, s230, s231, s232, s233, s234, s235, s236, s237, s238, s239, s240, s241, s242, s243, s244, s245, s246, s247, s248, s249, s250, s251, s252, s253, s254, s255, s256, s257, s258, s259, s260, s261, s262, s263, s264, s265, s266, s267, s268, s269, s270, s271, s272, s273, s274, s275, s276, s277, s278, s279, s280, s281, s282, s283, s284, s285, s286, s287, s288, s289, s290, s291, s292, s293, s294, s295, s296, s297, s298, s299, s300, s301, s302, s303, s304, s305, s306, s307, s308, s309, s310, s311, s312, s313, s314, s315, s316, s317, s318, s319, s320, s321, s322, s323, s324, s325, s326, s327, s328, s329, s330, s331, s332, s333, s334, s335, s336, s337, s338, s339, s340, s341, s342, s343, s344, s345, s346, s347, s348, s349, s350, s351, s352, s353, s354, s355, s356, s357, s358, s359, s360, s361, s362, s363, s364, s365, s366, s367, s368, s369, s370, s371, s372, s373, s374, s375, s376, s377, s378, s379], defers := [] } W)) :
    Code.wp Try.prog ((Try.f3.body.bind (findAt 23)).getD .skip) Q { tmps := #[.int .i64 (n : Int), s1, s2, s3, s4, .pointer (some ⟨p, 0, none⟩), s6, .map (some gm), .slice ea k ec, s9, .pointer (some ⟨g10, 0, none⟩), s11, .pointer (some ⟨g12, 0, none⟩), s13, s14, s15, s16, s17, s18, s19, s20, s21, s22, s23, s24, s25, s26, s27, s28, s29, s30, s31, s32, s33, s34, s35, s36, s37, s38, s39, s40, s41, s42, s43, s44, s45, s46, s47, s48, s49, s50, s51, s52, s53, s54, s55, s56, s57, s58, s59, s60, s61, s62, s63, s64, s65, s66, s67, s68, s69, s70, s71, s72, s73, s74, s75, s76, s77, s78, s79, s80, s81, s82, s83, s84, s85, s86, s87, s88, s89, s90, s91, s92, s93, s94, s95, s96, s97, s98, s99, s100, s101, s102, s103, s104, s105, s106, s107, s108, s109, s110, s111, s112, s113, s114, s115, s116, s117, s118, s119, s120, s121, s122, s123, s124, s125, s126, s127, s128, s129, s130, s131, s132, s133, s134, s135, s136, s137, s138, s139, s140, s141, s142, s143, s144, s145, s146, s147, s148, s149, s150, s151, s152, s153, s154, s155, s156, s157, s158, s159, s160, s161, s162, s163, s164, s165, s166, s167, s168, s169, s170, s171, s172, s173, s174, s175, s176, s177, s178, s179, s180, s181, s182, s183, s184, s185, s186, s187, s188, s189, s190, s191, s192, s193, s194, s195, s196, s197, s198, s199, s200, s201, s202, s203, s204, s205, s206, s207, s208, s209, s210, s211, s212, s213, s214, s215, s216, s217, s218, s219, s220, s221, s222, s223, s224, s225, s226, s227, s228, s229, s230, s231, s232, s233, s234, s235, s236, s237, s238, s239, s240, s241, s242, s243, s244, s245, s246, s247, s248, s249, s250, s251, s252, s253, s254, s255, s256, s257, s258, s259, s260, s261, s262, s263, s264, s265, s266, s267, s268, s269, s270, s271, s272, s273, s274, s275, s276, s277, s278, s279, s280, s281, s282, s283, s284, s285, s286, s287, s288, s289, s290, s291, s292, s293, s294, s295, s296, s297, s298, s299, s300, s301, s302, s303, s304, s305, s306, s307, s308, s309, s310, s311, s312, s313, s314, s315, s316, s317, s318, s319, s320, s321, s322, s323, s324, s325, s326, s327, s328, s329, s330, s331, s332, s333, s334, s335, s336, s337, s338, s339, s340, s341, s342, s343, s344, s345, s346, s347, s348, s349, s350, s351, s352, s353, s354, s355, s356, s357, s358, s359, s360, s361, s362, s363, s364, s365, s366, s367, s368, s369, s370, s371, s372, s373, s374, s375, s376, s377, s378, s379], defers := [] } w5 := by
  conv => arg 2; whnf
  subst hfr
  have q := take_yes l i H5.out.ar
  obtain ⟨m, hm, M⟩ := H5.out.mp
  have hn : n ≤ 16384 := by have := H5.out.ar.good.small; rw [H5.out.len] at this; exact this
  have hgt := H5.out.ar.good.take
  have hlt : i < n := by have := lt_of_some hgt.2; rw [H5.out.len] at this; exact this
  have hfl := H5.out.ar.good.le
  rw [H5.out.len, List.length_append, List.length_singleton] at hfl
  rw [List.length_append, List.length_singleton] at M
  have HGn : Hid (Gone ss (i : Int)) := by
    intro a b e1 e2
    obtain rfl : i = a := by omega
    rw [hgt.2] at e2
    cases e2
    rfl
  go_upto_region 24 with (go_at_call 11; refine q.mono ?_; rintro e w6 ⟨rfl, A6, K6⟩)
  obtain ⟨g1, g2, g3⟩ := M.apart H5.out.ar
  have M6 := M.moved (K6.block gm M.lt g1 g2 g3)
  have hl := fun ty => M6.len ty
  have hlk := M6.look_no (i : Int) HGn.out (by omega)
  have HM6 : Hid _ := M6
  have HK6 : Hid _ := K6
  have HA6 : Hid _ := A6
  obtain ⟨c, hc⟩ : ∃ c, n - (l.length + 1) = c := ⟨_, rfl⟩
  rw [hc] at hl HM6
  have hcn : (c : Int) < (n : Int) := by omega
  clear M M6 K6 A6 q hgt g1 g2 g3
  have hz := fun W => zero35 W
  have hsz := size35 Slot.none (by simp [Slot.none, zeros])
  have hone := one_slot Slot.none
  have hse := setRow_alloc w6 (slotCells Slot.none).toArray (slotCells Slot.none).toArray 35
  have hnw : (w6.alloc (.cells (slotCells Slot.none).toArray 35)).heap[w6.heap.size]? = some (.cells (slotCells Slot.none).toArray 35 (0, 0)) := heap_alloc_new w6 _
  have b7 : Below w6.heap.size w6 (w6.alloc (.cells (slotCells Slot.none).toArray 35)) := (Below.refl _ w6).alloc (Nat.le_refl _) _
  have H65 : Hid ((slotCells Slot.none).toArray.size = 65 ∧ (slotCells Slot.none).toArray.setIfInBounds 64 (.int .i64 1) = (slotCells ⟨zeros 64, 1⟩).toArray) := ⟨by kernel_rfl, by kernel_rfl⟩
  generalize (slotCells Slot.none).toArray = C0 at *
  go_upto_region 28 with (first
    | (refine wpList_store_row rfl 35 _ _ rfl _ _ rfl rfl 35 _ hnw hsz rfl hone ?_; rw [hse]))
  have M7 := HM6.out.moved (b7.block gm HM6.out.lt)
  have K7 : Keeps p S F w5 (w6.alloc (.cells C0 35)) := HK6.out.alloc _
  have A7 : Ar (w6.alloc (.cells C0 35)) p S F _ _ := HA6.out.alloc _
  generalize w6.alloc (.cells C0 35) = w7 at *
  obtain ⟨w8, r1, r2, r3⟩ := M7.put i ⟨zeros 64, 1⟩ (by rw [H5.out.len]; exact hlt) (by simp) (by omega) (by unfold maxLen; omega) _ (.inr ⟨HGn.out, rfl⟩)
  have T8 : Bs w w8 p S F gm B n (j + 1) (.slice ea k ec) ks (ss.set i ⟨zeros 64, 1⟩) l := H5.out.turn (m := m + 1) K7 A7 (Below.refl _ _) (H5.out.ev.keeps K7 H5.out.hp.2 H5.out.hS.2 H5.out.hF.2) r3 (by omega) (by rw [show n - l.length = c + 1 by omega]; exact r2) (by rw [List.length_set]; exact H5.out.len) (fun y hy => by
    rcases List.mem_or_eq_of_mem_set hy with h1 | h1
    · have := H5.out.held y h1; omega
    · rw [h1]; show 1 ≤ _; omega)
  have HT : Hid _ := T8
  have hb8 := T8.Bw
  have hks : Hid (ks.length ≤ j) := H5.out.num
  have hi0 : (0 : Int) ≤ (i : Int) := by omega
  have hin : (i : Int) < (n : Int) := by omega
  clear M7 K7 A7 r2 r3 T8 HM6 HK6 HA6 hse hnw b7 hlk hl hone hsz
  obtain ⟨h65, hbt⟩ := H65.out
  clear H65
  generalize (slotCells ⟨zeros 64, 1⟩).toArray = C1 at *
  go_wp2_with (first
    | (at_builtin; refine wpList_push rfl _ _ rfl B k ec ea ks (i : Int) rfl HT.out.ev hb8 rfl (by omega) ?_; intro g' c' w9 hO hB))
  exact HQ.out _ _ _ _ _ _ _ _ _ _ _ _ _ _ _ _ _ _ _ _ _ _ _ _ _ _ _ _ _ _ _ _ _ _ _ _ _ _ _ _ _ _ _ _ _ _ _ _ _ _ _ _ _ _ _ _ _ rfl (HT.out.push hB hO hlt hks.out)

end Go.Proofs.Ytpjfhfbjdcgbjaa
