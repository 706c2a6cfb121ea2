/-
  ExtentPlays: one of its steps.
-/
import Derived.Test.YtpjfhfbjdcgbjabEs15
namespace Go.Proofs.Ytpjfhfbjdcgbjab
open Go.RowKit
set_option linter.unusedVariables false
set_option linter.unusedSimpArgs false

theorem Ws.kp {W W' : World} {B : Nat} {v v2 : Value} {xs ys : List Cn} (h : Ws W B v xs) (hc : Cs W B v2 ys) (kp : ∀ q, q < W.heap.size → v2.ownBlock ≠ some q → W'.heap[q]? = W.heap[q]?) : Ws W' B v xs := by
  refine owns_row_moved h fun g e h1 h2 => kp g h2 ?_
  rcases h.2 with ⟨e1, _⟩ | ⟨g', cap, cur, e1, _, e3, _⟩
  · rw [e1] at e; simp [Value.ownBlock] at e
  · rw [e1] at e
    simp [Value.ownBlock] at e
    subst e
    exact own_apart (B' := 0) hc.row e3 (by decide)

theorem Cs.kp {W W' : World} {B : Nat} {v v2 : Value} {xs ys : List Cn} (h : Cs W B v xs) (hw : Ws W B v2 ys) (kp : ∀ q, q < W.heap.size → v2.ownBlock ≠ some q → W'.heap[q]? = W.heap[q]?) : Cs W' B v xs := by
  have key : ∀ g, (∀ cur, W.heap[g]? ≠ some (.cells cur 9 (0, 0))) → v2.ownBlock ≠ some g := fun g hg e => by
    rcases hw.2 with ⟨e1, _⟩ | ⟨g', cap, cur, e1, _, e3, _⟩
    · rw [e1] at e; simp [Value.ownBlock] at e
    · rw [e1] at e
      simp [Value.ownBlock] at e
      subst e
      exact hg _ e3
  refine ⟨owns_row_moved h.row fun g e h1 h2 => kp g h2 (key g fun cur hc => own_apart (B' := 0) h.row hc (by decide) e), fun x hx => (h.own x hx).moved fun g h1 h2 ht => kp g h2 (key g fun cur hc => ?_)⟩
  have := ht _ _ _ hc
  cases this

theorem arm13_is : (Try.f3.body.bind (findAt 13)).isSome = true := by kernel_rfl

set_option maxRecDepth 100000 in
set_option maxHeartbeats 8000000 in
theorem step13 (w w5 : World) (p S F B n j k cv cs g10 : Nat) (av aw : Option Addr) (xs : List Cn) (ss : List Slot) (fr : List Nat) (o0 o1 o2 o3 : Int) (da : Option Addr) (dl dc : Nat) (D : List Int)
    (s1 s2 s3 s4 s6 s9 s11 s12 s13 s14 s15 s16 s17 s18 s19 s20 s21 s22 s23 s24 s25 s26 s27 s28 s29 s30 s31 s32 s33 s34 s35 s36 s37 s38 s39 s40 s41 s42 s43 s44 s45 s46 s47 s48 s49 s50 s51 s52 s53 s54 s55 s56 s57 s58 s59 s60 s61 s62 s63 s64 s65 s66 s67 s68 s69 s70 s71 s72 s73 s74 s75 s76 s77 s78 s79 s80 s81 s82 s83 s84 s85 s86 s87 s88 s89 s90 s91 s92 s93 s94 s95 s96 s97 s98 s99 s100 s101 s102 s103 s104 s105 s106 s107 s108 s109 s110 s111 s112 s113 s114 s115 s116 s117 s118 s119 s120 s121 s122 s123 s124 s125 s126 s127 s128 s129 s130 s131 s132 s133 s134 s135 s136 s137 s138 s139 s140 s141 s142 s143 s144 s145 s146 s147 s148 s149 s150 s151 s152 s153 s154 s155 s156 s157 s158 s159 s160 s161 s162 s163 s164 s165 s166 s167 s168 s169 s170 s171 s172 s173 s174 s175 s176 s177 s178 s179 s180 s181 s182 s183 s184 s185 s186 s187 s188 s189 s190 s191 s192 s193 s194 s195 s196 s197 s198 s199 s200 s201 s202 s203 s204 s205 s206 s207 s208 s209 s210 s211 s212 s213 s214 s215 s216 s217 s218 s219 s220 s221 s222 s223 s224 s225 s226 s227 s228 s229 s230 s231 s232 s233 s234 s235 s236 s237 s238 s239 s240 s241 s242 s243 s244 s245 s246 s247 s248 s249 s250 s251 s252 s253 s254 s255 s256 s257 s258 s259 s260 s261 s262 s263 s264 s265 s266 s267 s268 s269 s270 s271 s272 s273 s274 s275 s276 s277 s278 s279 s280 s281 s282 s283 s284 s285 s286 s287 s288 s289 s290 s291 s292 s293 s294 s295 s296 s297 s298 s299 s300 s301 s302 s303 s304 s305 s306 s307 s308 s309 s310 s311 s312 s313 s314 s315 s316 s317 s318 s319 s320 s321 s322 s323 s324 s325 s326 s327 s328 s329 s330 s331 s332 s333 s334 s335 s336 s337 s338 s339 s340 s341 s342 s343 s344 s345 s346 s347 s348 s349 s350 s351 s352 s353 s354 s355 : Value) (Q : Exit → Act → World → Prop) (HP : Hid (∀ c a (d : Nat) v w, Q (.panic c) (Act.put a (some d) v) w → Q (.panic c) a w))
    (H5 : Hid (Es w w5 p S F B n j (.slice av k cv) (.slice aw k cs) xs ss fr)) (hj : j < 60) (hkj : k ≤ 60)
    (HD : Hid (Src w5 da D)) (HDl : Hid (D.length = dl)) (hdl : dl ≤ 1000) (hdc : dl ≤ dc) (hdm : dc ≤ 9223372036854775807) (HDa : Hid (∀ ad, da = some ad → 0 < dl → ad.block < w.heap.size))
    (hg10B : B ≤ g10) (HOp : Hid (w5.heap[g10]? = some (.cells #[.int .i64 o0, .int .i64 o1, .int .i64 o2, .int .i64 o3, .slice da dl dc] 32 (0, 0))))
    (hz1 : -9223372036854775808 ≤ o1 ∧ o1 ≤ 9223372036854775807) (hz2 : -9223372036854775808 ≤ o2 ∧ o2 ≤ 9223372036854775807) (hz3 : -9223372036854775808 ≤ o3 ∧ o3 ≤ 9223372036854775807)
    (HQ : Hid (∀ (x7 x8 x11 x12 x13 x14 x15 x16 x17 x18 x19 x20 x55 x56 x57 x58 x59 x60 x61 x62 x63 x64 x65 x66 x67 x68 x69 x70 x71 x72 x73 x74 x75 x76 x77 x78 x79 x80 x81 x82 x83 x84 x85 x86 x87 x88 x89 x90 x91 x92 x93 x94 x95 x96 x97 x98 x99 x100 x101 x102 x103 x104 x105 x106 x107 x108 x109 x110 x111 x112 x113 x114 x115 x116 x117 x118 x119 x120 x121 x122 x123 x124 x125 x126 x127 x128 x129 x130 x131 x132 x133 x134 x135 x136 x137 x138 x139 x140 x141 x142 x143 x144 x145 x146 x147 x148 x149 x150 x151 x152 x153 x154 x155 x156 x157 x158 x159 x160 x161 x162 x163 x164 x165 x166 x167 x168 x169 x170 x171 x172 x173 x174 x175 x176 x177 x178 x179 x180 x181 x182 x183 x184 x185 x186 x187 x188 x189 x190 x191 x192 x193 x194 x195 x196 x197 x198 x199 x200 x201 x202 x203 x204 x205 x206 x207 x208 x209 x210 x211 x212 x213 x214 x215 x216 x217 x218 x219 x220 x221 x222 x223 x224 x225 x226 x227 x228 x229 x230 x231 x232 x233 x234 x235 x236 x237 x238 x239 x240 x241 x242 x243 x244 x245 x246 x247 x248 x249 x250 x251 x252 x253 x254 x255 x256 x257 x258 x259 x260 x261 x262 x263 x264 x265 x266 x267 x268 x269 x270 x271 x272 x273 x274 x275 x276 x277 x278 x279 x280 x281 x282 x283 x284 x285 x286 x287 x288 x289 x290 : Value) W (k' : Nat) (av' aw' : Option Addr) (cv' cs' : Nat) (xs' : List Cn) (ss' : List Slot) (fr' : List Nat), x7 = .slice av' k' cv' → x8 = .slice aw' k' cs' → k' ≤ k + 1 → Es w W p S F B n (j + 1) (.slice av' k' cv') (.slice aw' k' cs') xs' ss' fr' → Q .normal { tmps := #[.int .i64 (n : Int), s1, s2, s3, s4, .pointer (some ⟨p, 0, none⟩), s6, x7, x8, s9, .pointer (some ⟨g10, 0, none⟩), x11, x12, x13, x14, x15, x16, x17, x18, x19, x20, s21, s22, s23, s24, s25, s26, s27, s28, s29, s30, s31, s32, s33, s34, s35, s36, s37, s38, s39, s40, s41, s42, s43, s44, s45, s46, s47, s48, s49, s50, s51, s52, s53, s54, x55, x56, x57, x58, x59, x60, x61, x62, x63, x64, x65, x66, x67, x68, x69, x70, x71, x72, x73, x74, x75, x76, x77, x78, x79, x80, x81, x82, x83, x84, x85, x86, x87, x88, x89, x90, x91, x92, x93, x94, x95, x96, x97, x98, x99, x100, x101, x102, x103, x104, x105, x106, x107, x108, x109, x110, x111, x112, x113, x114, x115, x116, x117, x118, x119, x120, x121, x122, x123, x124, x125, x126, x127, x128, x129, x130, x131, x132, x133, x134, x135, x136, x137, x138, x139, x140, x141, x142, x143, x144, x145, x146, x147, x148, x149, x150, x151, x152, x153, x154, x155, x156, x157, x158, x159, x160, x161, x162, x163, x164, x165, x166, x167, x168, x169, x170, x171, x172, x173, x174, x175, x176, x177, x178, x179, x180, x181, x182, x183, x184, x185, x186, x187, x188, x189, x190, x191, x192, x193, x194, x195, x196, x197, x198, x199, x200, x201, x202, x203, x204, x205, x206, x207, x208, x209, x210, x211, x212, x213, x214, x215, x216, x217, x218, x219, x220, x221, x222, x223, x224, x225, x226, x227, x228, x229, x230, x231, x232, x233, x234, x235, x236, x237, x238, x239, x240, x241, x242, x243, x244, x245, x246, x247, x248, x249, x250, x251, x252, x253, x254, x255, x256, x257, x258, x259, x260, x261, x262, x263, x264, x265, x266, x267, x268, x269, x270, x271, x272, x273, x274, x275, x276, x277, x278, x279, x280, x281, x282, x283, x284, x285, x286, x287, x288, x289, x290, s291, s292, s293, s294, s295, s296, s297, s298, s299, s300, s301, s302, s303, s304, s305, s306, s307, s308, s309, s310, s311, s312, s313, s314, s315, s316, s317, s318, s319, s320, s321, s322, s323, s324, s325, s326, s327, s328, s329, s330, s331, s332, s333, s334, s335, s336, s337, s338, s339, s340, s341, s342, s343, s344, s345, s346, s347, s348, s349, s350, s351, s352, s353, s354, s355], defers := [] } W))
    (HQx : Hid (∀ (x7 x8 x11 x12 x13 x14 x15 x16 x17 x18 x19 x20 x55 x56 x57 x58 x59 x60 x61 x62 x63 x64 x65 x66 x67 x68 x69 x70 x71 x72 x73 x74 x75 x76 x77 x78 x79 x80 x81 x82 x83 x84 x85 x86 x87 x88 x89 x90 x91 x92 x93 x94 x95 x96 x97 x98 x99 x100 x101 x102 x103 x104 x105 x106 x107 x108 x109 x110 x111 x112 x113 x114 x115 x116 x117 x118 x119 x120 x121 x122 x123 x124 x125 x126 x127 x128 x129 x130 x131 x132 x133 x134 x135 x136 x137 x138 x139 x140 x141 x142 x143 x144 x145 x146 x147 x148 x149 x150 x151 x152 x153 x154 x155 x156 x157 x158 x159 x160 x161 x162 x163 x164 x165 x166 x167 x168 x169 x170 x171 x172 x173 x174 x175 x176 x177 x178 x179 x180 x181 x182 x183 x184 x185 x186 x187 x188 x189 x190 x191 x192 x193 x194 x195 x196 x197 x198 x199 x200 x201 x202 x203 x204 x205 x206 x207 x208 x209 x210 x211 x212 x213 x214 x215 x216 x217 x218 x219 x220 x221 x222 x223 x224 x225 x226 x227 x228 x229 x230 x231 x232 x233 x234 x235 x236 x237 x238 x239 x240 x241 x242 x243 x244 x245 x246 x247 x248 x249 x250 x251 x252 x253 x254 x255 x256 x257 x258 x259 x260 x261 x262 x263 x264 x265 x266 x267 x268 x269 x270 x271 x272 x273 x274 x275 x276 x277 x278 x279 x280 x281 x282 x283 x284 x285 x286 x287 x288 x289 x290 : Value) W (k' : Nat) (av' aw' : Option Addr) (cv' cs' : Nat) (xs' : List Cn) (ss' : List Slot) (fr' : List Nat), x7 = .slice av' k' cv' → x8 = .slice aw' k' cs' → k' ≤ k + 1 → Es w W p S F B n (j + 1) (.slice av' k' cv') (.slice aw' k' cs') xs' ss' fr' → Q (.exit 1) { tmps := #[.int .i64 (n : Int), s1, s2, s3, s4, .pointer (some ⟨p, 0, none⟩), s6, x7, x8, s9, .pointer (some ⟨g10, 0, none⟩), x11, x12, x13, x14, x15, x16, x17, x18, x19, x20, s21, s22, s23, s24, s25, s26, s27, s28, s29, s30, s31, s32, s33, s34, s35, s36, s37, s38, s39, s40, s41, s42, s43, s44, s45, s46, s47, s48, s49, s50, s51, s52, s53, s54, x55, x56, x57, x58, x59, x60, x61, x62, x63, x64, x65, x66, x67, x68, x69, x70, x71, x72, x73, x74, x75, x76, x77, x78, x79, x80, x81, x82, x83, x84, x85, x86, x87, x88, x89, x90, x91, x92, x93, x94, x95, x96, x97, x98, x99, x100, x101, x102, x103, x104, x105, x106, x107, x108, x109, x110, x111, x112, x113, x114, x115, x116, x117, x118, x119, x120, x121, x122, x123, x124, x125, x126, x127, x128, x129, x130, x131, x132, x133, x134, x135, x136, x137, x138, x139, x140, x141, x142, x143, x144, x145, x146, x147, x148, x149, x150, x151, x152, x153, x154, x155, x156, x157, x158, x159, x160, x161, x162, x163, x164, x165, x166, x167, x168, x169, x170, x171, x172, x173, x174, x175, x176, x177, x178, x179, x180, x181, x182, x183, x184, x185, x186, x187, x188, x189, x190, x191, x192, x193, x194, x195, x196, x197, x198, x199, x200, x201, x202, x203, x204, x205, x206, x207, x208, x209, x210, x211, x212, x213, x214, x215, x216, x217, x218, x219, x220, x221, x222, x223, x224, x225, x226, x227, x228, x229, x230, x231, x232, x233, x234, x235, x236, x237, x238, x239, x240, x241, x242, x243, x244, x245, x246, x247, x248, x249, x250, x251, x252, x253, x254, x255, x256, x257, x258, x259, x260, x261, x262, x263, x264, x265, x266, x267, x268, x269, x270, x271, x272, x273, x274, x275, x276, x277, x278, x279, x280, x281, x282, x283, x284, x285, x286, x287, x288, x289, x290, s291, s292, s293, s294, s295, s296, s297, s298, s299, s300, s301, s302, s303, s304, s305, s306, s307, s308, s309, s310, s311, s312, s313, s314, s315, s316, s317, s318, s319, s320, s321, s322, s323, s324, s325, s326, s327, s328, s329, s330, s331, s332, s333, s334, s335, s336, s337, s338, s339, s340, s341, s342, s343, s344, s345, s346, s347, s348, s349, s350, s351, s352, s353, s354, s355], defers := [] } W)) :
    Code.wp Try.prog ((Try.f3.body.bind (findAt 13)).getD .skip) Q { tmps := #[.int .i64 (n : Int), s1, s2, s3, s4, .pointer (some ⟨p, 0, none⟩), s6, .slice av k cv, .slice aw k cs, s9, .pointer (some ⟨g10, 0, none⟩), s11, s12, s13, s14, s15, s16, s17, s18, s19, s20, s21, s22, s23, s24, s25, s26, s27, s28, s29, s30, s31, s32, s33, s34, s35, s36, s37, s38, s39, s40, s41, s42, s43, s44, s45, s46, s47, s48, s49, s50, s51, s52, s53, s54, s55, s56, s57, s58, s59, s60, s61, s62, s63, s64, s65, s66, s67, s68, s69, s70, s71, s72, s73, s74, s75, s76, s77, s78, s79, s80, s81, s82, s83, s84, s85, s86, s87, s88, s89, s90, s91, s92, s93, s94, s95, s96, s97, s98, s99, s100, s101, s102, s103, s104, s105, s106, s107, s108, s109, s110, s111, s112, s113, s114, s115, s116, s117, s118, s119, s120, s121, s122, s123, s124, s125, s126, s127, s128, s129, s130, s131, s132, s133, s134, s135, s136, s137, s138, s139, s140, s141, s142, s143, s144, s145, s146, s147, s148, s149, s150, s151, s152, s153, s154, s155, s156, s157, s158, s159, s160, s161, s162, s163, s164, s165, s166, s167, s168, s169, s170, s171, s172, s173, s174, s175, s176, s177, s178, s179, s180, s181, s182, s183, s184, s185, s186, s187, s188, s189, s190, s191, s192, s193, s194, s195, s196, s197, s198, s199, s200, s201, s202, s203, s204, s205, s206, s207, s208, s209, s210, s211, s212, s213, s214, s215, s216, s217, s218, s219, s220, s221, s222, s223, s224, s225, s226, s227, s228, s229, s230, s231, s232, s233, s234, s235, s236, s237, s238, s239, s240, s241, s242, s243, s244, s245, s246, s247, s248, s249, s250, s251, s252, s253, s254, s255, s256, s257, s258, s259, s260, s261, s262, s263, s264, s265, s266, s267, s268, s269, s270, s271, s272, s273, s274, s275, s276, s277, s278, s279, s280, s281, s282, s283, s284, s285, s286, s287, s288, s289, s290, s291, s292, s293, s294, s295, s296, s297, s298, s299, s300, s301, s302, s303, s304, s305, s306, s307, s308, s309, s310, s311, s312, s313, s314, s315, s316, s317, s318, s319, s320, s321, s322, s323, s324, s325, s326, s327, s328, s329, s330, s331, s332, s333, s334, s335, s336, s337, s338, s339, s340, s341, s342, s343, s344, s345, s346, s347, s348, s349, s350, s351, s352, s353, s354, s355], defers := [] } w5 := by
  conv => arg 2; whnf
  have m10 := two10 HOp.out
  have mk := m10 0
  refine wp_seq_k (fun KA hKA => ?_)
  have HKA : Hid _ := hKA
  clear hKA
  refine wp_seq_k (fun KC hKC => ?_)
  have HKC : Hid _ := hKC
  clear hKC
  by_cases h4 : o0 = 4
  · subst h4
    go_wp2_with fail
    refine HKC.out _ _ ?_
    refine wp_cond_true rfl ?_
    have O0 : Own (w5.alloc (.cells #[.slice none 0 0, .int .i64 0] 35)) B (.slice none 0 0) [] := own_nil _ _
    have kA := below_box w5 (.cells #[.slice none 0 0, .int .i64 0] 35)
    have gA := heap_alloc_new w5 (.cells #[.slice none 0 0, .int .i64 0] 35)
    have CA : Hid (Cs (w5.alloc (.cells #[.slice none 0 0, .int .i64 0] 35)) B (.slice av k cv) xs) := H5.out.row.grow kA
    have WA : Hid (Ws (w5.alloc (.cells #[.slice none 0 0, .int .i64 0] 35)) B (.slice aw k cs) xs) := H5.out.str.grow kA
    have hBw5 : B ≤ (w5.alloc (.cells #[.slice none 0 0, .int .i64 0] 35)).heap.size := by have := H5.out.Bw; have := kA.size; omega
    have hk60 : k ≤ 2000 := by omega
    refine wp_seq_k (fun KB hKB => ?_)
    have HKB : Hid _ := hKB
    clear hKB m10
    go_wp2_with (first
      | (at_builtin; refine wpList_pushC2 (W := w5.alloc (.cells #[.slice none 0 0, .int .i64 0] 35)) (k := ⟨none, 0, [], []⟩) rfl _ _ rfl B k cv av xs 0 rfl rfl CA.out O0 hBw5 w5.heap.size gA rfl hk60 ?_; intro g6 c6 w6 C6 kp6 b6; have WB : Hid (Ws (w6.alloc (.cells #[.string ⟨#[]⟩] 9)) B (.slice aw k cs) xs) := (Ws.kp WA.out CA.out kp6).grow (below_box w6 _); have gB := heap_alloc_new w6 (.cells #[.string ⟨#[]⟩] 9); have hBw6 : B ≤ (w6.alloc (.cells #[.string ⟨#[]⟩] 9)).heap.size := (by have h1 := b6.size; have h2 := (below_box w6 (.cells #[.string ⟨#[]⟩] 9)).size; omega))
      | (at_builtin; refine wpList_pushW (W := w6.alloc (.cells #[.string ⟨#[]⟩] 9)) (k := ⟨none, 0, [], []⟩) rfl _ _ rfl B k cs aw xs rfl WB.out hBw6 w6.heap.size gB rfl hk60 ?_; intro g8 c8 w8 W8 kp8 b8))
    have CB : Cs w8 B (.slice (some ⟨g6, 0, none⟩) (k + 1) c6) (xs ++ [⟨none, 0, [], []⟩]) := Cs.kp (C6.grow (below_box w6 (.cells #[.string ⟨#[]⟩] 9))) WB.out kp8
    have bB : Below B w5 w8 := (((kA.mono H5.out.Bw).trans b6).trans ((below_box w6 (.cells #[.string ⟨#[]⟩] 9)).mono (by have := b6.size; omega))).trans b8
    have hE := H5.out.add (Keeps.refl _ _ _ _) H5.out.ar CB W8 bB H5.out.inv.begin rfl (by simp)
    refine HKB.out _ _ ?_
    go_wp2_with fail
    exact HQx.out _ _ _ _ _ _ _ _ _ _ _ _ _ _ _ _ _ _ _ _ _ _ _ _ _ _ _ _ _ _ _ _ _ _ _ _ _ _ _ _ _ _ _ _ _ _ _ _ _ _ _ _ _ _ _ _ _ _ _ _ _ _ _ _ _ _ _ _ _ _ _ _ _ _ _ _ _ _ _ _ _ _ _ _ _ _ _ _ _ _ _ _ _ _ _ _ _ _ _ _ _ _ _ _ _ _ _ _ _ _ _ _ _ _ _ _ _ _ _ _ _ _ _ _ _ _ _ _ _ _ _ _ _ _ _ _ _ _ _ _ _ _ _ _ _ _ _ _ _ _ _ _ _ _ _ _ _ _ _ _ _ _ _ _ _ _ _ _ _ _ _ _ _ _ _ _ _ _ _ _ _ _ _ _ _ _ _ _ _ _ _ _ _ _ _ _ _ _ _ _ _ _ _ _ _ _ _ _ _ _ _ _ _ _ _ _ _ _ _ _ _ _ _ _ _ _ _ _ _ _ _ _ _ _ _ _ _ _ _ _ _ _ _ _ _ _ _ _ _ (k + 1) _ _ _ _ _ _ _ rfl rfl (by omega) hE
  · have h4b : (o0 == 4) = false := by simpa using h4
    by_cases hk0 : k = 0
    · subst hk0
      go_wp2_with fail
      refine HKC.out _ _ ?_
      refine wp_cond_true rfl ?_
      have O0 : Own (w5.alloc (.cells #[.slice none 0 0, .int .i64 0] 35)) B (.slice none 0 0) [] := own_nil _ _
      have kA := below_box w5 (.cells #[.slice none 0 0, .int .i64 0] 35)
      have gA := heap_alloc_new w5 (.cells #[.slice none 0 0, .int .i64 0] 35)
      have CA : Hid (Cs (w5.alloc (.cells #[.slice none 0 0, .int .i64 0] 35)) B (.slice av 0 cv) xs) := H5.out.row.grow kA
      have WA : Hid (Ws (w5.alloc (.cells #[.slice none 0 0, .int .i64 0] 35)) B (.slice aw 0 cs) xs) := H5.out.str.grow kA
      have hBw5 : B ≤ (w5.alloc (.cells #[.slice none 0 0, .int .i64 0] 35)).heap.size := by have := H5.out.Bw; have := kA.size; omega
      have hk60 : 0 ≤ 2000 := by omega
      refine wp_seq_k (fun KB hKB => ?_)
      have HKB : Hid _ := hKB
      clear hKB m10
      go_wp2_with (first
        | (at_builtin; refine wpList_pushC2 (W := w5.alloc (.cells #[.slice none 0 0, .int .i64 0] 35)) (k := ⟨none, 0, [], []⟩) rfl _ _ rfl B 0 cv av xs 0 rfl rfl CA.out O0 hBw5 w5.heap.size gA rfl hk60 ?_; intro g6 c6 w6 C6 kp6 b6; have WB : Hid (Ws (w6.alloc (.cells #[.string ⟨#[]⟩] 9)) B (.slice aw 0 cs) xs) := (Ws.kp WA.out CA.out kp6).grow (below_box w6 _); have gB := heap_alloc_new w6 (.cells #[.string ⟨#[]⟩] 9); have hBw6 : B ≤ (w6.alloc (.cells #[.string ⟨#[]⟩] 9)).heap.size := (by have h1 := b6.size; have h2 := (below_box w6 (.cells #[.string ⟨#[]⟩] 9)).size; omega))
        | (at_builtin; refine wpList_pushW (W := w6.alloc (.cells #[.string ⟨#[]⟩] 9)) (k := ⟨none, 0, [], []⟩) rfl _ _ rfl B 0 cs aw xs rfl WB.out hBw6 w6.heap.size gB rfl hk60 ?_; intro g8 c8 w8 W8 kp8 b8))
      have CB : Cs w8 B (.slice (some ⟨g6, 0, none⟩) (0 + 1) c6) (xs ++ [⟨none, 0, [], []⟩]) := Cs.kp (C6.grow (below_box w6 (.cells #[.string ⟨#[]⟩] 9))) WB.out kp8
      have bB : Below B w5 w8 := (((kA.mono H5.out.Bw).trans b6).trans ((below_box w6 (.cells #[.string ⟨#[]⟩] 9)).mono (by have := b6.size; omega))).trans b8
      have hE := H5.out.add (Keeps.refl _ _ _ _) H5.out.ar CB W8 bB H5.out.inv.begin rfl (by simp)
      refine HKB.out _ _ ?_
      go_wp2_with fail
      exact HQx.out _ _ _ _ _ _ _ _ _ _ _ _ _ _ _ _ _ _ _ _ _ _ _ _ _ _ _ _ _ _ _ _ _ _ _ _ _ _ _ _ _ _ _ _ _ _ _ _ _ _ _ _ _ _ _ _ _ _ _ _ _ _ _ _ _ _ _ _ _ _ _ _ _ _ _ _ _ _ _ _ _ _ _ _ _ _ _ _ _ _ _ _ _ _ _ _ _ _ _ _ _ _ _ _ _ _ _ _ _ _ _ _ _ _ _ _ _ _ _ _ _ _ _ _ _ _ _ _ _ _ _ _ _ _ _ _ _ _ _ _ _ _ _ _ _ _ _ _ _ _ _ _ _ _ _ _ _ _ _ _ _ _ _ _ _ _ _ _ _ _ _ _ _ _ _ _ _ _ _ _ _ _ _ _ _ _ _ _ _ _ _ _ _ _ _ _ _ _ _ _ _ _ _ _ _ _ _ _ _ _ _ _ _ _ _ _ _ _ _ _ _ _ _ _ _ _ _ _ _ _ _ _ _ _ _ _ _ _ _ _ _ _ _ _ _ _ _ _ _ (0 + 1) _ _ _ _ _ _ _ rfl rfl (by omega) hE
    · have hkb : ((k : Int) == 0) = false := by simp; omega
      go_wp2_with fail
      refine HKC.out _ _ ?_
      refine wp_cond_false rfl ?_
      go_wp2_with fail
      refine HKA.out _ _ ?_
      refine step15 w w5 p S F B n j k cv cs g10 av aw xs ss fr o0 o1 o2 o3 da dl dc D _ _ _ _ _ _ _ _ _ _ _ _ _ _ _ _ _ _ _ _ _ _ _ _ _ _ _ _ _ _ _ _ _ _ _ _ _ _ _ _ _ _ _ _ _ _ _ _ _ _ _ _ _ _ _ _ _ _ _ _ _ _ _ _ _ _ _ _ _ _ _ _ _ _ _ _ _ _ _ _ _ _ _ _ _ _ _ _ _ _ _ _ _ _ _ _ _ _ _ _ _ _ _ _ _ _ _ _ _ _ _ _ _ _ _ _ _ _ _ _ _ _ _ _ _ _ _ _ _ _ _ _ _ _ _ _ _ _ _ _ _ _ _ _ _ _ _ _ _ _ _ _ _ _ _ _ _ _ _ _ _ _ _ _ _ _ _ _ _ _ _ _ _ _ _ _ _ _ _ _ _ _ _ _ _ _ _ _ _ _ _ _ _ _ _ _ _ _ _ _ _ _ _ _ _ _ _ _ _ _ _ _ _ _ _ _ _ _ _ _ _ _ _ _ _ _ _ _ _ _ _ _ _ _ _ _ _ _ _ _ _ _ _ _ _ _ _ _ _ _ _ _ _ _ _ _ _ _ _ _ _ _ _ _ _ _ _ _ _ _ _ _ _ _ _ _ _ _ _ _ _ _ _ _ _ _ _ _ _ _ _ _ _ _ _ _ _ _ _ _ _ _ _ _ _ _ _ _ _ _ _ _ _ _ _ _ _ _ _ _ _ _ _ _ _ _ _ _ _ _ _ _ _ _ _ _ _ _ _ _ _ _ _ _ _ _ _ _ _ _ _ _ HP H5 hj hkj HD HDl hdl hdc hdm HDa hg10B HOp hz1 hz2 hz3 hk0 ?_
      intro x7 x8 x11 x12 x13 x14 x15 x16 x17 x18 x19 x20 x55 x56 x57 x58 x59 x60 x61 x62 x63 x64 x65 x66 x67 x68 x69 x70 x71 x72 x73 x74 x75 x76 x77 x78 x79 x80 x81 x82 x83 x84 x85 x86 x87 x88 x89 x90 x91 x92 x93 x94 x95 x96 x97 x98 x99 x100 x101 x102 x103 x104 x105 x106 x107 x108 x109 x110 x111 x112 x113 x114 x115 x116 x117 x118 x119 x120 x121 x122 x123 x124 x125 x126 x127 x128 x129 x130 x131 x132 x133 x134 x135 x136 x137 x138 x139 x140 x141 x142 x143 x144 x145 x146 x147 x148 x149 x150 x151 x152 x153 x154 x155 x156 x157 x158 x159 x160 x161 x162 x163 x164 x165 x166 x167 x168 x169 x170 x171 x172 x173 x174 x175 x176 x177 x178 x179 x180 x181 x182 x183 x184 x185 x186 x187 x188 x189 x190 x191 x192 x193 x194 x195 x196 x197 x198 x199 x200 x201 x202 x203 x204 x205 x206 x207 x208 x209 x210 x211 x212 x213 x214 x215 x216 x217 x218 x219 x220 x221 x222 x223 x224 x225 x226 x227 x228 x229 x230 x231 x232 x233 x234 x235 x236 x237 x238 x239 x240 x241 x242 x243 x244 x245 x246 x247 x248 x249 x250 x251 x252 x253 x254 x255 x256 x257 x258 x259 x260 x261 x262 x263 x264 x265 x266 x267 x268 x269 x270 x271 x272 x273 x274 x275 x276 x277 x278 x279 x280 x281 x282 x283 x284 x285 x286 x287 x288 x289 x290 W k' av' aw' cv' cs' xs' ss' fr' e7 e8 hk' hE
      exact HQ.out _ _ _ _ _ _ _ _ _ _ _ _ _ _ _ _ _ _ _ _ _ _ _ _ _ _ _ _ _ _ _ _ _ _ _ _ _ _ _ _ _ _ _ _ _ _ _ _ _ _ _ _ _ _ _ _ _ _ _ _ _ _ _ _ _ _ _ _ _ _ _ _ _ _ _ _ _ _ _ _ _ _ _ _ _ _ _ _ _ _ _ _ _ _ _ _ _ _ _ _ _ _ _ _ _ _ _ _ _ _ _ _ _ _ _ _ _ _ _ _ _ _ _ _ _ _ _ _ _ _ _ _ _ _ _ _ _ _ _ _ _ _ _ _ _ _ _ _ _ _ _ _ _ _ _ _ _ _ _ _ _ _ _ _ _ _ _ _ _ _ _ _ _ _ _ _ _ _ _ _ _ _ _ _ _ _ _ _ _ _ _ _ _ _ _ _ _ _ _ _ _ _ _ _ _ _ _ _ _ _ _ _ _ _ _ _ _ _ _ _ _ _ _ _ _ _ _ _ _ _ _ _ _ _ _ _ _ _ _ _ _ _ _ _ _ _ _ _ _ _ _ _ _ _ _ _ _ e7 e8 hk' hE

end Go.Proofs.Ytpjfhfbjdcgbjab
