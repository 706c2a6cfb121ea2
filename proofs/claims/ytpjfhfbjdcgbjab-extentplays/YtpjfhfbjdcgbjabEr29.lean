/-
  ExtentPlays: where a content is shared, its drawn region.
-/
import Derived.Test.YtpjfhfbjdcgbjabE3
import Derived.Deep.RegionHeld3
namespace Go.Proofs.Ytpjfhfbjdcgbjab
open Go.RowKit
set_option linter.unusedVariables false
set_option linter.unusedSimpArgs false

def ops29 : Array Oper := #[{ dst := some 177, op := Op.move (Operand.tmp 7), type := 28, pos := "law.go:69", after := #[], guard := none },
  { dst := some 178, op := Op.load 35 (Operand.tmp 16), type := 35, pos := "law.go:69", after := #[], guard := none },
  { dst := some 179, op := Op.buildSlice 28 1 #[(0, Operand.tmp 178)], type := 28, pos := "law.go:69", after := #[{ on := 1, ground := Ground.data }], guard := none },
  { dst := some 180, op := Op.call { callee := Callee.builtin Builtin.append, args := #[Operand.tmp 177, Operand.tmp 179], argTypes := #[28, 28] }, type := 28, pos := "law.go:69", after := #[{ on := 0, ground := Ground.data }, { on := 2, ground := Ground.data }], guard := none },
  { dst := some 181, op := Op.move (Operand.tmp 8), type := 29, pos := "law.go:69", after := #[], guard := none },
  { dst := some 182, op := Op.move (Operand.tmp 8), type := 29, pos := "law.go:69", after := #[], guard := none },
  { dst := some 183, op := Op.move (Operand.tmp 11), type := 3, pos := "law.go:69", after := #[], guard := none },
  { dst := some 184, op := Op.indexAddr 29 (Operand.tmp 182) (Operand.tmp 183), type := 0, pos := "law.go:69", after := #[{ on := 5, ground := Ground.data }, { on := 6, ground := Ground.data }], guard := none },
  { dst := some 185, op := Op.load 9 (Operand.tmp 184), type := 9, pos := "law.go:69", after := #[{ on := 7, ground := Ground.data }], guard := none },
  { dst := some 186, op := Op.buildSlice 29 1 #[(0, Operand.tmp 185)], type := 29, pos := "law.go:69", after := #[{ on := 8, ground := Ground.data }], guard := none },
  { dst := some 187, op := Op.call { callee := Callee.builtin Builtin.append, args := #[Operand.tmp 181, Operand.tmp 186], argTypes := #[29, 29] }, type := 29, pos := "law.go:69", after := #[{ on := 4, ground := Ground.data }, { on := 9, ground := Ground.data }, { on := 3, ground := Ground.chain }], guard := none },
  { dst := some 7, op := Op.assign (Operand.tmp 180), type := 28, pos := "law.go:69", after := #[{ on := 3, ground := Ground.data }, { on := 10, ground := Ground.chain }, { on := 0, ground := Ground.phase }, { on := 1, ground := Ground.phase }, { on := 2, ground := Ground.phase }, { on := 3, ground := Ground.phase }, { on := 4, ground := Ground.textOnly Departure.lateStores }, { on := 5, ground := Ground.textOnly Departure.lateStores }, { on := 6, ground := Ground.textOnly Departure.lateStores }, { on := 7, ground := Ground.textOnly Departure.lateStores }, { on := 8, ground := Ground.textOnly Departure.lateStores }, { on := 9, ground := Ground.textOnly Departure.lateStores }, { on := 10, ground := Ground.textOnly Departure.lateStoresUnsure }], guard := none },
  { dst := some 8, op := Op.assign (Operand.tmp 187), type := 29, pos := "law.go:69", after := #[{ on := 10, ground := Ground.data }, { on := 11, ground := Ground.chain }, { on := 0, ground := Ground.phase }, { on := 1, ground := Ground.phase }, { on := 2, ground := Ground.phase }, { on := 3, ground := Ground.phase }, { on := 4, ground := Ground.phase }, { on := 5, ground := Ground.phase }, { on := 6, ground := Ground.phase }, { on := 7, ground := Ground.phase }, { on := 8, ground := Ground.phase }, { on := 9, ground := Ground.phase }, { on := 10, ground := Ground.phase }, { on := 11, ground := Ground.phase }], guard := none }]

set_option maxRecDepth 100000 in
theorem rdy29 : ∀ b2 b3 b8 b9 b10 b11 b12 : Bool, Region.ready .any ops29 #[true, true, b2, b3, true, true, true, true, b8, b9, b10, b11, b12] = ([] : List Nat) ++ (if !b2 then [2] else []) ++ (if !b3 && b2 then [3] else []) ++ (if !b8 then [8] else []) ++ (if !b9 && b8 then [9] else []) ++ (if !b10 && b9 && b3 then [10] else []) ++ (if !b11 && b3 && b10 && b2 then [11] else []) ++ (if !b12 && b10 && b11 && b2 && b3 && b8 && b9 then [12] else []) := by
  decide +kernel

structure F29 (w7 : World) (B k cv gr gs cs : Nat) (xs : List Cn) (xi xL : List Int) (a6 : Option Addr) (c6 m : Nat) (b2 b3 b8 b9 b10 b11 b12 : Bool) (v179 v180 v185 v186 v187 v7 v8 : Value) (W : World) : Prop where
  fB : Below B w7 W
  f2 : b2 = true → b3 = false → ∃ G, v179 = .slice (some ⟨G, 0, none⟩) 1 1 ∧ w7.heap.size ≤ G ∧ W.heap[G]? = some (.cells #[.slice a6 xi.length c6, .int .i64 (m : Int)] 35 (0, 0))
  f3a : b3 = false → Cs W B (.slice (some ⟨gr, 0, none⟩) k cv) xs ∧ Own W B (.slice a6 xi.length c6) xi
  f3b : b3 = true → ∃ g' c', v180 = .slice (some ⟨g', 0, none⟩) (k + 1) c' ∧ Cs W B (.slice (some ⟨g', 0, none⟩) (k + 1) c') (xs ++ [⟨a6, c6, xi, xL⟩])
  f8 : b8 = true → v185 = .string (strOf xL)
  f9 : b9 = true → b10 = false → ∃ G, v186 = .slice (some ⟨G, 0, none⟩) 1 1 ∧ w7.heap.size ≤ G ∧ W.heap[G]? = some (.cells #[.string (strOf xL)] 9 (0, 0))
  f10a : b10 = false → Ws W B (.slice (some ⟨gs, 0, none⟩) k cs) xs
  f10b : b10 = true → ∃ g' c', v187 = .slice (some ⟨g', 0, none⟩) (k + 1) c' ∧ Ws W B (.slice (some ⟨g', 0, none⟩) (k + 1) c') (xs ++ [⟨a6, c6, xi, xL⟩])
  f11 : b11 = true → v7 = v180
  f12 : b12 = true → v8 = v187
  fS : ∀ G C t, w7.heap[G]? = some (.cells C t (0, 0)) → G ≠ gr → G ≠ gs → W.heap[G]? = some (.cells C t (0, 0))
  o10 : b10 = true → b3 = true ∧ b9 = true
  o9 : b9 = true → b8 = true
  o11 : b11 = true → b3 = true
  o12 : b12 = true → b10 = true

theorem F29.next {w7 : World} {B k cv gr gs cs : Nat} {xs : List Cn} {xi xL : List Int} {a6 : Option Addr} {c6 m : Nat} {b2 b3 b8 b9 b10 b11 b12 : Bool} {v179 v180 v185 v186 v187 v7 v8 : Value} {W W' : World} (h : F29 w7 B k cv gr gs cs xs xi xL a6 c6 m b2 b3 b8 b9 b10 b11 b12 v179 v180 v185 v186 v187 v7 v8 W) (b : Below W.heap.size W W') (hB : B ≤ W.heap.size) : F29 w7 B k cv gr gs cs xs xi xL a6 c6 m b2 b3 b8 b9 b10 b11 b12 v179 v180 v185 v186 v187 v7 v8 W' :=
  { h with
    fB := h.fB.trans (b.mono hB)
    f2 := fun h1 h2 => let ⟨G, e1, e2, e3⟩ := h.f2 h1 h2; ⟨G, e1, e2, (b.block G (lt_of_heap e3)).trans e3⟩
    f3a := fun h1 => ⟨(h.f3a h1).1.grow b, (h.f3a h1).2.grow b⟩
    f3b := fun h1 => let ⟨g', c', e1, e2⟩ := h.f3b h1; ⟨g', c', e1, e2.grow b⟩
    f9 := fun h1 h2 => let ⟨G, e1, e2, e3⟩ := h.f9 h1 h2; ⟨G, e1, e2, (b.block G (lt_of_heap e3)).trans e3⟩
    f10a := fun h1 => (h.f10a h1).grow b
    f10b := fun h1 => let ⟨g', c', e1, e2⟩ := h.f10b h1; ⟨g', c', e1, e2.grow b⟩
    fS := fun G C t e1 e2 e3 => (b.block G (lt_of_heap (h.fS G C t e1 e2 e3))).trans (h.fS G C t e1 e2 e3) }

set_option maxRecDepth 100000 in
set_option maxHeartbeats 8000000 in
theorem reg29 (w7 : World) (B k cv gr gs cs g16 i : Nat) (xs : List Cn) (xi xL : List Int) (a6 : Option Addr) (c6 m : Nat) (s0 s1 s2 s3 s4 s5 s6 s9 s10 s12 s13 s14 s15 s17 s18 s19 s20 s21 s22 s23 s24 s25 s26 s27 s28 s29 s30 s31 s32 s33 s34 s35 s36 s37 s38 s39 s40 s41 s42 s43 s44 s45 s46 s47 s48 s49 s50 s51 s52 s53 s54 s55 s56 s57 s58 s59 s60 s61 s62 s63 s64 s65 s66 s67 s68 s69 s70 s71 s72 s73 s74 s75 s76 s77 s78 s79 s80 s81 s82 s83 s84 s85 s86 s87 s88 s89 s90 s91 s92 s93 s94 s95 s96 s97 s98 s99 s100 s101 s102 s103 s104 s105 s106 s107 s108 s109 s110 s111 s112 s113 s114 s115 s116 s117 s118 s119 s120 s121 s122 s123 s124 s125 s126 s127 s128 s129 s130 s131 s132 s133 s134 s135 s136 s137 s138 s139 s140 s141 s142 s143 s144 s145 s146 s147 s148 s149 s150 s151 s152 s153 s154 s155 s156 s157 s158 s159 s160 s161 s162 s163 s164 s165 s166 s167 s168 s169 s170 s171 s172 s173 s174 s175 s176 s177 s178 s179 s180 s181 s182 s183 s184 s185 s186 s187 s188 s189 s190 s191 s192 s193 s194 s195 s196 s197 s198 s199 s200 s201 s202 s203 s204 s205 s206 s207 s208 s209 s210 s211 s212 s213 s214 s215 s216 s217 s218 s219 s220 s221 s222 s223 s224 s225 s226 s227 s228 s229 s230 s231 s232 s233 s234 s235 s236 s237 s238 s239 s240 s241 s242 s243 s244 s245 s246 s247 s248 s249 s250 s251 s252 s253 s254 s255 s256 s257 s258 s259 s260 s261 s262 s263 s264 s265 s266 s267 s268 s269 s270 s271 s272 s273 s274 s275 s276 s277 s278 s279 s280 s281 s282 s283 s284 s285 s286 s287 s288 s289 s290 s291 s292 s293 s294 s295 s296 s297 s298 s299 s300 s301 s302 s303 s304 s305 s306 s307 s308 s309 s310 s311 s312 s313 s314 s315 s316 s317 s318 s319 s320 s321 s322 s323 s324 s325 s326 s327 s328 s329 s330 s331 s332 s333 s334 s335 s336 s337 s338 s339 s340 s341 s342 s343 s344 s345 s346 s347 s348 s349 s350 s351 s352 s353 s354 s355 : Value) (Q : Exit → Act → World → Prop)
    (hik : i < k) (hk60 : k ≤ 60) (hBw : B ≤ w7.heap.size)
    (H7 : Hid (Cs w7 B (.slice (some ⟨gr, 0, none⟩) k cv) xs)) (O7 : Hid (Own w7 B (.slice a6 xi.length c6) xi)) (HW : Hid (Ws w7 B (.slice (some ⟨gs, 0, none⟩) k cs) xs)) (xa : Option Addr) (xc : Nat) (HX : Hid (xs[i]? = some ⟨xa, xc, xi, xL⟩))
    (HM : Hid (xL.length = m)) (Q16 : Hid (w7.heap[g16]? = some (.cells #[.slice a6 xi.length c6, .int .i64 (m : Int)] 35 (0, 0)))) (hg1 : g16 ≠ gr) (hg2 : g16 ≠ gs)
    (HP : Hid (∀ c a (d : Nat) v w, Q (.panic c) (Act.put a (some d) v) w → Q (.panic c) a w))
    (hQ : ∀ v179 v185 v186 g' c' gs' cs' W, Cs W B (.slice (some ⟨g', 0, none⟩) (k + 1) c') (xs ++ [⟨a6, c6, xi, xL⟩]) → Ws W B (.slice (some ⟨gs', 0, none⟩) (k + 1) cs') (xs ++ [⟨a6, c6, xi, xL⟩]) → Below B w7 W → Q .normal { tmps := #[s0, s1, s2, s3, s4, s5, s6, (.slice (some ⟨g', 0, none⟩) (k + 1) c'), (.slice (some ⟨gs', 0, none⟩) (k + 1) cs'), s9, s10, .int .i64 (i : Int), s12, s13, s14, s15, .pointer (some ⟨g16, 0, none⟩), s17, s18, s19, s20, s21, s22, s23, s24, s25, s26, s27, s28, s29, s30, s31, s32, s33, s34, s35, s36, s37, s38, s39, s40, s41, s42, s43, s44, s45, s46, s47, s48, s49, s50, s51, s52, s53, s54, s55, s56, s57, s58, s59, s60, s61, s62, s63, s64, s65, s66, s67, s68, s69, s70, s71, s72, s73, s74, s75, s76, s77, s78, s79, s80, s81, s82, s83, s84, s85, s86, s87, s88, s89, s90, s91, s92, s93, s94, s95, s96, s97, s98, s99, s100, s101, s102, s103, s104, s105, s106, s107, s108, s109, s110, s111, s112, s113, s114, s115, s116, s117, s118, s119, s120, s121, s122, s123, s124, s125, s126, s127, s128, s129, s130, s131, s132, s133, s134, s135, s136, s137, s138, s139, s140, s141, s142, s143, s144, s145, s146, s147, s148, s149, s150, s151, s152, s153, s154, s155, s156, s157, s158, s159, s160, s161, s162, s163, s164, s165, s166, s167, s168, s169, s170, s171, s172, s173, s174, s175, s176, .slice (some ⟨gr, 0, none⟩) k cv, .agg #[.slice a6 xi.length c6, .int .i64 (m : Int)], v179, (.slice (some ⟨g', 0, none⟩) (k + 1) c'), .slice (some ⟨gs, 0, none⟩) k cs, .slice (some ⟨gs, 0, none⟩) k cs, .int .i64 (i : Int), .pointer (some ⟨gs, i, none⟩), v185, v186, (.slice (some ⟨gs', 0, none⟩) (k + 1) cs'), s188, s189, s190, s191, s192, s193, s194, s195, s196, s197, s198, s199, s200, s201, s202, s203, s204, s205, s206, s207, s208, s209, s210, s211, s212, s213, s214, s215, s216, s217, s218, s219, s220, s221, s222, s223, s224, s225, s226, s227, s228, s229, s230, s231, s232, s233, s234, s235, s236, s237, s238, s239, s240, s241, s242, s243, s244, s245, s246, s247, s248, s249, s250, s251, s252, s253, s254, s255, s256, s257, s258, s259, s260, s261, s262, s263, s264, s265, s266, s267, s268, s269, s270, s271, s272, s273, s274, s275, s276, s277, s278, s279, s280, s281, s282, s283, s284, s285, s286, s287, s288, s289, s290, s291, s292, s293, s294, s295, s296, s297, s298, s299, s300, s301, s302, s303, s304, s305, s306, s307, s308, s309, s310, s311, s312, s313, s314, s315, s316, s317, s318, s319, s320, s321, s322, s323, s324, s325, s326, s327, s328, s329, s330, s331, s332, s333, s334, s335, s336, s337, s338, s339, s340, s341, s342, s343, s344, s345, s346, s347, s348, s349, s350, s351, s352, s353, s354, s355], defers := [] } W) :
    (Code.region 29 ops29 true).wp Try.prog Q { tmps := #[s0, s1, s2, s3, s4, s5, s6, .slice (some ⟨gr, 0, none⟩) k cv, .slice (some ⟨gs, 0, none⟩) k cs, s9, s10, .int .i64 (i : Int), s12, s13, s14, s15, .pointer (some ⟨g16, 0, none⟩), s17, s18, s19, s20, s21, s22, s23, s24, s25, s26, s27, s28, s29, s30, s31, s32, s33, s34, s35, s36, s37, s38, s39, s40, s41, s42, s43, s44, s45, s46, s47, s48, s49, s50, s51, s52, s53, s54, s55, s56, s57, s58, s59, s60, s61, s62, s63, s64, s65, s66, s67, s68, s69, s70, s71, s72, s73, s74, s75, s76, s77, s78, s79, s80, s81, s82, s83, s84, s85, s86, s87, s88, s89, s90, s91, s92, s93, s94, s95, s96, s97, s98, s99, s100, s101, s102, s103, s104, s105, s106, s107, s108, s109, s110, s111, s112, s113, s114, s115, s116, s117, s118, s119, s120, s121, s122, s123, s124, s125, s126, s127, s128, s129, s130, s131, s132, s133, s134, s135, s136, s137, s138, s139, s140, s141, s142, s143, s144, s145, s146, s147, s148, s149, s150, s151, s152, s153, s154, s155, s156, s157, s158, s159, s160, s161, s162, s163, s164, s165, s166, s167, s168, s169, s170, s171, s172, s173, s174, s175, s176, s177, s178, s179, s180, s181, s182, s183, s184, s185, s186, s187, s188, s189, s190, s191, s192, s193, s194, s195, s196, s197, s198, s199, s200, s201, s202, s203, s204, s205, s206, s207, s208, s209, s210, s211, s212, s213, s214, s215, s216, s217, s218, s219, s220, s221, s222, s223, s224, s225, s226, s227, s228, s229, s230, s231, s232, s233, s234, s235, s236, s237, s238, s239, s240, s241, s242, s243, s244, s245, s246, s247, s248, s249, s250, s251, s252, s253, s254, s255, s256, s257, s258, s259, s260, s261, s262, s263, s264, s265, s266, s267, s268, s269, s270, s271, s272, s273, s274, s275, s276, s277, s278, s279, s280, s281, s282, s283, s284, s285, s286, s287, s288, s289, s290, s291, s292, s293, s294, s295, s296, s297, s298, s299, s300, s301, s302, s303, s304, s305, s306, s307, s308, s309, s310, s311, s312, s313, s314, s315, s316, s317, s318, s319, s320, s321, s322, s323, s324, s325, s326, s327, s328, s329, s330, s331, s332, s333, s334, s335, s336, s337, s338, s339, s340, s341, s342, s343, s344, s345, s346, s347, s348, s349, s350, s351, s352, s353, s354, s355], defers := [] } w7 := by
  have HQ : Hid (∀ v179 v185 v186 g' c' gs' cs' W, Cs W B (.slice (some ⟨g', 0, none⟩) (k + 1) c') (xs ++ [⟨a6, c6, xi, xL⟩]) → Ws W B (.slice (some ⟨gs', 0, none⟩) (k + 1) cs') (xs ++ [⟨a6, c6, xi, xL⟩]) → Below B w7 W → Q .normal { tmps := #[s0, s1, s2, s3, s4, s5, s6, (.slice (some ⟨g', 0, none⟩) (k + 1) c'), (.slice (some ⟨gs', 0, none⟩) (k + 1) cs'), s9, s10, .int .i64 (i : Int), s12, s13, s14, s15, .pointer (some ⟨g16, 0, none⟩), s17, s18, s19, s20, s21, s22, s23, s24, s25, s26, s27, s28, s29, s30, s31, s32, s33, s34, s35, s36, s37, s38, s39, s40, s41, s42, s43, s44, s45, s46, s47, s48, s49, s50, s51, s52, s53, s54, s55, s56, s57, s58, s59, s60, s61, s62, s63, s64, s65, s66, s67, s68, s69, s70, s71, s72, s73, s74, s75, s76, s77, s78, s79, s80, s81, s82, s83, s84, s85, s86, s87, s88, s89, s90, s91, s92, s93, s94, s95, s96, s97, s98, s99, s100, s101, s102, s103, s104, s105, s106, s107, s108, s109, s110, s111, s112, s113, s114, s115, s116, s117, s118, s119, s120, s121, s122, s123, s124, s125, s126, s127, s128, s129, s130, s131, s132, s133, s134, s135, s136, s137, s138, s139, s140, s141, s142, s143, s144, s145, s146, s147, s148, s149, s150, s151, s152, s153, s154, s155, s156, s157, s158, s159, s160, s161, s162, s163, s164, s165, s166, s167, s168, s169, s170, s171, s172, s173, s174, s175, s176, .slice (some ⟨gr, 0, none⟩) k cv, .agg #[.slice a6 xi.length c6, .int .i64 (m : Int)], v179, (.slice (some ⟨g', 0, none⟩) (k + 1) c'), .slice (some ⟨gs, 0, none⟩) k cs, .slice (some ⟨gs, 0, none⟩) k cs, .int .i64 (i : Int), .pointer (some ⟨gs, i, none⟩), v185, v186, (.slice (some ⟨gs', 0, none⟩) (k + 1) cs'), s188, s189, s190, s191, s192, s193, s194, s195, s196, s197, s198, s199, s200, s201, s202, s203, s204, s205, s206, s207, s208, s209, s210, s211, s212, s213, s214, s215, s216, s217, s218, s219, s220, s221, s222, s223, s224, s225, s226, s227, s228, s229, s230, s231, s232, s233, s234, s235, s236, s237, s238, s239, s240, s241, s242, s243, s244, s245, s246, s247, s248, s249, s250, s251, s252, s253, s254, s255, s256, s257, s258, s259, s260, s261, s262, s263, s264, s265, s266, s267, s268, s269, s270, s271, s272, s273, s274, s275, s276, s277, s278, s279, s280, s281, s282, s283, s284, s285, s286, s287, s288, s289, s290, s291, s292, s293, s294, s295, s296, s297, s298, s299, s300, s301, s302, s303, s304, s305, s306, s307, s308, s309, s310, s311, s312, s313, s314, s315, s316, s317, s318, s319, s320, s321, s322, s323, s324, s325, s326, s327, s328, s329, s330, s331, s332, s333, s334, s335, s336, s337, s338, s339, s340, s341, s342, s343, s344, s345, s346, s347, s348, s349, s350, s351, s352, s353, s354, s355], defers := [] } W) := hQ
  clear hQ
  have hi0 : (0 : Int) ≤ (i : Int) := by omega
  have hik2 : (i : Int) < (k : Int) := by omega
  have h0 : ∀ q, w7.drew.cell? ⟨g16, q, none⟩ = (#[.slice a6 xi.length c6, .int .i64 (m : Int)] : Array Value)[q]? := two10 (w := w7.drew) Q16.out
  have HSf : Hid (∀ W : World, W.heap[g16]? = some (.cells #[.slice a6 xi.length c6, .int .i64 (m : Int)] 35 (0, 0)) → ∀ q, W.cell? ⟨g16, q, none⟩ = (#[.slice a6 xi.length c6, .int .i64 (m : Int)] : Array Value)[q]?) := fun W h => two10 h
  have hg12 : gr ≠ gs := by
    obtain ⟨g', e1, _, _, _, _, cur, hc⟩ := HW.out.get HX.out
    simp at e1
    subst e1
    rintro rfl
    have := own_apart (B' := 0) H7.out.row hc (by decide)
    exact this rfl
  refine wp_region_held_drew (S := fun W : World => ∀ q, W.cell? ⟨g16, q, none⟩ = (#[.slice a6 xi.length c6, .int .i64 (m : Int)] : Array Value)[q]?) (by kernel_rfl) h0 (fun hHeld => ?_)
  refine wpAnyH_take (i := 0) (oi := { dst := some 177, op := Op.move (Operand.tmp 7), type := 28, pos := "law.go:69", after := #[], guard := none }) (v := ?_) rfl (by kernel_rfl) (by kernel_rfl) (by kernel_rfl) (fun c a w h => HP.out _ _ _ _ _ h) (Or.inl ⟨by rfl, ?_⟩) (by assumption) ?_
  rotate_left 1
  · (intro W hSw; go_simp; try with_reducible rfl)
  (try simp only [Act.put, List.setIfInBounds_toArray, List.set_cons_zero, List.set_cons_succ])
  refine wpAnyH_take (i := 1) (oi := { dst := some 178, op := Op.load 35 (Operand.tmp 16), type := 35, pos := "law.go:69", after := #[], guard := none }) (v := ?_) rfl (by kernel_rfl) (by kernel_rfl) (by kernel_rfl) (fun c a w h => HP.out _ _ _ _ _ h) (Or.inl ⟨by rfl, ?_⟩) (by assumption) ?_
  rotate_left 1
  · (intro W hSw; go_simp; try with_reducible rfl)
  (try simp only [Act.put, List.setIfInBounds_toArray, List.set_cons_zero, List.set_cons_succ])
  refine wpAnyH_take (i := 4) (oi := { dst := some 181, op := Op.move (Operand.tmp 8), type := 29, pos := "law.go:69", after := #[], guard := none }) (v := ?_) rfl (by kernel_rfl) (by kernel_rfl) (by kernel_rfl) (fun c a w h => HP.out _ _ _ _ _ h) (Or.inl ⟨by rfl, ?_⟩) (by assumption) ?_
  rotate_left 1
  · (intro W hSw; go_simp; try with_reducible rfl)
  (try simp only [Act.put, List.setIfInBounds_toArray, List.set_cons_zero, List.set_cons_succ])
  refine wpAnyH_take (i := 5) (oi := { dst := some 182, op := Op.move (Operand.tmp 8), type := 29, pos := "law.go:69", after := #[], guard := none }) (v := ?_) rfl (by kernel_rfl) (by kernel_rfl) (by kernel_rfl) (fun c a w h => HP.out _ _ _ _ _ h) (Or.inl ⟨by rfl, ?_⟩) (by assumption) ?_
  rotate_left 1
  · (intro W hSw; go_simp; try with_reducible rfl)
  (try simp only [Act.put, List.setIfInBounds_toArray, List.set_cons_zero, List.set_cons_succ])
  refine wpAnyH_take (i := 6) (oi := { dst := some 183, op := Op.move (Operand.tmp 11), type := 3, pos := "law.go:69", after := #[], guard := none }) (v := ?_) rfl (by kernel_rfl) (by kernel_rfl) (by kernel_rfl) (fun c a w h => HP.out _ _ _ _ _ h) (Or.inl ⟨by rfl, ?_⟩) (by assumption) ?_
  rotate_left 1
  · (intro W hSw; go_simp; try with_reducible rfl)
  (try simp only [Act.put, List.setIfInBounds_toArray, List.set_cons_zero, List.set_cons_succ])
  refine wpAnyH_take (i := 7) (oi := { dst := some 184, op := Op.indexAddr 29 (Operand.tmp 182) (Operand.tmp 183), type := 0, pos := "law.go:69", after := #[{ on := 5, ground := Ground.data }, { on := 6, ground := Ground.data }], guard := none }) (v := ?_) rfl (by kernel_rfl) (by kernel_rfl) (by kernel_rfl) (fun c a w h => HP.out _ _ _ _ _ h) (Or.inl ⟨by rfl, ?_⟩) (by assumption) ?_
  rotate_left 1
  · (intro W hSw; go_simp; try with_reducible rfl)
  (try simp only [Act.put, List.setIfInBounds_toArray, List.set_cons_zero, List.set_cons_succ])
  refine wpAnyH_inv (fun listed a W => ∃ (b2 b3 b8 b9 b10 b11 b12 : Bool) (v179 v180 v185 v186 v187 v7 v8 : Value), listed = #[true, true, b2, b3, true, true, true, true, b8, b9, b10, b11, b12] ∧ a = { tmps := #[s0, s1, s2, s3, s4, s5, s6, v7, v8, s9, s10, .int .i64 (i : Int), s12, s13, s14, s15, .pointer (some ⟨g16, 0, none⟩), s17, s18, s19, s20, s21, s22, s23, s24, s25, s26, s27, s28, s29, s30, s31, s32, s33, s34, s35, s36, s37, s38, s39, s40, s41, s42, s43, s44, s45, s46, s47, s48, s49, s50, s51, s52, s53, s54, s55, s56, s57, s58, s59, s60, s61, s62, s63, s64, s65, s66, s67, s68, s69, s70, s71, s72, s73, s74, s75, s76, s77, s78, s79, s80, s81, s82, s83, s84, s85, s86, s87, s88, s89, s90, s91, s92, s93, s94, s95, s96, s97, s98, s99, s100, s101, s102, s103, s104, s105, s106, s107, s108, s109, s110, s111, s112, s113, s114, s115, s116, s117, s118, s119, s120, s121, s122, s123, s124, s125, s126, s127, s128, s129, s130, s131, s132, s133, s134, s135, s136, s137, s138, s139, s140, s141, s142, s143, s144, s145, s146, s147, s148, s149, s150, s151, s152, s153, s154, s155, s156, s157, s158, s159, s160, s161, s162, s163, s164, s165, s166, s167, s168, s169, s170, s171, s172, s173, s174, s175, s176, .slice (some ⟨gr, 0, none⟩) k cv, .agg #[.slice a6 xi.length c6, .int .i64 (m : Int)], v179, v180, .slice (some ⟨gs, 0, none⟩) k cs, .slice (some ⟨gs, 0, none⟩) k cs, .int .i64 (i : Int), .pointer (some ⟨gs, i, none⟩), v185, v186, v187, s188, s189, s190, s191, s192, s193, s194, s195, s196, s197, s198, s199, s200, s201, s202, s203, s204, s205, s206, s207, s208, s209, s210, s211, s212, s213, s214, s215, s216, s217, s218, s219, s220, s221, s222, s223, s224, s225, s226, s227, s228, s229, s230, s231, s232, s233, s234, s235, s236, s237, s238, s239, s240, s241, s242, s243, s244, s245, s246, s247, s248, s249, s250, s251, s252, s253, s254, s255, s256, s257, s258, s259, s260, s261, s262, s263, s264, s265, s266, s267, s268, s269, s270, s271, s272, s273, s274, s275, s276, s277, s278, s279, s280, s281, s282, s283, s284, s285, s286, s287, s288, s289, s290, s291, s292, s293, s294, s295, s296, s297, s298, s299, s300, s301, s302, s303, s304, s305, s306, s307, s308, s309, s310, s311, s312, s313, s314, s315, s316, s317, s318, s319, s320, s321, s322, s323, s324, s325, s326, s327, s328, s329, s330, s331, s332, s333, s334, s335, s336, s337, s338, s339, s340, s341, s342, s343, s344, s345, s346, s347, s348, s349, s350, s351, s352, s353, s354, s355], defers := [] } ∧ F29 w7 B k cv gr gs cs xs xi xL a6 c6 m b2 b3 b8 b9 b10 b11 b12 v179 v180 v185 v186 v187 v7 v8 W) ?_ _ _ _ _ (by decide) ⟨false, false, false, false, false, false, false, s179, s180, s185, s186, s187, .slice (some ⟨gr, 0, none⟩) k cv, .slice (some ⟨gs, 0, none⟩) k cs, rfl, rfl, ?_⟩
  rotate_left 1
  · exact { fB := (Below.refl _ _).drew, f2 := fun h => (nomatch h), f3a := fun _ => ⟨H7.out.moved (fun _ _ _ => rfl), O7.out.moved (fun _ _ _ _ => rfl)⟩, f3b := fun h => (nomatch h), f8 := fun h => (nomatch h), f9 := fun h => (nomatch h), f10a := fun _ => owns_row_moved HW.out (fun _ _ _ _ => rfl), f10b := fun h => (nomatch h), f11 := fun h => (nomatch h), f12 := fun h => (nomatch h), fS := fun G C t h _ _ => h, o10 := fun h => (nomatch h), o9 := fun h => (nomatch h), o11 := fun h => (nomatch h), o12 := fun h => (nomatch h) }
  rintro listed a W ⟨b2, b3, b8, b9, b10, b11, b12, v179, v180, v185, v186, v187, v7, v8, rfl, rfl, X⟩
  constructor
  · intro hr
    have hr2 := (rdy29 b2 b3 b8 b9 b10 b11 b12).symm.trans hr
    clear hr
    cases b2 with | false => simp at hr2 | true =>
    cases b3 with | false => simp at hr2 | true =>
    cases b8 with | false => simp at hr2 | true =>
    cases b9 with | false => simp at hr2 | true =>
    cases b10 with | false => simp at hr2 | true =>
    cases b11 with | false => simp at hr2 | true =>
    cases b12 with | false => simp at hr2 | true =>
    obtain ⟨g', c', rfl, hC⟩ := X.f3b rfl
    obtain ⟨gs', cs', rfl, hW⟩ := X.f10b rfl
    obtain rfl := X.f11 rfl
    obtain rfl := X.f12 rfl
    exact HQ.out _ _ _ _ _ _ _ _ hC hW X.fB
  · intro i0 hi
    rw [rdy29] at hi
    simp only [List.mem_append, List.not_mem_nil, false_or] at hi
    have hmm : ∀ (c : Bool) (q : Nat), i0 ∈ (if c = true then [q] else []) → c = true ∧ i0 = q := fun c q h => by
      cases c
      · simp at h
      · simpa using h
    rcases hi with ((((((hi | hi) | hi) | hi) | hi) | hi) | hi) <;> obtain ⟨hc, rfl⟩ := hmm _ _ hi <;> clear hi hmm
    · have e_b2 : b2 = false := by cases b2 <;> simp_all
      subst e_b2
      have hBW := Nat.le_trans hBw X.fB.size
      refine wpOp_shut (o := { dst := some 179, op := Op.buildSlice 28 1 #[(0, Operand.tmp 178)], type := 28, pos := "law.go:69", after := #[{ on := 1, ground := Ground.data }], guard := none }) rfl (fun K hK => ?_)
      go_simp
      have kb := below_box W (.cells #[.slice a6 xi.length c6, .int .i64 (m : Int)] 35)
      have X2 : F29 w7 B k cv gr gs cs xs xi xL a6 c6 m true b3 b8 b9 b10 b11 b12 (.slice (some ⟨W.heap.size, 0, none⟩) 1 1) v180 v185 v186 v187 v7 v8 (W.alloc (.cells #[.slice a6 xi.length c6, .int .i64 (m : Int)] 35)) := { X.next kb hBW with f2 := fun _ _ => ⟨_, rfl, X.fB.size, heap_alloc_new W _⟩ }
      (try simp only [Act.put, List.setIfInBounds_toArray, List.set_cons_zero, List.set_cons_succ])
      exact hK.out _ _ ⟨HSf.out _ (X2.fS _ _ _ Q16.out hg1 hg2), true, b3, b8, b9, b10, b11, b12, _, v180, v185, v186, v187, v7, v8, rfl, rfl, X2⟩
    · have e_b3 : b3 = false := by cases b3 <;> simp_all
      have e_b2 : b2 = true := by cases b2 <;> simp_all
      subst e_b3 e_b2
      have hBW := Nat.le_trans hBw X.fB.size
      obtain ⟨G, rfl, hG1, hG2⟩ := X.f2 rfl rfl
      obtain ⟨hC, hO⟩ := X.f3a rfl
      have e10 : b10 = false := by cases b10 with | false => rfl | true => exact nomatch (X.o10 rfl).1
      subst e10
      obtain ⟨curr, hcurr⟩ : ∃ cur, W.heap[gr]? = some (.cells cur 35 (0, 0)) := by
        rcases hC.row.2 with ⟨e, _⟩ | ⟨g', cap, cur, e, _, hg, _⟩
        · cases e
        · simp at e
          rw [e.1]
          exact ⟨cur, hg⟩
      refine wpOp_list (o := { dst := some 180, op := Op.call { callee := Callee.builtin Builtin.append, args := #[Operand.tmp 177, Operand.tmp 179], argTypes := #[28, 28] }, type := 28, pos := "law.go:69", after := #[{ on := 0, ground := Ground.data }, { on := 2, ground := Ground.data }], guard := none }) rfl (fun Q' hK => ?_)
      refine wpList_pushC2 (k := ⟨a6, c6, xi, xL⟩) rfl (Operand.tmp 177) (Operand.tmp 179) rfl B k cv (some ⟨gr, 0, none⟩) xs (m : Int) (by show (xL.length : Int) = _; rw [HM.out]) rfl hC hO hBW G hG2 rfl (by omega) ?_
      intro g' c' w' hC' hk' hb'
      have kp : ∀ q, q < W.heap.size → q ≠ gr → w'.heap[q]? = W.heap[q]? := fun q hq hn => hk' q hq (by simp [Value.ownBlock]; exact fun e => hn e.symm)
      have X2 : F29 w7 B k cv gr gs cs xs xi xL a6 c6 m true true b8 b9 false b11 b12 (.slice (some ⟨G, 0, none⟩) 1 1) (.slice (some ⟨g', 0, none⟩) (k + 1) c') v185 v186 v187 v7 v8 w' :=
        { X with
          fB := X.fB.trans hb'
          f2 := fun _ h => (nomatch h)
          f3a := fun h => (nomatch h)
          f3b := fun _ => ⟨g', c', rfl, hC'⟩
          f9 := fun h1 h2 => by
            obtain ⟨G2, e1, e2, e3⟩ := X.f9 h1 h2
            refine ⟨G2, e1, e2, (kp G2 (lt_of_heap e3) (fun e => ?_)).trans e3⟩
            rw [e, hcurr] at e3
            injection e3 with q
            injection q with _ q
            cases q
          f10a := fun h1 => (X.f10a h1).far hcurr kp
          f10b := fun h => (nomatch h)
          fS := fun G C t e1 e2 e3 => (kp G (lt_of_heap (X.fS G C t e1 e2 e3)) e2).trans (X.fS G C t e1 e2 e3)
          o10 := fun h => (nomatch h)
          f11 := fun h => by have := X.o11 h; exact (nomatch this)
          o11 := fun _ => rfl }
      (try simp only [Act.put, List.setIfInBounds_toArray, List.set_cons_zero, List.set_cons_succ])
      exact hK _ _ ⟨HSf.out _ (X2.fS _ _ _ Q16.out hg1 hg2), true, true, b8, b9, false, b11, b12, _, _, v185, v186, v187, v7, v8, rfl, rfl, X2⟩
    · have e_b8 : b8 = false := by cases b8 <;> simp_all
      subst e_b8
      have hBW := Nat.le_trans hBw X.fB.size
      have hW := X.f10a (by cases b10 with | false => rfl | true => have := (X.o10 rfl).2; exact nomatch (X.o9 this))
      obtain ⟨g', e1, _, _, hcell, _⟩ := hW.get HX.out
      simp at e1
      subst e1
      refine wpOp_shut (o := { dst := some 185, op := Op.load 9 (Operand.tmp 184), type := 9, pos := "law.go:69", after := #[{ on := 7, ground := Ground.data }], guard := none }) rfl (fun K hK => ?_)
      go_simp
      have X2 : F29 w7 B k cv gr gs cs xs xi xL a6 c6 m b2 b3 true b9 b10 b11 b12 v179 v180 (.string (strOf xL)) v186 v187 v7 v8 W := { X with f8 := fun _ => rfl, o9 := fun _ => rfl }
      (try simp only [Act.put, List.setIfInBounds_toArray, List.set_cons_zero, List.set_cons_succ])
      exact hK.out _ _ ⟨HSf.out _ (X2.fS _ _ _ Q16.out hg1 hg2), b2, b3, true, b9, b10, b11, b12, v179, v180, _, v186, v187, v7, v8, rfl, rfl, X2⟩
    · have e_b9 : b9 = false := by cases b9 <;> simp_all
      have e_b8 : b8 = true := by cases b8 <;> simp_all
      subst e_b9 e_b8
      have hBW := Nat.le_trans hBw X.fB.size
      obtain rfl := X.f8 rfl
      refine wpOp_shut (o := { dst := some 186, op := Op.buildSlice 29 1 #[(0, Operand.tmp 185)], type := 29, pos := "law.go:69", after := #[{ on := 8, ground := Ground.data }], guard := none }) rfl (fun K hK => ?_)
      go_simp
      have kb := below_box W (.cells #[.string (strOf xL)] 9)
      have X2 : F29 w7 B k cv gr gs cs xs xi xL a6 c6 m b2 b3 true true b10 b11 b12 v179 v180 (.string (strOf xL)) (.slice (some ⟨W.heap.size, 0, none⟩) 1 1) v187 v7 v8 (W.alloc (.cells #[.string (strOf xL)] 9)) := { X.next kb hBW with f9 := fun _ _ => ⟨_, rfl, X.fB.size, heap_alloc_new W _⟩, o9 := fun _ => rfl, o10 := fun h => ⟨(X.o10 h).1, rfl⟩ }
      (try simp only [Act.put, List.setIfInBounds_toArray, List.set_cons_zero, List.set_cons_succ])
      exact hK.out _ _ ⟨HSf.out _ (X2.fS _ _ _ Q16.out hg1 hg2), b2, b3, true, true, b10, b11, b12, v179, v180, _, _, v187, v7, v8, rfl, rfl, X2⟩
    · have e_b10 : b10 = false := by cases b10 <;> simp_all
      have e_b9 : b9 = true := by cases b9 <;> simp_all
      have e_b3 : b3 = true := by cases b3 <;> simp_all
      subst e_b10 e_b9 e_b3
      have hBW := Nat.le_trans hBw X.fB.size
      obtain ⟨G, rfl, hG1, hG2⟩ := X.f9 rfl rfl
      have hW := X.f10a rfl
      obtain ⟨g9, c9, rfl, hC9⟩ := X.f3b rfl
      obtain ⟨gq, e1, _, _, _, _, curs, hcurs⟩ := hW.get HX.out
      simp at e1
      subst e1
      refine wpOp_list (o := { dst := some 187, op := Op.call { callee := Callee.builtin Builtin.append, args := #[Operand.tmp 181, Operand.tmp 186], argTypes := #[29, 29] }, type := 29, pos := "law.go:69", after := #[{ on := 4, ground := Ground.data }, { on := 9, ground := Ground.data }, { on := 3, ground := Ground.chain }], guard := none }) rfl (fun Q' hK => ?_)
      refine wpList_pushW (k := ⟨a6, c6, xi, xL⟩) rfl (Operand.tmp 181) (Operand.tmp 186) rfl B k cs (some ⟨gs, 0, none⟩) xs rfl hW hBW G hG2 rfl (by omega) ?_
      intro g' c' w' hW' hk' hb'
      have kp : ∀ q, q < W.heap.size → q ≠ gs → w'.heap[q]? = W.heap[q]? := fun q hq hn => hk' q hq (by simp [Value.ownBlock]; exact fun e => hn e.symm)
      have X2 : F29 w7 B k cv gr gs cs xs xi xL a6 c6 m b2 true b8 true true b11 b12 v179 (.slice (some ⟨g9, 0, none⟩) (k + 1) c9) v185 (.slice (some ⟨G, 0, none⟩) 1 1) (.slice (some ⟨g', 0, none⟩) (k + 1) c') v7 v8 w' :=
        { X with
          fB := X.fB.trans hb'
          f2 := fun _ h => (nomatch h)
          f3a := fun h => (nomatch h)
          f3b := fun _ => ⟨g9, c9, rfl, hC9.far hcurs kp⟩
          f9 := fun _ h => (nomatch h)
          f10a := fun h => (nomatch h)
          f10b := fun _ => ⟨g', c', rfl, hW'⟩
          fS := fun G C t e1 e2 e3 => (kp G (lt_of_heap (X.fS G C t e1 e2 e3)) e3).trans (X.fS G C t e1 e2 e3)
          o10 := fun _ => ⟨rfl, rfl⟩
          f12 := fun h => by have := X.o12 h; exact (nomatch this)
          o12 := fun _ => rfl }
      (try simp only [Act.put, List.setIfInBounds_toArray, List.set_cons_zero, List.set_cons_succ])
      exact hK _ _ ⟨HSf.out _ (X2.fS _ _ _ Q16.out hg1 hg2), b2, true, b8, true, true, b11, b12, v179, _, v185, _, _, v7, v8, rfl, rfl, X2⟩
    · have e_b11 : b11 = false := by cases b11 <;> simp_all
      have e_b3 : b3 = true := by cases b3 <;> simp_all
      have e_b10 : b10 = true := by cases b10 <;> simp_all
      have e_b2 : b2 = true := by cases b2 <;> simp_all
      subst e_b11 e_b3 e_b10 e_b2
      have hBW := Nat.le_trans hBw X.fB.size
      refine wpOp_shut (o := { dst := some 7, op := Op.assign (Operand.tmp 180), type := 28, pos := "law.go:69", after := #[{ on := 3, ground := Ground.data }, { on := 10, ground := Ground.chain }, { on := 0, ground := Ground.phase }, { on := 1, ground := Ground.phase }, { on := 2, ground := Ground.phase }, { on := 3, ground := Ground.phase }, { on := 4, ground := Ground.textOnly Departure.lateStores }, { on := 5, ground := Ground.textOnly Departure.lateStores }, { on := 6, ground := Ground.textOnly Departure.lateStores }, { on := 7, ground := Ground.textOnly Departure.lateStores }, { on := 8, ground := Ground.textOnly Departure.lateStores }, { on := 9, ground := Ground.textOnly Departure.lateStores }, { on := 10, ground := Ground.textOnly Departure.lateStoresUnsure }], guard := none }) rfl (fun K hK => ?_)
      go_simp
      have X2 : F29 w7 B k cv gr gs cs xs xi xL a6 c6 m true true b8 b9 true true b12 v179 v180 v185 v186 v187 v180 v8 W := { X with f11 := fun _ => rfl, o11 := fun _ => rfl }
      (try simp only [Act.put, List.setIfInBounds_toArray, List.set_cons_zero, List.set_cons_succ])
      exact hK.out _ _ ⟨HSf.out _ (X2.fS _ _ _ Q16.out hg1 hg2), true, true, b8, b9, true, true, b12, v179, v180, v185, v186, v187, _, v8, rfl, rfl, X2⟩
    · have e_b12 : b12 = false := by cases b12 <;> simp_all
      have e_b10 : b10 = true := by cases b10 <;> simp_all
      have e_b11 : b11 = true := by cases b11 <;> simp_all
      have e_b2 : b2 = true := by cases b2 <;> simp_all
      have e_b3 : b3 = true := by cases b3 <;> simp_all
      have e_b8 : b8 = true := by cases b8 <;> simp_all
      have e_b9 : b9 = true := by cases b9 <;> simp_all
      subst e_b12 e_b10 e_b11 e_b2 e_b3 e_b8 e_b9
      have hBW := Nat.le_trans hBw X.fB.size
      refine wpOp_shut (o := { dst := some 8, op := Op.assign (Operand.tmp 187), type := 29, pos := "law.go:69", after := #[{ on := 10, ground := Ground.data }, { on := 11, ground := Ground.chain }, { on := 0, ground := Ground.phase }, { on := 1, ground := Ground.phase }, { on := 2, ground := Ground.phase }, { on := 3, ground := Ground.phase }, { on := 4, ground := Ground.phase }, { on := 5, ground := Ground.phase }, { on := 6, ground := Ground.phase }, { on := 7, ground := Ground.phase }, { on := 8, ground := Ground.phase }, { on := 9, ground := Ground.phase }, { on := 10, ground := Ground.phase }, { on := 11, ground := Ground.phase }], guard := none }) rfl (fun K hK => ?_)
      go_simp
      have X2 : F29 w7 B k cv gr gs cs xs xi xL a6 c6 m true true true true true true true v179 v180 v185 v186 v187 v7 v187 W := { X with f12 := fun _ => rfl, o12 := fun _ => rfl }
      (try simp only [Act.put, List.setIfInBounds_toArray, List.set_cons_zero, List.set_cons_succ])
      exact hK.out _ _ ⟨HSf.out _ (X2.fS _ _ _ Q16.out hg1 hg2), true, true, true, true, true, true, true, v179, v180, v185, v186, v187, v7, _, rfl, rfl, X2⟩

end Go.Proofs.Ytpjfhfbjdcgbjab
