/-
  ExtentPlays: where bytes are put to a content, its first drawn region.
-/
import Derived.Test.YtpjfhfbjdcgbjabE3
import Derived.Deep.RegionHeld3
namespace Go.Proofs.Ytpjfhfbjdcgbjab
open Go.RowKit
set_option linter.unusedVariables false
set_option linter.unusedSimpArgs false

def ops19 : Array Oper := #[{ dst := some 83, op := Op.move (Operand.tmp 5), type := 24, pos := "law.go:56", after := #[], guard := none },
  { dst := some 84, op := Op.move (Operand.tmp 7), type := 28, pos := "law.go:56", after := #[], guard := none },
  { dst := some 85, op := Op.move (Operand.tmp 11), type := 3, pos := "law.go:56", after := #[], guard := none },
  { dst := some 86, op := Op.indexAddr 28 (Operand.tmp 84) (Operand.tmp 85), type := 0, pos := "law.go:56", after := #[{ on := 1, ground := Ground.data }, { on := 2, ground := Ground.data }], guard := none },
  { dst := some 87, op := Op.load 35 (Operand.tmp 86), type := 35, pos := "law.go:56", after := #[{ on := 3, ground := Ground.data }], guard := none },
  { dst := some 88, op := Op.fieldAddr 32 (Operand.tmp 10) 4, type := 0, pos := "law.go:56", after := #[], guard := none },
  { dst := some 89, op := Op.load 30 (Operand.tmp 88), type := 30, pos := "law.go:56", after := #[{ on := 5, ground := Ground.data }], guard := none },
  { dst := some 90, op := Op.call { callee := Callee.value (Operand.func 12), args := #[Operand.tmp 83, Operand.tmp 87, Operand.tmp 89], argTypes := #[24, 35, 30] }, type := 37, pos := "law.go:56", after := #[{ on := 0, ground := Ground.data }, { on := 4, ground := Ground.data }, { on := 6, ground := Ground.data }], guard := none },
  { dst := some 82, op := Op.move (Operand.tmp 90), type := 37, pos := "law.go:56", after := #[{ on := 7, ground := Ground.data }], guard := none },
  { dst := some 91, op := Op.extract (Operand.tmp 82) 0, type := 35, pos := "law.go:56", after := #[{ on := 8, ground := Ground.data }], guard := none },
  { dst := some 92, op := Op.extract (Operand.tmp 82) 1, type := 25, pos := "law.go:56", after := #[{ on := 8, ground := Ground.data }, { on := 12, ground := Ground.gcOnly Departure.lateStores }], guard := none },
  { dst := some 13, op := Op.alloc 35, type := 0, pos := "law.go:56", after := #[], guard := none },
  { dst := none, op := Op.store 35 (Operand.tmp 13) (Operand.tmp 91), type := 0, pos := "law.go:56", after := #[{ on := 11, ground := Ground.data }, { on := 9, ground := Ground.data }, { on := 7, ground := Ground.chain }, { on := 0, ground := Ground.phase }, { on := 1, ground := Ground.phase }, { on := 2, ground := Ground.phase }, { on := 3, ground := Ground.phase }, { on := 4, ground := Ground.phase }, { on := 5, ground := Ground.phase }, { on := 6, ground := Ground.phase }, { on := 7, ground := Ground.phase }, { on := 8, ground := Ground.phase }, { on := 9, ground := Ground.phase }, { on := 10, ground := Ground.textOnly Departure.lateStores }, { on := 11, ground := Ground.phase }], guard := none },
  { dst := some 14, op := Op.assign (Operand.tmp 92), type := 25, pos := "law.go:56", after := #[{ on := 10, ground := Ground.data }, { on := 12, ground := Ground.chain }, { on := 0, ground := Ground.phase }, { on := 1, ground := Ground.phase }, { on := 2, ground := Ground.phase }, { on := 3, ground := Ground.phase }, { on := 4, ground := Ground.phase }, { on := 5, ground := Ground.phase }, { on := 6, ground := Ground.phase }, { on := 7, ground := Ground.phase }, { on := 8, ground := Ground.phase }, { on := 9, ground := Ground.phase }, { on := 10, ground := Ground.phase }, { on := 11, ground := Ground.phase }, { on := 12, ground := Ground.phase }], guard := none }]

set_option maxRecDepth 100000 in
theorem rdy19 : ∀ b7 b8 b9 b10 b11 b12 b13 : Bool, Region.ready .any ops19 #[true, true, true, true, true, true, true, b7, b8, b9, b10, b11, b12, b13] = ([] : List Nat) ++ (if !b7 then [7] else []) ++ (if !b8 && b7 then [8] else []) ++ (if !b9 && b8 then [9] else []) ++ (if !b10 && b8 then [10] else []) ++ (if !b11 then [11] else []) ++ (if !b12 && b11 && b9 && b7 && b8 then [12] else []) ++ (if !b13 && b10 && b12 && b7 && b8 && b9 && b11 then [13] else []) := by
  decide +kernel

structure F19 (w5 : World) (p S F : Nat) (code : Int) (PR : World → Option Addr → Nat → Nat → Int → Prop) (b7 b8 b9 b10 b11 b12 b13 : Bool) (v90 v82 v91 v92 v13 v14 : Value) (W : World) : Prop where
  fK : Keeps p S F w5 W
  fB : b7 = false → Below w5.heap.size w5 W
  f7 : b7 = true → ∃ a' n' c' z, v90 = .tuple #[.agg #[.slice a' n' c', .int .i64 z], .int .i64 code] ∧ PR W a' n' c' z
  f8 : b8 = true → v82 = v90
  f9 : b9 = true → ∀ x y, v90 = .tuple #[x, y] → v91 = x
  f10 : b10 = true → ∀ x y, v90 = .tuple #[x, y] → v92 = y
  f11 : b11 = true → ∃ g C, v13 = .pointer (some ⟨g, 0, none⟩) ∧ w5.heap.size ≤ g ∧ W.heap[g]? = some (.cells C 35 (0, 0)) ∧ C.size = 2 ∧ (b12 = true → v91 = .agg C)
  f13 : b13 = true → v14 = v92
  o8 : b8 = true → b7 = true
  o9 : b9 = true → b8 = true
  o10 : b10 = true → b8 = true
  o12 : b12 = true → b9 = true ∧ b11 = true
  o13 : b13 = true → b10 = true

set_option maxRecDepth 100000 in
set_option maxHeartbeats 8000000 in
theorem reg19 (w5 : World) (p S F k cv gr g10 i m : Nat) (xa : Option Addr) (xn xc : Nat) (da : Option Addr) (dl dc : Nat) (code : Int) (PR : World → Option Addr → Nat → Nat → Int → Prop) (s0 s1 s2 s3 s4 s6 s8 s9 s12 s13 s14 s15 s16 s17 s18 s19 s20 s21 s22 s23 s24 s25 s26 s27 s28 s29 s30 s31 s32 s33 s34 s35 s36 s37 s38 s39 s40 s41 s42 s43 s44 s45 s46 s47 s48 s49 s50 s51 s52 s53 s54 s55 s56 s57 s58 s59 s60 s61 s62 s63 s64 s65 s66 s67 s68 s69 s70 s71 s72 s73 s74 s75 s76 s77 s78 s79 s80 s81 s82 s83 s84 s85 s86 s87 s88 s89 s90 s91 s92 s93 s94 s95 s96 s97 s98 s99 s100 s101 s102 s103 s104 s105 s106 s107 s108 s109 s110 s111 s112 s113 s114 s115 s116 s117 s118 s119 s120 s121 s122 s123 s124 s125 s126 s127 s128 s129 s130 s131 s132 s133 s134 s135 s136 s137 s138 s139 s140 s141 s142 s143 s144 s145 s146 s147 s148 s149 s150 s151 s152 s153 s154 s155 s156 s157 s158 s159 s160 s161 s162 s163 s164 s165 s166 s167 s168 s169 s170 s171 s172 s173 s174 s175 s176 s177 s178 s179 s180 s181 s182 s183 s184 s185 s186 s187 s188 s189 s190 s191 s192 s193 s194 s195 s196 s197 s198 s199 s200 s201 s202 s203 s204 s205 s206 s207 s208 s209 s210 s211 s212 s213 s214 s215 s216 s217 s218 s219 s220 s221 s222 s223 s224 s225 s226 s227 s228 s229 s230 s231 s232 s233 s234 s235 s236 s237 s238 s239 s240 s241 s242 s243 s244 s245 s246 s247 s248 s249 s250 s251 s252 s253 s254 s255 s256 s257 s258 s259 s260 s261 s262 s263 s264 s265 s266 s267 s268 s269 s270 s271 s272 s273 s274 s275 s276 s277 s278 s279 s280 s281 s282 s283 s284 s285 s286 s287 s288 s289 s290 s291 s292 s293 s294 s295 s296 s297 s298 s299 s300 s301 s302 s303 s304 s305 s306 s307 s308 s309 s310 s311 s312 s313 s314 s315 s316 s317 s318 s319 s320 s321 s322 s323 s324 s325 s326 s327 s328 s329 s330 s331 s332 s333 s334 s335 s336 s337 s338 s339 s340 s341 s342 s343 s344 s345 s346 s347 s348 s349 s350 s351 s352 s353 s354 s355 : Value) (Q : Exit → Act → World → Prop)
    (hik : i < k) (hk60 : k ≤ 60) (lp : p < w5.heap.size) (lS : S < w5.heap.size) (lF : F < w5.heap.size)
    (HS : Hid (∀ W, Keeps p S F w5 W → W.cell? ⟨gr, i * 2, none⟩ = some (.slice xa xn xc) ∧ W.cell? ⟨gr, i * 2 + 1, none⟩ = some (.int .i64 (m : Int)) ∧ W.cell? ⟨g10, 4, none⟩ = some (.slice da dl dc)))
    (KA : Hid (∀ W, Below w5.heap.size w5 W → Calls Try.prog 12 #[.pointer (some ⟨p, 0, none⟩), .agg #[.slice xa xn xc, .int .i64 (m : Int)], .slice da dl dc] W fun e w' => ∃ a' n' c' z, e = .returned (.tuple #[.agg #[.slice a' n' c', .int .i64 z], .int .i64 code]) ∧ PR w' a' n' c' z ∧ Keeps p S F W w'))
    (PRg : Hid (∀ W W' a' n' c' z, PR W a' n' c' z → Below W.heap.size W W' → PR W' a' n' c' z))
    (PRs : Hid (∀ W g C D a' n' c' z, PR W a' n' c' z → W.heap[g]? = some (.cells C 35 (0, 0)) → w5.heap.size ≤ g → PR (W.setRow g D) a' n' c' z))
    (HP : Hid (∀ c a (d : Nat) v w, Q (.panic c) (Act.put a (some d) v) w → Q (.panic c) a w))
    (hQ : ∀ v90 v82 v91 g a' n' c' z W, PR W a' n' c' z → Keeps p S F w5 W → W.heap[g]? = some (.cells #[.slice a' n' c', .int .i64 z] 35 (0, 0)) → w5.heap.size ≤ g → Q .normal { tmps := #[s0, s1, s2, s3, s4, .pointer (some ⟨p, 0, none⟩), s6, .slice (some ⟨gr, 0, none⟩) k cv, s8, s9, .pointer (some ⟨g10, 0, none⟩), .int .i64 (i : Int), s12, (.pointer (some ⟨g, 0, none⟩)), (.int .i64 code), s15, s16, s17, s18, s19, s20, s21, s22, s23, s24, s25, s26, s27, s28, s29, s30, s31, s32, s33, s34, s35, s36, s37, s38, s39, s40, s41, s42, s43, s44, s45, s46, s47, s48, s49, s50, s51, s52, s53, s54, s55, s56, s57, s58, s59, s60, s61, s62, s63, s64, s65, s66, s67, s68, s69, s70, s71, s72, s73, s74, s75, s76, s77, s78, s79, s80, s81, v82, .pointer (some ⟨p, 0, none⟩), .slice (some ⟨gr, 0, none⟩) k cv, .int .i64 (i : Int), .pointer (some ⟨gr, i * 2, none⟩), .agg #[.slice xa xn xc, .int .i64 (m : Int)], .pointer (some ⟨g10, 4, none⟩), .slice da dl dc, v90, v91, (.int .i64 code), s93, s94, s95, s96, s97, s98, s99, s100, s101, s102, s103, s104, s105, s106, s107, s108, s109, s110, s111, s112, s113, s114, s115, s116, s117, s118, s119, s120, s121, s122, s123, s124, s125, s126, s127, s128, s129, s130, s131, s132, s133, s134, s135, s136, s137, s138, s139, s140, s141, s142, s143, s144, s145, s146, s147, s148, s149, s150, s151, s152, s153, s154, s155, s156, s157, s158, s159, s160, s161, s162, s163, s164, s165, s166, s167, s168, s169, s170, s171, s172, s173, s174, s175, s176, s177, s178, s179, s180, s181, s182, s183, s184, s185, s186, s187, s188, s189, s190, s191, s192, s193, s194, s195, s196, s197, s198, s199, s200, s201, s202, s203, s204, s205, s206, s207, s208, s209, s210, s211, s212, s213, s214, s215, s216, s217, s218, s219, s220, s221, s222, s223, s224, s225, s226, s227, s228, s229, s230, s231, s232, s233, s234, s235, s236, s237, s238, s239, s240, s241, s242, s243, s244, s245, s246, s247, s248, s249, s250, s251, s252, s253, s254, s255, s256, s257, s258, s259, s260, s261, s262, s263, s264, s265, s266, s267, s268, s269, s270, s271, s272, s273, s274, s275, s276, s277, s278, s279, s280, s281, s282, s283, s284, s285, s286, s287, s288, s289, s290, s291, s292, s293, s294, s295, s296, s297, s298, s299, s300, s301, s302, s303, s304, s305, s306, s307, s308, s309, s310, s311, s312, s313, s314, s315, s316, s317, s318, s319, s320, s321, s322, s323, s324, s325, s326, s327, s328, s329, s330, s331, s332, s333, s334, s335, s336, s337, s338, s339, s340, s341, s342, s343, s344, s345, s346, s347, s348, s349, s350, s351, s352, s353, s354, s355], defers := [] } W) :
    (Code.region 19 ops19 true).wp Try.prog Q { tmps := #[s0, s1, s2, s3, s4, .pointer (some ⟨p, 0, none⟩), s6, .slice (some ⟨gr, 0, none⟩) k cv, s8, s9, .pointer (some ⟨g10, 0, none⟩), .int .i64 (i : Int), s12, s13, s14, s15, s16, s17, s18, s19, s20, s21, s22, s23, s24, s25, s26, s27, s28, s29, s30, s31, s32, s33, s34, s35, s36, s37, s38, s39, s40, s41, s42, s43, s44, s45, s46, s47, s48, s49, s50, s51, s52, s53, s54, s55, s56, s57, s58, s59, s60, s61, s62, s63, s64, s65, s66, s67, s68, s69, s70, s71, s72, s73, s74, s75, s76, s77, s78, s79, s80, s81, s82, s83, s84, s85, s86, s87, s88, s89, s90, s91, s92, s93, s94, s95, s96, s97, s98, s99, s100, s101, s102, s103, s104, s105, s106, s107, s108, s109, s110, s111, s112, s113, s114, s115, s116, s117, s118, s119, s120, s121, s122, s123, s124, s125, s126, s127, s128, s129, s130, s131, s132, s133, s134, s135, s136, s137, s138, s139, s140, s141, s142, s143, s144, s145, s146, s147, s148, s149, s150, s151, s152, s153, s154, s155, s156, s157, s158, s159, s160, s161, s162, s163, s164, s165, s166, s167, s168, s169, s170, s171, s172, s173, s174, s175, s176, s177, s178, s179, s180, s181, s182, s183, s184, s185, s186, s187, s188, s189, s190, s191, s192, s193, s194, s195, s196, s197, s198, s199, s200, s201, s202, s203, s204, s205, s206, s207, s208, s209, s210, s211, s212, s213, s214, s215, s216, s217, s218, s219, s220, s221, s222, s223, s224, s225, s226, s227, s228, s229, s230, s231, s232, s233, s234, s235, s236, s237, s238, s239, s240, s241, s242, s243, s244, s245, s246, s247, s248, s249, s250, s251, s252, s253, s254, s255, s256, s257, s258, s259, s260, s261, s262, s263, s264, s265, s266, s267, s268, s269, s270, s271, s272, s273, s274, s275, s276, s277, s278, s279, s280, s281, s282, s283, s284, s285, s286, s287, s288, s289, s290, s291, s292, s293, s294, s295, s296, s297, s298, s299, s300, s301, s302, s303, s304, s305, s306, s307, s308, s309, s310, s311, s312, s313, s314, s315, s316, s317, s318, s319, s320, s321, s322, s323, s324, s325, s326, s327, s328, s329, s330, s331, s332, s333, s334, s335, s336, s337, s338, s339, s340, s341, s342, s343, s344, s345, s346, s347, s348, s349, s350, s351, s352, s353, s354, s355], defers := [] } w5 := by
  have HQ : Hid (∀ v90 v82 v91 g a' n' c' z W, PR W a' n' c' z → Keeps p S F w5 W → W.heap[g]? = some (.cells #[.slice a' n' c', .int .i64 z] 35 (0, 0)) → w5.heap.size ≤ g → Q .normal { tmps := #[s0, s1, s2, s3, s4, .pointer (some ⟨p, 0, none⟩), s6, .slice (some ⟨gr, 0, none⟩) k cv, s8, s9, .pointer (some ⟨g10, 0, none⟩), .int .i64 (i : Int), s12, (.pointer (some ⟨g, 0, none⟩)), (.int .i64 code), s15, s16, s17, s18, s19, s20, s21, s22, s23, s24, s25, s26, s27, s28, s29, s30, s31, s32, s33, s34, s35, s36, s37, s38, s39, s40, s41, s42, s43, s44, s45, s46, s47, s48, s49, s50, s51, s52, s53, s54, s55, s56, s57, s58, s59, s60, s61, s62, s63, s64, s65, s66, s67, s68, s69, s70, s71, s72, s73, s74, s75, s76, s77, s78, s79, s80, s81, v82, .pointer (some ⟨p, 0, none⟩), .slice (some ⟨gr, 0, none⟩) k cv, .int .i64 (i : Int), .pointer (some ⟨gr, i * 2, none⟩), .agg #[.slice xa xn xc, .int .i64 (m : Int)], .pointer (some ⟨g10, 4, none⟩), .slice da dl dc, v90, v91, (.int .i64 code), s93, s94, s95, s96, s97, s98, s99, s100, s101, s102, s103, s104, s105, s106, s107, s108, s109, s110, s111, s112, s113, s114, s115, s116, s117, s118, s119, s120, s121, s122, s123, s124, s125, s126, s127, s128, s129, s130, s131, s132, s133, s134, s135, s136, s137, s138, s139, s140, s141, s142, s143, s144, s145, s146, s147, s148, s149, s150, s151, s152, s153, s154, s155, s156, s157, s158, s159, s160, s161, s162, s163, s164, s165, s166, s167, s168, s169, s170, s171, s172, s173, s174, s175, s176, s177, s178, s179, s180, s181, s182, s183, s184, s185, s186, s187, s188, s189, s190, s191, s192, s193, s194, s195, s196, s197, s198, s199, s200, s201, s202, s203, s204, s205, s206, s207, s208, s209, s210, s211, s212, s213, s214, s215, s216, s217, s218, s219, s220, s221, s222, s223, s224, s225, s226, s227, s228, s229, s230, s231, s232, s233, s234, s235, s236, s237, s238, s239, s240, s241, s242, s243, s244, s245, s246, s247, s248, s249, s250, s251, s252, s253, s254, s255, s256, s257, s258, s259, s260, s261, s262, s263, s264, s265, s266, s267, s268, s269, s270, s271, s272, s273, s274, s275, s276, s277, s278, s279, s280, s281, s282, s283, s284, s285, s286, s287, s288, s289, s290, s291, s292, s293, s294, s295, s296, s297, s298, s299, s300, s301, s302, s303, s304, s305, s306, s307, s308, s309, s310, s311, s312, s313, s314, s315, s316, s317, s318, s319, s320, s321, s322, s323, s324, s325, s326, s327, s328, s329, s330, s331, s332, s333, s334, s335, s336, s337, s338, s339, s340, s341, s342, s343, s344, s345, s346, s347, s348, s349, s350, s351, s352, s353, s354, s355], defers := [] } W) := hQ
  clear hQ
  have hi0 : (0 : Int) ≤ (i : Int) := by omega
  have hik2 : (i : Int) < (k : Int) := by omega
  have h0 := HS.out _ (Keeps.refl p S F w5).drew
  refine wp_region_held_drew (S := fun W : World => W.cell? ⟨gr, i * 2, none⟩ = some (.slice xa xn xc) ∧ W.cell? ⟨gr, i * 2 + 1, none⟩ = some (.int .i64 (m : Int)) ∧ W.cell? ⟨g10, 4, none⟩ = some (.slice da dl dc)) (by kernel_rfl) h0 (fun hHeld => ?_)
  refine wpAnyH_take (i := 0) (oi := { dst := some 83, op := Op.move (Operand.tmp 5), type := 24, pos := "law.go:56", after := #[], guard := none }) (v := ?_) rfl (by kernel_rfl) (by kernel_rfl) (by kernel_rfl) (fun c a w h => HP.out _ _ _ _ _ h) (Or.inl ⟨by rfl, ?_⟩) (by assumption) ?_
  rotate_left 1
  · (intro W hSw; obtain ⟨hSw0, hSw1, hSw2⟩ := hSw; go_simp; try with_reducible rfl)
  (try simp only [Act.put, List.setIfInBounds_toArray, List.set_cons_zero, List.set_cons_succ])
  refine wpAnyH_take (i := 1) (oi := { dst := some 84, op := Op.move (Operand.tmp 7), type := 28, pos := "law.go:56", after := #[], guard := none }) (v := ?_) rfl (by kernel_rfl) (by kernel_rfl) (by kernel_rfl) (fun c a w h => HP.out _ _ _ _ _ h) (Or.inl ⟨by rfl, ?_⟩) (by assumption) ?_
  rotate_left 1
  · (intro W hSw; obtain ⟨hSw0, hSw1, hSw2⟩ := hSw; go_simp; try with_reducible rfl)
  (try simp only [Act.put, List.setIfInBounds_toArray, List.set_cons_zero, List.set_cons_succ])
  refine wpAnyH_take (i := 2) (oi := { dst := some 85, op := Op.move (Operand.tmp 11), type := 3, pos := "law.go:56", after := #[], guard := none }) (v := ?_) rfl (by kernel_rfl) (by kernel_rfl) (by kernel_rfl) (fun c a w h => HP.out _ _ _ _ _ h) (Or.inl ⟨by rfl, ?_⟩) (by assumption) ?_
  rotate_left 1
  · (intro W hSw; obtain ⟨hSw0, hSw1, hSw2⟩ := hSw; go_simp; try with_reducible rfl)
  (try simp only [Act.put, List.setIfInBounds_toArray, List.set_cons_zero, List.set_cons_succ])
  refine wpAnyH_take (i := 3) (oi := { dst := some 86, op := Op.indexAddr 28 (Operand.tmp 84) (Operand.tmp 85), type := 0, pos := "law.go:56", after := #[{ on := 1, ground := Ground.data }, { on := 2, ground := Ground.data }], guard := none }) (v := ?_) rfl (by kernel_rfl) (by kernel_rfl) (by kernel_rfl) (fun c a w h => HP.out _ _ _ _ _ h) (Or.inl ⟨by rfl, ?_⟩) (by assumption) ?_
  rotate_left 1
  · (intro W hSw; obtain ⟨hSw0, hSw1, hSw2⟩ := hSw; go_simp; try with_reducible rfl)
  (try simp only [Act.put, List.setIfInBounds_toArray, List.set_cons_zero, List.set_cons_succ])
  refine wpAnyH_take (i := 4) (oi := { dst := some 87, op := Op.load 35 (Operand.tmp 86), type := 35, pos := "law.go:56", after := #[{ on := 3, ground := Ground.data }], guard := none }) (v := ?_) rfl (by kernel_rfl) (by kernel_rfl) (by kernel_rfl) (fun c a w h => HP.out _ _ _ _ _ h) (Or.inl ⟨by rfl, ?_⟩) (by assumption) ?_
  rotate_left 1
  · (intro W hSw; obtain ⟨hSw0, hSw1, hSw2⟩ := hSw; go_simp; try with_reducible rfl)
  (try simp only [Act.put, List.setIfInBounds_toArray, List.set_cons_zero, List.set_cons_succ])
  refine wpAnyH_take (i := 5) (oi := { dst := some 88, op := Op.fieldAddr 32 (Operand.tmp 10) 4, type := 0, pos := "law.go:56", after := #[], guard := none }) (v := ?_) rfl (by kernel_rfl) (by kernel_rfl) (by kernel_rfl) (fun c a w h => HP.out _ _ _ _ _ h) (Or.inl ⟨by rfl, ?_⟩) (by assumption) ?_
  rotate_left 1
  · (intro W hSw; obtain ⟨hSw0, hSw1, hSw2⟩ := hSw; go_simp; try with_reducible rfl)
  (try simp only [Act.put, List.setIfInBounds_toArray, List.set_cons_zero, List.set_cons_succ])
  refine wpAnyH_take (i := 6) (oi := { dst := some 89, op := Op.load 30 (Operand.tmp 88), type := 30, pos := "law.go:56", after := #[{ on := 5, ground := Ground.data }], guard := none }) (v := ?_) rfl (by kernel_rfl) (by kernel_rfl) (by kernel_rfl) (fun c a w h => HP.out _ _ _ _ _ h) (Or.inl ⟨by rfl, ?_⟩) (by assumption) ?_
  rotate_left 1
  · (intro W hSw; obtain ⟨hSw0, hSw1, hSw2⟩ := hSw; go_simp; try with_reducible rfl)
  (try simp only [Act.put, List.setIfInBounds_toArray, List.set_cons_zero, List.set_cons_succ])
  refine wpAnyH_inv (fun listed a W => ∃ (b7 b8 b9 b10 b11 b12 b13 : Bool) (v90 v82 v91 v92 v13 v14 : Value), listed = #[true, true, true, true, true, true, true, b7, b8, b9, b10, b11, b12, b13] ∧ a = { tmps := #[s0, s1, s2, s3, s4, .pointer (some ⟨p, 0, none⟩), s6, .slice (some ⟨gr, 0, none⟩) k cv, s8, s9, .pointer (some ⟨g10, 0, none⟩), .int .i64 (i : Int), s12, v13, v14, s15, s16, s17, s18, s19, s20, s21, s22, s23, s24, s25, s26, s27, s28, s29, s30, s31, s32, s33, s34, s35, s36, s37, s38, s39, s40, s41, s42, s43, s44, s45, s46, s47, s48, s49, s50, s51, s52, s53, s54, s55, s56, s57, s58, s59, s60, s61, s62, s63, s64, s65, s66, s67, s68, s69, s70, s71, s72, s73, s74, s75, s76, s77, s78, s79, s80, s81, v82, .pointer (some ⟨p, 0, none⟩), .slice (some ⟨gr, 0, none⟩) k cv, .int .i64 (i : Int), .pointer (some ⟨gr, i * 2, none⟩), .agg #[.slice xa xn xc, .int .i64 (m : Int)], .pointer (some ⟨g10, 4, none⟩), .slice da dl dc, v90, v91, v92, s93, s94, s95, s96, s97, s98, s99, s100, s101, s102, s103, s104, s105, s106, s107, s108, s109, s110, s111, s112, s113, s114, s115, s116, s117, s118, s119, s120, s121, s122, s123, s124, s125, s126, s127, s128, s129, s130, s131, s132, s133, s134, s135, s136, s137, s138, s139, s140, s141, s142, s143, s144, s145, s146, s147, s148, s149, s150, s151, s152, s153, s154, s155, s156, s157, s158, s159, s160, s161, s162, s163, s164, s165, s166, s167, s168, s169, s170, s171, s172, s173, s174, s175, s176, s177, s178, s179, s180, s181, s182, s183, s184, s185, s186, s187, s188, s189, s190, s191, s192, s193, s194, s195, s196, s197, s198, s199, s200, s201, s202, s203, s204, s205, s206, s207, s208, s209, s210, s211, s212, s213, s214, s215, s216, s217, s218, s219, s220, s221, s222, s223, s224, s225, s226, s227, s228, s229, s230, s231, s232, s233, s234, s235, s236, s237, s238, s239, s240, s241, s242, s243, s244, s245, s246, s247, s248, s249, s250, s251, s252, s253, s254, s255, s256, s257, s258, s259, s260, s261, s262, s263, s264, s265, s266, s267, s268, s269, s270, s271, s272, s273, s274, s275, s276, s277, s278, s279, s280, s281, s282, s283, s284, s285, s286, s287, s288, s289, s290, s291, s292, s293, s294, s295, s296, s297, s298, s299, s300, s301, s302, s303, s304, s305, s306, s307, s308, s309, s310, s311, s312, s313, s314, s315, s316, s317, s318, s319, s320, s321, s322, s323, s324, s325, s326, s327, s328, s329, s330, s331, s332, s333, s334, s335, s336, s337, s338, s339, s340, s341, s342, s343, s344, s345, s346, s347, s348, s349, s350, s351, s352, s353, s354, s355], defers := [] } ∧ F19 w5 p S F code PR b7 b8 b9 b10 b11 b12 b13 v90 v82 v91 v92 v13 v14 W) ?_ _ _ _ _ (by decide) ⟨false, false, false, false, false, false, false, s90, s82, s91, s92, s13, s14, rfl, rfl, ?_⟩
  rotate_left 1
  · exact { fK := (Keeps.refl p S F w5).drew, fB := fun _ => (Below.refl _ _).drew, f7 := fun h => (nomatch h), f8 := fun h => (nomatch h), f9 := fun h => (nomatch h), f10 := fun h => (nomatch h), f11 := fun h => (nomatch h), f13 := fun h => (nomatch h), o8 := fun h => (nomatch h), o9 := fun h => (nomatch h), o10 := fun h => (nomatch h), o12 := fun h => (nomatch h), o13 := fun h => (nomatch h) }
  rintro listed a W ⟨b7, b8, b9, b10, b11, b12, b13, v90, v82, v91, v92, v13, v14, rfl, rfl, X⟩
  constructor
  · intro hr
    have hr2 := (rdy19 b7 b8 b9 b10 b11 b12 b13).symm.trans hr
    clear hr
    cases b7 with | false => simp at hr2 | true =>
    cases b8 with | false => simp at hr2 | true =>
    cases b9 with | false => simp at hr2 | true =>
    cases b10 with | false => simp at hr2 | true =>
    cases b11 with | false => simp at hr2 | true =>
    cases b12 with | false => simp at hr2 | true =>
    cases b13 with | false => simp at hr2 | true =>
    obtain ⟨a', n', c', z, rfl, hPR⟩ := X.f7 rfl
    obtain rfl := X.f8 rfl
    obtain rfl := X.f9 rfl _ _ rfl
    obtain rfl := X.f10 rfl _ _ rfl
    obtain rfl := X.f13 rfl
    obtain ⟨g, C, rfl, hg, hC, _, hv⟩ := X.f11 rfl
    have hv2 := hv rfl
    injection hv2 with hv2
    subst hv2
    exact HQ.out _ _ _ _ _ _ _ _ _ hPR X.fK hC hg
  · intro i0 hi
    rw [rdy19] at hi
    simp only [List.mem_append, List.not_mem_nil, false_or] at hi
    have hmm : ∀ (c : Bool) (q : Nat), i0 ∈ (if c = true then [q] else []) → c = true ∧ i0 = q := fun c q h => by
      cases c
      · simp at h
      · simpa using h
    rcases hi with ((((((hi | hi) | hi) | hi) | hi) | hi) | hi) <;> obtain ⟨hc, rfl⟩ := hmm _ _ hi <;> clear hi hmm
    · have e_b7 : b7 = false := by cases b7 <;> simp_all
      subst e_b7
      have e8 : b8 = false := by cases b8 with | false => rfl | true => exact nomatch X.o8 rfl
      subst e8
      have e9 : b9 = false := by cases b9 with | false => rfl | true => exact nomatch X.o9 rfl
      subst e9
      have e10 : b10 = false := by cases b10 with | false => rfl | true => exact nomatch X.o10 rfl
      subst e10
      have e12 : b12 = false := by cases b12 with | false => rfl | true => exact nomatch (X.o12 rfl).1
      subst e12
      have KA2 := KA.out _ (X.fB rfl)
      refine wpOp_shut (o := { dst := some 90, op := Op.call { callee := Callee.value (Operand.func 12), args := #[Operand.tmp 83, Operand.tmp 87, Operand.tmp 89], argTypes := #[24, 35, 30] }, type := 37, pos := "law.go:56", after := #[{ on := 0, ground := Ground.data }, { on := 4, ground := Ground.data }, { on := 6, ground := Ground.data }], guard := none }) rfl (fun K hK => ?_)
      go_simp
      go_at_call 12
      refine KA2.mono ?_
      rintro e w' ⟨a', n', c', z, rfl, hPR, hk'⟩
      go_wp2_with fail
      have X2 : F19 w5 p S F code PR true false false false b11 false b13 (.tuple #[.agg #[.slice a' n' c', .int .i64 z], .int .i64 code]) v82 v91 v92 v13 v14 w' :=
        { X with
          fK := X.fK.trans hk'
          fB := fun h => (nomatch h)
          f7 := fun _ => ⟨a', n', c', z, rfl, hPR⟩
          f8 := fun h => (nomatch h)
          f9 := fun h => (nomatch h)
          f10 := fun h => (nomatch h)
          f11 := fun h1 => by
            obtain ⟨g, C, e1, e2, e3, e4, e5⟩ := X.f11 h1
            exact ⟨g, C, e1, e2, (hk'.block g (lt_of_heap e3) (by omega) (by omega) (by omega)).trans e3, e4, fun h => (nomatch h)⟩
          o8 := fun _ => rfl
          o12 := fun h => (nomatch h) }
      (try simp only [Act.put, List.setIfInBounds_toArray, List.set_cons_zero, List.set_cons_succ])
      exact hK.out _ _ ⟨HS.out _ X2.fK, true, false, false, false, b11, false, b13, _, v82, v91, v92, v13, v14, rfl, rfl, X2⟩
    · have e_b8 : b8 = false := by cases b8 <;> simp_all
      have e_b7 : b7 = true := by cases b7 <;> simp_all
      subst e_b8 e_b7
      refine wpOp_shut (o := { dst := some 82, op := Op.move (Operand.tmp 90), type := 37, pos := "law.go:56", after := #[{ on := 7, ground := Ground.data }], guard := none }) rfl (fun K hK => ?_)
      go_simp
      have X2 : F19 w5 p S F code PR true true b9 b10 b11 b12 b13 v90 v90 v91 v92 v13 v14 W := { X with f8 := fun _ => rfl, o8 := fun _ => rfl, o9 := fun _ => rfl, o10 := fun _ => rfl }
      (try simp only [Act.put, List.setIfInBounds_toArray, List.set_cons_zero, List.set_cons_succ])
      exact hK.out _ _ ⟨HS.out _ X2.fK, true, true, b9, b10, b11, b12, b13, v90, _, v91, v92, v13, v14, rfl, rfl, X2⟩
    · have e_b9 : b9 = false := by cases b9 <;> simp_all
      have e_b8 : b8 = true := by cases b8 <;> simp_all
      subst e_b9 e_b8
      obtain ⟨a', n', c', z, e1, hPR⟩ := X.f7 (X.o8 rfl)
      have e2 := X.f8 rfl
      subst e2
      subst e1
      have e12 : b12 = false := by cases b12 with | false => rfl | true => exact nomatch (X.o12 rfl).1
      subst e12
      refine wpOp_shut (o := { dst := some 91, op := Op.extract (Operand.tmp 82) 0, type := 35, pos := "law.go:56", after := #[{ on := 8, ground := Ground.data }], guard := none }) rfl (fun K hK => ?_)
      go_simp
      have X2 : F19 w5 p S F code PR b7 true true b10 b11 false b13 (.tuple #[.agg #[.slice a' n' c', .int .i64 z], .int .i64 code]) (.tuple #[.agg #[.slice a' n' c', .int .i64 z], .int .i64 code]) (.agg #[.slice a' n' c', .int .i64 z]) v92 v13 v14 W := { X with f9 := fun _ x y h => (by injection h with h; have := congrArg (fun a : Array Value => a[0]?) h; simpa using this), f11 := fun h1 => (by obtain ⟨g, C, q1, q2, q3, q4, q5⟩ := X.f11 h1; exact ⟨g, C, q1, q2, q3, q4, fun h => (nomatch h)⟩), o9 := fun _ => rfl, o12 := fun h => (nomatch h) }
      (try simp only [Act.put, List.setIfInBounds_toArray, List.set_cons_zero, List.set_cons_succ])
      exact hK.out _ _ ⟨HS.out _ X2.fK, b7, true, true, b10, b11, false, b13, _, _, _, v92, v13, v14, rfl, rfl, X2⟩
    · have e_b10 : b10 = false := by cases b10 <;> simp_all
      have e_b8 : b8 = true := by cases b8 <;> simp_all
      subst e_b10 e_b8
      obtain ⟨a', n', c', z, e1, hPR⟩ := X.f7 (X.o8 rfl)
      have e2 := X.f8 rfl
      subst e2
      subst e1
      have e13 : b13 = false := by cases b13 with | false => rfl | true => exact nomatch (X.o13 rfl)
      subst e13
      refine wpOp_shut (o := { dst := some 92, op := Op.extract (Operand.tmp 82) 1, type := 25, pos := "law.go:56", after := #[{ on := 8, ground := Ground.data }, { on := 12, ground := Ground.gcOnly Departure.lateStores }], guard := none }) rfl (fun K hK => ?_)
      go_simp
      have X2 : F19 w5 p S F code PR b7 true b9 true b11 b12 false (.tuple #[.agg #[.slice a' n' c', .int .i64 z], .int .i64 code]) (.tuple #[.agg #[.slice a' n' c', .int .i64 z], .int .i64 code]) v91 (.int .i64 code) v13 v14 W := { X with f10 := fun _ x y h => (by injection h with h; have := congrArg (fun a : Array Value => a[1]?) h; simpa using this), f13 := fun h => (nomatch h), o10 := fun _ => rfl, o13 := fun h => (nomatch h) }
      (try simp only [Act.put, List.setIfInBounds_toArray, List.set_cons_zero, List.set_cons_succ])
      exact hK.out _ _ ⟨HS.out _ X2.fK, b7, true, b9, true, b11, b12, false, _, _, v91, _, v13, v14, rfl, rfl, X2⟩
    · have e_b11 : b11 = false := by cases b11 <;> simp_all
      subst e_b11
      have e12 : b12 = false := by cases b12 with | false => rfl | true => exact nomatch (X.o12 rfl).2
      subst e12
      refine wpOp_shut (o := { dst := some 13, op := Op.alloc 35, type := 0, pos := "law.go:56", after := #[], guard := none }) rfl (fun K hK => ?_)
      go_simp
      have kb := below_box W (.cells #[.slice none 0 0, .int .i64 0] 35)
      have X2 : F19 w5 p S F code PR b7 b8 b9 b10 true false b13 v90 v82 v91 v92 (.pointer (some ⟨W.heap.size, 0, none⟩)) v14 (W.alloc (.cells #[.slice none 0 0, .int .i64 0] 35)) :=
        { X with
          fK := X.fK.trans (Keeps.ofBelow kb)
          fB := fun h => (X.fB h).trans (kb.mono (X.fB h).size)
          f7 := fun h => by obtain ⟨a', n', c', z, e1, e2⟩ := X.f7 h; exact ⟨a', n', c', z, e1, PRg.out _ _ _ _ _ _ e2 kb⟩
          f11 := fun _ => ⟨W.heap.size, _, rfl, X.fK.size, heap_alloc_new W _, rfl, fun h => (nomatch h)⟩
          o12 := fun h => (nomatch h) }
      (try simp only [Act.put, List.setIfInBounds_toArray, List.set_cons_zero, List.set_cons_succ])
      exact hK.out _ _ ⟨HS.out _ X2.fK, b7, b8, b9, b10, true, false, b13, v90, v82, v91, v92, _, v14, rfl, rfl, X2⟩
    · have e_b12 : b12 = false := by cases b12 <;> simp_all
      have e_b11 : b11 = true := by cases b11 <;> simp_all
      have e_b9 : b9 = true := by cases b9 <;> simp_all
      have e_b7 : b7 = true := by cases b7 <;> simp_all
      have e_b8 : b8 = true := by cases b8 <;> simp_all
      subst e_b12 e_b11 e_b9 e_b7 e_b8
      obtain ⟨a', n', c', z, e1, hPR⟩ := X.f7 rfl
      subst e1
      obtain rfl := X.f9 rfl _ _ rfl
      obtain ⟨g, C, rfl, hg, hC, hC2, _⟩ := X.f11 rfl
      refine wpOp_list (o := { dst := none, op := Op.store 35 (Operand.tmp 13) (Operand.tmp 91), type := 0, pos := "law.go:56", after := #[{ on := 11, ground := Ground.data }, { on := 9, ground := Ground.data }, { on := 7, ground := Ground.chain }, { on := 0, ground := Ground.phase }, { on := 1, ground := Ground.phase }, { on := 2, ground := Ground.phase }, { on := 3, ground := Ground.phase }, { on := 4, ground := Ground.phase }, { on := 5, ground := Ground.phase }, { on := 6, ground := Ground.phase }, { on := 7, ground := Ground.phase }, { on := 8, ground := Ground.phase }, { on := 9, ground := Ground.phase }, { on := 10, ground := Ground.textOnly Departure.lateStores }, { on := 11, ground := Ground.phase }], guard := none }) rfl (fun Q' hK => ?_)
      refine wpList_store_row rfl 35 _ _ rfl g #[.slice a' n' c', .int .i64 z] rfl rfl 35 _ hC (by kernel_rfl) hC2 (by simp [Value.oneCell']) ?_
      have kr : Below w5.heap.size W (W.setRow g #[.slice a' n' c', .int .i64 z]) := below_setRow (Below.refl _ _) hg _
      have X2 : F19 w5 p S F code PR true true true b10 true true b13 (.tuple #[.agg #[.slice a' n' c', .int .i64 z], .int .i64 code]) v82 (.agg #[.slice a' n' c', .int .i64 z]) v92 (.pointer (some ⟨g, 0, none⟩)) v14 (W.setRow g #[.slice a' n' c', .int .i64 z]) :=
        { X with
          fK := keeps_row X.fK hg _
          fB := fun h => (nomatch h)
          f7 := fun _ => ⟨a', n', c', z, rfl, PRs.out _ _ _ _ _ _ _ _ hPR hC hg⟩
          f11 := fun _ => ⟨g, _, rfl, hg, setRow_heap _ _ _ _ _ _ hC, rfl, fun _ => rfl⟩
          o12 := fun _ => ⟨rfl, rfl⟩ }
      (try simp only [Act.put, List.setIfInBounds_toArray, List.set_cons_zero, List.set_cons_succ])
      exact hK _ _ ⟨HS.out _ X2.fK, true, true, true, b10, true, true, b13, _, v82, _, v92, _, v14, rfl, rfl, X2⟩
    · have e_b13 : b13 = false := by cases b13 <;> simp_all
      have e_b10 : b10 = true := by cases b10 <;> simp_all
      have e_b12 : b12 = true := by cases b12 <;> simp_all
      have e_b7 : b7 = true := by cases b7 <;> simp_all
      have e_b8 : b8 = true := by cases b8 <;> simp_all
      have e_b9 : b9 = true := by cases b9 <;> simp_all
      have e_b11 : b11 = true := by cases b11 <;> simp_all
      subst e_b13 e_b10 e_b12 e_b7 e_b8 e_b9 e_b11
      refine wpOp_shut (o := { dst := some 14, op := Op.assign (Operand.tmp 92), type := 25, pos := "law.go:56", after := #[{ on := 10, ground := Ground.data }, { on := 12, ground := Ground.chain }, { on := 0, ground := Ground.phase }, { on := 1, ground := Ground.phase }, { on := 2, ground := Ground.phase }, { on := 3, ground := Ground.phase }, { on := 4, ground := Ground.phase }, { on := 5, ground := Ground.phase }, { on := 6, ground := Ground.phase }, { on := 7, ground := Ground.phase }, { on := 8, ground := Ground.phase }, { on := 9, ground := Ground.phase }, { on := 10, ground := Ground.phase }, { on := 11, ground := Ground.phase }, { on := 12, ground := Ground.phase }], guard := none }) rfl (fun K hK => ?_)
      go_simp
      have X2 : F19 w5 p S F code PR true true true true true true true v90 v82 v91 v92 v13 v92 W := { X with f13 := fun _ => rfl, o13 := fun _ => rfl }
      (try simp only [Act.put, List.setIfInBounds_toArray, List.set_cons_zero, List.set_cons_succ])
      exact hK.out _ _ ⟨HS.out _ X2.fK, true, true, true, true, true, true, true, v90, v82, v91, v92, v13, _, rfl, rfl, X2⟩

end Go.Proofs.Ytpjfhfbjdcgbjab
