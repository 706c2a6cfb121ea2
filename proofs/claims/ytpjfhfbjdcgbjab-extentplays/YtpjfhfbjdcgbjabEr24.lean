/-
  ExtentPlays: where bytes are put to a content, its last drawn region.
-/
import Derived.Test.YtpjfhfbjdcgbjabE3
import Derived.Deep.RegionHeld3
namespace Go.Proofs.Ytpjfhfbjdcgbjab
open Go.RowKit
set_option linter.unusedVariables false
set_option linter.unusedSimpArgs false

def ops24 : Array Oper := #[{ dst := some 143, op := Op.move (Operand.tmp 7), type := 28, pos := "law.go:62", after := #[], guard := none },
  { dst := some 144, op := Op.move (Operand.tmp 11), type := 3, pos := "law.go:62", after := #[], guard := none },
  { dst := some 145, op := Op.move (Operand.tmp 8), type := 29, pos := "law.go:62", after := #[{ on := 14, ground := Ground.gcOnly Departure.lateStores }], guard := none },
  { dst := some 146, op := Op.move (Operand.tmp 11), type := 3, pos := "law.go:62", after := #[{ on := 14, ground := Ground.gcOnly Departure.lateStores }], guard := none },
  { dst := some 147, op := Op.load 35 (Operand.tmp 13), type := 35, pos := "law.go:62", after := #[], guard := none },
  { dst := some 148, op := Op.move (Operand.tmp 8), type := 29, pos := "law.go:62", after := #[], guard := none },
  { dst := some 149, op := Op.move (Operand.tmp 11), type := 3, pos := "law.go:62", after := #[], guard := none },
  { dst := some 150, op := Op.indexAddr 29 (Operand.tmp 148) (Operand.tmp 149), type := 0, pos := "law.go:62", after := #[{ on := 5, ground := Ground.data }, { on := 6, ground := Ground.data }], guard := none },
  { dst := some 151, op := Op.load 9 (Operand.tmp 150), type := 9, pos := "law.go:62", after := #[{ on := 7, ground := Ground.data }], guard := none },
  { dst := some 152, op := Op.fieldAddr 32 (Operand.tmp 10) 4, type := 0, pos := "law.go:62", after := #[], guard := none },
  { dst := some 153, op := Op.load 30 (Operand.tmp 152), type := 30, pos := "law.go:62", after := #[{ on := 9, ground := Ground.data }], guard := none },
  { dst := some 154, op := Op.convert 30 9 (Operand.tmp 153), type := 9, pos := "law.go:62", after := #[{ on := 10, ground := Ground.data }], guard := none },
  { dst := some 155, op := Op.binOp BinOp.add 9 (Operand.tmp 151) (Operand.tmp 154) 9, type := 9, pos := "law.go:62", after := #[{ on := 8, ground := Ground.data }, { on := 11, ground := Ground.data }], guard := none },
  { dst := some 156, op := Op.indexAddr 28 (Operand.tmp 143) (Operand.tmp 144), type := 0, pos := "law.go:62", after := #[{ on := 0, ground := Ground.data }, { on := 1, ground := Ground.data }, { on := 0, ground := Ground.phase }, { on := 1, ground := Ground.phase }, { on := 2, ground := Ground.textOnly Departure.lateStores }, { on := 3, ground := Ground.textOnly Departure.lateStores }, { on := 4, ground := Ground.phase }, { on := 5, ground := Ground.textOnly Departure.lateStores }, { on := 6, ground := Ground.textOnly Departure.lateStores }, { on := 7, ground := Ground.textOnly Departure.lateStoresUnsure }, { on := 8, ground := Ground.phase }, { on := 9, ground := Ground.textOnly Departure.lateStores }, { on := 10, ground := Ground.textOnly Departure.lateStores }, { on := 11, ground := Ground.phase }, { on := 12, ground := Ground.textOnly Departure.lateStoresUnsure }], guard := none },
  { dst := none, op := Op.store 35 (Operand.tmp 156) (Operand.tmp 147), type := 0, pos := "law.go:62", after := #[{ on := 13, ground := Ground.data }, { on := 4, ground := Ground.data }, { on := 0, ground := Ground.phase }, { on := 1, ground := Ground.phase }, { on := 2, ground := Ground.textOnly Departure.lateStores }, { on := 3, ground := Ground.textOnly Departure.lateStores }, { on := 4, ground := Ground.phase }, { on := 5, ground := Ground.textOnly Departure.lateStores }, { on := 6, ground := Ground.textOnly Departure.lateStores }, { on := 7, ground := Ground.textOnly Departure.lateStoresUnsure }, { on := 8, ground := Ground.phase }, { on := 9, ground := Ground.textOnly Departure.lateStores }, { on := 10, ground := Ground.textOnly Departure.lateStores }, { on := 11, ground := Ground.phase }, { on := 12, ground := Ground.textOnly Departure.lateStoresUnsure }], guard := none },
  { dst := some 157, op := Op.indexAddr 29 (Operand.tmp 145) (Operand.tmp 146), type := 0, pos := "law.go:62", after := #[{ on := 2, ground := Ground.data }, { on := 3, ground := Ground.data }, { on := 0, ground := Ground.phase }, { on := 1, ground := Ground.phase }, { on := 2, ground := Ground.phase }, { on := 3, ground := Ground.phase }, { on := 4, ground := Ground.phase }, { on := 5, ground := Ground.phase }, { on := 6, ground := Ground.phase }, { on := 7, ground := Ground.phase }, { on := 8, ground := Ground.phase }, { on := 9, ground := Ground.phase }, { on := 10, ground := Ground.phase }, { on := 11, ground := Ground.phase }, { on := 12, ground := Ground.phase }, { on := 13, ground := Ground.phase }, { on := 14, ground := Ground.phase }], guard := none },
  { dst := none, op := Op.store 9 (Operand.tmp 157) (Operand.tmp 155), type := 0, pos := "law.go:62", after := #[{ on := 15, ground := Ground.data }, { on := 12, ground := Ground.data }, { on := 14, ground := Ground.chain }, { on := 0, ground := Ground.phase }, { on := 1, ground := Ground.phase }, { on := 2, ground := Ground.phase }, { on := 3, ground := Ground.phase }, { on := 4, ground := Ground.phase }, { on := 5, ground := Ground.phase }, { on := 6, ground := Ground.phase }, { on := 7, ground := Ground.phase }, { on := 8, ground := Ground.phase }, { on := 9, ground := Ground.phase }, { on := 10, ground := Ground.phase }, { on := 11, ground := Ground.phase }, { on := 12, ground := Ground.phase }, { on := 13, ground := Ground.phase }, { on := 14, ground := Ground.phase }], guard := none }]

set_option maxRecDepth 100000 in
theorem rdy24 : ∀ b4 b8 b10 b11 b12 b13 b14 b15 b16 : Bool, Region.ready .any ops24 #[true, true, true, true, b4, true, true, true, b8, true, b10, b11, b12, b13, b14, b15, b16] = ([] : List Nat) ++ (if !b4 then [4] else []) ++ (if !b8 then [8] else []) ++ (if !b10 then [10] else []) ++ (if !b11 && b10 then [11] else []) ++ (if !b12 && b8 && b11 then [12] else []) ++ (if !b13 && b4 && b8 && b11 then [13] else []) ++ (if !b14 && b13 && b4 && b8 && b11 then [14] else []) ++ (if !b15 && b4 && b8 && b10 && b11 && b12 && b13 && b14 then [15] else []) ++ (if !b16 && b15 && b12 && b14 && b4 && b8 && b10 && b11 && b13 then [16] else []) := by
  decide +kernel

structure F24 (W0 : World) (gr gs i m2 : Nat) (a6 : Option Addr) (n6 c6 : Nat) (da : Option Addr) (dl dc : Nat) (z0 z1 z2 : ByteArray) (b4 b8 b10 b11 b12 b13 b14 b15 b16 : Bool) (v147 v151 v153 v154 v155 v156 v157 : Value) (W : World) : Prop where
  f4 : b4 = true → v147 = .agg #[.slice a6 n6 c6, .int .i64 (m2 : Int)]
  f8 : b8 = true → v151 = .string z0
  f10 : b10 = true → v153 = .slice da dl dc
  f11 : b11 = true → v154 = .string z1
  f12 : b12 = true → v155 = .string z2
  f13 : b13 = true → v156 = .pointer (some ⟨gr, i * 2, none⟩)
  f15 : b15 = true → v157 = .pointer (some ⟨gs, i, none⟩)
  g0 : b14 = false → W = W0
  g1 : b14 = true → b16 = false → W = ((W0.setCell ⟨gr, i * 2, none⟩ (.slice a6 n6 c6)).setCell ⟨gr, i * 2 + 1, none⟩ (.int .i64 (m2 : Int)))
  g2 : b16 = true → W = (((W0.setCell ⟨gr, i * 2, none⟩ (.slice a6 n6 c6)).setCell ⟨gr, i * 2 + 1, none⟩ (.int .i64 (m2 : Int))).setCell ⟨gs, i, none⟩ (.string z2))
  o14 : b14 = true → b4 = true
  o16 : b16 = true → b14 = true ∧ b8 = true ∧ b10 = true ∧ b11 = true

set_option maxRecDepth 100000 in
set_option maxHeartbeats 8000000 in
theorem reg24 (w9 W0 : World) (hW0 : w9.drew = W0) (k cv cs gr gs g10 g13 i m2 : Nat) (a6 : Option Addr) (n6 c6 : Nat) (da : Option Addr) (dl dc : Nat) (z0 z1 z2 : ByteArray) (s0 s1 s2 s3 s4 s5 s6 s9 s12 s14 s15 s16 s17 s18 s19 s20 s21 s22 s23 s24 s25 s26 s27 s28 s29 s30 s31 s32 s33 s34 s35 s36 s37 s38 s39 s40 s41 s42 s43 s44 s45 s46 s47 s48 s49 s50 s51 s52 s53 s54 s55 s56 s57 s58 s59 s60 s61 s62 s63 s64 s65 s66 s67 s68 s69 s70 s71 s72 s73 s74 s75 s76 s77 s78 s79 s80 s81 s82 s83 s84 s85 s86 s87 s88 s89 s90 s91 s92 s93 s94 s95 s96 s97 s98 s99 s100 s101 s102 s103 s104 s105 s106 s107 s108 s109 s110 s111 s112 s113 s114 s115 s116 s117 s118 s119 s120 s121 s122 s123 s124 s125 s126 s127 s128 s129 s130 s131 s132 s133 s134 s135 s136 s137 s138 s139 s140 s141 s142 s143 s144 s145 s146 s147 s148 s149 s150 s151 s152 s153 s154 s155 s156 s157 s158 s159 s160 s161 s162 s163 s164 s165 s166 s167 s168 s169 s170 s171 s172 s173 s174 s175 s176 s177 s178 s179 s180 s181 s182 s183 s184 s185 s186 s187 s188 s189 s190 s191 s192 s193 s194 s195 s196 s197 s198 s199 s200 s201 s202 s203 s204 s205 s206 s207 s208 s209 s210 s211 s212 s213 s214 s215 s216 s217 s218 s219 s220 s221 s222 s223 s224 s225 s226 s227 s228 s229 s230 s231 s232 s233 s234 s235 s236 s237 s238 s239 s240 s241 s242 s243 s244 s245 s246 s247 s248 s249 s250 s251 s252 s253 s254 s255 s256 s257 s258 s259 s260 s261 s262 s263 s264 s265 s266 s267 s268 s269 s270 s271 s272 s273 s274 s275 s276 s277 s278 s279 s280 s281 s282 s283 s284 s285 s286 s287 s288 s289 s290 s291 s292 s293 s294 s295 s296 s297 s298 s299 s300 s301 s302 s303 s304 s305 s306 s307 s308 s309 s310 s311 s312 s313 s314 s315 s316 s317 s318 s319 s320 s321 s322 s323 s324 s325 s326 s327 s328 s329 s330 s331 s332 s333 s334 s335 s336 s337 s338 s339 s340 s341 s342 s343 s344 s345 s346 s347 s348 s349 s350 s351 s352 s353 s354 s355 : Value) (Q : Exit → Act → World → Prop)
    (hik : i < k) (hk60 : k ≤ 60) (hadd : z0 ++ z1 = z2) (hadds : ¬ 9223372036854775807 < z0.size + z1.size)
    (h13 : ∀ q, W0.cell? ⟨g13, q, none⟩ = (#[.slice a6 n6 c6, .int .i64 (m2 : Int)] : Array Value)[q]?)
    (hs8 : W0.cell? ⟨gs, i, none⟩ = some (.string z0)) (hs8' : (((W0.setCell ⟨gr, i * 2, none⟩ (.slice a6 n6 c6)).setCell ⟨gr, i * 2 + 1, none⟩ (.int .i64 (m2 : Int)))).cell? ⟨gs, i, none⟩ = some (.string z0)) (fs8 : (((W0.setCell ⟨gr, i * 2, none⟩ (.slice a6 n6 c6)).setCell ⟨gr, i * 2 + 1, none⟩ (.int .i64 (m2 : Int)))).frozen? ⟨gs, i, none⟩ = false)
    (hd : W0.cell? ⟨g10, 4, none⟩ = some (.slice da dl dc)) (hd' : (((W0.setCell ⟨gr, i * 2, none⟩ (.slice a6 n6 c6)).setCell ⟨gr, i * 2 + 1, none⟩ (.int .i64 (m2 : Int)))).cell? ⟨g10, 4, none⟩ = some (.slice da dl dc))
    (hcv : (convert 30 9 (.slice da dl dc)).run Try.prog W0 = .ok (.string z1) W0) (hcv' : (convert 30 9 (.slice da dl dc)).run Try.prog ((W0.setCell ⟨gr, i * 2, none⟩ (.slice a6 n6 c6)).setCell ⟨gr, i * 2 + 1, none⟩ (.int .i64 (m2 : Int))) = .ok (.string z1) ((W0.setCell ⟨gr, i * 2, none⟩ (.slice a6 n6 c6)).setCell ⟨gr, i * 2 + 1, none⟩ (.int .i64 (m2 : Int))))
    (hr0 : ∃ v, W0.cell? ⟨gr, i * 2, none⟩ = some v) (hr1 : ∃ v, W0.cell? ⟨gr, i * 2 + 1, none⟩ = some v) (fr0 : W0.frozen? ⟨gr, i * 2, none⟩ = false) (fr1 : W0.frozen? ⟨gr, i * 2 + 1, none⟩ = false)
    (HP : Hid (∀ c a (d : Nat) v w, Q (.panic c) (Act.put a (some d) v) w → Q (.panic c) a w))
    (hQ : ∀ v147 v151 v153 v154 v155 v156 v157, Q .normal { tmps := #[s0, s1, s2, s3, s4, s5, s6, .slice (some ⟨gr, 0, none⟩) k cv, .slice (some ⟨gs, 0, none⟩) k cs, s9, .pointer (some ⟨g10, 0, none⟩), .int .i64 (i : Int), s12, .pointer (some ⟨g13, 0, none⟩), s14, s15, s16, s17, s18, s19, s20, s21, s22, s23, s24, s25, s26, s27, s28, s29, s30, s31, s32, s33, s34, s35, s36, s37, s38, s39, s40, s41, s42, s43, s44, s45, s46, s47, s48, s49, s50, s51, s52, s53, s54, s55, s56, s57, s58, s59, s60, s61, s62, s63, s64, s65, s66, s67, s68, s69, s70, s71, s72, s73, s74, s75, s76, s77, s78, s79, s80, s81, s82, s83, s84, s85, s86, s87, s88, s89, s90, s91, s92, s93, s94, s95, s96, s97, s98, s99, s100, s101, s102, s103, s104, s105, s106, s107, s108, s109, s110, s111, s112, s113, s114, s115, s116, s117, s118, s119, s120, s121, s122, s123, s124, s125, s126, s127, s128, s129, s130, s131, s132, s133, s134, s135, s136, s137, s138, s139, s140, s141, s142, .slice (some ⟨gr, 0, none⟩) k cv, .int .i64 (i : Int), .slice (some ⟨gs, 0, none⟩) k cs, .int .i64 (i : Int), v147, .slice (some ⟨gs, 0, none⟩) k cs, .int .i64 (i : Int), .pointer (some ⟨gs, i, none⟩), v151, .pointer (some ⟨g10, 4, none⟩), v153, v154, v155, v156, v157, s158, s159, s160, s161, s162, s163, s164, s165, s166, s167, s168, s169, s170, s171, s172, s173, s174, s175, s176, s177, s178, s179, s180, s181, s182, s183, s184, s185, s186, s187, s188, s189, s190, s191, s192, s193, s194, s195, s196, s197, s198, s199, s200, s201, s202, s203, s204, s205, s206, s207, s208, s209, s210, s211, s212, s213, s214, s215, s216, s217, s218, s219, s220, s221, s222, s223, s224, s225, s226, s227, s228, s229, s230, s231, s232, s233, s234, s235, s236, s237, s238, s239, s240, s241, s242, s243, s244, s245, s246, s247, s248, s249, s250, s251, s252, s253, s254, s255, s256, s257, s258, s259, s260, s261, s262, s263, s264, s265, s266, s267, s268, s269, s270, s271, s272, s273, s274, s275, s276, s277, s278, s279, s280, s281, s282, s283, s284, s285, s286, s287, s288, s289, s290, s291, s292, s293, s294, s295, s296, s297, s298, s299, s300, s301, s302, s303, s304, s305, s306, s307, s308, s309, s310, s311, s312, s313, s314, s315, s316, s317, s318, s319, s320, s321, s322, s323, s324, s325, s326, s327, s328, s329, s330, s331, s332, s333, s334, s335, s336, s337, s338, s339, s340, s341, s342, s343, s344, s345, s346, s347, s348, s349, s350, s351, s352, s353, s354, s355], defers := [] } (((W0.setCell ⟨gr, i * 2, none⟩ (.slice a6 n6 c6)).setCell ⟨gr, i * 2 + 1, none⟩ (.int .i64 (m2 : Int))).setCell ⟨gs, i, none⟩ (.string z2))) :
    (Code.region 24 ops24 true).wp Try.prog Q { tmps := #[s0, s1, s2, s3, s4, s5, s6, .slice (some ⟨gr, 0, none⟩) k cv, .slice (some ⟨gs, 0, none⟩) k cs, s9, .pointer (some ⟨g10, 0, none⟩), .int .i64 (i : Int), s12, .pointer (some ⟨g13, 0, none⟩), s14, s15, s16, s17, s18, s19, s20, s21, s22, s23, s24, s25, s26, s27, s28, s29, s30, s31, s32, s33, s34, s35, s36, s37, s38, s39, s40, s41, s42, s43, s44, s45, s46, s47, s48, s49, s50, s51, s52, s53, s54, s55, s56, s57, s58, s59, s60, s61, s62, s63, s64, s65, s66, s67, s68, s69, s70, s71, s72, s73, s74, s75, s76, s77, s78, s79, s80, s81, s82, s83, s84, s85, s86, s87, s88, s89, s90, s91, s92, s93, s94, s95, s96, s97, s98, s99, s100, s101, s102, s103, s104, s105, s106, s107, s108, s109, s110, s111, s112, s113, s114, s115, s116, s117, s118, s119, s120, s121, s122, s123, s124, s125, s126, s127, s128, s129, s130, s131, s132, s133, s134, s135, s136, s137, s138, s139, s140, s141, s142, s143, s144, s145, s146, s147, s148, s149, s150, s151, s152, s153, s154, s155, s156, s157, s158, s159, s160, s161, s162, s163, s164, s165, s166, s167, s168, s169, s170, s171, s172, s173, s174, s175, s176, s177, s178, s179, s180, s181, s182, s183, s184, s185, s186, s187, s188, s189, s190, s191, s192, s193, s194, s195, s196, s197, s198, s199, s200, s201, s202, s203, s204, s205, s206, s207, s208, s209, s210, s211, s212, s213, s214, s215, s216, s217, s218, s219, s220, s221, s222, s223, s224, s225, s226, s227, s228, s229, s230, s231, s232, s233, s234, s235, s236, s237, s238, s239, s240, s241, s242, s243, s244, s245, s246, s247, s248, s249, s250, s251, s252, s253, s254, s255, s256, s257, s258, s259, s260, s261, s262, s263, s264, s265, s266, s267, s268, s269, s270, s271, s272, s273, s274, s275, s276, s277, s278, s279, s280, s281, s282, s283, s284, s285, s286, s287, s288, s289, s290, s291, s292, s293, s294, s295, s296, s297, s298, s299, s300, s301, s302, s303, s304, s305, s306, s307, s308, s309, s310, s311, s312, s313, s314, s315, s316, s317, s318, s319, s320, s321, s322, s323, s324, s325, s326, s327, s328, s329, s330, s331, s332, s333, s334, s335, s336, s337, s338, s339, s340, s341, s342, s343, s344, s345, s346, s347, s348, s349, s350, s351, s352, s353, s354, s355], defers := [] } w9 := by
  have HQ : Hid (∀ v147 v151 v153 v154 v155 v156 v157, Q .normal { tmps := #[s0, s1, s2, s3, s4, s5, s6, .slice (some ⟨gr, 0, none⟩) k cv, .slice (some ⟨gs, 0, none⟩) k cs, s9, .pointer (some ⟨g10, 0, none⟩), .int .i64 (i : Int), s12, .pointer (some ⟨g13, 0, none⟩), s14, s15, s16, s17, s18, s19, s20, s21, s22, s23, s24, s25, s26, s27, s28, s29, s30, s31, s32, s33, s34, s35, s36, s37, s38, s39, s40, s41, s42, s43, s44, s45, s46, s47, s48, s49, s50, s51, s52, s53, s54, s55, s56, s57, s58, s59, s60, s61, s62, s63, s64, s65, s66, s67, s68, s69, s70, s71, s72, s73, s74, s75, s76, s77, s78, s79, s80, s81, s82, s83, s84, s85, s86, s87, s88, s89, s90, s91, s92, s93, s94, s95, s96, s97, s98, s99, s100, s101, s102, s103, s104, s105, s106, s107, s108, s109, s110, s111, s112, s113, s114, s115, s116, s117, s118, s119, s120, s121, s122, s123, s124, s125, s126, s127, s128, s129, s130, s131, s132, s133, s134, s135, s136, s137, s138, s139, s140, s141, s142, .slice (some ⟨gr, 0, none⟩) k cv, .int .i64 (i : Int), .slice (some ⟨gs, 0, none⟩) k cs, .int .i64 (i : Int), v147, .slice (some ⟨gs, 0, none⟩) k cs, .int .i64 (i : Int), .pointer (some ⟨gs, i, none⟩), v151, .pointer (some ⟨g10, 4, none⟩), v153, v154, v155, v156, v157, s158, s159, s160, s161, s162, s163, s164, s165, s166, s167, s168, s169, s170, s171, s172, s173, s174, s175, s176, s177, s178, s179, s180, s181, s182, s183, s184, s185, s186, s187, s188, s189, s190, s191, s192, s193, s194, s195, s196, s197, s198, s199, s200, s201, s202, s203, s204, s205, s206, s207, s208, s209, s210, s211, s212, s213, s214, s215, s216, s217, s218, s219, s220, s221, s222, s223, s224, s225, s226, s227, s228, s229, s230, s231, s232, s233, s234, s235, s236, s237, s238, s239, s240, s241, s242, s243, s244, s245, s246, s247, s248, s249, s250, s251, s252, s253, s254, s255, s256, s257, s258, s259, s260, s261, s262, s263, s264, s265, s266, s267, s268, s269, s270, s271, s272, s273, s274, s275, s276, s277, s278, s279, s280, s281, s282, s283, s284, s285, s286, s287, s288, s289, s290, s291, s292, s293, s294, s295, s296, s297, s298, s299, s300, s301, s302, s303, s304, s305, s306, s307, s308, s309, s310, s311, s312, s313, s314, s315, s316, s317, s318, s319, s320, s321, s322, s323, s324, s325, s326, s327, s328, s329, s330, s331, s332, s333, s334, s335, s336, s337, s338, s339, s340, s341, s342, s343, s344, s345, s346, s347, s348, s349, s350, s351, s352, s353, s354, s355], defers := [] } (((W0.setCell ⟨gr, i * 2, none⟩ (.slice a6 n6 c6)).setCell ⟨gr, i * 2 + 1, none⟩ (.int .i64 (m2 : Int))).setCell ⟨gs, i, none⟩ (.string z2))) := hQ
  clear hQ
  have hi0 : (0 : Int) ≤ (i : Int) := by omega
  have hik2 : (i : Int) < (k : Int) := by omega
  refine wp_region_held_drew (S := fun W : World => True) (by kernel_rfl) trivial (fun hHeld => ?_)
  rw [hW0]
  clear hW0
  refine wpAnyH_take (i := 0) (oi := { dst := some 143, op := Op.move (Operand.tmp 7), type := 28, pos := "law.go:62", after := #[], guard := none }) (v := ?_) rfl (by kernel_rfl) (by kernel_rfl) (by kernel_rfl) (fun c a w h => HP.out _ _ _ _ _ h) (Or.inl ⟨by rfl, ?_⟩) (by assumption) ?_
  rotate_left 1
  · (intro W hSw; go_simp; try with_reducible rfl)
  (try simp only [Act.put, List.setIfInBounds_toArray, List.set_cons_zero, List.set_cons_succ])
  refine wpAnyH_take (i := 1) (oi := { dst := some 144, op := Op.move (Operand.tmp 11), type := 3, pos := "law.go:62", after := #[], guard := none }) (v := ?_) rfl (by kernel_rfl) (by kernel_rfl) (by kernel_rfl) (fun c a w h => HP.out _ _ _ _ _ h) (Or.inl ⟨by rfl, ?_⟩) (by assumption) ?_
  rotate_left 1
  · (intro W hSw; go_simp; try with_reducible rfl)
  (try simp only [Act.put, List.setIfInBounds_toArray, List.set_cons_zero, List.set_cons_succ])
  refine wpAnyH_take (i := 2) (oi := { dst := some 145, op := Op.move (Operand.tmp 8), type := 29, pos := "law.go:62", after := #[{ on := 14, ground := Ground.gcOnly Departure.lateStores }], guard := none }) (v := ?_) rfl (by kernel_rfl) (by kernel_rfl) (by kernel_rfl) (fun c a w h => HP.out _ _ _ _ _ h) (Or.inl ⟨by rfl, ?_⟩) (by assumption) ?_
  rotate_left 1
  · (intro W hSw; go_simp; try with_reducible rfl)
  (try simp only [Act.put, List.setIfInBounds_toArray, List.set_cons_zero, List.set_cons_succ])
  refine wpAnyH_take (i := 3) (oi := { dst := some 146, op := Op.move (Operand.tmp 11), type := 3, pos := "law.go:62", after := #[{ on := 14, ground := Ground.gcOnly Departure.lateStores }], guard := none }) (v := ?_) rfl (by kernel_rfl) (by kernel_rfl) (by kernel_rfl) (fun c a w h => HP.out _ _ _ _ _ h) (Or.inl ⟨by rfl, ?_⟩) (by assumption) ?_
  rotate_left 1
  · (intro W hSw; go_simp; try with_reducible rfl)
  (try simp only [Act.put, List.setIfInBounds_toArray, List.set_cons_zero, List.set_cons_succ])
  refine wpAnyH_take (i := 5) (oi := { dst := some 148, op := Op.move (Operand.tmp 8), type := 29, pos := "law.go:62", after := #[], guard := none }) (v := ?_) rfl (by kernel_rfl) (by kernel_rfl) (by kernel_rfl) (fun c a w h => HP.out _ _ _ _ _ h) (Or.inl ⟨by rfl, ?_⟩) (by assumption) ?_
  rotate_left 1
  · (intro W hSw; go_simp; try with_reducible rfl)
  (try simp only [Act.put, List.setIfInBounds_toArray, List.set_cons_zero, List.set_cons_succ])
  refine wpAnyH_take (i := 6) (oi := { dst := some 149, op := Op.move (Operand.tmp 11), type := 3, pos := "law.go:62", after := #[], guard := none }) (v := ?_) rfl (by kernel_rfl) (by kernel_rfl) (by kernel_rfl) (fun c a w h => HP.out _ _ _ _ _ h) (Or.inl ⟨by rfl, ?_⟩) (by assumption) ?_
  rotate_left 1
  · (intro W hSw; go_simp; try with_reducible rfl)
  (try simp only [Act.put, List.setIfInBounds_toArray, List.set_cons_zero, List.set_cons_succ])
  refine wpAnyH_take (i := 7) (oi := { dst := some 150, op := Op.indexAddr 29 (Operand.tmp 148) (Operand.tmp 149), type := 0, pos := "law.go:62", after := #[{ on := 5, ground := Ground.data }, { on := 6, ground := Ground.data }], guard := none }) (v := ?_) rfl (by kernel_rfl) (by kernel_rfl) (by kernel_rfl) (fun c a w h => HP.out _ _ _ _ _ h) (Or.inl ⟨by rfl, ?_⟩) (by assumption) ?_
  rotate_left 1
  · (intro W hSw; go_simp; try with_reducible rfl)
  (try simp only [Act.put, List.setIfInBounds_toArray, List.set_cons_zero, List.set_cons_succ])
  refine wpAnyH_take (i := 9) (oi := { dst := some 152, op := Op.fieldAddr 32 (Operand.tmp 10) 4, type := 0, pos := "law.go:62", after := #[], guard := none }) (v := ?_) rfl (by kernel_rfl) (by kernel_rfl) (by kernel_rfl) (fun c a w h => HP.out _ _ _ _ _ h) (Or.inl ⟨by rfl, ?_⟩) (by assumption) ?_
  rotate_left 1
  · (intro W hSw; go_simp; try with_reducible rfl)
  (try simp only [Act.put, List.setIfInBounds_toArray, List.set_cons_zero, List.set_cons_succ])
  refine wpAnyH_inv (fun listed a W => ∃ (b4 b8 b10 b11 b12 b13 b14 b15 b16 : Bool) (v147 v151 v153 v154 v155 v156 v157 : Value), listed = #[true, true, true, true, b4, true, true, true, b8, true, b10, b11, b12, b13, b14, b15, b16] ∧ a = { tmps := #[s0, s1, s2, s3, s4, s5, s6, .slice (some ⟨gr, 0, none⟩) k cv, .slice (some ⟨gs, 0, none⟩) k cs, s9, .pointer (some ⟨g10, 0, none⟩), .int .i64 (i : Int), s12, .pointer (some ⟨g13, 0, none⟩), s14, s15, s16, s17, s18, s19, s20, s21, s22, s23, s24, s25, s26, s27, s28, s29, s30, s31, s32, s33, s34, s35, s36, s37, s38, s39, s40, s41, s42, s43, s44, s45, s46, s47, s48, s49, s50, s51, s52, s53, s54, s55, s56, s57, s58, s59, s60, s61, s62, s63, s64, s65, s66, s67, s68, s69, s70, s71, s72, s73, s74, s75, s76, s77, s78, s79, s80, s81, s82, s83, s84, s85, s86, s87, s88, s89, s90, s91, s92, s93, s94, s95, s96, s97, s98, s99, s100, s101, s102, s103, s104, s105, s106, s107, s108, s109, s110, s111, s112, s113, s114, s115, s116, s117, s118, s119, s120, s121, s122, s123, s124, s125, s126, s127, s128, s129, s130, s131, s132, s133, s134, s135, s136, s137, s138, s139, s140, s141, s142, .slice (some ⟨gr, 0, none⟩) k cv, .int .i64 (i : Int), .slice (some ⟨gs, 0, none⟩) k cs, .int .i64 (i : Int), v147, .slice (some ⟨gs, 0, none⟩) k cs, .int .i64 (i : Int), .pointer (some ⟨gs, i, none⟩), v151, .pointer (some ⟨g10, 4, none⟩), v153, v154, v155, v156, v157, s158, s159, s160, s161, s162, s163, s164, s165, s166, s167, s168, s169, s170, s171, s172, s173, s174, s175, s176, s177, s178, s179, s180, s181, s182, s183, s184, s185, s186, s187, s188, s189, s190, s191, s192, s193, s194, s195, s196, s197, s198, s199, s200, s201, s202, s203, s204, s205, s206, s207, s208, s209, s210, s211, s212, s213, s214, s215, s216, s217, s218, s219, s220, s221, s222, s223, s224, s225, s226, s227, s228, s229, s230, s231, s232, s233, s234, s235, s236, s237, s238, s239, s240, s241, s242, s243, s244, s245, s246, s247, s248, s249, s250, s251, s252, s253, s254, s255, s256, s257, s258, s259, s260, s261, s262, s263, s264, s265, s266, s267, s268, s269, s270, s271, s272, s273, s274, s275, s276, s277, s278, s279, s280, s281, s282, s283, s284, s285, s286, s287, s288, s289, s290, s291, s292, s293, s294, s295, s296, s297, s298, s299, s300, s301, s302, s303, s304, s305, s306, s307, s308, s309, s310, s311, s312, s313, s314, s315, s316, s317, s318, s319, s320, s321, s322, s323, s324, s325, s326, s327, s328, s329, s330, s331, s332, s333, s334, s335, s336, s337, s338, s339, s340, s341, s342, s343, s344, s345, s346, s347, s348, s349, s350, s351, s352, s353, s354, s355], defers := [] } ∧ F24 W0 gr gs i m2 a6 n6 c6 da dl dc z0 z1 z2 b4 b8 b10 b11 b12 b13 b14 b15 b16 v147 v151 v153 v154 v155 v156 v157 W) ?_ _ _ _ _ (by decide) ⟨false, false, false, false, false, false, false, false, false, s147, s151, s153, s154, s155, s156, s157, rfl, rfl, ?_⟩
  rotate_left 1
  · exact { f4 := fun h => (nomatch h), f8 := fun h => (nomatch h), f10 := fun h => (nomatch h), f11 := fun h => (nomatch h), f12 := fun h => (nomatch h), f13 := fun h => (nomatch h), f15 := fun h => (nomatch h), g0 := fun _ => rfl, g1 := fun h => (nomatch h), g2 := fun h => (nomatch h), o16 := fun h => (nomatch h), o14 := fun h => (nomatch h) }
  rintro listed a W ⟨b4, b8, b10, b11, b12, b13, b14, b15, b16, v147, v151, v153, v154, v155, v156, v157, rfl, rfl, X⟩
  constructor
  · intro hr
    have hr2 := (rdy24 b4 b8 b10 b11 b12 b13 b14 b15 b16).symm.trans hr
    clear hr
    cases b4 with | false => simp at hr2 | true =>
    cases b8 with | false => simp at hr2 | true =>
    cases b10 with | false => simp at hr2 | true =>
    cases b11 with | false => simp at hr2 | true =>
    cases b12 with | false => simp at hr2 | true =>
    cases b13 with | false => simp at hr2 | true =>
    cases b14 with | false => simp at hr2 | true =>
    cases b15 with | false => simp at hr2 | true =>
    cases b16 with | false => simp at hr2 | true =>
    obtain rfl := X.g2 rfl
    exact HQ.out _ _ _ _ _ _ _
  · intro i0 hi
    rw [rdy24] at hi
    simp only [List.mem_append, List.not_mem_nil, false_or] at hi
    have hmm : ∀ (c : Bool) (q : Nat), i0 ∈ (if c = true then [q] else []) → c = true ∧ i0 = q := fun c q h => by
      cases c
      · simp at h
      · simpa using h
    rcases hi with ((((((((hi | hi) | hi) | hi) | hi) | hi) | hi) | hi) | hi) <;> obtain ⟨hc, rfl⟩ := hmm _ _ hi <;> clear hi hmm
    · have e_b4 : b4 = false := by cases b4 <;> simp_all
      subst e_b4
      have e14 : b14 = false := by cases b14 with | false => rfl | true => exact nomatch (X.o14 rfl)
      subst e14
      obtain rfl := X.g0 rfl
      have a0 := h13 0
      have a1 := h13 1
      refine wpOp_shut (o := { dst := some 147, op := Op.load 35 (Operand.tmp 13), type := 35, pos := "law.go:62", after := #[], guard := none }) rfl (fun K hK => ?_)
      go_simp
      have X2 : F24 W gr gs i m2 a6 n6 c6 da dl dc z0 z1 z2 true b8 b10 b11 b12 b13 false b15 b16 (.agg #[.slice a6 n6 c6, .int .i64 (m2 : Int)]) v151 v153 v154 v155 v156 v157 W := { X with f4 := fun _ => rfl, o14 := fun h => (nomatch h) }
      (try simp only [Act.put, List.setIfInBounds_toArray, List.set_cons_zero, List.set_cons_succ])
      exact hK.out _ _ ⟨trivial, true, b8, b10, b11, b12, b13, false, b15, b16, _, v151, v153, v154, v155, v156, v157, rfl, rfl, X2⟩
    · have e_b8 : b8 = false := by cases b8 <;> simp_all
      subst e_b8
      have e16 : b16 = false := by cases b16 with | false => rfl | true => exact nomatch (X.o16 rfl).2.1
      subst e16
      have hW : W = W0 ∨ W = ((W0.setCell ⟨gr, i * 2, none⟩ (.slice a6 n6 c6)).setCell ⟨gr, i * 2 + 1, none⟩ (.int .i64 (m2 : Int))) := by
        cases b14 with
        | false => exact .inl (X.g0 rfl)
        | true => exact .inr (X.g1 rfl rfl)
      have X2 : F24 W0 gr gs i m2 a6 n6 c6 da dl dc z0 z1 z2 b4 true b10 b11 b12 b13 b14 b15 false v147 (.string z0) v153 v154 v155 v156 v157 W := { X with f8 := fun _ => rfl, o16 := fun h => (nomatch h) }
      refine wpOp_shut (o := { dst := some 151, op := Op.load 9 (Operand.tmp 150), type := 9, pos := "law.go:62", after := #[{ on := 7, ground := Ground.data }], guard := none }) rfl (fun K hK => ?_)
      rcases hW with rfl | rfl
      · go_simp
        (try simp only [Act.put, List.setIfInBounds_toArray, List.set_cons_zero, List.set_cons_succ])
        exact hK.out _ _ ⟨trivial, b4, true, b10, b11, b12, b13, b14, b15, false, v147, _, v153, v154, v155, v156, v157, rfl, rfl, X2⟩
      · go_simp
        (try simp only [Act.put, List.setIfInBounds_toArray, List.set_cons_zero, List.set_cons_succ])
        exact hK.out _ _ ⟨trivial, b4, true, b10, b11, b12, b13, b14, b15, false, v147, _, v153, v154, v155, v156, v157, rfl, rfl, X2⟩
    · have e_b10 : b10 = false := by cases b10 <;> simp_all
      subst e_b10
      have e16 : b16 = false := by cases b16 with | false => rfl | true => exact nomatch (X.o16 rfl).2.2.1
      subst e16
      have hW : W = W0 ∨ W = ((W0.setCell ⟨gr, i * 2, none⟩ (.slice a6 n6 c6)).setCell ⟨gr, i * 2 + 1, none⟩ (.int .i64 (m2 : Int))) := by
        cases b14 with
        | false => exact .inl (X.g0 rfl)
        | true => exact .inr (X.g1 rfl rfl)
      have X2 : F24 W0 gr gs i m2 a6 n6 c6 da dl dc z0 z1 z2 b4 b8 true b11 b12 b13 b14 b15 false v147 v151 (.slice da dl dc) v154 v155 v156 v157 W := { X with f10 := fun _ => rfl, o16 := fun h => (nomatch h) }
      refine wpOp_shut (o := { dst := some 153, op := Op.load 30 (Operand.tmp 152), type := 30, pos := "law.go:62", after := #[{ on := 9, ground := Ground.data }], guard := none }) rfl (fun K hK => ?_)
      rcases hW with rfl | rfl
      · go_simp
        (try simp only [Act.put, List.setIfInBounds_toArray, List.set_cons_zero, List.set_cons_succ])
        exact hK.out _ _ ⟨trivial, b4, b8, true, b11, b12, b13, b14, b15, false, v147, v151, _, v154, v155, v156, v157, rfl, rfl, X2⟩
      · go_simp
        (try simp only [Act.put, List.setIfInBounds_toArray, List.set_cons_zero, List.set_cons_succ])
        exact hK.out _ _ ⟨trivial, b4, b8, true, b11, b12, b13, b14, b15, false, v147, v151, _, v154, v155, v156, v157, rfl, rfl, X2⟩
    · have e_b11 : b11 = false := by cases b11 <;> simp_all
      have e_b10 : b10 = true := by cases b10 <;> simp_all
      subst e_b11 e_b10
      have e16 : b16 = false := by cases b16 with | false => rfl | true => exact nomatch (X.o16 rfl).2.2.2
      subst e16
      obtain rfl := X.f10 rfl
      have hW : W = W0 ∨ W = ((W0.setCell ⟨gr, i * 2, none⟩ (.slice a6 n6 c6)).setCell ⟨gr, i * 2 + 1, none⟩ (.int .i64 (m2 : Int))) := by
        cases b14 with
        | false => exact .inl (X.g0 rfl)
        | true => exact .inr (X.g1 rfl rfl)
      have X2 : F24 W0 gr gs i m2 a6 n6 c6 da dl dc z0 z1 z2 b4 b8 true true b12 b13 b14 b15 false v147 v151 (.slice da dl dc) (.string z1) v155 v156 v157 W := { X with f11 := fun _ => rfl, o16 := fun h => (nomatch h) }
      refine wpOp_shut (o := { dst := some 154, op := Op.convert 30 9 (Operand.tmp 153), type := 9, pos := "law.go:62", after := #[{ on := 10, ground := Ground.data }], guard := none }) rfl (fun K hK => ?_)
      rcases hW with rfl | rfl
      · go_simp
        (try simp only [Act.put, List.setIfInBounds_toArray, List.set_cons_zero, List.set_cons_succ])
        exact hK.out _ _ ⟨trivial, b4, b8, true, true, b12, b13, b14, b15, false, v147, v151, _, _, v155, v156, v157, rfl, rfl, X2⟩
      · go_simp
        (try simp only [Act.put, List.setIfInBounds_toArray, List.set_cons_zero, List.set_cons_succ])
        exact hK.out _ _ ⟨trivial, b4, b8, true, true, b12, b13, b14, b15, false, v147, v151, _, _, v155, v156, v157, rfl, rfl, X2⟩
    · have e_b12 : b12 = false := by cases b12 <;> simp_all
      have e_b8 : b8 = true := by cases b8 <;> simp_all
      have e_b11 : b11 = true := by cases b11 <;> simp_all
      subst e_b12 e_b8 e_b11
      obtain rfl := X.f8 rfl
      obtain rfl := X.f11 rfl
      refine wpOp_shut (o := { dst := some 155, op := Op.binOp BinOp.add 9 (Operand.tmp 151) (Operand.tmp 154) 9, type := 9, pos := "law.go:62", after := #[{ on := 8, ground := Ground.data }, { on := 11, ground := Ground.data }], guard := none }) rfl (fun K hK => ?_)
      go_simp
      have X2 : F24 W0 gr gs i m2 a6 n6 c6 da dl dc z0 z1 z2 b4 true b10 true true b13 b14 b15 b16 v147 (.string z0) v153 (.string z1) (.string z2) v156 v157 W := { X with f12 := fun _ => rfl }
      (try simp only [Act.put, List.setIfInBounds_toArray, List.set_cons_zero, List.set_cons_succ])
      exact hK.out _ _ ⟨trivial, b4, true, b10, true, true, b13, b14, b15, b16, v147, _, v153, _, _, v156, v157, rfl, rfl, X2⟩
    · have e_b13 : b13 = false := by cases b13 <;> simp_all
      have e_b4 : b4 = true := by cases b4 <;> simp_all
      have e_b8 : b8 = true := by cases b8 <;> simp_all
      have e_b11 : b11 = true := by cases b11 <;> simp_all
      subst e_b13 e_b4 e_b8 e_b11
      refine wpOp_shut (o := { dst := some 156, op := Op.indexAddr 28 (Operand.tmp 143) (Operand.tmp 144), type := 0, pos := "law.go:62", after := #[{ on := 0, ground := Ground.data }, { on := 1, ground := Ground.data }, { on := 0, ground := Ground.phase }, { on := 1, ground := Ground.phase }, { on := 2, ground := Ground.textOnly Departure.lateStores }, { on := 3, ground := Ground.textOnly Departure.lateStores }, { on := 4, ground := Ground.phase }, { on := 5, ground := Ground.textOnly Departure.lateStores }, { on := 6, ground := Ground.textOnly Departure.lateStores }, { on := 7, ground := Ground.textOnly Departure.lateStoresUnsure }, { on := 8, ground := Ground.phase }, { on := 9, ground := Ground.textOnly Departure.lateStores }, { on := 10, ground := Ground.textOnly Departure.lateStores }, { on := 11, ground := Ground.phase }, { on := 12, ground := Ground.textOnly Departure.lateStoresUnsure }], guard := none }) rfl (fun K hK => ?_)
      go_simp
      have X2 : F24 W0 gr gs i m2 a6 n6 c6 da dl dc z0 z1 z2 true true b10 true b12 true b14 b15 b16 v147 v151 v153 v154 v155 (.pointer (some ⟨gr, i * 2, none⟩)) v157 W := { X with f13 := fun _ => rfl }
      (try simp only [Act.put, List.setIfInBounds_toArray, List.set_cons_zero, List.set_cons_succ])
      exact hK.out _ _ ⟨trivial, true, true, b10, true, b12, true, b14, b15, b16, v147, v151, v153, v154, v155, _, v157, rfl, rfl, X2⟩
    · have e_b14 : b14 = false := by cases b14 <;> simp_all
      have e_b13 : b13 = true := by cases b13 <;> simp_all
      have e_b4 : b4 = true := by cases b4 <;> simp_all
      have e_b8 : b8 = true := by cases b8 <;> simp_all
      have e_b11 : b11 = true := by cases b11 <;> simp_all
      subst e_b14 e_b13 e_b4 e_b8 e_b11
      obtain rfl := X.g0 rfl
      obtain rfl := X.f4 rfl
      obtain rfl := X.f13 rfl
      have e16 : b16 = false := by cases b16 with | false => rfl | true => exact nomatch (X.o16 rfl).1
      subst e16
      obtain ⟨u0, hu0⟩ := hr0
      obtain ⟨u1, hu1⟩ := hr1
      have X2 : F24 W gr gs i m2 a6 n6 c6 da dl dc z0 z1 z2 true true b10 true b12 true true b15 false (.agg #[.slice a6 n6 c6, .int .i64 (m2 : Int)]) v151 v153 v154 v155 (.pointer (some ⟨gr, i * 2, none⟩)) v157 ((W.setCell ⟨gr, i * 2, none⟩ (.slice a6 n6 c6)).setCell ⟨gr, i * 2 + 1, none⟩ (.int .i64 (m2 : Int))) := { X with g0 := fun h => (nomatch h), g1 := fun _ _ => rfl, g2 := fun h => (nomatch h), o14 := fun _ => rfl, o16 := fun h => (nomatch h) }
      refine wpOp_shut (o := { dst := none, op := Op.store 35 (Operand.tmp 156) (Operand.tmp 147), type := 0, pos := "law.go:62", after := #[{ on := 13, ground := Ground.data }, { on := 4, ground := Ground.data }, { on := 0, ground := Ground.phase }, { on := 1, ground := Ground.phase }, { on := 2, ground := Ground.textOnly Departure.lateStores }, { on := 3, ground := Ground.textOnly Departure.lateStores }, { on := 4, ground := Ground.phase }, { on := 5, ground := Ground.textOnly Departure.lateStores }, { on := 6, ground := Ground.textOnly Departure.lateStores }, { on := 7, ground := Ground.textOnly Departure.lateStoresUnsure }, { on := 8, ground := Ground.phase }, { on := 9, ground := Ground.textOnly Departure.lateStores }, { on := 10, ground := Ground.textOnly Departure.lateStores }, { on := 11, ground := Ground.phase }, { on := 12, ground := Ground.textOnly Departure.lateStoresUnsure }], guard := none }) rfl (fun K hK => ?_)
      go_simp
      (try simp only [Act.put, List.setIfInBounds_toArray, List.set_cons_zero, List.set_cons_succ])
      exact hK.out _ _ ⟨trivial, true, true, b10, true, b12, true, true, b15, false, _, v151, v153, v154, v155, _, v157, rfl, rfl, X2⟩
    · have e_b15 : b15 = false := by cases b15 <;> simp_all
      have e_b4 : b4 = true := by cases b4 <;> simp_all
      have e_b8 : b8 = true := by cases b8 <;> simp_all
      have e_b10 : b10 = true := by cases b10 <;> simp_all
      have e_b11 : b11 = true := by cases b11 <;> simp_all
      have e_b12 : b12 = true := by cases b12 <;> simp_all
      have e_b13 : b13 = true := by cases b13 <;> simp_all
      have e_b14 : b14 = true := by cases b14 <;> simp_all
      subst e_b15 e_b4 e_b8 e_b10 e_b11 e_b12 e_b13 e_b14
      refine wpOp_shut (o := { dst := some 157, op := Op.indexAddr 29 (Operand.tmp 145) (Operand.tmp 146), type := 0, pos := "law.go:62", after := #[{ on := 2, ground := Ground.data }, { on := 3, ground := Ground.data }, { on := 0, ground := Ground.phase }, { on := 1, ground := Ground.phase }, { on := 2, ground := Ground.phase }, { on := 3, ground := Ground.phase }, { on := 4, ground := Ground.phase }, { on := 5, ground := Ground.phase }, { on := 6, ground := Ground.phase }, { on := 7, ground := Ground.phase }, { on := 8, ground := Ground.phase }, { on := 9, ground := Ground.phase }, { on := 10, ground := Ground.phase }, { on := 11, ground := Ground.phase }, { on := 12, ground := Ground.phase }, { on := 13, ground := Ground.phase }, { on := 14, ground := Ground.phase }], guard := none }) rfl (fun K hK => ?_)
      go_simp
      have X2 : F24 W0 gr gs i m2 a6 n6 c6 da dl dc z0 z1 z2 true true true true true true true true b16 v147 v151 v153 v154 v155 v156 (.pointer (some ⟨gs, i, none⟩)) W := { X with f15 := fun _ => rfl }
      (try simp only [Act.put, List.setIfInBounds_toArray, List.set_cons_zero, List.set_cons_succ])
      exact hK.out _ _ ⟨trivial, true, true, true, true, true, true, true, true, b16, v147, v151, v153, v154, v155, v156, _, rfl, rfl, X2⟩
    · have e_b16 : b16 = false := by cases b16 <;> simp_all
      have e_b15 : b15 = true := by cases b15 <;> simp_all
      have e_b12 : b12 = true := by cases b12 <;> simp_all
      have e_b14 : b14 = true := by cases b14 <;> simp_all
      have e_b4 : b4 = true := by cases b4 <;> simp_all
      have e_b8 : b8 = true := by cases b8 <;> simp_all
      have e_b10 : b10 = true := by cases b10 <;> simp_all
      have e_b11 : b11 = true := by cases b11 <;> simp_all
      have e_b13 : b13 = true := by cases b13 <;> simp_all
      subst e_b16 e_b15 e_b12 e_b14 e_b4 e_b8 e_b10 e_b11 e_b13
      obtain rfl := X.g1 rfl rfl
      obtain rfl := X.f12 rfl
      obtain rfl := X.f15 rfl
      have X2 : F24 W0 gr gs i m2 a6 n6 c6 da dl dc z0 z1 z2 true true true true true true true true true v147 v151 v153 v154 (.string z2) v156 (.pointer (some ⟨gs, i, none⟩)) (((W0.setCell ⟨gr, i * 2, none⟩ (.slice a6 n6 c6)).setCell ⟨gr, i * 2 + 1, none⟩ (.int .i64 (m2 : Int))).setCell ⟨gs, i, none⟩ (.string z2)) := { X with g0 := fun h => (nomatch h), g1 := fun _ h => (nomatch h), g2 := fun _ => rfl, o16 := fun _ => ⟨rfl, rfl, rfl, rfl⟩ }
      refine wpOp_shut (o := { dst := none, op := Op.store 9 (Operand.tmp 157) (Operand.tmp 155), type := 0, pos := "law.go:62", after := #[{ on := 15, ground := Ground.data }, { on := 12, ground := Ground.data }, { on := 14, ground := Ground.chain }, { on := 0, ground := Ground.phase }, { on := 1, ground := Ground.phase }, { on := 2, ground := Ground.phase }, { on := 3, ground := Ground.phase }, { on := 4, ground := Ground.phase }, { on := 5, ground := Ground.phase }, { on := 6, ground := Ground.phase }, { on := 7, ground := Ground.phase }, { on := 8, ground := Ground.phase }, { on := 9, ground := Ground.phase }, { on := 10, ground := Ground.phase }, { on := 11, ground := Ground.phase }, { on := 12, ground := Ground.phase }, { on := 13, ground := Ground.phase }, { on := 14, ground := Ground.phase }], guard := none }) rfl (fun K hK => ?_)
      go_simp
      (try simp only [Act.put, List.setIfInBounds_toArray, List.set_cons_zero, List.set_cons_succ])
      exact hK.out _ _ ⟨trivial, true, true, true, true, true, true, true, true, true, v147, v151, v153, v154, _, v156, _, rfl, rfl, X2⟩

end Go.Proofs.Ytpjfhfbjdcgbjab
