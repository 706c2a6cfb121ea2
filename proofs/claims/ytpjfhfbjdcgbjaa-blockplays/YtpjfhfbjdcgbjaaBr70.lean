/-
  BlockPlays: a block that is held is read whole, and how often it is held; the drawn region.
-/
import Derived.Test.YtpjfhfbjdcgbjaaBr61
namespace Go.Proofs.Ytpjfhfbjdcgbjaa
open Go.RowKit
set_option linter.unusedVariables false
set_option linter.unusedSimpArgs false

def ops70 : Array Oper := #[{ dst := some 362, op := Op.move (Operand.tmp 28), type := 25, pos := "law.go:118", after := #[], guard := none },
  { dst := some 363, op := Op.binOp BinOp.neq 25 (Operand.tmp 362) (Operand.const (Value.int IntKind.i64 0)) 25, type := 4, pos := "law.go:118", after := #[{ on := 0, ground := Ground.data }], guard := none },
  { dst := some 364, op := Op.move (Operand.tmp 363), type := 4, pos := "law.go:118", after := #[{ on := 1, ground := Ground.data }], guard := none },
  { dst := some 365, op := Op.move (Operand.tmp 27), type := 30, pos := "law.go:118", after := #[{ on := 2, ground := Ground.guard }], guard := some (2, false) },
  { dst := some 366, op := Op.convert 30 9 (Operand.tmp 365), type := 9, pos := "law.go:118", after := #[{ on := 3, ground := Ground.data }, { on := 2, ground := Ground.guard }], guard := some (2, false) },
  { dst := some 367, op := Op.fieldAddr 35 (Operand.tmp 26) 0, type := 0, pos := "law.go:118", after := #[{ on := 2, ground := Ground.guard }], guard := some (2, false) },
  { dst := some 368, op := Op.slice 33 (Operand.tmp 367) none none none, type := 30, pos := "law.go:118", after := #[{ on := 5, ground := Ground.data }, { on := 2, ground := Ground.guard }], guard := some (2, false) },
  { dst := some 369, op := Op.convert 30 9 (Operand.tmp 368), type := 9, pos := "law.go:118", after := #[{ on := 6, ground := Ground.data }, { on := 2, ground := Ground.guard }], guard := some (2, false) },
  { dst := some 370, op := Op.binOp BinOp.neq 9 (Operand.tmp 366) (Operand.tmp 369) 9, type := 4, pos := "law.go:118", after := #[{ on := 4, ground := Ground.data }, { on := 7, ground := Ground.data }, { on := 2, ground := Ground.guard }], guard := some (2, false) },
  { dst := some 371, op := Op.pick (Operand.tmp 364) (Operand.const (Value.bool true)) (Operand.tmp 370), type := 4, pos := "law.go:118", after := #[{ on := 2, ground := Ground.data }, { on := 8, ground := Ground.data }], guard := none },
  { dst := some 372, op := Op.move (Operand.tmp 371), type := 4, pos := "law.go:118", after := #[{ on := 9, ground := Ground.data }, { on := 2, ground := Ground.chain }], guard := none },
  { dst := some 373, op := Op.move (Operand.tmp 5), type := 24, pos := "law.go:118", after := #[{ on := 10, ground := Ground.guard }], guard := some (10, false) },
  { dst := some 374, op := Op.move (Operand.tmp 25), type := 3, pos := "law.go:118", after := #[{ on := 10, ground := Ground.guard }], guard := some (10, false) },
  { dst := some 375, op := Op.call { callee := Callee.value (Operand.func 18), args := #[Operand.tmp 373, Operand.tmp 374], argTypes := #[24, 3] }, type := 3, pos := "law.go:118", after := #[{ on := 11, ground := Ground.data }, { on := 12, ground := Ground.data }, { on := 10, ground := Ground.chain }, { on := 10, ground := Ground.guard }], guard := some (10, false) },
  { dst := some 376, op := Op.fieldAddr 35 (Operand.tmp 26) 1, type := 0, pos := "law.go:118", after := #[{ on := 10, ground := Ground.guard }], guard := some (10, false) },
  { dst := some 377, op := Op.load 3 (Operand.tmp 376), type := 3, pos := "law.go:118", after := #[{ on := 14, ground := Ground.data }, { on := 10, ground := Ground.guard }], guard := some (10, false) },
  { dst := some 378, op := Op.binOp BinOp.neq 3 (Operand.tmp 375) (Operand.tmp 377) 3, type := 4, pos := "law.go:118", after := #[{ on := 13, ground := Ground.data }, { on := 15, ground := Ground.data }, { on := 10, ground := Ground.guard }], guard := some (10, false) },
  { dst := some 379, op := Op.pick (Operand.tmp 372) (Operand.const (Value.bool true)) (Operand.tmp 378), type := 4, pos := "law.go:118", after := #[{ on := 10, ground := Ground.data }, { on := 16, ground := Ground.data }], guard := none }]

theorem run_arr_all (w : World) (b o : Nat) : (Instr.sliceAt 33 (.pointer (some ⟨b, o, none⟩)) none none none).run Try.prog w = .ok (.slice (some ⟨b, o, none⟩) 64 64) w := by
  have h := info5
  cases hq : Try.prog.info? 5 with
  | none => simp [hq] at h
  | some i =>
    have hs : i.size = 1 := by simpa [hq] using h
    simp [Instr.sliceAt, Instr.sureAddr, run_underlying Try.underlying33, Instr.sliceBounds, run_sliceBound, sizeOf, typeInfo, hq, hs, Addr.add]

set_option maxRecDepth 100000 in
set_option maxHeartbeats 8000000 in
theorem reg70 (w : World) (p i g26 l27 c27 hd : Nat) (a27 : Option Addr) (Z : ByteArray) (hc1 : (convert 30 9 (.slice a27 l27 c27)).run Try.prog w.drew = .ok (.string Z) w.drew) (hsl : (Instr.sliceAt 33 (.pointer (some ⟨g26, 0, none⟩)) none none none).run Try.prog w.drew = .ok (.slice (some ⟨g26, 0, none⟩) 64 64) w.drew) (hc2 : (convert 30 9 (.slice (some ⟨g26, 0, none⟩) 64 64)).run Try.prog w.drew = .ok (.string Z) w.drew) (h64 : w.drew.cell? ⟨g26, 64, none⟩ = some (.int .i64 (hd : Int))) (q18 : Calls Try.prog 18 #[.pointer (some ⟨p, 0, none⟩), .int .i64 (i : Int)] w.drew fun e w' => e = .returned (.int .i64 (hd : Int)) ∧ w.drew = w') (s0 s1 s2 s3 s4 s6 s7 s8 s9 s10 s11 s12 s13 s14 s15 s16 s17 s18 s19 s20 s21 s22 s23 s24 s29 s30 s31 s32 s33 s34 s35 s36 s37 s38 s39 s40 s41 s42 s43 s44 s45 s46 s47 s48 s49 s50 s51 s52 s53 s54 s55 s56 s57 s58 s59 s60 s61 s62 s63 s64 s65 s66 s67 s68 s69 s70 s71 s72 s73 s74 s75 s76 s77 s78 s79 s80 s81 s82 s83 s84 s85 s86 s87 s88 s89 s90 s91 s92 s93 s94 s95 s96 s97 s98 s99 s100 s101 s102 s103 s104 s105 s106 s107 s108 s109 s110 s111 s112 s113 s114 s115 s116 s117 s118 s119 s120 s121 s122 s123 s124 s125 s126 s127 s128 s129 s130 s131 s132 s133 s134 s135 s136 s137 s138 s139 s140 s141 s142 s143 s144 s145 s146 s147 s148 s149 s150 s151 s152 s153 s154 s155 s156 s157 s158 s159 s160 s161 s162 s163 s164 s165 s166 s167 s168 s169 s170 s171 s172 s173 s174 s175 s176 s177 s178 s179 s180 s181 s182 s183 s184 s185 s186 s187 s188 s189 s190 s191 s192 s193 s194 s195 s196 s197 s198 s199 s200 s201 s202 s203 s204 s205 s206 s207 s208 s209 s210 s211 s212 s213 s214 s215 s216 s217 s218 s219 s220 s221 s222 s223 s224 s225 s226 s227 s228 s229 s230 s231 s232 s233 s234 s235 s236 s237 s238 s239 s240 s241 s242 s243 s244 s245 s246 s247 s248 s249 s250 s251 s252 s253 s254 s255 s256 s257 s258 s259 s260 s261 s262 s263 s264 s265 s266 s267 s268 s269 s270 s271 s272 s273 s274 s275 s276 s277 s278 s279 s280 s281 s282 s283 s284 s285 s286 s287 s288 s289 s290 s291 s292 s293 s294 s295 s296 s297 s298 s299 s300 s301 s302 s303 s304 s305 s306 s307 s308 s309 s310 s311 s312 s313 s314 s315 s316 s317 s318 s319 s320 s321 s322 s323 s324 s325 s326 s327 s328 s329 s330 s331 s332 s333 s334 s335 s336 s337 s338 s339 s340 s341 s342 s343 s344 s345 s346 s347 s348 s349 s350 s351 s352 s353 s354 s355 s356 s357 s358 s359 s360 s361 s362 s363 s364 s365 s366 s367 s368 s369 s370 s371 s372 s373 s374 s375 s376 s377 s378 s379 : Value) (Q : Exit → Act → World → Prop) (HP : Hid (∀ c a (d : Nat) v w, Q (.panic c) (Act.put a (some d) v) w → Q (.panic c) a w))
    (hQ : ∀ (x362 x363 x364 x365 x366 x367 x368 x369 x370 x371 x372 x373 x374 x375 x376 x377 x378 : Value), Q .normal { tmps := #[s0, s1, s2, s3, s4, .pointer (some ⟨p, 0, none⟩), s6, s7, s8, s9, s10, s11, s12, s13, s14, s15, s16, s17, s18, s19, s20, s21, s22, s23, s24, .int .i64 (i : Int), .pointer (some ⟨g26, 0, none⟩), .slice a27 l27 c27, .int .i64 0, s29, s30, s31, s32, s33, s34, s35, s36, s37, s38, s39, s40, s41, s42, s43, s44, s45, s46, s47, s48, s49, s50, s51, s52, s53, s54, s55, s56, s57, s58, s59, s60, s61, s62, s63, s64, s65, s66, s67, s68, s69, s70, s71, s72, s73, s74, s75, s76, s77, s78, s79, s80, s81, s82, s83, s84, s85, s86, s87, s88, s89, s90, s91, s92, s93, s94, s95, s96, s97, s98, s99, s100, s101, s102, s103, s104, s105, s106, s107, s108, s109, s110, s111, s112, s113, s114, s115, s116, s117, s118, s119, s120, s121, s122, s123, s124, s125, s126, s127, s128, s129, s130, s131, s132, s133, s134, s135, s136, s137, s138, s139, s140, s141, s142, s143, s144, s145, s146, s147, s148, s149, s150, s151, s152, s153, s154, s155, s156, s157, s158, s159, s160, s161, s162, s163, s164, s165, s166, s167, s168, s169, s170, s171, s172, s173, s174, s175, s176, s177, s178, s179, s180, s181, s182, s183, s184, s185, s186, s187, s188, s189, s190, s191, s192, s193, s194, s195, s196, s197, s198, s199, s200, s201, s202, s203, s204, s205, s206, s207, s208, s209, s210, s211, s212, s213, s214, s215, s216, s217, s218, s219, s220, s221, s222, s223, s224, s225, s226, s227, s228, s229, s230, s231, s232, s233, s234, s235, s236, s237, s238, s239, s240, s241, s242, s243, s244, s245, s246, s247, s248, s249, s250, s251, s252, s253, s254, s255, s256, s257, s258, s259, s260, s261, s262, s263, s264, s265, s266, s267, s268, s269, s270, s271, s272, s273, s274, s275, s276, s277, s278, s279, s280, s281, s282, s283, s284, s285, s286, s287, s288, s289, s290, s291, s292, s293, s294, s295, s296, s297, s298, s299, s300, s301, s302, s303, s304, s305, s306, s307, s308, s309, s310, s311, s312, s313, s314, s315, s316, s317, s318, s319, s320, s321, s322, s323, s324, s325, s326, s327, s328, s329, s330, s331, s332, s333, s334, s335, s336, s337, s338, s339, s340, s341, s342, s343, s344, s345, s346, s347, s348, s349, s350, s351, s352, s353, s354, s355, s356, s357, s358, s359, s360, s361, x362, x363, x364, x365, x366, x367, x368, x369, x370, x371, x372, x373, x374, x375, x376, x377, x378, .bool false], defers := [] } w.drew) :
    (Code.region 70 ops70 true).wp Try.prog Q { tmps := #[s0, s1, s2, s3, s4, .pointer (some ⟨p, 0, none⟩), s6, s7, s8, s9, s10, s11, s12, s13, s14, s15, s16, s17, s18, s19, s20, s21, s22, s23, s24, .int .i64 (i : Int), .pointer (some ⟨g26, 0, none⟩), .slice a27 l27 c27, .int .i64 0, s29, s30, s31, s32, s33, s34, s35, s36, s37, s38, s39, s40, s41, s42, s43, s44, s45, s46, s47, s48, s49, s50, s51, s52, s53, s54, s55, s56, s57, s58, s59, s60, s61, s62, s63, s64, s65, s66, s67, s68, s69, s70, s71, s72, s73, s74, s75, s76, s77, s78, s79, s80, s81, s82, s83, s84, s85, s86, s87, s88, s89, s90, s91, s92, s93, s94, s95, s96, s97, s98, s99, s100, s101, s102, s103, s104, s105, s106, s107, s108, s109, s110, s111, s112, s113, s114, s115, s116, s117, s118, s119, s120, s121, s122, s123, s124, s125, s126, s127, s128, s129, s130, s131, s132, s133, s134, s135, s136, s137, s138, s139, s140, s141, s142, s143, s144, s145, s146, s147, s148, s149, s150, s151, s152, s153, s154, s155, s156, s157, s158, s159, s160, s161, s162, s163, s164, s165, s166, s167, s168, s169, s170, s171, s172, s173, s174, s175, s176, s177, s178, s179, s180, s181, s182, s183, s184, s185, s186, s187, s188, s189, s190, s191, s192, s193, s194, s195, s196, s197, s198, s199, s200, s201, s202, s203, s204, s205, s206, s207, s208, s209, s210, s211, s212, s213, s214, s215, s216, s217, s218, s219, s220, s221, s222, s223, s224, s225, s226, s227, s228, s229, s230, s231, s232, s233, s234, s235, s236, s237, s238, s239, s240, s241, s242, s243, s244, s245, s246, s247, s248, s249, s250, s251, s252, s253, s254, s255, s256, s257, s258, s259, s260, s261, s262, s263, s264, s265, s266, s267, s268, s269, s270, s271, s272, s273, s274, s275, s276, s277, s278, s279, s280, s281, s282, s283, s284, s285, s286, s287, s288, s289, s290, s291, s292, s293, s294, s295, s296, s297, s298, s299, s300, s301, s302, s303, s304, s305, s306, s307, s308, s309, s310, s311, s312, s313, s314, s315, s316, s317, s318, s319, s320, s321, s322, s323, s324, s325, s326, s327, s328, s329, s330, s331, s332, s333, s334, s335, s336, s337, s338, s339, s340, s341, s342, s343, s344, s345, s346, s347, s348, s349, s350, s351, s352, s353, s354, s355, s356, s357, s358, s359, s360, s361, s362, s363, s364, s365, s366, s367, s368, s369, s370, s371, s372, s373, s374, s375, s376, s377, s378, s379], defers := [] } w := by
  have HQ : Hid (∀ (x362 x363 x364 x365 x366 x367 x368 x369 x370 x371 x372 x373 x374 x375 x376 x377 x378 : Value), Q .normal { tmps := #[s0, s1, s2, s3, s4, .pointer (some ⟨p, 0, none⟩), s6, s7, s8, s9, s10, s11, s12, s13, s14, s15, s16, s17, s18, s19, s20, s21, s22, s23, s24, .int .i64 (i : Int), .pointer (some ⟨g26, 0, none⟩), .slice a27 l27 c27, .int .i64 0, s29, s30, s31, s32, s33, s34, s35, s36, s37, s38, s39, s40, s41, s42, s43, s44, s45, s46, s47, s48, s49, s50, s51, s52, s53, s54, s55, s56, s57, s58, s59, s60, s61, s62, s63, s64, s65, s66, s67, s68, s69, s70, s71, s72, s73, s74, s75, s76, s77, s78, s79, s80, s81, s82, s83, s84, s85, s86, s87, s88, s89, s90, s91, s92, s93, s94, s95, s96, s97, s98, s99, s100, s101, s102, s103, s104, s105, s106, s107, s108, s109, s110, s111, s112, s113, s114, s115, s116, s117, s118, s119, s120, s121, s122, s123, s124, s125, s126, s127, s128, s129, s130, s131, s132, s133, s134, s135, s136, s137, s138, s139, s140, s141, s142, s143, s144, s145, s146, s147, s148, s149, s150, s151, s152, s153, s154, s155, s156, s157, s158, s159, s160, s161, s162, s163, s164, s165, s166, s167, s168, s169, s170, s171, s172, s173, s174, s175, s176, s177, s178, s179, s180, s181, s182, s183, s184, s185, s186, s187, s188, s189, s190, s191, s192, s193, s194, s195, s196, s197, s198, s199, s200, s201, s202, s203, s204, s205, s206, s207, s208, s209, s210, s211, s212, s213, s214, s215, s216, s217, s218, s219, s220, s221, s222, s223, s224, s225, s226, s227, s228, s229, s230, s231, s232, s233, s234, s235, s236, s237, s238, s239, s240, s241, s242, s243, s244, s245, s246, s247, s248, s249, s250, s251, s252, s253, s254, s255, s256, s257, s258, s259, s260, s261, s262, s263, s264, s265, s266, s267, s268, s269, s270, s271, s272, s273, s274, s275, s276, s277, s278, s279, s280, s281, s282, s283, s284, s285, s286, s287, s288, s289, s290, s291, s292, s293, s294, s295, s296, s297, s298, s299, s300, s301, s302, s303, s304, s305, s306, s307, s308, s309, s310, s311, s312, s313, s314, s315, s316, s317, s318, s319, s320, s321, s322, s323, s324, s325, s326, s327, s328, s329, s330, s331, s332, s333, s334, s335, s336, s337, s338, s339, s340, s341, s342, s343, s344, s345, s346, s347, s348, s349, s350, s351, s352, s353, s354, s355, s356, s357, s358, s359, s360, s361, x362, x363, x364, x365, x366, x367, x368, x369, x370, x371, x372, x373, x374, x375, x376, x377, x378, .bool false], defers := [] } w.drew) := hQ
  clear hQ
  refine wp_region_held_drew (S := fun W : World => W = w.drew) (by kernel_rfl) rfl (fun hHeld => ?_)
  refine wpAnyH_take (i := 0) (oi := { dst := some 362, op := Op.move (Operand.tmp 28), type := 25, pos := "law.go:118", after := #[], guard := none }) (v := ?_) rfl (by kernel_rfl) (by kernel_rfl) (by kernel_rfl) (fun c a w h => HP.out _ _ _ _ _ h) (Or.inl ⟨by rfl, ?_⟩) rfl ?_
  rotate_left 1
  · (intro W hSw; subst hSw; go_simp; try with_reducible rfl)
  (try simp only [Act.put, List.setIfInBounds_toArray, List.set_cons_zero, List.set_cons_succ])
  refine wpAnyH_take (i := 1) (oi := { dst := some 363, op := Op.binOp BinOp.neq 25 (Operand.tmp 362) (Operand.const (Value.int IntKind.i64 0)) 25, type := 4, pos := "law.go:118", after := #[{ on := 0, ground := Ground.data }], guard := none }) (v := ?_) rfl (by kernel_rfl) (by kernel_rfl) (by kernel_rfl) (fun c a w h => HP.out _ _ _ _ _ h) (Or.inl ⟨by rfl, ?_⟩) rfl ?_
  rotate_left 1
  · (intro W hSw; subst hSw; go_simp; try with_reducible rfl)
  (try simp only [Act.put, List.setIfInBounds_toArray, List.set_cons_zero, List.set_cons_succ])
  refine wpAnyH_take (i := 2) (oi := { dst := some 364, op := Op.move (Operand.tmp 363), type := 4, pos := "law.go:118", after := #[{ on := 1, ground := Ground.data }], guard := none }) (v := ?_) rfl (by kernel_rfl) (by kernel_rfl) (by kernel_rfl) (fun c a w h => HP.out _ _ _ _ _ h) (Or.inl ⟨by rfl, ?_⟩) rfl ?_
  rotate_left 1
  · (intro W hSw; subst hSw; go_simp; try with_reducible rfl)
  (try simp only [Act.put, List.setIfInBounds_toArray, List.set_cons_zero, List.set_cons_succ])
  refine wpAnyH_take (i := 3) (oi := { dst := some 365, op := Op.move (Operand.tmp 27), type := 30, pos := "law.go:118", after := #[{ on := 2, ground := Ground.guard }], guard := some (2, false) }) (v := ?_) rfl (by kernel_rfl) (by kernel_rfl) (by kernel_rfl) (fun c a w h => HP.out _ _ _ _ _ h) (Or.inl ⟨by rfl, ?_⟩) rfl ?_
  rotate_left 1
  · (intro W hSw; subst hSw; go_simp; try with_reducible rfl)
  (try simp only [Act.put, List.setIfInBounds_toArray, List.set_cons_zero, List.set_cons_succ])
  refine wpAnyH_take (i := 4) (oi := { dst := some 366, op := Op.convert 30 9 (Operand.tmp 365), type := 9, pos := "law.go:118", after := #[{ on := 3, ground := Ground.data }, { on := 2, ground := Ground.guard }], guard := some (2, false) }) (v := ?_) rfl (by kernel_rfl) (by kernel_rfl) (by kernel_rfl) (fun c a w h => HP.out _ _ _ _ _ h) (Or.inl ⟨by rfl, ?_⟩) rfl ?_
  rotate_left 1
  · (intro W hSw; subst hSw; go_simp; try with_reducible rfl)
  (try simp only [Act.put, List.setIfInBounds_toArray, List.set_cons_zero, List.set_cons_succ])
  refine wpAnyH_take (i := 5) (oi := { dst := some 367, op := Op.fieldAddr 35 (Operand.tmp 26) 0, type := 0, pos := "law.go:118", after := #[{ on := 2, ground := Ground.guard }], guard := some (2, false) }) (v := ?_) rfl (by kernel_rfl) (by kernel_rfl) (by kernel_rfl) (fun c a w h => HP.out _ _ _ _ _ h) (Or.inl ⟨by rfl, ?_⟩) rfl ?_
  rotate_left 1
  · (intro W hSw; subst hSw; go_simp; try with_reducible rfl)
  (try simp only [Act.put, List.setIfInBounds_toArray, List.set_cons_zero, List.set_cons_succ])
  refine wpAnyH_take (i := 6) (oi := { dst := some 368, op := Op.slice 33 (Operand.tmp 367) none none none, type := 30, pos := "law.go:118", after := #[{ on := 5, ground := Ground.data }, { on := 2, ground := Ground.guard }], guard := some (2, false) }) (v := ?_) rfl (by kernel_rfl) (by kernel_rfl) (by kernel_rfl) (fun c a w h => HP.out _ _ _ _ _ h) (Or.inl ⟨by rfl, ?_⟩) rfl ?_
  rotate_left 1
  · (intro W hSw; subst hSw; go_simp; try with_reducible rfl)
  (try simp only [Act.put, List.setIfInBounds_toArray, List.set_cons_zero, List.set_cons_succ])
  refine wpAnyH_take (i := 7) (oi := { dst := some 369, op := Op.convert 30 9 (Operand.tmp 368), type := 9, pos := "law.go:118", after := #[{ on := 6, ground := Ground.data }, { on := 2, ground := Ground.guard }], guard := some (2, false) }) (v := ?_) rfl (by kernel_rfl) (by kernel_rfl) (by kernel_rfl) (fun c a w h => HP.out _ _ _ _ _ h) (Or.inl ⟨by rfl, ?_⟩) rfl ?_
  rotate_left 1
  · (intro W hSw; subst hSw; go_simp; try with_reducible rfl)
  (try simp only [Act.put, List.setIfInBounds_toArray, List.set_cons_zero, List.set_cons_succ])
  refine wpAnyH_take (i := 8) (oi := { dst := some 370, op := Op.binOp BinOp.neq 9 (Operand.tmp 366) (Operand.tmp 369) 9, type := 4, pos := "law.go:118", after := #[{ on := 4, ground := Ground.data }, { on := 7, ground := Ground.data }, { on := 2, ground := Ground.guard }], guard := some (2, false) }) (v := ?_) rfl (by kernel_rfl) (by kernel_rfl) (by kernel_rfl) (fun c a w h => HP.out _ _ _ _ _ h) (Or.inl ⟨by rfl, ?_⟩) rfl ?_
  rotate_left 1
  · (intro W hSw; subst hSw; go_simp; try with_reducible rfl)
  (try simp only [Act.put, List.setIfInBounds_toArray, List.set_cons_zero, List.set_cons_succ])
  refine wpAnyH_take (i := 9) (oi := { dst := some 371, op := Op.pick (Operand.tmp 364) (Operand.const (Value.bool true)) (Operand.tmp 370), type := 4, pos := "law.go:118", after := #[{ on := 2, ground := Ground.data }, { on := 8, ground := Ground.data }], guard := none }) (v := ?_) rfl (by kernel_rfl) (by kernel_rfl) (by kernel_rfl) (fun c a w h => HP.out _ _ _ _ _ h) (Or.inl ⟨by rfl, ?_⟩) rfl ?_
  rotate_left 1
  · (intro W hSw; subst hSw; go_simp; try with_reducible rfl)
  (try simp only [Act.put, List.setIfInBounds_toArray, List.set_cons_zero, List.set_cons_succ])
  refine wpAnyH_take (i := 10) (oi := { dst := some 372, op := Op.move (Operand.tmp 371), type := 4, pos := "law.go:118", after := #[{ on := 9, ground := Ground.data }, { on := 2, ground := Ground.chain }], guard := none }) (v := ?_) rfl (by kernel_rfl) (by kernel_rfl) (by kernel_rfl) (fun c a w h => HP.out _ _ _ _ _ h) (Or.inl ⟨by rfl, ?_⟩) rfl ?_
  rotate_left 1
  · (intro W hSw; subst hSw; go_simp; try with_reducible rfl)
  (try simp only [Act.put, List.setIfInBounds_toArray, List.set_cons_zero, List.set_cons_succ])
  refine wpAnyH_take (i := 11) (oi := { dst := some 373, op := Op.move (Operand.tmp 5), type := 24, pos := "law.go:118", after := #[{ on := 10, ground := Ground.guard }], guard := some (10, false) }) (v := ?_) rfl (by kernel_rfl) (by kernel_rfl) (by kernel_rfl) (fun c a w h => HP.out _ _ _ _ _ h) (Or.inl ⟨by rfl, ?_⟩) rfl ?_
  rotate_left 1
  · (intro W hSw; subst hSw; go_simp; try with_reducible rfl)
  (try simp only [Act.put, List.setIfInBounds_toArray, List.set_cons_zero, List.set_cons_succ])
  refine wpAnyH_take (i := 12) (oi := { dst := some 374, op := Op.move (Operand.tmp 25), type := 3, pos := "law.go:118", after := #[{ on := 10, ground := Ground.guard }], guard := some (10, false) }) (v := ?_) rfl (by kernel_rfl) (by kernel_rfl) (by kernel_rfl) (fun c a w h => HP.out _ _ _ _ _ h) (Or.inl ⟨by rfl, ?_⟩) rfl ?_
  rotate_left 1
  · (intro W hSw; subst hSw; go_simp; try with_reducible rfl)
  (try simp only [Act.put, List.setIfInBounds_toArray, List.set_cons_zero, List.set_cons_succ])
  refine wpAnyH_take (i := 14) (oi := { dst := some 376, op := Op.fieldAddr 35 (Operand.tmp 26) 1, type := 0, pos := "law.go:118", after := #[{ on := 10, ground := Ground.guard }], guard := some (10, false) }) (v := ?_) rfl (by kernel_rfl) (by kernel_rfl) (by kernel_rfl) (fun c a w h => HP.out _ _ _ _ _ h) (Or.inl ⟨by rfl, ?_⟩) rfl ?_
  rotate_left 1
  · (intro W hSw; subst hSw; go_simp; try with_reducible rfl)
  (try simp only [Act.put, List.setIfInBounds_toArray, List.set_cons_zero, List.set_cons_succ])
  refine wpAnyH_take (i := 15) (oi := { dst := some 377, op := Op.load 3 (Operand.tmp 376), type := 3, pos := "law.go:118", after := #[{ on := 14, ground := Ground.data }, { on := 10, ground := Ground.guard }], guard := some (10, false) }) (v := ?_) rfl (by kernel_rfl) (by kernel_rfl) (by kernel_rfl) (fun c a w h => HP.out _ _ _ _ _ h) (Or.inl ⟨by rfl, ?_⟩) rfl ?_
  rotate_left 1
  · (intro W hSw; subst hSw; go_simp; try with_reducible rfl)
  (try simp only [Act.put, List.setIfInBounds_toArray, List.set_cons_zero, List.set_cons_succ])
  refine wpAnyH_ready (rs := [13]) (by kernel_rfl) (by simp) ?_
  refine AllReadyH.cons (o := { dst := some 375, op := Op.call { callee := Callee.value (Operand.func 18), args := #[Operand.tmp 373, Operand.tmp 374], argTypes := #[24, 3] }, type := 3, pos := "law.go:118", after := #[{ on := 11, ground := Ground.data }, { on := 12, ground := Ground.data }, { on := 10, ground := Ground.chain }, { on := 10, ground := Ground.guard }], guard := some (10, false) }) rfl (fun K hK => ?_) AllReadyH.nil
  go_simp
  refine q18.mono ?_
  rintro e wc ⟨rfl, rfl⟩
  refine hK.out _ _ rfl (fun hHeld => ?_)
  clear hK K
  (try simp only [Act.put, List.setIfInBounds_toArray, List.set_cons_zero, List.set_cons_succ])
  refine wpAnyH_take (i := 16) (oi := { dst := some 378, op := Op.binOp BinOp.neq 3 (Operand.tmp 375) (Operand.tmp 377) 3, type := 4, pos := "law.go:118", after := #[{ on := 13, ground := Ground.data }, { on := 15, ground := Ground.data }, { on := 10, ground := Ground.guard }], guard := some (10, false) }) (v := ?_) rfl (by kernel_rfl) (by kernel_rfl) (by kernel_rfl) (fun c a w h => HP.out _ _ _ _ _ h) (Or.inl ⟨by rfl, ?_⟩) rfl ?_
  rotate_left 1
  · (intro W hSw; subst hSw; go_simp; try with_reducible rfl)
  (try simp only [Act.put, List.setIfInBounds_toArray, List.set_cons_zero, List.set_cons_succ])
  refine wpAnyH_take (i := 17) (oi := { dst := some 379, op := Op.pick (Operand.tmp 372) (Operand.const (Value.bool true)) (Operand.tmp 378), type := 4, pos := "law.go:118", after := #[{ on := 10, ground := Ground.data }, { on := 16, ground := Ground.data }], guard := none }) (v := ?_) rfl (by kernel_rfl) (by kernel_rfl) (by kernel_rfl) (fun c a w h => HP.out _ _ _ _ _ h) (Or.inl ⟨by rfl, ?_⟩) rfl ?_
  rotate_left 1
  · (intro W hSw; subst hSw; go_simp; try with_reducible rfl)
  (try simp only [Act.put, List.setIfInBounds_toArray, List.set_cons_zero, List.set_cons_succ])
  refine wpAnyH_done (by kernel_rfl) ?_ _
  exact HQ.out _ _ _ _ _ _ _ _ _ _ _ _ _ _ _ _ _

end Go.Proofs.Ytpjfhfbjdcgbjaa
