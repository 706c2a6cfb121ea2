/-
  BlockPlays: where a block is written, the drawn region; the copy's box.
-/
import Derived.Test.YtpjfhfbjdcgbjaaB1
import Derived.Test.YtpjfhfbjdcgbjaaStr
import Derived.OrdersHeld
import Derived.Deep.RegionHeld
import Derived.Deep.RegionHeld3
namespace Go.Proofs.Ytpjfhfbjdcgbjaa
open Go.RowKit
set_option linter.unusedVariables false
set_option linter.unusedSimpArgs false

def ops38 : Array Oper := #[{ dst := some 194, op := Op.fieldAddr 35 (Operand.tmp 12) 0, type := 0, pos := "law.go:80", after := #[], guard := none },
  { dst := some 195, op := Op.fieldAddr 32 (Operand.tmp 10) 2, type := 0, pos := "law.go:80", after := #[], guard := none },
  { dst := some 196, op := Op.load 3 (Operand.tmp 195), type := 3, pos := "law.go:80", after := #[{ on := 1, ground := Ground.data }], guard := none },
  { dst := some 197, op := Op.slice 33 (Operand.tmp 194) (some (Operand.tmp 196)) none none, type := 30, pos := "law.go:80", after := #[{ on := 0, ground := Ground.data }, { on := 2, ground := Ground.data }], guard := none },
  { dst := some 198, op := Op.fieldAddr 32 (Operand.tmp 10) 5, type := 0, pos := "law.go:80", after := #[], guard := none },
  { dst := some 199, op := Op.load 30 (Operand.tmp 198), type := 30, pos := "law.go:80", after := #[{ on := 4, ground := Ground.data }], guard := none },
  { dst := some 200, op := Op.call { callee := Callee.builtin Builtin.copy, args := #[Operand.tmp 197, Operand.tmp 199], argTypes := #[30, 30] }, type := 3, pos := "law.go:80", after := #[{ on := 3, ground := Ground.data }, { on := 5, ground := Ground.data }], guard := none }]

set_option maxRecDepth 100000 in
set_option maxHeartbeats 8000000 in
theorem reg38 (w : World) (W2 : World) (g10 g12 k l5 c5 dl dc : Nat) (a5 da : Option Addr) (o0 o1 o3 o4 : Int) (vv : Value) (m10 : ∀ q, w.drew.cell? ⟨g10, q, none⟩ = (#[.int .i64 o0, .int .i64 o1, .int .i64 (k : Int), .int .i64 o3, .int .i64 o4, .slice da dl dc] : Array Value)[q]?) (m10b : ∀ q, W2.cell? ⟨g10, q, none⟩ = (#[.int .i64 o0, .int .i64 o1, .int .i64 (k : Int), .int .i64 o3, .int .i64 o4, .slice da dl dc] : Array Value)[q]?) (hsl : ∀ W, (Instr.sliceAt 33 (.pointer (some ⟨g12, 0, none⟩)) (some (.int .i64 (k : Int))) none none).run Try.prog W = .ok (.slice a5 l5 c5) W) (hcp : (Builtin.copy_ #[30, 30] 3 #[.slice a5 l5 c5, .slice da dl dc]).run Try.prog w.drew = .ok vv W2) (s0 s1 s2 s3 s4 s5 s6 s7 s8 s9 s11 s13 s14 s15 s16 s17 s18 s19 s20 s21 s22 s23 s24 s25 s26 s27 s28 s29 s30 s31 s32 s33 s34 s35 s36 s37 s38 s39 s40 s41 s42 s43 s44 s45 s46 s47 s48 s49 s50 s51 s52 s53 s54 s55 s56 s57 s58 s59 s60 s61 s62 s63 s64 s65 s66 s67 s68 s69 s70 s71 s72 s73 s74 s75 s76 s77 s78 s79 s80 s81 s82 s83 s84 s85 s86 s87 s88 s89 s90 s91 s92 s93 s94 s95 s96 s97 s98 s99 s100 s101 s102 s103 s104 s105 s106 s107 s108 s109 s110 s111 s112 s113 s114 s115 s116 s117 s118 s119 s120 s121 s122 s123 s124 s125 s126 s127 s128 s129 s130 s131 s132 s133 s134 s135 s136 s137 s138 s139 s140 s141 s142 s143 s144 s145 s146 s147 s148 s149 s150 s151 s152 s153 s154 s155 s156 s157 s158 s159 s160 s161 s162 s163 s164 s165 s166 s167 s168 s169 s170 s171 s172 s173 s174 s175 s176 s177 s178 s179 s180 s181 s182 s183 s184 s185 s186 s187 s188 s189 s190 s191 s192 s193 s194 s195 s196 s197 s198 s199 s200 s201 s202 s203 s204 s205 s206 s207 s208 s209 s210 s211 s212 s213 s214 s215 s216 s217 s218 s219 s220 s221 s222 s223 s224 s225 s226 s227 s228 s229 s230 s231 s232 s233 s234 s235 s236 s237 s238 s239 s240 s241 s242 s243 s244 s245 s246 s247 s248 s249 s250 s251 s252 s253 s254 s255 s256 s257 s258 s259 s260 s261 s262 s263 s264 s265 s266 s267 s268 s269 s270 s271 s272 s273 s274 s275 s276 s277 s278 s279 s280 s281 s282 s283 s284 s285 s286 s287 s288 s289 s290 s291 s292 s293 s294 s295 s296 s297 s298 s299 s300 s301 s302 s303 s304 s305 s306 s307 s308 s309 s310 s311 s312 s313 s314 s315 s316 s317 s318 s319 s320 s321 s322 s323 s324 s325 s326 s327 s328 s329 s330 s331 s332 s333 s334 s335 s336 s337 s338 s339 s340 s341 s342 s343 s344 s345 s346 s347 s348 s349 s350 s351 s352 s353 s354 s355 s356 s357 s358 s359 s360 s361 s362 s363 s364 s365 s366 s367 s368 s369 s370 s371 s372 s373 s374 s375 s376 s377 s378 s379 : Value) (Q : Exit → Act → World → Prop) (HP : Hid (∀ c a (d : Nat) v w, Q (.panic c) (Act.put a (some d) v) w → Q (.panic c) a w))
    (hQ : ∀ (x194 x195 x196 x197 x198 x199 x200 : Value), Q .normal { tmps := #[s0, s1, s2, s3, s4, s5, s6, s7, s8, s9, .pointer (some ⟨g10, 0, none⟩), s11, .pointer (some ⟨g12, 0, none⟩), s13, s14, s15, s16, s17, s18, s19, s20, s21, s22, s23, s24, s25, s26, s27, s28, s29, s30, s31, s32, s33, s34, s35, s36, s37, s38, s39, s40, s41, s42, s43, s44, s45, s46, s47, s48, s49, s50, s51, s52, s53, s54, s55, s56, s57, s58, s59, s60, s61, s62, s63, s64, s65, s66, s67, s68, s69, s70, s71, s72, s73, s74, s75, s76, s77, s78, s79, s80, s81, s82, s83, s84, s85, s86, s87, s88, s89, s90, s91, s92, s93, s94, s95, s96, s97, s98, s99, s100, s101, s102, s103, s104, s105, s106, s107, s108, s109, s110, s111, s112, s113, s114, s115, s116, s117, s118, s119, s120, s121, s122, s123, s124, s125, s126, s127, s128, s129, s130, s131, s132, s133, s134, s135, s136, s137, s138, s139, s140, s141, s142, s143, s144, s145, s146, s147, s148, s149, s150, s151, s152, s153, s154, s155, s156, s157, s158, s159, s160, s161, s162, s163, s164, s165, s166, s167, s168, s169, s170, s171, s172, s173, s174, s175, s176, s177, s178, s179, s180, s181, s182, s183, s184, s185, s186, s187, s188, s189, s190, s191, s192, s193, x194, x195, x196, x197, x198, x199, x200, s201, s202, s203, s204, s205, s206, s207, s208, s209, s210, s211, s212, s213, s214, s215, s216, s217, s218, s219, s220, s221, s222, s223, s224, s225, s226, s227, s228, s229, s230, s231, s232, s233, s234, s235, s236, s237, s238, s239, s240, s241, s242, s243, s244, s245, s246, s247, s248, s249, s250, s251, s252, s253, s254, s255, s256, s257, s258, s259, s260, s261, s262, s263, s264, s265, s266, s267, s268, s269, s270, s271, s272, s273, s274, s275, s276, s277, s278, s279, s280, s281, s282, s283, s284, s285, s286, s287, s288, s289, s290, s291, s292, s293, s294, s295, s296, s297, s298, s299, s300, s301, s302, s303, s304, s305, s306, s307, s308, s309, s310, s311, s312, s313, s314, s315, s316, s317, s318, s319, s320, s321, s322, s323, s324, s325, s326, s327, s328, s329, s330, s331, s332, s333, s334, s335, s336, s337, s338, s339, s340, s341, s342, s343, s344, s345, s346, s347, s348, s349, s350, s351, s352, s353, s354, s355, s356, s357, s358, s359, s360, s361, s362, s363, s364, s365, s366, s367, s368, s369, s370, s371, s372, s373, s374, s375, s376, s377, s378, s379], defers := [] } W2) :
    (Code.region 38 ops38 true).wp Try.prog Q { tmps := #[s0, s1, s2, s3, s4, s5, s6, s7, s8, s9, .pointer (some ⟨g10, 0, none⟩), s11, .pointer (some ⟨g12, 0, none⟩), s13, s14, s15, s16, s17, s18, s19, s20, s21, s22, s23, s24, s25, s26, s27, s28, s29, s30, s31, s32, s33, s34, s35, s36, s37, s38, s39, s40, s41, s42, s43, s44, s45, s46, s47, s48, s49, s50, s51, s52, s53, s54, s55, s56, s57, s58, s59, s60, s61, s62, s63, s64, s65, s66, s67, s68, s69, s70, s71, s72, s73, s74, s75, s76, s77, s78, s79, s80, s81, s82, s83, s84, s85, s86, s87, s88, s89, s90, s91, s92, s93, s94, s95, s96, s97, s98, s99, s100, s101, s102, s103, s104, s105, s106, s107, s108, s109, s110, s111, s112, s113, s114, s115, s116, s117, s118, s119, s120, s121, s122, s123, s124, s125, s126, s127, s128, s129, s130, s131, s132, s133, s134, s135, s136, s137, s138, s139, s140, s141, s142, s143, s144, s145, s146, s147, s148, s149, s150, s151, s152, s153, s154, s155, s156, s157, s158, s159, s160, s161, s162, s163, s164, s165, s166, s167, s168, s169, s170, s171, s172, s173, s174, s175, s176, s177, s178, s179, s180, s181, s182, s183, s184, s185, s186, s187, s188, s189, s190, s191, s192, s193, s194, s195, s196, s197, s198, s199, s200, s201, s202, s203, s204, s205, s206, s207, s208, s209, s210, s211, s212, s213, s214, s215, s216, s217, s218, s219, s220, s221, s222, s223, s224, s225, s226, s227, s228, s229, s230, s231, s232, s233, s234, s235, s236, s237, s238, s239, s240, s241, s242, s243, s244, s245, s246, s247, s248, s249, s250, s251, s252, s253, s254, s255, s256, s257, s258, s259, s260, s261, s262, s263, s264, s265, s266, s267, s268, s269, s270, s271, s272, s273, s274, s275, s276, s277, s278, s279, s280, s281, s282, s283, s284, s285, s286, s287, s288, s289, s290, s291, s292, s293, s294, s295, s296, s297, s298, s299, s300, s301, s302, s303, s304, s305, s306, s307, s308, s309, s310, s311, s312, s313, s314, s315, s316, s317, s318, s319, s320, s321, s322, s323, s324, s325, s326, s327, s328, s329, s330, s331, s332, s333, s334, s335, s336, s337, s338, s339, s340, s341, s342, s343, s344, s345, s346, s347, s348, s349, s350, s351, s352, s353, s354, s355, s356, s357, s358, s359, s360, s361, s362, s363, s364, s365, s366, s367, s368, s369, s370, s371, s372, s373, s374, s375, s376, s377, s378, s379], defers := [] } w := by
  have HQ : Hid (∀ (x194 x195 x196 x197 x198 x199 x200 : Value), Q .normal { tmps := #[s0, s1, s2, s3, s4, s5, s6, s7, s8, s9, .pointer (some ⟨g10, 0, none⟩), s11, .pointer (some ⟨g12, 0, none⟩), s13, s14, s15, s16, s17, s18, s19, s20, s21, s22, s23, s24, s25, s26, s27, s28, s29, s30, s31, s32, s33, s34, s35, s36, s37, s38, s39, s40, s41, s42, s43, s44, s45, s46, s47, s48, s49, s50, s51, s52, s53, s54, s55, s56, s57, s58, s59, s60, s61, s62, s63, s64, s65, s66, s67, s68, s69, s70, s71, s72, s73, s74, s75, s76, s77, s78, s79, s80, s81, s82, s83, s84, s85, s86, s87, s88, s89, s90, s91, s92, s93, s94, s95, s96, s97, s98, s99, s100, s101, s102, s103, s104, s105, s106, s107, s108, s109, s110, s111, s112, s113, s114, s115, s116, s117, s118, s119, s120, s121, s122, s123, s124, s125, s126, s127, s128, s129, s130, s131, s132, s133, s134, s135, s136, s137, s138, s139, s140, s141, s142, s143, s144, s145, s146, s147, s148, s149, s150, s151, s152, s153, s154, s155, s156, s157, s158, s159, s160, s161, s162, s163, s164, s165, s166, s167, s168, s169, s170, s171, s172, s173, s174, s175, s176, s177, s178, s179, s180, s181, s182, s183, s184, s185, s186, s187, s188, s189, s190, s191, s192, s193, x194, x195, x196, x197, x198, x199, x200, s201, s202, s203, s204, s205, s206, s207, s208, s209, s210, s211, s212, s213, s214, s215, s216, s217, s218, s219, s220, s221, s222, s223, s224, s225, s226, s227, s228, s229, s230, s231, s232, s233, s234, s235, s236, s237, s238, s239, s240, s241, s242, s243, s244, s245, s246, s247, s248, s249, s250, s251, s252, s253, s254, s255, s256, s257, s258, s259, s260, s261, s262, s263, s264, s265, s266, s267, s268, s269, s270, s271, s272, s273, s274, s275, s276, s277, s278, s279, s280, s281, s282, s283, s284, s285, s286, s287, s288, s289, s290, s291, s292, s293, s294, s295, s296, s297, s298, s299, s300, s301, s302, s303, s304, s305, s306, s307, s308, s309, s310, s311, s312, s313, s314, s315, s316, s317, s318, s319, s320, s321, s322, s323, s324, s325, s326, s327, s328, s329, s330, s331, s332, s333, s334, s335, s336, s337, s338, s339, s340, s341, s342, s343, s344, s345, s346, s347, s348, s349, s350, s351, s352, s353, s354, s355, s356, s357, s358, s359, s360, s361, s362, s363, s364, s365, s366, s367, s368, s369, s370, s371, s372, s373, s374, s375, s376, s377, s378, s379], defers := [] } W2) := hQ
  clear hQ
  refine wp_region_held_drew (S := fun W : World => ∀ q, W.cell? ⟨g10, q, none⟩ = (#[.int .i64 o0, .int .i64 o1, .int .i64 (k : Int), .int .i64 o3, .int .i64 o4, .slice da dl dc] : Array Value)[q]?) (by kernel_rfl) m10 (fun hHeld => ?_)
  refine wpAnyH_take (i := 0) (oi := { dst := some 194, op := Op.fieldAddr 35 (Operand.tmp 12) 0, type := 0, pos := "law.go:80", after := #[], guard := none }) (v := ?_) rfl (by kernel_rfl) (by kernel_rfl) (by kernel_rfl) (fun c a w h => HP.out _ _ _ _ _ h) (Or.inl ⟨by rfl, ?_⟩) hHeld ?_
  rotate_left 1
  · (intro W hSw; have hsl := hsl W; go_simp; try with_reducible rfl)
  (try simp only [Act.put, List.setIfInBounds_toArray, List.set_cons_zero, List.set_cons_succ])
  refine wpAnyH_take (i := 1) (oi := { dst := some 195, op := Op.fieldAddr 32 (Operand.tmp 10) 2, type := 0, pos := "law.go:80", after := #[], guard := none }) (v := ?_) rfl (by kernel_rfl) (by kernel_rfl) (by kernel_rfl) (fun c a w h => HP.out _ _ _ _ _ h) (Or.inl ⟨by rfl, ?_⟩) hHeld ?_
  rotate_left 1
  · (intro W hSw; have hsl := hsl W; go_simp; try with_reducible rfl)
  (try simp only [Act.put, List.setIfInBounds_toArray, List.set_cons_zero, List.set_cons_succ])
  refine wpAnyH_take (i := 2) (oi := { dst := some 196, op := Op.load 3 (Operand.tmp 195), type := 3, pos := "law.go:80", after := #[{ on := 1, ground := Ground.data }], guard := none }) (v := ?_) rfl (by kernel_rfl) (by kernel_rfl) (by kernel_rfl) (fun c a w h => HP.out _ _ _ _ _ h) (Or.inl ⟨by rfl, ?_⟩) hHeld ?_
  rotate_left 1
  · (intro W hSw; have hsl := hsl W; go_simp; try with_reducible rfl)
  (try simp only [Act.put, List.setIfInBounds_toArray, List.set_cons_zero, List.set_cons_succ])
  refine wpAnyH_take (i := 3) (oi := { dst := some 197, op := Op.slice 33 (Operand.tmp 194) (some (Operand.tmp 196)) none none, type := 30, pos := "law.go:80", after := #[{ on := 0, ground := Ground.data }, { on := 2, ground := Ground.data }], guard := none }) (v := ?_) rfl (by kernel_rfl) (by kernel_rfl) (by kernel_rfl) (fun c a w h => HP.out _ _ _ _ _ h) (Or.inl ⟨by rfl, ?_⟩) hHeld ?_
  rotate_left 1
  · (intro W hSw; have hsl := hsl W; go_simp; try with_reducible rfl)
  (try simp only [Act.put, List.setIfInBounds_toArray, List.set_cons_zero, List.set_cons_succ])
  refine wpAnyH_take (i := 4) (oi := { dst := some 198, op := Op.fieldAddr 32 (Operand.tmp 10) 5, type := 0, pos := "law.go:80", after := #[], guard := none }) (v := ?_) rfl (by kernel_rfl) (by kernel_rfl) (by kernel_rfl) (fun c a w h => HP.out _ _ _ _ _ h) (Or.inl ⟨by rfl, ?_⟩) hHeld ?_
  rotate_left 1
  · (intro W hSw; have hsl := hsl W; go_simp; try with_reducible rfl)
  (try simp only [Act.put, List.setIfInBounds_toArray, List.set_cons_zero, List.set_cons_succ])
  refine wpAnyH_take (i := 5) (oi := { dst := some 199, op := Op.load 30 (Operand.tmp 198), type := 30, pos := "law.go:80", after := #[{ on := 4, ground := Ground.data }], guard := none }) (v := ?_) rfl (by kernel_rfl) (by kernel_rfl) (by kernel_rfl) (fun c a w h => HP.out _ _ _ _ _ h) (Or.inl ⟨by rfl, ?_⟩) hHeld ?_
  rotate_left 1
  · (intro W hSw; have hsl := hsl W; go_simp; try with_reducible rfl)
  (try simp only [Act.put, List.setIfInBounds_toArray, List.set_cons_zero, List.set_cons_succ])
  refine wpAnyH_ready (rs := [6]) (by kernel_rfl) (by simp) ?_
  refine AllReadyH.cons (o := { dst := some 200, op := Op.call { callee := Callee.builtin Builtin.copy, args := #[Operand.tmp 197, Operand.tmp 199], argTypes := #[30, 30] }, type := 3, pos := "law.go:80", after := #[{ on := 3, ground := Ground.data }, { on := 5, ground := Ground.data }], guard := none }) rfl (fun K hK => ?_) AllReadyH.nil
  clear hsl
  go_simp
  refine hK.out _ _ m10b (fun hHeld => ?_)
  clear hK K
  (try simp only [Act.put, List.setIfInBounds_toArray, List.set_cons_zero, List.set_cons_succ])
  refine wpAnyH_done (by kernel_rfl) ?_ _
  exact HQ.out _ _ _ _ _ _ _

theorem run_arr64 (w : World) (b o : Nat) : (Instr.sliceAt 33 (.pointer (some ⟨b, o, none⟩)) (some (.int .i64 ((64 : Nat) : Int))) none none).run Try.prog w = .ok (.slice (some ⟨b, o, none⟩) 0 0) w := by
  have h := info5
  cases hq : Try.prog.info? 5 with
  | none => simp [hq] at h
  | some i =>
    have hs : i.size = 1 := by simpa [hq] using h
    have hb : (Instr.sliceBound (.int .i64 ((64 : Nat) : Int)) 64 .sliceB).run Try.prog w = .ok 64 w := by
      have := run_sliceBound (P := Try.prog) w .i64 ((64 : Nat) : Int) 64 .sliceB (by omega) (by omega)
      simpa using this
    simp [Instr.sliceAt, Instr.sureAddr, run_underlying Try.underlying33, Instr.sliceBounds, run_sliceBound, sizeOf, typeInfo, hq, hs, Addr.add] at hb ⊢

theorem Bs.boxRow {w wr : World} {p S F gm B n j : Nat} {v : Value} {ks : List Int} {ss : List Slot} {fr : List Nat} {W : World} {g12 : Nat} {C : Array Value} (h : Bs w wr p S F gm B n j v ks ss fr) (K : Keeps p S F wr W) (hb : wr.heap[g12]? = some (.cells C 35 (0, 0))) (hB : B ≤ g12) (D : Array Value) :
    W.heap[g12]? = some (.cells C 35 (0, 0)) ∧ (W.setRow g12 D).heap[g12]? = some (.cells D 35 (0, 0)) ∧ Below B W (W.setRow g12 D) ∧ Own (W.setRow g12 D) B v ks ∧
    ∀ m c st, Mp wr gm m st c → Mp (W.setRow g12 D) gm m st c := by
  have e1 := h.hp
  have e2 := h.hS
  have e3 := h.hF
  have e4 := h.hg
  have hb6 : W.heap[g12]? = some (.cells C 35 (0, 0)) := (K.block g12 (lt_of_heap hb) (by omega) (by omega) (by omega)).trans hb
  refine ⟨hb6, setRow_heap _ _ _ _ _ _ hb6, ⟨rfl, rfl, rfl, by rw [setRow_size]; exact Nat.le_refl _, fun k hk => setRow_other _ _ _ _ (by omega)⟩, ?_, ?_⟩
  · refine (h.ev.keeps K h.hp.2 h.hS.2 h.hF.2).moved fun g e h1 h2 => setRow_other _ _ _ _ ?_
    rintro rfl
    rcases (h.ev.keeps K h.hp.2 h.hS.2 h.hF.2).2 with ⟨e5, _⟩ | ⟨g', cap, cur, e5, _, e6, _⟩
    · rw [e5] at e; simp [Value.ownBlock] at e
    · rw [e5] at e
      simp [Value.ownBlock] at e
      subst e
      rw [hb6] at e6
      injection e6 with e6
      injection e6 with _ e6
      cases e6
  · intro m c st M
    obtain ⟨g1, g2, g3⟩ := M.apart h.ar
    exact (M.moved (K.block gm M.lt g1 g2 g3)).moved (setRow_other _ _ _ _ (by omega))

end Go.Proofs.Ytpjfhfbjdcgbjaa
