/-
  BlockPlays behind its steps: all blocks that are held are read.
-/
import Derived.Test.YtpjfhfbjdcgbjaaBr70
import Derived.Test.YtpjfhfbjdcgbjaaBa4
import Derived.Maps.RangeWalk
import Derived.Deep.RegionHeld3
import Derived.Deep.RegionWith
import Derived.Deep.Cut
namespace Go.Proofs.Ytpjfhfbjdcgbjaa
open Go.RowKit
set_option linter.unusedVariables false
set_option linter.unusedSimpArgs false

theorem at66_is : (Try.f3.body.bind (findAt 66)).isSome = true := by kernel_rfl

theorem rlt {R : Value → Option (DataW Unit × List MemPlace)} {w : World} {b r n : Nat} {D : DataW Unit} {left : Lit → Bool} {cnt : Nat} (h : w.ranges Try.prog 3 R b r n D left cnt) : b < w.heap.size ∧ r < w.heap.size := by
  obtain ⟨es, clock, since, seen, c0, hb, F, hs, hD, hr, q⟩ := h
  exact ⟨lt_of_heap hb, lt_of_heap hr⟩

theorem key_inv3b {key : Value} {kl : Lit} (h : keyOf Try.prog 3 key = some kl) : ∃ x, key = .int .i64 x := by
  obtain ⟨x, hx, _⟩ := Maps.keyOf_int_inv Try.underlying3 h
  exact ⟨x, hx⟩

theorem R65_agg (v : Value) (y : DataW Unit × List MemPlace) (h : R65 v = some y) : ∃ a, v = Value.agg a := by
  cases v <;> simp [R65] at h
  exact ⟨_, rfl⟩

theorem part_all (L : List Int) (h : L.length = 64) : part L 0 64 = L := by
  unfold part
  rw [List.drop_zero, List.take_of_length_le (by omega)]

set_option maxRecDepth 100000 in
set_option maxHeartbeats 8000000 in
theorem tail66 (w : World) (PP : Ending → World → Prop) (w0 : World) (p S F gm B n j : Nat) (v : Value) (ks : List Int) (ss : List Slot) (fr : List Nat)
    (s1 s2 s3 s4 s6 s8 s9 s10 s11 s12 s13 s14 s15 s16 s17 s18 s19 s20 s21 s22 s23 s24 s25 s26 s27 s28 s29 s30 s31 s32 s33 s34 s35 s36 s37 s38 s39 s40 s41 s42 s43 s44 s45 s46 s47 s48 s49 s50 s51 s52 s53 s54 s55 s56 s57 s58 s59 s60 s61 s62 s63 s64 s65 s66 s67 s68 s69 s70 s71 s72 s73 s74 s75 s76 s77 s78 s79 s80 s81 s82 s83 s84 s85 s86 s87 s88 s89 s90 s91 s92 s93 s94 s95 s96 s97 s98 s99 s100 s101 s102 s103 s104 s105 s106 s107 s108 s109 s110 s111 s112 s113 s114 s115 s116 s117 s118 s119 s120 s121 s122 s123 s124 s125 s126 s127 s128 s129 s130 s131 s132 s133 s134 s135 s136 s137 s138 s139 s140 s141 s142 s143 s144 s145 s146 s147 s148 s149 s150 s151 s152 s153 s154 s155 s156 s157 s158 s159 s160 s161 s162 s163 s164 s165 s166 s167 s168 s169 s170 s171 s172 s173 s174 s175 s176 s177 s178 s179 s180 s181 s182 s183 s184 s185 s186 s187 s188 s189 s190 s191 s192 s193 s194 s195 s196 s197 s198 s199 s200 s201 s202 s203 s204 s205 s206 s207 s208 s209 s210 s211 s212 s213 s214 s215 s216 s217 s218 s219 s220 s221 s222 s223 s224 s225 s226 s227 s228 s229 s230 s231 s232 s233 s234 s235 s236 s237 s238 s239 s240 s241 s242 s243 s244 s245 s246 s247 s248 s249 s250 s251 s252 s253 s254 s255 s256 s257 s258 s259 s260 s261 s262 s263 s264 s265 s266 s267 s268 s269 s270 s271 s272 s273 s274 s275 s276 s277 s278 s279 s280 s281 s282 s283 s284 s285 s286 s287 s288 s289 s290 s291 s292 s293 s294 s295 s296 s297 s298 s299 s300 s301 s302 s303 s304 s305 s306 s307 s308 s309 s310 s311 s312 s313 s314 s315 s316 s317 s318 s319 s320 s321 s322 s323 s324 s325 s326 s327 s328 s329 s330 s331 s332 s333 s334 s335 s336 s337 s338 s339 s340 s341 s342 s343 s344 s345 s346 s347 s348 s349 s350 s351 s352 s353 s354 s355 s356 s357 s358 s359 s360 s361 s362 s363 s364 s365 s366 s367 s368 s369 s370 s371 s372 s373 s374 s375 s376 s377 s378 s379 : Value)
    (HPP : Hid (∀ W, Below w.heap.size w W → PP (.returned (.bool true)) W))
    (H5 : Hid (Bs w w0 p S F gm B n j v ks ss fr)) (hj : j ≤ 100) :
    Code.wp Try.prog ((Try.f3.body.bind (findAt 66)).getD .skip) (bodyPost Try.prog Try.f3 PP) { tmps := #[.int .i64 (n : Int), s1, s2, s3, s4, .pointer (some ⟨p, 0, none⟩), s6, .map (some gm), s8, s9, s10, s11, s12, s13, s14, s15, s16, s17, s18, s19, s20, s21, s22, s23, s24, s25, s26, s27, s28, s29, s30, s31, s32, s33, s34, s35, s36, s37, s38, s39, s40, s41, s42, s43, s44, s45, s46, s47, s48, s49, s50, s51, s52, s53, s54, s55, s56, s57, s58, s59, s60, s61, s62, s63, s64, s65, s66, s67, s68, s69, s70, s71, s72, s73, s74, s75, s76, s77, s78, s79, s80, s81, s82, s83, s84, s85, s86, s87, s88, s89, s90, s91, s92, s93, s94, s95, s96, s97, s98, s99, s100, s101, s102, s103, s104, s105, s106, s107, s108, s109, s110, s111, s112, s113, s114, s115, s116, s117, s118, s119, s120, s121, s122, s123, s124, s125, s126, s127, s128, s129, s130, s131, s132, s133, s134, s135, s136, s137, s138, s139, s140, s141, s142, s143, s144, s145, s146, s147, s148, s149, s150, s151, s152, s153, s154, s155, s156, s157, s158, s159, s160, s161, s162, s163, s164, s165, s166, s167, s168, s169, s170, s171, s172, s173, s174, s175, s176, s177, s178, s179, s180, s181, s182, s183, s184, s185, s186, s187, s188, s189, s190, s191, s192, s193, s194, s195, s196, s197, s198, s199, s200, s201, s202, s203, s204, s205, s206, s207, s208, s209, s210, s211, s212, s213, s214, s215, s216, s217, s218, s219, s220, s221, s222, s223, s224, s225, s226, s227, s228, s229, s230, s231, s232, s233, s234, s235, s236, s237, s238, s239, s240, s241, s242, s243, s244, s245, s246, s247, s248, s249, s250, s251, s252, s253, s254, s255, s256, s257, s258, s259, s260, s261, s262, s263, s264, s265, s266, s267, s268, s269, s270, s271, s272, s273, s274, s275, s276, s277, s278, s279, s280, s281, s282, s283, s284, s285, s286, s287, s288, s289, s290, s291, s292, s293, s294, s295, s296, s297, s298, s299, s300, s301, s302, s303, s304, s305, s306, s307, s308, s309, s310, s311, s312, s313, s314, s315, s316, s317, s318, s319, s320, s321, s322, s323, s324, s325, s326, s327, s328, s329, s330, s331, s332, s333, s334, s335, s336, s337, s338, s339, s340, s341, s342, s343, s344, s345, s346, s347, s348, s349, s350, s351, s352, s353, s354, s355, s356, s357, s358, s359, s360, s361, s362, s363, s364, s365, s366, s367, s368, s369, s370, s371, s372, s373, s374, s375, s376, s377, s378, s379], defers := [] } w0 := by
  conv => arg 2; whnf
  obtain ⟨m, hm, M⟩ := H5.out.mp
  obtain ⟨gp, gS, gF⟩ := M.apart H5.out.ar
  obtain ⟨D, O1, hsize, h2, h3⟩ := M.own
  have H2 : Hid (∀ (i : Nat) (s : Slot), ss[i]? = some s → s.holds ≠ 0 → ∀ z, D.atKey (.int .i64 (i : Int)) z = dataOf s) := h2
  have H3 : Hid (∀ x : Int, Gone ss x → Maps.has D (.int .i64 x) = false) := h3
  have MP : Hid (w0.ownsMap Try.prog 3 R65 gm m D) := O1
  have hltA := H5.out.ar.lt
  have hltM := O1.lt
  have bb := H5.out.below
  have hw0 := H5.out.below.size
  have hhd := H5.out.held
  have HH : Hid (∀ s ∈ ss, s.holds ≤ j + 1) := hhd
  have hn : n ≤ 16384 := by have := H5.out.ar.good.small; rw [H5.out.len] at this; exact this
  have hlen := H5.out.len
  have HA0 : Hid (Ar w0 p S F ss fr) := H5.out.ar
  clear h2 h3 O1 hsize M hhd H5
  go_wp2_with (at_range; refine wpList_range_own _ rfl _ 28 rfl 3 35 key3 Try.underlying28 _ gm m D rfl MP.out ?_)
  intro w6 r6 g6 s6
  have bb6 : Below w.heap.size w w6 := bb.grown g6 bb.size (fun k hk => by cases hk)
  have A6 : Hid (Ar w6 p S F ss fr) := HA0.out.moved (g6.block p hltA.1 (fun e => by cases e)) (g6.block S hltA.2.1 (fun e => by cases e)) (g6.block F hltA.2.2 (fun e => by cases e))
  have rp : w0.heap.size ≠ p := by omega
  have rS : w0.heap.size ≠ S := by omega
  have rF : w0.heap.size ≠ F := by omega
  have rB : w.heap.size ≤ w0.heap.size := hw0
  have R6 : Hid (w6.ranges Try.prog 3 R65 gm w0.heap.size m D (Maps.has D) (Maps.size D)) := r6
  clear r6 g6 s6 hltA hltM HA0 MP bb hw0
  generalize w0.heap.size = rr at *
  go_wp2_with fail
  go_loopw [25] (fun _ wz => ∃ (left : Lit → Bool) (cnt : Nat), Hid (wz.ranges Try.prog 3 R65 gm rr m D left cnt) ∧ Hid (Ar wz p S F ss fr) ∧ Hid (∀ kl, left kl = true → Maps.has D kl = true) ∧ Below w.heap.size w wz) (fun _ wz => wz.rangeLeft gm rr)
  case atStart => exact ⟨_, _, R6.out, A6.out, fun kl h => h, bb6⟩
  case round =>
    obtain ⟨left, cnt, HR, HA, HL, bb⟩ := hrel
    have HCnt : Hid (wr.rangeLeft gm rr = cnt) := HR.out.left_eq
    clear R6 A6 bb6
    go_wp2_with (at_next; (refine wpList_next_ranges _ rfl _ rfl 3 key3 R65 (Value.int .i64) Value.agg (fun key kl h => key_inv3b h) (fun v y h => R65_agg v y h) gm rr m D left cnt rfl HR.out ?hd ?hm))
    case hd =>
      intro h0 hl
      clear HR HCnt hl
      go_wp2_with fail
      exact HPP.out _ bb
    case hm =>
      intro x c kl y1 y2 w7 cnt' hkey hlk hv hat hrg hlt' hgr hsz hen
      obtain ⟨x', ex, rfl, _⟩ := Maps.keyOf_int_inv Try.underlying3 hkey
      cases ex
      have hgx : ∃ (i : Nat) (s : Slot), x = (i : Int) ∧ ss[i]? = some s ∧ s.holds ≠ 0 := by
        apply Classical.byContradiction
        intro hc
        have hg : Gone ss x := fun i s e1 e2 => by
          apply Classical.byContradiction
          intro h3
          exact hc ⟨i, s, e1, e2, h3⟩
        have h9 := H3.out x hg
        rw [HL.out _ hlk] at h9
        cases h9
      obtain ⟨i, s, rfl, hi, hh⟩ := hgx
      have e7 := hat (.lit (.int .i64 0))
      rw [H2.out i s hi hh] at e7
      rw [← e7] at hv
      have hcv := R65_inv hv
      injection hcv with hcv
      subst hcv
      have hbl := HA.out.good.whole s (mem_of_some hi)
      have hlti := lt_of_some hi
      have hhm := HH.out s (mem_of_some hi)
      have ltA := HA.out.lt
      have A7 : Hid (Ar w7 p S F ss fr) := HA.out.moved (hgr.block p ltA.1 (fun e => rp (by injection e with e; exact e.symm))) (hgr.block S ltA.2.1 (fun e => rS (by injection e with e; exact e.symm))) (hgr.block F ltA.2.2 (fun e => rF (by injection e with e; exact e.symm)))
      have bb7 : Below w.heap.size w w7 := bb.grown hgr bb.size (fun k hk => by cases hk; exact rB)
      have HR7 : Hid (w7.ranges Try.prog 3 R65 gm rr m D (fun z => left z && !z.sameKey (.int .i64 (i : Int))) cnt') := hrg
      have HL7 : Hid (∀ kl, (left kl && !kl.sameKey (.int .i64 (i : Int))) = true → Maps.has D kl = true) := fun kl h => HL.out kl (by cases h9 : left kl <;> simp_all)
      have HI : Hid (ss[i]? = some s) := hi
      have HM7 : Hid (w7.rangeLeft gm rr < wr.rangeLeft gm rr) := by
        show _ < _
        rw [HR7.out.left_eq, HCnt.out]
        exact hlt'
      have hz := fun W => zero35 W
      have hsz35 := size35 s hbl
      have hone := one_slot s
      have hse := setRow_alloc w7 (slotCells Slot.none).toArray (slotCells s).toArray 35
      have hnw : (w7.alloc (.cells (slotCells Slot.none).toArray 35)).heap[w7.heap.size]? = some (.cells (slotCells Slot.none).toArray 35 (0, 0)) := heap_alloc_new w7 _
      have b8 : Below w7.heap.size w7 (w7.alloc (.cells (slotCells s).toArray 35)) := (Below.refl _ w7).alloc (Nat.le_refl _) _
      have HBx : Hid ((w7.alloc (.cells (slotCells s).toArray 35)).heap[w7.heap.size]? = some (.cells (slotCells s).toArray 35 (0, 0))) := heap_alloc_new w7 _
      have hcc : (slotCells Slot.none).toArray.size = (slotCells s).toArray.size := by rw [List.size_toArray, List.size_toArray, slotCells_length s hbl, slotCells_length Slot.none (by simp [Slot.none, zeros])]
      have A8 : Ar (w7.alloc (.cells (slotCells s).toArray 35)) p S F ss fr := A7.out.alloc _
      have q15 := read_yes A8 i s hi hh 0 64 (by omega)
      rw [part_all _ hbl] at q15
      have hgone := hen
      generalize (slotCells Slot.none).toArray = C0 at *
      obtain ⟨C1, hC1⟩ : ∃ C1, (slotCells s).toArray = C1 := ⟨_, rfl⟩
      rw [hC1] at hsz35 hone hse b8 HBx hcc A8 q15 hen
      have HC1 : Hid _ := hC1
      have HA8 : Hid _ := A8
      have H64 : Hid (C1[64]? = some (.int .i64 (s.holds : Int))) := by show _ = _; rw [← hC1]; simp [slotCells, cellsOf, hbl]
      clear hsz hC1 hgone hrg hgr hv hat hkey hlk ltA hi A8 e7
      go_upto_region 70 with (first
        | (refine wpList_store_row rfl 35 _ _ rfl _ _ rfl rfl 35 _ hnw hsz35 hcc hone ?_; rw [hse])
        | (go_at_call 15; refine q15.mono ?_; rintro e w9 ⟨rfl, rfl⟩))
      have hs8 : (w7.alloc (.cells C1 35)).heap.size = w7.heap.size + 1 := by simp
      generalize w7.alloc (.cells C1 35) = w8 at *
      have b9 : Below w8.heap.size w8 (w8.alloc (.cells (cellsOf s.bytes).toArray 5)) := (Below.refl _ w8).alloc (Nat.le_refl _) _
      have sr9 := src_alloc w8 s.bytes 5
      generalize w8.alloc (.cells (cellsOf s.bytes).toArray 5) = w9 at *
      have hc1 := conv_src w9.drew _ s.bytes 64 64 hbl (sr9.moved (w' := w9.drew) fun _ _ => rfl)
      rw [hs8] at hc1
      clear hs8
      have hbx9 : w9.drew.heap[w7.heap.size]? = some (.cells C1 35 (0, 0)) := (b9.block _ (lt_of_heap HBx.out)).trans HBx.out
      have hc2 := conv_src w9.drew (some ⟨w7.heap.size, 0, none⟩) s.bytes 64 64 hbl (by
        have h9 := box_src (W := w9.drew) (g12 := w7.heap.size) (k := 0) (nn := 64) (s := s) (by rw [HC1.out]; exact hbx9) hbl (by omega)
        rw [part_all _ hbl] at h9
        exact h9)
      have hsl := run_arr_all w9.drew w7.heap.size 0
      have h64 : w9.drew.cell? ⟨w7.heap.size, 64, none⟩ = some (.int .i64 (s.holds : Int)) := by
        simp only [World.cell?, hbx9]
        exact H64.out
      have b79 : Below w7.heap.size w7 w9.drew := (b8.trans (b9.mono b8.size)).drew
      obtain ⟨gl, rl⟩ := rlt HR7.out
      have ltA := A7.out.lt
      have A9 : Ar w9.drew p S F ss fr := A7.out.moved (b79.block p ltA.1) (b79.block S ltA.2.1) (b79.block F ltA.2.2)
      have R9 : Hid (w9.drew.ranges Try.prog 3 R65 gm rr m D (fun z => left z && !z.sameKey (.int .i64 (i : Int))) cnt') := ranges_moved HR7.out (b79.block gm gl) (b79.block rr rl)
      have bb9 : Below w.heap.size w w9.drew := bb7.trans (b79.mono bb7.size)
      have q18 := holds_yes A9 i s HI.out hh
      have HA9 : Hid _ := A9
      have HM9 : Hid (w9.drew.rangeLeft gm rr < wr.rangeLeft gm rr) := by
        show _ < _
        rw [R9.out.left_eq, HCnt.out]
        exact hlt'
      refine reg70 _ p i w7.heap.size 64 64 s.holds _ (strOf s.bytes) hc1 hsl hc2 h64 q18 _ _ _ _ _ _ _ _ _ _ _ _ _ _ _ _ _ _ _ _ _ _ _ _ _ _ _ _ _ _ _ _ _ _ _ _ _ _ _ _ _ _ _ _ _ _ _ _ _ _ _ _ _ _ _ _ _ _ _ _ _ _ _ _ _ _ _ _ _ _ _ _ _ _ _ _ _ _ _ _ _ _ _ _ _ _ _ _ _ _ _ _ _ _ _ _ _ _ _ _ _ _ _ _ _ _ _ _ _ _ _ _ _ _ _ _ _ _ _ _ _ _ _ _ _ _ _ _ _ _ _ _ _ _ _ _ _ _ _ _ _ _ _ _ _ _ _ _ _ _ _ _ _ _ _ _ _ _ _ _ _ _ _ _ _ _ _ _ _ _ _ _ _ _ _ _ _ _ _ _ _ _ _ _ _ _ _ _ _ _ _ _ _ _ _ _ _ _ _ _ _ _ _ _ _ _ _ _ _ _ _ _ _ _ _ _ _ _ _ _ _ _ _ _ _ _ _ _ _ _ _ _ _ _ _ _ _ _ _ _ _ _ _ _ _ _ _ _ _ _ _ _ _ _ _ _ _ _ _ _ _ _ _ _ _ _ _ _ _ _ _ _ _ _ _ _ _ _ _ _ _ _ _ _ _ _ _ _ _ _ _ _ _ _ _ _ _ _ _ _ _ _ _ _ _ _ _ _ _ _ _ _ _ _ _ _ _ _ _ _ _ _ _ _ _ _ _ _ _ _ _ _ _ _ _ _ _ _ _ _ _ _ _ _ _ _ _ _ _ _ _ _ _ _ _ _ _ _ _ _ _ _ _ _ _ _ _ _ _ _ _ _ _ _ _ _ ?hp ?_
      case hp => exact fun _ _ _ _ _ h => h
      clear hc1 hc2 hsl h64 q18 hbx9 sr9 b9 b79 HM7 hnw hse hone hsz35 hz hcc b8 hen q15
      intro x362 x363 x364 x365 x366 x367 x368 x369 x370 x371 x372 x373 x374 x375 x376 x377 x378
      generalize w9.drew = wz at *
      go_wp2_with fail
      go_roundw
      case rel => exact ⟨_, cnt', R9.out, HA9.out, HL7.out, bb9⟩
      case measure => exact HM9.out

end Go.Proofs.Ytpjfhfbjdcgbjaa
