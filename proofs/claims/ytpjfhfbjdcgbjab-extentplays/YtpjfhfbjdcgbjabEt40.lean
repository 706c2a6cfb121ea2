/-
  ExtentPlays behind its steps: all contents are read, and dropped.
-/
import Derived.Test.YtpjfhfbjdcgbjabE3
import Derived.Test.YtpjfhfbjdcgbjabDrop2
import Derived.Deep.RegionHeld3
import Derived.Deep.QuietTactic
namespace Go.Proofs.Ytpjfhfbjdcgbjab
open Go.RowKit
set_option linter.unusedVariables false
set_option linter.unusedSimpArgs false

theorem rest40_is : (Try.f3.body.bind (findAt 40)).isSome = true := by kernel_rfl

set_option maxRecDepth 100000 in
set_option maxHeartbeats 8000000 in
theorem tail40 (w : World) (PP : Ending → World → Prop) (w0 : World) (p S F B n j k cv cs : Nat) (av aw : Option Addr) (xs : List Cn) (ss : List Slot) (fr : List Nat)
    (s1 s2 s3 s4 s6 s9 s10 s11 s12 s13 s14 s15 s16 s17 s18 s19 s20 s21 s22 s23 s24 s25 s26 s27 s28 s29 s30 s31 s32 s33 s34 s35 s36 s37 s38 s39 s40 s41 s42 s43 s44 s45 s46 s47 s48 s49 s50 s51 s52 s53 s54 s55 s56 s57 s58 s59 s60 s61 s62 s63 s64 s65 s66 s67 s68 s69 s70 s71 s72 s73 s74 s75 s76 s77 s78 s79 s80 s81 s82 s83 s84 s85 s86 s87 s88 s89 s90 s91 s92 s93 s94 s95 s96 s97 s98 s99 s100 s101 s102 s103 s104 s105 s106 s107 s108 s109 s110 s111 s112 s113 s114 s115 s116 s117 s118 s119 s120 s121 s122 s123 s124 s125 s126 s127 s128 s129 s130 s131 s132 s133 s134 s135 s136 s137 s138 s139 s140 s141 s142 s143 s144 s145 s146 s147 s148 s149 s150 s151 s152 s153 s154 s155 s156 s157 s158 s159 s160 s161 s162 s163 s164 s165 s166 s167 s168 s169 s170 s171 s172 s173 s174 s175 s176 s177 s178 s179 s180 s181 s182 s183 s184 s185 s186 s187 s188 s189 s190 s191 s192 s193 s194 s195 s196 s197 s198 s199 s200 s201 s202 s203 s204 s205 s206 s207 s208 s209 s210 s211 s212 s213 s214 s215 s216 s217 s218 s219 s220 s221 s222 s223 s224 s225 s226 s227 s228 s229 s230 s231 s232 s233 s234 s235 s236 s237 s238 s239 s240 s241 s242 s243 s244 s245 s246 s247 s248 s249 s250 s251 s252 s253 s254 s255 s256 s257 s258 s259 s260 s261 s262 s263 s264 s265 s266 s267 s268 s269 s270 s271 s272 s273 s274 s275 s276 s277 s278 s279 s280 s281 s282 s283 s284 s285 s286 s287 s288 s289 s290 s291 s292 s293 s294 s295 s296 s297 s298 s299 s300 s301 s302 s303 s304 s305 s306 s307 s308 s309 s310 s311 s312 s313 s314 s315 s316 s317 s318 s319 s320 s321 s322 s323 s324 s325 s326 s327 s328 s329 s330 s331 s332 s333 s334 s335 s336 s337 s338 s339 s340 s341 s342 s343 s344 s345 s346 s347 s348 s349 s350 s351 s352 s353 s354 s355 : Value)
    (HPP : Hid (∀ W, Below w.heap.size w W → PP (.returned (.bool true)) W))
    (H5 : Hid (Es w w0 p S F B n j (.slice av k cv) (.slice aw k cs) xs ss fr)) (hj : j ≤ 60) :
    Code.wp Try.prog ((Try.f3.body.bind (findAt 40)).getD .skip) (bodyPost Try.prog Try.f3 PP) { tmps := #[.int .i64 (n : Int), s1, s2, s3, s4, .pointer (some ⟨p, 0, none⟩), s6, .slice av k cv, .slice aw k cs, s9, s10, s11, s12, s13, s14, s15, s16, s17, s18, s19, s20, s21, s22, s23, s24, s25, s26, s27, s28, s29, s30, s31, s32, s33, s34, s35, s36, s37, s38, s39, s40, s41, s42, s43, s44, s45, s46, s47, s48, s49, s50, s51, s52, s53, s54, s55, s56, s57, s58, s59, s60, s61, s62, s63, s64, s65, s66, s67, s68, s69, s70, s71, s72, s73, s74, s75, s76, s77, s78, s79, s80, s81, s82, s83, s84, s85, s86, s87, s88, s89, s90, s91, s92, s93, s94, s95, s96, s97, s98, s99, s100, s101, s102, s103, s104, s105, s106, s107, s108, s109, s110, s111, s112, s113, s114, s115, s116, s117, s118, s119, s120, s121, s122, s123, s124, s125, s126, s127, s128, s129, s130, s131, s132, s133, s134, s135, s136, s137, s138, s139, s140, s141, s142, s143, s144, s145, s146, s147, s148, s149, s150, s151, s152, s153, s154, s155, s156, s157, s158, s159, s160, s161, s162, s163, s164, s165, s166, s167, s168, s169, s170, s171, s172, s173, s174, s175, s176, s177, s178, s179, s180, s181, s182, s183, s184, s185, s186, s187, s188, s189, s190, s191, s192, s193, s194, s195, s196, s197, s198, s199, s200, s201, s202, s203, s204, s205, s206, s207, s208, s209, s210, s211, s212, s213, s214, s215, s216, s217, s218, s219, s220, s221, s222, s223, s224, s225, s226, s227, s228, s229, s230, s231, s232, s233, s234, s235, s236, s237, s238, s239, s240, s241, s242, s243, s244, s245, s246, s247, s248, s249, s250, s251, s252, s253, s254, s255, s256, s257, s258, s259, s260, s261, s262, s263, s264, s265, s266, s267, s268, s269, s270, s271, s272, s273, s274, s275, s276, s277, s278, s279, s280, s281, s282, s283, s284, s285, s286, s287, s288, s289, s290, s291, s292, s293, s294, s295, s296, s297, s298, s299, s300, s301, s302, s303, s304, s305, s306, s307, s308, s309, s310, s311, s312, s313, s314, s315, s316, s317, s318, s319, s320, s321, s322, s323, s324, s325, s326, s327, s328, s329, s330, s331, s332, s333, s334, s335, s336, s337, s338, s339, s340, s341, s342, s343, s344, s345, s346, s347, s348, s349, s350, s351, s352, s353, s354, s355], defers := [] } w0 := by
  conv => arg 2; whnf
  have HLn : Hid (k = xs.length) := H5.out.row.len.1
  have hkj : k ≤ 60 := by have := H5.out.num; have := HLn.out; omega
  have hcv : k ≤ cv := H5.out.row.len.2.1
  have hcs : k ≤ cs := H5.out.str.len.2.1
  obtain ⟨lp, lS, lF⟩ := H5.out.ar.lt
  have hB0 := H5.out.B0
  have hBw := H5.out.Bw
  have hp1 := H5.out.hp
  have hS1 := H5.out.hS
  have hF1 := H5.out.hF
  go_wp2_with fail
  rename_i K2 hK2
  have HK : Hid _ := hK2
  clear hK2
  go_loopw [294] (fun x W => ∃ q : Nat, x = .int .i64 (q : Int) ∧ q ≤ k ∧ Hid (Below w0.heap.size w0 W)) (fun x _ => k - (intOf x).toNat)
  case atStart => exact ⟨0, rfl, Nat.zero_le _, Below.refl _ _⟩
  case round =>
    obtain ⟨q, rfl, hq, Bw⟩ := hrel
    by_cases hlt : q < k
    · obtain ⟨x, hx⟩ : ∃ x, xs[q]? = some x := ⟨_, List.getElem?_eq_getElem (by have := HLn.out; omega)⟩
      have H6 := H5.out.grow Bw.out
      have hbd := H6.bound hj (List.mem_of_getElem? hx)
      obtain ⟨gr, eav, hgB, hgl, c0, c1, fz⟩ := H6.row.get hx
      subst eav
      obtain ⟨gs, eas, hsB, hsl, d0, fs, curs, hcurs⟩ := H6.str.get hx
      subst eas
      have HL : Hid (Lies ss x.ids x.L) := H6.inv.lies x.ct (List.mem_map.2 ⟨x, List.mem_of_getElem? hx, rfl⟩)
      have HO : Hid (Own wr B (.slice x.a x.ids.length x.c) x.ids) := H6.row.own _ (List.mem_of_getElem? hx)
      have HA : Hid (Ar wr p S F ss fr) := H6.ar
      obtain ⟨xa, xc, xi, xL⟩ := x
      simp only [Cn.val] at c0 c1 d0 hbd HL HO
      obtain ⟨hb1, hb2, hb3⟩ := hbd
      have hlen := HL.out.len
      have hsz := strOf_size xL
      have KR : Hid (∀ W, Below wr.heap.size wr W → Calls Try.prog 16 #[.pointer (some ⟨p, 0, none⟩), .agg #[.slice xa xi.length xc, .int .i64 (xL.length : Int)], .int .i64 0, .int .i64 (xL.length : Int)] W fun e w' => ∃ g c', e = .returned (.tuple #[.slice (some ⟨g, 0, none⟩) xL.length c', .int .i64 0]) ∧ OwnB w' (W.heap.size + 1) (.slice (some ⟨g, 0, none⟩) xL.length c') xL ∧ Below W.heap.size W w') := fun W hb => by
        have h9 := read_ext (HA.out.grow hb) xa xc xi xL HL (HO.out.grow hb).use.2.1 (by omega) 0 xL.length (by omega)
        refine h9.mono ?_
        rintro e w' ⟨g, c', h1, h2, _, h4⟩
        exact ⟨g, c', h1, by have e : part xL 0 xL.length = xL := (by unfold part; simp); rw [e] at h2; exact h2, h4⟩
      have hneed : xi.length = need xL.length := hlen
      obtain ⟨m, hm⟩ : ∃ m : Nat, xL.length = m := ⟨_, rfl⟩
      have HM : Hid (xL.length = m) := hm
      rw [hm] at KR c1 hsz hb1 hneed
      have KN : Hid (∀ W N, Calls Try.prog 13 #[.int .i64 (m : Int)] (World.drewN W N) fun e w'' => e = .returned (.int .i64 (need m : Int)) ∧ ∃ M, w'' = World.drewN W M) := fun W N => Calls.quiet_of_same ((need_w m (W.drewN N) (by omega)).mono fun _ _ h => ⟨h.1, h.2.symm⟩)
      rw [hneed] at KR c0
      have HNd : Hid (xi.length = need m) := hneed
      have q0 : (0 : Int) ≤ (q : Int) := by omega
      have q1 : (q : Int) < (k : Int) := by omega
      clear hm hb2 hb3 hlen hneed H6 hx HL HO
      go_upto_region 43 with fail
      have k6 := below_box wr (.cells #[.slice xa (need m) xc, .int .i64 (m : Int)] 35)
      have e6 := heap_alloc_new wr (.cells #[.slice xa (need m) xc, .int .i64 (m : Int)] 35)
      generalize wr.alloc (.cells #[.slice xa (need m) xc, .int .i64 (m : Int)] 35) = w6 at *
      have hg22 : wr.heap.size < w6.heap.size := lt_of_heap e6
      have HS : Hid (∀ W, Below w6.heap.size w6 W → (∀ q, W.cell? ⟨wr.heap.size, q, none⟩ = (#[.slice xa (need m) xc, .int .i64 (m : Int)] : Array Value)[q]?) ∧ W.cell? ⟨gs, q, none⟩ = some (.string (strOf xL))) := fun W hb => ⟨two10 ((hb.block _ hg22).trans e6), cell_below hb (cell_below k6 d0)⟩
      have HB0 : Hid (Below w6.heap.size w6 w6.drew) := (Below.refl _ _).drew
      have K6 : Hid (Below wr.heap.size wr w6) := k6
      clear c0 c1 fz d0 fs hcurs e6 k6
      go_region_held3 (fun W => (∀ q, W.cell? ⟨wr.heap.size, q, none⟩ = (#[.slice xa (need m) xc, .int .i64 (m : Int)] : Array Value)[q]?) ∧ W.cell? ⟨gs, q, none⟩ = some (.string (strOf xL)))
        (first | exact HS.out _ HB0.out | exact HS.out _ B7.out)
        ((go_at_call 16; refine (KR.out _ (K6.out.trans (HB0.out.mono K6.out.size))).mono ?_; rintro e w7 ⟨g7, c7, rfl, O7, b7⟩; have B7 : Hid (Below w6.heap.size w6 w7) := HB0.out.trans (b7.mono HB0.out.size)))
      obtain ⟨r0, r1⟩ := HS.out _ B7.out
      have hcv7 : ∀ N, (convert 30 9 (.slice (some ⟨g7, 0, none⟩) m c7)).run Try.prog (w7.drewN N) = .ok (.string (strOf xL)) (w7.drewN N) := fun N => conv_src (w7.drewN N) _ _ m c7 HM.out (O7.use.2.drewN N)
      clear O7
      go_upto_region 44 with fail
      go_quiet ((go_at_call 13; exact KN.out _ _))
      have k8 : Hid (Below w7.heap.size w7 (w7.drewN nq)) := below_dN w7 nq
      generalize w7.drewN nq = w8 at *
      have B8 : Hid (Below w0.heap.size w0 w8) := (by
        have h1 := K6.out.trans (B7.out.mono K6.out.size)
        have h2 := h1.trans (k8.out.mono h1.size)
        exact Bw.out.trans (h2.mono Bw.out.size))
      clear r0 r1 hcv7 HS HB0 B7 k8 K6 KR KN
      go_wp2_with fail
      go_roundw
      case rel => exact ⟨q + 1, by simp, hlt, B8⟩
      case measure => simp [intOf]; omega
    · obtain rfl : q = k := by omega
      go_wp2_with fail
      refine HK.out _ _ ?_
      obtain ⟨wA, hwA⟩ : ∃ wA, wA = wr := ⟨_, rfl⟩
      subst hwA
      have H6 : Hid (Es w wA p S F B n j (.slice av q cv) (.slice aw q cs) xs ss fr) := H5.out.grow Bw.out
      clear HK H5
      go_wp2_with fail
      go_loopw [343] (fun x W => ∃ (r : Nat) (ss' : List Slot) (fr' : List Nat), x = .int .i64 (r : Int) ∧ r ≤ q ∧ Hid (Keeps p S F wA W) ∧ Hid (Ar W p S F ss' fr') ∧ Hid (Inv ss' fr' ((xs.drop r).map Cn.ct)) ∧ Hid (ss'.length = ss.length)) (fun x _ => q - (intOf x).toNat)
      case atStart => exact ⟨0, ss, fr, rfl, Nat.zero_le _, Keeps.refl _ _ _ _, H6.out.ar, by rw [List.drop_zero]; exact H6.out.inv, rfl⟩
      case round =>
        obtain ⟨r, ss', fr', rfl, hr, Kr, Arr, Ir, Lr⟩ := hrel
        have hwr := H6.out.Bw
        by_cases hrl : r < q
        · obtain ⟨x, hx⟩ : ∃ x, xs[r]? = some x := ⟨_, List.getElem?_eq_getElem (by have := HLn.out; omega)⟩
          have C6 := H6.out.row.keeps Kr.out hp1.2 hS1.2 hF1.2
          have hbd := H6.out.bound hj (List.mem_of_getElem? hx)
          obtain ⟨gr, eav, hgB, hgl, c0, c1, fz⟩ := C6.get hx
          subst eav
          have hox := C6.own x (List.mem_of_getElem? hx)
          have hdr : xs.drop r = x :: xs.drop (r + 1) := by
            obtain ⟨h1, h2⟩ := List.getElem?_eq_some_iff.1 hx
            rw [← h2]; exact List.drop_eq_getElem_cons h1
          have HI2 : Hid (Inv ss' fr' (x.ct :: (xs.drop (r + 1)).map Cn.ct)) := (by have h9 := Ir.out; rw [hdr] at h9; exact h9)
          obtain ⟨xa, xc, xi, xL⟩ := x
          simp only [Cn.val, Cn.ct] at c0 c1 hox hbd HI2
          obtain ⟨hb1, hb2, hb3⟩ := hbd
          have KD : Hid (∀ W, Below wr.heap.size wr W → Calls Try.prog 15 #[.pointer (some ⟨p, 0, none⟩), .agg #[.slice xa xi.length xc, .int .i64 (xL.length : Int)]] W fun e w' => ∃ ss2 fr2, e = .returned (.int .i64 0) ∧ Ar w' p S F ss2 fr2 ∧ Keeps p S F W w' ∧ Inv ss2 fr2 ((xs.drop (r + 1)).map Cn.ct) ∧ ss2.length = ss'.length ∧ (∀ z ∈ xi, tot ((xs.drop (r + 1)).map Cn.ct) z = 0 → holdsOf ss2 z = 0)) := fun W hb =>
            drop_inv (Arr.out.grow hb) HI2.out (by omega) xa xc B (hox.grow hb) hp1.2 hS1.2 hF1.2 _
          obtain ⟨m, hm⟩ : ∃ m : Nat, xL.length = m := ⟨_, rfl⟩
          rw [hm] at KD c1
          have r0 : (0 : Int) ≤ (r : Int) := by omega
          have r1 : (r : Int) < (q : Int) := by omega
          clear hm hb1 hb2 hb3 hx hdr C6 hox HI2
          go_upto_region 50 with fail
          have k6 := below_box wr (.cells #[.slice xa xi.length xc, .int .i64 (m : Int)] 35)
          have e6 := heap_alloc_new wr (.cells #[.slice xa xi.length xc, .int .i64 (m : Int)] 35)
          generalize wr.alloc (.cells #[.slice xa xi.length xc, .int .i64 (m : Int)] 35) = w6 at *
          have m6 := two10 e6
          have q6 := KD.out _ k6
          have Kr2 : Hid (Keeps p S F wA w6) := Kr.out.trans (Keeps.ofBelow k6)
          clear c0 c1 fz e6 k6 KD Arr Ir
          go_wp2_with (go_at_call 15; refine q6.mono ?_; rintro e w7 ⟨ss2, fr2, rfl, A7, K7, I7, l7, _⟩)
          go_roundw
          case rel => exact ⟨r + 1, ss2, fr2, by simp, hrl, Kr2.out.trans K7, A7, I7, l7.trans Lr.out⟩
          case measure => simp [intOf]; omega
        · obtain rfl : r = q := by omega
          have hI : Inv ss' fr' [] := by
            have h9 := Ir.out
            rw [HLn.out, List.drop_length] at h9
            exact h9
          have he := hI.empty
          have hn9 : fr'.length = n := by rw [he, Lr.out]; exact H6.out.len
          have hfree := free_w Arr.out
          rw [hn9] at hfree
          have Bend : Below w.heap.size w wr := H6.out.below.trans (Kr.out.below H6.out.below.size hp1.1 hS1.1 hF1.1)
          have HBe : Hid (Below w.heap.size w wr) := Bend
          clear hI he hn9 Bend
          go_wp2_with (go_at_call 11; refine hfree.mono ?_; rintro e w' ⟨rfl, rfl⟩)
          exact HPP.out _ HBe.out

end Go.Proofs.Ytpjfhfbjdcgbjab
