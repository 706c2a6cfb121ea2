/-
  WholeTree behind its lists: a declaration of its own.
-/
import Derived.Test.YtojnniacmmcddaaDoorMb
import Derived.Test.YtojnniacmmcddaaDoorWp
import Derived.Test.YtojnniacmmcddaaDoorWa
import Derived.Test.YtojnniacmmcddaaDoorW2
import Derived.Deep.DeepCutAuto
namespace Go.Proofs.YtojnniacmmcddaaDoor
open Go.RowKit
open Go.Lib hiding intOf
set_option linter.unusedVariables false
set_option linter.unusedSimpArgs false

def headReg : Code → Option Nat
  | .region n _ _ => some n
  | .seq a _ => headReg a
  | .block _ c => headReg c
  | .scope c => headReg c
  | _ => none
def tailAt (n : Nat) : Code → Option Code
  | .seq a b => if headReg a = some n then some (.seq a b) else tailAt n b
  | .block _ c => tailAt n c
  | .scope c => tailAt n c
  | _ => none

theorem rest32_is : (Tryd.f3.body.bind (tailAt 32)).isSome = true := by kernel_rfl
theorem rest16_is : (Tryd.f3.body.bind (tailAt 16)).isSome = true := by kernel_rfl

theorem cp_parts {u : List UInt8} (h : u = [] ∨ Cp u) : ∃ ps, (∀ p ∈ ps, Good p) ∧ u = jn ps := by
  rcases h with rfl | ⟨ps, _, h2, h3⟩
  · exact ⟨[], (fun _ h => nomatch h), rfl⟩
  · exact ⟨ps, h2, h3⟩

/-- a path is named from a directory, and found from there again -/
theorem back_w (u p : List UInt8) (hu : u = [] ∨ Cp u) (hp : Cp p) (h1 : u.length ≤ 1000) (h2 : p.length ≤ 1000) : ∃ t : List UInt8,
    (∀ w, Ml w → Calls Tryd.prog 17 #[.string (bs u), .string (bs p)] w fun e w' => e = .returned (.string (bs t)) ∧ Below w.heap.size w w') ∧
    (∀ w, Ml w → Calls Tryd.prog 16 #[.string (bs u), .string (bs t)] w fun e w' => e = .returned (.tuple #[.string (bs p), .int .i64 0]) ∧ Below w.heap.size w w') := by
  obtain ⟨x, hx, rfl⟩ := cp_parts hu
  obtain ⟨y, hy, rfl⟩ := cp_parts (.inr hp)
  have hrl := rel_len x y fun q hq => (hx q hq).1
  refine ⟨rel x y, fun w hm => ?_, fun w hm => ?_⟩
  · have := relative_w (jn x) (jn y) (by omega) (by omega) w hm
    rwa [prt_jn _ hx, prt_jn _ hy] at this
  · have := resolve_w (jn x) (rel x y) (by omega) (by omega) w hm
    rwa [rsv_rel _ _ hx hy (by omega)] at this

set_option maxRecDepth 100000 in
set_option maxHeartbeats 8000000 in
theorem tail32 (w : World) (PP : Ending → World → Prop) (wc : World) (g5 : Nat) (ad : Option Addr) (cap n : Nat) (nx : Int) (L : List Rw) (a13 : Option Addr) (c13 : Nat) (all : List (List UInt8))
    (s0 s1 s2 s3 s4 s6 s7 s8 s9 s10 s11 s12 s14 s15 s16 s17 s18 s19 s20 s21 s22 s23 s24 s25 s26 s27 s28 s29 s30 s31 s32 s33 s34 s35 s36 s37 s38 s39 s40 s41 s42 s43 s44 s45 s46 s47 s48 s49 s50 s51 s52 s53 s54 s55 s56 s57 s58 s59 s60 s61 s62 s63 s64 s65 s66 s67 s68 s69 s70 s71 s72 s73 s74 s75 s76 s77 s78 s79 s80 s81 s82 s83 s84 s85 s86 s87 s88 s89 s90 s91 s92 s93 s94 s95 s96 s97 s98 s99 s100 s101 s102 s103 s104 s105 s106 s107 s108 s109 s110 s111 s112 s113 s114 s115 s116 s117 s118 s119 s120 s121 s122 s123 s124 s125 s126 s127 s128 s129 s130 s131 s132 s133 s134 s135 s136 s137 s138 s139 s140 s141 s142 s143 s144 s145 s146 s147 s148 s149 s150 s151 s152 s153 s154 s155 s156 s157 s158 s159 s160 s161 s162 s163 s164 s165 s166 s167 s168 s169 s170 s171 s172 s173 s174 s175 s176 s177 s178 s179 s180 s181 s182 s183 s184 s185 s186 s187 s188 s189 s190 s191 s192 s193 s194 s195 s196 s197 s198 s199 s200 s201 s202 s203 s204 s205 s206 s207 s208 s209 s210 s211 s212 s213 s214 s215 s216 s217 s218 s219 s220 s221 s222 s223 s224 s225 s226 s227 s228 s229 s230 s231 s232 s233 : Value)
    (HPP : Hid (∀ W, Below w.heap.size w W → PP (.returned (.bool true)) W))
    (HM : Hid (Ml w)) (HB : Hid (Below w.heap.size w wc)) (HS : Hid (Sd L nx)) (hn : n ≤ 5000) (hc13 : n ≤ c13) (hcap : n ≤ cap)
    (HR : Hid (Rs wc ad L)) (HQ : Hid (wc.heap[g5]? = some (.cells #[.slice ad n cap, .int .i64 nx] 26 (0, 0))))
    (HA : Hid (Sl wc a13 all)) (HD : Hid (Dfs L all [])) (HN1 : Hid (all.length = n)) (HN2 : Hid (L.length = n)) :
    Code.wp Tryd.prog ((Tryd.f3.body.bind (tailAt 32)).getD .skip) (bodyPost Tryd.prog Tryd.f3 PP) { tmps := #[s0, s1, s2, s3, s4, .pointer (some ⟨g5, 0, none⟩), s6, s7, s8, s9, s10, s11, s12, .slice a13 n c13, s14, s15, s16, s17, s18, s19, s20, s21, s22, s23, s24, s25, s26, s27, s28, s29, s30, s31, s32, s33, s34, s35, s36, s37, s38, s39, s40, s41, s42, s43, s44, s45, s46, s47, s48, s49, s50, s51, s52, s53, s54, s55, s56, s57, s58, s59, s60, s61, s62, s63, s64, s65, s66, s67, s68, s69, s70, s71, s72, s73, s74, s75, s76, s77, s78, s79, s80, s81, s82, s83, s84, s85, s86, s87, s88, s89, s90, s91, s92, s93, s94, s95, s96, s97, s98, s99, s100, s101, s102, s103, s104, s105, s106, s107, s108, s109, s110, s111, s112, s113, s114, s115, s116, s117, s118, s119, s120, s121, s122, s123, s124, s125, s126, s127, s128, s129, s130, s131, s132, s133, s134, s135, s136, s137, s138, s139, s140, s141, s142, s143, s144, s145, s146, s147, s148, s149, s150, s151, s152, s153, s154, s155, s156, s157, s158, s159, s160, s161, s162, s163, s164, s165, s166, s167, s168, s169, s170, s171, s172, s173, s174, s175, s176, s177, s178, s179, s180, s181, s182, s183, s184, s185, s186, s187, s188, s189, s190, s191, s192, s193, s194, s195, s196, s197, s198, s199, s200, s201, s202, s203, s204, s205, s206, s207, s208, s209, s210, s211, s212, s213, s214, s215, s216, s217, s218, s219, s220, s221, s222, s223, s224, s225, s226, s227, s228, s229, s230, s231, s232, s233], defers := [] } wc := by
  conv => arg 2; whnf
  have hg5 : g5 < wc.heap.size := (Array.getElem?_eq_some_iff.1 HQ.out).1
  have m5 := cells_of HQ.out
  have mm := make41
  have hnod : Hid (all.Nodup) := HD.out.nodup HS.out
  go_upto_region 35 with fail
  have k6 := below_box wc (.map #[] 0)
  have S6 : Hid (Sn (wc.alloc (.map #[] 0)) wc.heap.size 0 (all.take 0)) := Sn.made wc
  have s6 := size_box wc (.map #[] 0)
  generalize wc.alloc (.map #[] 0) = w6 at *
  clear m5 mm
  go_wp2_with fail
  go_loopw [184] (fun x W => ∃ i : Nat, x = .int .i64 (i : Int) ∧ i ≤ n ∧ Hid (Below wc.heap.size wc W) ∧ Hid (Sn W wc.heap.size i (all.take i))) (fun x _ => n - (intOf x).toNat)
  case atStart => exact ⟨0, rfl, Nat.zero_le _, k6, S6⟩
  case round =>
    obtain ⟨i, rfl, hi, Bw, HSn⟩ := hrel
    by_cases hlt : i < n
    · obtain ⟨s, hs⟩ : ∃ s, all[i]? = some s := ⟨_, List.getElem?_eq_getElem (by have := HN1.out; omega)⟩
      obtain ⟨b13, o13, rfl, hb1, hb2⟩ : ∃ b o, a13 = some ⟨b, o, none⟩ ∧ b < wc.heap.size ∧ wc.cell? ⟨b, o + i, none⟩ = some (.string (bs s)) := by
        rcases HA.out with h | ⟨b, o, h1, h2, h3⟩
        · rw [h] at hs; simp at hs
        · exact ⟨b, o, h1, h2, h3 i s hs⟩
      have hcell : wr.cell? ⟨b13, o13 + i, none⟩ = some (.string (bs s)) := (Bw.out.cell (p := ⟨b13, o13 + i, none⟩) hb1).trans hb2
      obtain ⟨r, hr, hrp⟩ := HD.out.mem s (List.mem_of_getElem? hs)
      have hcp : Cp s := by rw [← hrp]; exact HS.out.cp r hr
      have hsl : s.length ≤ 1000 := by rw [← hrp]; exact (HS.out.ok r hr).1
      have hfd : fd L s = true := by rw [← hrp]; exact fd_of HS.out.srt hr
      have Hns : Hid (s ∉ all.take i) := fun hm => by
        obtain ⟨j, hj1, hj2⟩ := List.mem_iff_getElem.1 hm
        rw [List.length_take] at hj1
        rw [List.getElem_take] at hj2
        have h1 : j < all.length := by omega
        have h2 : i < all.length := by have := HN1.out; omega
        have := (List.getElem?_eq_some_iff.1 hs).2
        exact List.pairwise_iff_getElem.1 hnod.out j i h1 h2 (by omega) (hj2.trans this.symm)
      have HT : Hid (∀ l, l ∈ s :: all.take i ↔ l ∈ all.take (i + 1)) := fun l => by
        rw [List.take_add_one, hs]
        simp [or_comm]
      obtain ⟨q, hq⟩ : ∃ q, atR L s = q := ⟨_, rfl⟩
      have hp9 : ∀ r ∈ L, r.p.length ≤ 4611686018427387903 := fun r hr => by have := (HS.out.ok r hr).1; omega
      have KG : Hid (∀ W, Below wc.heap.size wc W → Calls Tryd.prog 14 #[.agg #[.slice ad n cap, .int .i64 nx], .string (bs s)] W fun e w' => e = .returned (.tuple #[.agg #[.string (bs q.p), .int .i64 q.id, .int .i64 q.kind, .int .i64 q.mode, .int .i64 0, .int .i64 0, .int .i64 0, .string ⟨#[]⟩, .string ⟨#[]⟩, .string ⟨#[]⟩, .slice none 0 0, .int .i64 q.size, .bool q.made], .bool true]) ∧ Below W.heap.size W w') := fun W hb => by
        have g := get_w ad cap nx L s W HS.out.srt (HR.out.below hb) (by rw [HN2.out]; omega) hp9 (by omega)
        rw [HN2.out, hq, hfd] at g
        exact g
      have HCp : Hid (Cp s) := hcp
      have hne := hcp.ne
      have KU : Hid (∀ W, Calls Tryd.prog 15 #[.string (bs s)] W fun e w' => e = .returned (.tuple #[.string (bs (upL s)), .bool true]) ∧ w' = W) := fun W => up_some s hne (by omega) W
      have hul := up_len hne
      have HUc : Hid (upL s = [] ∨ Cp (upL s)) := hcp.up
      have i1 : (0 : Int) ≤ (i : Int) := by omega
      have i2 : (i : Int) < (n : Int) := by omega
      have m5 := cells_of ((Bw.out.block g5 hg5).trans HQ.out)
      clear hs hrp hcp hfd hp9 hq hb1 hb2 hr r hne
      go_upto_region 39 with (first
        | (go_at_call 14; refine (KG.out _ Bw.out).mono ?_; rintro e w2 ⟨rfl, k2⟩)
        | (refine wpList_store_row rfl 40 _ _ rfl w2.heap.size #[.string (bs q.p), .int .i64 q.id, .int .i64 q.kind, .int .i64 q.mode, .int .i64 0, .int .i64 0, .int .i64 0, .string ⟨#[]⟩, .string ⟨#[]⟩, .string ⟨#[]⟩, .slice none 0 0, .int .i64 q.size, .bool q.made] rfl rfl 40 _ (heap_alloc_new w2 _) (by kernel_rfl) rfl (by simp [Value.oneCell']) ?_))
      have b3 : Below w2.heap.size w2 ((w2.alloc (.cells #[.string ⟨#[]⟩, .int .i64 0, .int .i64 0, .int .i64 0, .int .i64 0, .int .i64 0, .int .i64 0, .string ⟨#[]⟩, .string ⟨#[]⟩, .string ⟨#[]⟩, .slice none 0 0, .int .i64 0, .bool false] 40)).setRow w2.heap.size #[.string (bs q.p), .int .i64 q.id, .int .i64 q.kind, .int .i64 q.mode, .int .i64 0, .int .i64 0, .int .i64 0, .string ⟨#[]⟩, .string ⟨#[]⟩, .string ⟨#[]⟩, .slice none 0 0, .int .i64 q.size, .bool q.made]) := below_setRow (below_box w2 _) (Nat.le_refl _) _
      generalize (w2.alloc _).setRow _ _ = w3 at *
      have k3 : Below wr.heap.size wr w3 := k2.trans (b3.mono k2.size)
      have Sn3 := HSn.out.kept k3
      have hlook := Sn3.look s (by omega) Hns.out
      obtain ⟨w4, hput, Sn4, G4⟩ := Sn3.put s (by omega) (by unfold maxLen; omega)
      have B3 : Below wc.heap.size wc w3 := Bw.out.trans (k3.mono Bw.out.size)
      have B4 : Hid (Below wc.heap.size wc w4) := B3.grown G4 B3.size (fun k hk => by cases hk; exact Nat.le_refl _)
      have S4 : Hid (Sn w4 wc.heap.size (i + 1) (all.take (i + 1))) := Sn4.congr HT.out
      clear k2 b3 k3 Sn3 Sn4 G4 HSn Hns HT hcell m5 B3
      have m5 := cells_of ((B4.out.block g5 hg5).trans HQ.out)
      go_upto_region 43 with (go_at_call 15; refine (KU.out _).mono ?_; rintro e w5 ⟨rfl, hw5⟩; rw [hw5])
      clear hlook hput KU KG
      generalize upL s = u at *
      go_wp2_with fail
      go_loopw [211] (fun y W => ∃ j : Nat, y = .int .i64 (j : Int) ∧ j ≤ n ∧ Hid (Below w4.heap.size w4 W)) (fun y _ => n - (intOf y).toNat)
      case atStart => exact ⟨0, rfl, Nat.zero_le _, Below.refl _ _⟩
      case round =>
        obtain ⟨j, rfl, hj, Bj⟩ := hrel
        by_cases hjl : j < n
        · obtain ⟨r, hr⟩ : ∃ r, L[j]? = some r := ⟨_, List.getElem?_eq_getElem (by have := HN2.out; omega)⟩
          have hrm := List.mem_of_getElem? hr
          obtain ⟨t, ht1, ht2⟩ := back_w u r.p HUc.out (HS.out.cp r hrm) (by omega) (HS.out.ok r hrm).1
          have BwJ : Below wc.heap.size wc wr := B4.out.trans (Bj.out.mono B4.out.size)
          have hMl : Hid (∀ W, Below wr.heap.size wr W → Ml W) := fun W hb => (HM.out.below (HB.out.trans (BwJ.mono HB.out.size))).below hb
          have KL : Hid (∀ W, Ml W → Calls Tryd.prog 17 #[.string (bs u), .string (bs r.p)] W fun e w' => e = .returned (.string (bs t)) ∧ Below W.heap.size W w') := ht1
          have KR : Hid (∀ W, Ml W → Calls Tryd.prog 16 #[.string (bs u), .string (bs t)] W fun e w' => e = .returned (.tuple #[.string (bs r.p), .int .i64 0]) ∧ Below W.heap.size W w') := ht2
          obtain ⟨b, o, rfl, hbb1, hbb2⟩ := (HR.out.below BwJ).at hr
          have HBr : Hid (wr.rangeAt b (o + j * 13) [.string (bs r.p), .int .i64 r.id, .int .i64 r.kind, .int .i64 r.mode, .int .i64 0, .int .i64 0, .int .i64 0, .string ⟨#[]⟩, .string ⟨#[]⟩, .string ⟨#[]⟩, .slice none 0 0, .int .i64 r.size, .bool r.made]) := hbb2
          have hsi : Hid ((Tryd.prog.info? 40).map (·.size) = some ([.string (bs r.p), .int .i64 r.id, .int .i64 r.kind, .int .i64 r.mode, .int .i64 0, .int .i64 0, .int .i64 0, .string ⟨#[]⟩, .string ⟨#[]⟩, .string ⟨#[]⟩, .slice none 0 0, .int .i64 r.size, .bool r.made] : List Value).length) := (by show _ = _; kernel_rfl)
          have j1 : (0 : Int) ≤ (j : Int) := by omega
          have j2 : (j : Int) < (n : Int) := by omega
          have hbs := beq_bs r.p r.p
          clear hr hrm ht1 ht2 hbb2 m5
          go_upto_region 46 with (refine wpList_load_mid rfl 40 _ rfl b (o + j * 13) rfl [.string (bs r.p), .int .i64 r.id, .int .i64 r.kind, .int .i64 r.mode, .int .i64 0, .int .i64 0, .int .i64 0, .string ⟨#[]⟩, .string ⟨#[]⟩, .string ⟨#[]⟩, .slice none 0 0, .int .i64 r.size, .bool r.made] _ HBr.out Tryd.underlying40 rfl hsi.out ?_)
          have hk7 := below_box wr (.cells #[.string (bs r.p), .int .i64 r.id, .int .i64 r.kind, .int .i64 r.mode, .int .i64 0, .int .i64 0, .int .i64 0, .string ⟨#[]⟩, .string ⟨#[]⟩, .string ⟨#[]⟩, .slice none 0 0, .int .i64 r.size, .bool r.made] 40)
          have hq7 := heap_alloc_new wr (.cells #[.string (bs r.p), .int .i64 r.id, .int .i64 r.kind, .int .i64 r.mode, .int .i64 0, .int .i64 0, .int .i64 0, .string ⟨#[]⟩, .string ⟨#[]⟩, .string ⟨#[]⟩, .slice none 0 0, .int .i64 r.size, .bool r.made] 40)
          have hs7 := size_box wr (.cells #[.string (bs r.p), .int .i64 r.id, .int .i64 r.kind, .int .i64 r.mode, .int .i64 0, .int .i64 0, .int .i64 0, .string ⟨#[]⟩, .string ⟨#[]⟩, .string ⟨#[]⟩, .slice none 0 0, .int .i64 r.size, .bool r.made] 40)
          generalize wr.alloc _ = w7 at *
          have m7 := cells_of hq7
          have HMl7 : Ml w7 := hMl.out w7 hk7
          clear HBr hsi
          go_upto_region 47 with (first
            | (go_at_call 17; refine (KL.out _ HMl7).mono ?_; rintro e w8 ⟨rfl, k8⟩; have HMl8 := hMl.out w8 (hk7.trans (k8.mono hk7.size)))
            | (go_at_call 16; refine (KR.out _ HMl8).mono ?_; rintro e w9 ⟨rfl, k9⟩))
          have k79 : Below w7.heap.size w7 w9 := k8.trans (k9.mono k8.size)
          have q9 := (k79.block _ (by omega)).trans hq7
          have m9 := cells_of q9
          have B9 : Hid (Below w4.heap.size w4 w9) := Bj.out.trans ((hk7.trans (k79.mono hk7.size)).mono Bj.out.size)
          clear m7 k8 k9 k79 hk7 hq7 q9 KL KR HMl7 HMl8 hMl BwJ
          go_wp2_with fail
          go_roundw
          case rel => exact ⟨j + 1, by simp, hjl, B9⟩
          case measure => simp [intOf]; omega
        · obtain rfl : j = n := by omega
          clear m5
          go_wp2_with fail
          go_roundw
          case rel => exact ⟨i + 1, by simp, hlt, B4.out.trans (Bj.out.mono B4.out.size), S4.out.kept Bj.out⟩
          case measure => simp [intOf]; omega
    · obtain rfl : i = n := by omega
      go_wp2_with fail
      exact HPP.out _ (HB.out.trans (Bw.out.mono HB.out.size))

end Go.Proofs.YtojnniacmmcddaaDoor
