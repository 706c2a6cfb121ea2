/-
  BlockPlays: its steps.
-/
import Derived.Test.YtpjfhfbjdcgbjaaBs15
import Derived.Test.YtpjfhfbjdcgbjaaBt66
import Derived.Test.YtpjfhfbjdcgbjaaHead
import Derived.Test.YtpjfhfbjdcgbjaaNew
import Derived.Deep.DeepCutAuto
import Derived.Deep.CutBlock
import Derived.Deep.Cut
import Derived.Deep.RegionWith
namespace Go.Proofs.Ytpjfhfbjdcgbjaa
open Go.RowKit
set_option linter.unusedVariables false
set_option linter.unusedSimpArgs false

theorem below_box (w : World) (o : Obj) : Below w.heap.size w (w.alloc o) := (Below.refl _ w).alloc (Nat.le_refl _) o
theorem cell_below {w w1 : World} (hb : Below w.heap.size w w1) {a : Addr} {v : Value} (h : w.cell? a = some v) : w1.cell? a = some v := (Below.cell hb (World.block_lt_of_cell? w _ h)).trans h
theorem Src.moved' {w w' : World} {a : Option Addr} {zs : List Int} (h : Src w a zs) (hb : 0 < zs.length → ∀ ad, a = some ad → w'.heap[ad.block]? = w.heap[ad.block]?) : Src w' a zs := fun h0 => h.moved (hb h0) h0

/-- a step -/
structure Opd where
  o0 : Int
  o1 : Int
  o2 : Int
  o3 : Int
  o4 : Int
  da : Option Addr
  dl : Nat
  dc : Nat
  D : List Int

def Fi (z : Int) : Prop := -9223372036854775808 ≤ z ∧ z ≤ 9223372036854775807

/-- a step that came in -/
structure Opd.ok (w : World) (x : Opd) : Prop where
  f0 : Fi x.o0
  f1 : Fi x.o1
  f2 : Fi x.o2
  f3 : Fi x.o3
  f4 : Fi x.o4
  src : Src w x.da x.D
  len : x.D.length = x.dl
  cap : x.dl ≤ x.dc
  max : x.dc ≤ 9223372036854775807
  blk : ∀ ad, x.da = some ad → 0 < x.dl → ad.block < w.heap.size

def Opd.cells (x : Opd) : List Value := [.int .i64 x.o0, .int .i64 x.o1, .int .i64 x.o2, .int .i64 x.o3, .int .i64 x.o4, .slice x.da x.dl x.dc]

/-- where the steps lie -/
def Scr (w : World) (ad : Option Addr) (X : List Opd) : Prop := X = [] ∨ ∃ b o, ad = some ⟨b, o, none⟩ ∧ b < w.heap.size ∧ ∀ (r : Nat) (x : Opd), X[r]? = some x → ∀ (q : Nat) (v : Value), x.cells[q]? = some v → w.cell? ⟨b, o + r * 6 + q, none⟩ = some v

theorem blank_free (n : Nat) : ∀ (i : Nat) (s : Slot), (blank n)[i]? = some s → s.holds = 0 := by
  intro i s h
  have := List.mem_of_getElem? h
  unfold blank at this
  rw [List.eq_of_mem_replicate this]
  rfl

set_option maxRecDepth 100000 in
set_option maxHeartbeats 16000000 in
theorem plays_w (z : Int) (ad : Option Addr) (N cap : Nat) (X : List Opd) (w : World) (hz : Fi z) (hT : Scr w ad X) (hN : X.length = N) (hO : ∀ x ∈ X, x.ok w) (hcap : N ≤ cap) (hcm : cap ≤ 9223372036854775807) :
    Calls Try.prog 3 #[.int .i64 z, .slice ad N cap] w fun e w' => e = .returned (.bool true) ∧ Below w.heap.size w w' := by
  have HT : Hid (Scr w ad X) := hT
  have HNx : Hid (X.length = N) := hN
  have HOx : Hid (∀ x ∈ X, x.ok w) := hO
  obtain ⟨hz1, hz2⟩ := hz
  clear hT hN hO
  generalize hPP : (fun (e : Ending) (w' : World) => e = .returned (.bool true) ∧ Below w.heap.size w w') = PP
  have HPP : Hid (∀ W, Below w.heap.size w W → PP (.returned (.bool true)) W) := fun W hb => (by subst hPP; exact ⟨rfl, hb⟩)
  clear hPP
  have qk := head_ok w
  go_enter Try.func3, Try.ntmps3
  go_upto_region 3 with (go_at_call 9; refine qk.mono ?_; rintro e w1 ⟨rfl, b1⟩)
  have HB1 : Hid (Below w.heap.size w w1) := b1
  clear qk b1
  by_cases hbad : z < 0 ∨ 16384 < z
  · have qn := new_no z w1 hbad
    rcases hbad with hb1 | hb1
    · go_wp2_with (go_at_call 10; refine qn.mono ?_; rintro e w4 ⟨rfl, rfl⟩)
      all_goals exact HPP.out _ HB1.out
    · have hb2 : ¬ z < 0 := by omega
      go_wp2_with (go_at_call 10; refine qn.mono ?_; rintro e w4 ⟨rfl, rfl⟩)
      all_goals exact HPP.out _ HB1.out
  obtain ⟨n, rfl⟩ : ∃ n : Nat, z = (n : Int) := ⟨z.toNat, by omega⟩
  have hn : n ≤ 16384 := by omega
  have hn1 : ¬ (n : Int) < 0 := by omega
  have hn2 : ¬ 16384 < (n : Int) := by omega
  have qn := new_yes n w1 (by omega)
  go_upto_region 6 with (go_at_call 10; refine qn.mono ?_; rintro e w4 ⟨p, S, F, rfl, A4, B4, gp, gS, gF⟩)
  by_cases hN60 : N ≤ 100
  rotate_left 1
  · have hN61 : (100 : Int) < (N : Int) := by omega
    have b4 : Below w.heap.size w w4 := HB1.out.trans (B4.mono HB1.out.size)
    clear A4 B4 qn
    go_wp2_with fail
    exact HPP.out _ b4
  have hN61 : ¬ (100 : Int) < (N : Int) := by omega
  obtain ⟨lp, lS, lF⟩ := A4.lt
  have hs1 := HB1.out.size
  have kB := below_box w4 (.map #[] 0)
  have hsz4 : (w4.alloc (.map #[] 0)).heap.size = w4.heap.size + 1 := by simp
  have T4 : Hid (Bs w (w4.alloc (.map #[] 0)) p S F w4.heap.size (w4.heap.size + 1) n 0 (.slice none 0 0) [] (blank n) (down n)) :=
    { below := (HB1.out.trans (B4.mono HB1.out.size)).trans (kB.mono (by have := B4.size; omega))
      ar := A4.alloc _
      mp := ⟨0, Nat.le_refl _, by rw [down_length, Nat.sub_self]; exact Mp.made w4 (blank_free n)⟩
      ev := own_nil _ _
      ids := fun x hx => by cases hx
      num := Nat.le_refl _
      held := fun s hs => by obtain ⟨i, hi⟩ := List.getElem?_of_mem hs; rw [blank_free n i s hi]; omega
      len := blank_length n
      B0 := by have := B4.size; omega
      Bw := by omega
      hp := ⟨by omega, by omega⟩
      hS := ⟨by omega, by omega⟩
      hF := ⟨by omega, by omega⟩
      hg := ⟨by have := B4.size; omega, by omega⟩ }
  have hmk := make28 w4
  have HB0 : Hid (w4.heap.size + 1 = w4.heap.size + 1) := rfl
  generalize w4.alloc (.map #[] 0) = w5 at *
  generalize w4.heap.size + 1 = BB at *
  generalize w4.heap.size = gm at *
  clear qn A4 B4 gp gS gF HB1 lp lS lF hs1 kB hsz4 hbad
  go_wp2_with fail
  rename_i K2 hK2
  have HK : Hid (∀ (a : Act) (w : World), Code.wp Try.prog ((Try.f3.body.bind (findAt 66)).getD .skip) (bodyPost Try.prog Try.f3 PP) a w → K2 a w) := hK2
  clear hK2
  go_loopw [8, 54] (fun x8 x54 wr => ∃ (j k : Nat) (ea : Option Addr) (ec : Nat) (ks : List Int) (ss : List Slot) (fr : List Nat), j ≤ N ∧ x54 = .int .i64 (j : Int) ∧ x8 = .slice ea k ec ∧ Hid (Bs w wr p S F gm BB n j (.slice ea k ec) ks ss fr)) (fun _ x _ => N - (intOf x).toNat)
  case atStart => exact ⟨0, 0, none, 0, [], blank n, down n, by omega, rfl, rfl, T4⟩
  case round =>
    clear T4
    obtain ⟨j, k, ea, ec, ks, ss, fr, hj, rfl, rfl, H⟩ := hrel
    by_cases hlt : j < N
    · obtain ⟨x, hx⟩ : ∃ x, X[j]? = some x := ⟨_, List.getElem?_eq_getElem (by have := HNx.out; omega)⟩
      have hok := HOx.out x (List.mem_of_getElem? hx)
      obtain ⟨bs, os, rfl, hbs, hcs⟩ : ∃ b o, ad = some ⟨b, o, none⟩ ∧ b < w.heap.size ∧ ∀ (q : Nat) (v : Value), x.cells[q]? = some v → w.cell? ⟨b, o + j * 6 + q, none⟩ = some v := by
        rcases HT.out with h | ⟨b, o, h1, h2, h3⟩
        · rw [h] at hx; simp at hx
        · exact ⟨b, o, h1, h2, h3 j x hx⟩
      have d0 : wr.cell? ⟨bs, os + j * 6, none⟩ = some (.int .i64 x.o0) := cell_below H.out.below (hcs 0 _ rfl)
      have d1 : wr.cell? ⟨bs, os + j * 6 + 1, none⟩ = some (.int .i64 x.o1) := cell_below H.out.below (hcs 1 _ rfl)
      have d2 : wr.cell? ⟨bs, os + j * 6 + 2, none⟩ = some (.int .i64 x.o2) := cell_below H.out.below (hcs 2 _ rfl)
      have d3 : wr.cell? ⟨bs, os + j * 6 + 3, none⟩ = some (.int .i64 x.o3) := cell_below H.out.below (hcs 3 _ rfl)
      have d4 : wr.cell? ⟨bs, os + j * 6 + 4, none⟩ = some (.int .i64 x.o4) := cell_below H.out.below (hcs 4 _ rfl)
      have d5 : wr.cell? ⟨bs, os + j * 6 + 5, none⟩ = some (.slice x.da x.dl x.dc) := cell_below H.out.below (hcs 5 _ rfl)
      obtain ⟨o0, o1, o2, o3, o4, da, dl, dc, D⟩ := x
      obtain ⟨z0, z1, z2, z3, z4, hsrc, hDlen, hdc, hdm, hblk⟩ := hok
      simp only at d0 d1 d2 d3 d4 d5 z0 z1 z2 z3 z4 hsrc hDlen hdc hdm hblk
      have HDl : Hid (D.length = dl) := hDlen
      have HDa : Hid (∀ ad, da = some ad → 0 < dl → ad.block < w.heap.size) := hblk
      have HD0 : Hid (Src w da D) := hsrc
      have j1 : (0 : Int) ≤ (j : Int) := by omega
      have j2 : (j : Int) < (N : Int) := by omega
      clear hcs hx hDlen hblk hsrc hbs
      go_upto_block 1 with fail
      refine wp_block ?_
      refine wp_seq_k (fun KA hKA => ?_)
      have HKA : Hid _ := hKA
      clear hKA
      go_wp2_with fail
      have kx := below_box wr (.cells #[.int .i64 o0, .int .i64 o1, .int .i64 o2, .int .i64 o3, .int .i64 o4, .slice da dl dc] 32)
      have gx := heap_alloc_new wr (.cells #[.int .i64 o0, .int .i64 o1, .int .i64 o2, .int .i64 o3, .int .i64 o4, .slice da dl dc] 32)
      generalize wr.alloc (.cells #[.int .i64 o0, .int .i64 o1, .int .i64 o2, .int .i64 o3, .int .i64 o4, .slice da dl dc] 32) = w5 at *
      have H5 : Hid (Bs w w5 p S F gm BB n j (.slice ea k ec) ks ss fr) := H.out.grow kx
      have HOp : Hid (w5.heap[wr.heap.size]? = some (.cells #[.int .i64 o0, .int .i64 o1, .int .i64 o2, .int .i64 o3, .int .i64 o4, .slice da dl dc] 32 (0, 0))) := gx
      have HD5 : Hid (Src w5 da D) := HD0.out.moved' (fun h0 ad e => H5.out.below.block _ (HDa.out ad e (by have := HDl.out; omega)))
      have hBr : BB ≤ wr.heap.size := H.out.Bw
      have m10 := two10 HOp.out
      have m5 := m10 5
      clear d0 d1 d2 d3 d4 d5 kx gx HD0 H
      refine HKA.out _ _ ?_
      clear HKA KA
      refine wp_seq_k (fun KB hKB => ?_)
      have HKB : Hid _ := hKB
      clear hKB
      by_cases hd1 : dl ≤ 200
      · have hd1' : ¬ (200 : Int) < (dl : Int) := by omega
        go_wp2_with fail
        refine HKB.out _ _ ?_
        clear HKB KB m10 m5
        refine step15 w w5 p S F gm BB n j wr.heap.size k ec ea ks ss fr _ _ _ _ _ _ _ _ _ _ _ _ _ _ _ _ _ _ _ _ _ _ _ _ _ _ _ _ _ _ _ _ _ _ _ _ _ _ _ _ _ _ _ _ _ _ _ _ _ _ _ _ _ _ _ _ _ _ _ _ _ _ _ _ _ _ _ _ _ _ _ _ _ _ _ _ _ _ _ _ _ _ _ _ _ _ _ _ _ _ _ _ _ _ _ _ _ _ _ _ _ _ _ _ _ _ _ _ _ _ _ _ _ _ _ _ _ _ _ _ _ _ _ _ _ _ _ _ _ _ _ _ _ _ _ _ _ _ _ _ _ _ _ _ _ _ _ _ _ _ _ _ _ _ _ _ _ _ _ _ _ _ _ _ _ _ _ _ _ _ _ _ _ _ _ _ _ _ _ _ _ _ _ _ _ _ _ _ _ _ _ _ _ _ _ _ _ _ _ _ _ _ _ _ _ _ _ _ _ _ _ _ _ _ _ _ _ _ _ _ _ _ _ _ _ _ _ _ _ _ _ _ _ _ _ _ _ _ _ _ _ _ _ _ _ _ _ _ _ _ _ _ _ _ _ _ _ _ _ _ _ _ _ _ _ _ _ _ _ _ _ _ _ _ _ _ _ _ _ _ _ _ _ _ _ _ _ _ _ _ _ _ _ _ _ _ _ _ _ _ _ _ _ _ _ _ _ _ _ _ _ _ _ _ _ _ _ _ _ _ _ _ _ _ _ _ _ _ _ _ _ _ _ _ _ _ _ _ _ _ _ _ _ _ _ _ _ _ _ _ _ _ _ _ _ _ _ _ _ _ _ _ _ _ _ _ _ _ _ _ _ _ _ _ _ _ H5 (by omega) ?hp o0 o1 o2 o3 o4 da dl dc hd1 hdc hdm HOp hBr z2 z3 z1 z4 D HDl HD5 HDa ?_
        case hp => exact fun _ _ _ _ _ h => h
        intro e x8 x11 x12 x13 x14 x15 x16 x17 x18 x19 x20 x21 x22 x23 x24 x62 x63 x64 x65 x66 x67 x68 x69 x70 x71 x72 x73 x74 x75 x76 x77 x78 x79 x80 x81 x82 x83 x84 x85 x86 x87 x88 x89 x90 x91 x92 x93 x94 x95 x96 x97 x98 x99 x100 x101 x102 x103 x104 x105 x106 x107 x108 x109 x110 x111 x112 x113 x114 x115 x116 x117 x118 x119 x120 x121 x122 x123 x124 x125 x126 x127 x128 x129 x130 x131 x132 x133 x134 x135 x136 x137 x138 x139 x140 x141 x142 x143 x144 x145 x146 x147 x148 x149 x150 x151 x152 x153 x154 x155 x156 x157 x158 x159 x160 x161 x162 x163 x164 x165 x166 x167 x168 x169 x170 x171 x172 x173 x174 x175 x176 x177 x178 x179 x180 x181 x182 x183 x184 x185 x186 x187 x188 x189 x190 x191 x192 x193 x194 x195 x196 x197 x198 x199 x200 x201 x202 x203 x204 x205 x206 x207 x208 x209 x210 x211 x212 x213 x214 x215 x216 x217 x218 x219 x220 x221 x222 x223 x224 x225 x226 x227 x228 x229 x230 x231 x232 x233 x234 x235 x236 x237 x238 x239 x240 x241 x242 x243 x244 x245 x246 x247 x248 x249 x250 x251 x252 x253 x254 x255 x256 x257 x258 x259 x260 x261 x262 x263 x264 x265 x266 x267 x268 x269 x270 x271 x272 x273 x274 x275 x276 x277 x278 x279 x280 x281 x282 x283 x284 x285 x286 x287 x288 x289 x290 x291 x292 x293 x294 x295 x296 x297 x298 x299 x300 x301 x302 x303 x304 x305 x306 x307 x308 x309 x310 x311 x312 x313 x314 x315 x316 x317 x318 x319 x320 x321 x322 x323 x324 x325 x326 x327 x328 x329 x330 x331 x332 x333 x334 x335 x336 x337 x338 x339 x340 x341 x342 x343 x344 x345 x346 x347 W k' ea' ec' ks' ss' fr' he e8 hE
        have HE : Hid _ := hE
        clear hE
        subst e8
        rcases he with rfl | rfl
        · go_wp2_with fail
          go_roundw
          case rel => exact ⟨j + 1, k', ea', ec', ks', ss', fr', by omega, by simp, rfl, HE⟩
          case measure => simp [intOf]; omega
        · go_wp2_with fail
          go_roundw
          case rel => exact ⟨j + 1, k', ea', ec', ks', ss', fr', by omega, by simp, rfl, HE⟩
          case measure => simp [intOf]; omega
      · have hd1' : (200 : Int) < (dl : Int) := by omega
        go_wp2_with fail
        exact HPP.out _ H5.out.below
    · go_wp2_with fail
      refine HK.out _ _ ?_
      exact tail66 w PP wr p S F gm BB n j (.slice ea k ec) ks ss fr _ _ _ _ _ _ _ _ _ _ _ _ _ _ _ _ _ _ _ _ _ _ _ _ _ _ _ _ _ _ _ _ _ _ _ _ _ _ _ _ _ _ _ _ _ _ _ _ _ _ _ _ _ _ _ _ _ _ _ _ _ _ _ _ _ _ _ _ _ _ _ _ _ _ _ _ _ _ _ _ _ _ _ _ _ _ _ _ _ _ _ _ _ _ _ _ _ _ _ _ _ _ _ _ _ _ _ _ _ _ _ _ _ _ _ _ _ _ _ _ _ _ _ _ _ _ _ _ _ _ _ _ _ _ _ _ _ _ _ _ _ _ _ _ _ _ _ _ _ _ _ _ _ _ _ _ _ _ _ _ _ _ _ _ _ _ _ _ _ _ _ _ _ _ _ _ _ _ _ _ _ _ _ _ _ _ _ _ _ _ _ _ _ _ _ _ _ _ _ _ _ _ _ _ _ _ _ _ _ _ _ _ _ _ _ _ _ _ _ _ _ _ _ _ _ _ _ _ _ _ _ _ _ _ _ _ _ _ _ _ _ _ _ _ _ _ _ _ _ _ _ _ _ _ _ _ _ _ _ _ _ _ _ _ _ _ _ _ _ _ _ _ _ _ _ _ _ _ _ _ _ _ _ _ _ _ _ _ _ _ _ _ _ _ _ _ _ _ _ _ _ _ _ _ _ _ _ _ _ _ _ _ _ _ _ _ _ _ _ _ _ _ _ _ _ _ _ _ _ _ _ _ _ _ _ _ _ _ _ _ _ _ _ _ _ _ _ _ _ _ _ _ _ _ _ _ _ _ _ _ _ _ _ _ _ _ _ _ _ _ _ _ _ _ _ _ _ HPP H (by omega)

end Go.Proofs.Ytpjfhfbjdcgbjaa
