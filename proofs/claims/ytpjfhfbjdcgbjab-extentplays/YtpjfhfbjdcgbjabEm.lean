/-
  ExtentPlays: its steps.
-/
import Derived.Test.YtpjfhfbjdcgbjabEs13
import Derived.Test.YtpjfhfbjdcgbjabEt40
import Derived.Deep.DeepCutAuto
import Derived.Deep.CutBlock
namespace Go.Proofs.Ytpjfhfbjdcgbjab
open Go.RowKit
set_option linter.unusedVariables false
set_option linter.unusedSimpArgs false

/-- a step -/
structure Opd where
  o0 : Int
  o1 : Int
  o2 : Int
  o3 : Int
  da : Option Addr
  dl : Nat
  dc : Nat
  D : List Int

def Fi (z : Int) : Prop := -9223372036854775808 ≤ z ∧ z ≤ 9223372036854775807

/-- a step that came in -/
structure Opd.ok (w : World) (x : Opd) : Prop where
  f0 : Fi x.o0
  f1 : Fi x.o1
  f2 : Fi x.o2
  f3 : Fi x.o3
  src : Src w x.da x.D
  len : x.D.length = x.dl
  cap : x.dl ≤ x.dc
  max : x.dc ≤ 9223372036854775807
  blk : ∀ ad, x.da = some ad → 0 < x.dl → ad.block < w.heap.size

def Opd.cells (x : Opd) : List Value := [.int .i64 x.o0, .int .i64 x.o1, .int .i64 x.o2, .int .i64 x.o3, .slice x.da x.dl x.dc]

theorem size_box2 (w : World) (o : Obj) : (w.alloc o).heap.size = w.heap.size + 1 := by simp

/-- where the steps lie -/
def Scr (w : World) (ad : Option Addr) (X : List Opd) : Prop := X = [] ∨ ∃ b o, ad = some ⟨b, o, none⟩ ∧ b < w.heap.size ∧ ∀ (r : Nat) (x : Opd), X[r]? = some x → ∀ (q : Nat) (v : Value), x.cells[q]? = some v → w.cell? ⟨b, o + r * 5 + q, none⟩ = some v

set_option maxRecDepth 100000 in
set_option maxHeartbeats 16000000 in
theorem plays_w (z : Int) (ad : Option Addr) (N cap : Nat) (X : List Opd) (w : World) (hz : Fi z) (hT : Scr w ad X) (hN : X.length = N) (hO : ∀ x ∈ X, x.ok w) (hcap : N ≤ cap) (hcm : cap ≤ 9223372036854775807) :
    Calls Try.prog 3 #[.int .i64 z, .slice ad N cap] w fun e w' => e = .returned (.bool true) ∧ Below w.heap.size w w' := by
  have HT : Hid (Scr w ad X) := hT
  have HNx : Hid (X.length = N) := hN
  have HOx : Hid (∀ x ∈ X, x.ok w) := hO
  obtain ⟨hz1, hz2⟩ := hz
  clear hT hN hO
  generalize hPP : (fun (e : Ending) (w' : World) => e = .returned (.bool true) ∧ Below w.heap.size w w') = PP
  have HPP : Hid (∀ W, Below w.heap.size w W → PP (.returned (.bool true)) W) := fun W hb => (by subst hPP; exact ⟨rfl, hb⟩)
  clear hPP
  have qk := keeps_ok w
  go_enter Try.func3, Try.ntmps3
  go_upto_region 3 with (go_at_call 9; refine qk.mono ?_; rintro e w1 ⟨rfl, b1⟩)
  have HB1 : Hid (Below w.heap.size w w1) := b1
  clear qk b1
  go_upto_region 5 with fail
  all_goals try (exact HPP.out _ HB1.out)
  obtain ⟨n, rfl⟩ : ∃ n : Nat, z = (n : Int) := ⟨z.toNat, by omega⟩
  have hn : n ≤ 200 := by omega
  have hN60 : N ≤ 60 := by omega
  have qn := new_yes n w1 (by omega)
  go_upto_region 6 with (go_at_call 10; refine qn.mono ?_; rintro e w4 ⟨p, S, F, rfl, A4, B4, gp, gS, gF⟩)
  obtain ⟨lp, lS, lF⟩ := A4.lt
  have hs1 := HB1.out.size
  have T4 : Hid (Es w w4 p S F w4.heap.size n 0 (.slice none 0 0) (.slice none 0 0) [] (blank n) (down n)) := ⟨HB1.out.trans (B4.mono HB1.out.size), cs_nil _ _, ws_nil _ _, A4, blank_inv n _ A4.good, fun x h => by simp at h, by simp, blank_length n, by have := B4.size; omega, Nat.le_refl _, ⟨by omega, by omega⟩, ⟨by omega, by omega⟩, ⟨by omega, by omega⟩⟩
  clear qn A4 B4 gp gS gF HB1 lp lS lF hs1
  go_wp2_with fail
  rename_i K2 hK2
  have HK : Hid (∀ (a : Act) (w : World), Code.wp Try.prog ((Try.f3.body.bind (findAt 40)).getD .skip) (bodyPost Try.prog Try.f3 PP) a w → K2 a w) := hK2
  clear hK2
  go_loopw [7, 8, 47] (fun x7 x8 x47 wr => ∃ (j k : Nat) (av aw : Option Addr) (cv cs : Nat) (xs : List Cn) (ss : List Slot) (fr : List Nat), j ≤ N ∧ x47 = .int .i64 (j : Int) ∧ x7 = .slice av k cv ∧ x8 = .slice aw k cs ∧ k ≤ j ∧ Hid (Es w wr p S F w4.heap.size n j (.slice av k cv) (.slice aw k cs) xs ss fr)) (fun _ _ x _ => N - (intOf x).toNat)
  case atStart => exact ⟨0, 0, none, none, 0, 0, [], blank n, down n, by omega, rfl, rfl, rfl, by omega, T4⟩
  case round =>
    clear T4
    obtain ⟨j, k, av, aw, cv, cs, xs, ss, fr, hj, rfl, rfl, rfl, hkj, H⟩ := hrel
    by_cases hlt : j < N
    · obtain ⟨x, hx⟩ : ∃ x, X[j]? = some x := ⟨_, List.getElem?_eq_getElem (by have := HNx.out; omega)⟩
      have hok := HOx.out x (List.mem_of_getElem? hx)
      obtain ⟨bs, os, rfl, hbs, hcs⟩ : ∃ b o, ad = some ⟨b, o, none⟩ ∧ b < w.heap.size ∧ ∀ (q : Nat) (v : Value), x.cells[q]? = some v → w.cell? ⟨b, o + j * 5 + q, none⟩ = some v := by
        rcases HT.out with h | ⟨b, o, h1, h2, h3⟩
        · rw [h] at hx; simp at hx
        · exact ⟨b, o, h1, h2, h3 j x hx⟩
      have d0 : wr.cell? ⟨bs, os + j * 5, none⟩ = some (.int .i64 x.o0) := cell_below H.out.below (hcs 0 _ rfl)
      have d1 : wr.cell? ⟨bs, os + j * 5 + 1, none⟩ = some (.int .i64 x.o1) := cell_below H.out.below (hcs 1 _ rfl)
      have d2 : wr.cell? ⟨bs, os + j * 5 + 2, none⟩ = some (.int .i64 x.o2) := cell_below H.out.below (hcs 2 _ rfl)
      have d3 : wr.cell? ⟨bs, os + j * 5 + 3, none⟩ = some (.int .i64 x.o3) := cell_below H.out.below (hcs 3 _ rfl)
      have d4 : wr.cell? ⟨bs, os + j * 5 + 4, none⟩ = some (.slice x.da x.dl x.dc) := cell_below H.out.below (hcs 4 _ rfl)
      obtain ⟨o0, o1, o2, o3, da, dl, dc, D⟩ := x
      obtain ⟨z0, z1, z2, z3, hsrc, hDlen, hdc, hdm, hblk⟩ := hok
      simp only at d0 d1 d2 d3 d4 z0 z1 z2 z3 hsrc hDlen hdc hdm hblk
      have HDl : Hid (D.length = dl) := hDlen
      have HDa : Hid (∀ ad, da = some ad → 0 < dl → ad.block < w.heap.size) := hblk
      have HD0 : Hid (Src w da D) := hsrc
      have j1 : (0 : Int) ≤ (j : Int) := by omega
      have j2 : (j : Int) < (N : Int) := by omega
      clear hcs hx hDlen hblk hsrc hbs
      go_upto_block 1 with fail
      refine wp_block ?_
      refine wp_seq_k (fun KA hKA => ?_)
      have HKA : Hid _ := hKA
      clear hKA
      go_wp2_with fail
      have kx := below_box wr (.cells #[.int .i64 o0, .int .i64 o1, .int .i64 o2, .int .i64 o3, .slice da dl dc] 32)
      have gx := heap_alloc_new wr (.cells #[.int .i64 o0, .int .i64 o1, .int .i64 o2, .int .i64 o3, .slice da dl dc] 32)
      generalize wr.alloc (.cells #[.int .i64 o0, .int .i64 o1, .int .i64 o2, .int .i64 o3, .slice da dl dc] 32) = w5 at *
      have H5 : Hid (Es w w5 p S F w4.heap.size n j (.slice av k cv) (.slice aw k cs) xs ss fr) := H.out.grow kx
      have HOp : Hid (w5.heap[wr.heap.size]? = some (.cells #[.int .i64 o0, .int .i64 o1, .int .i64 o2, .int .i64 o3, .slice da dl dc] 32 (0, 0))) := gx
      have HD5 : Hid (Src w5 da D) := HD0.out.moved' (fun h0 ad e => H5.out.below.block _ (HDa.out ad e (by have := HDl.out; omega)))
      have hBr : w4.heap.size ≤ wr.heap.size := H.out.Bw
      have m10 := two10 HOp.out
      have m4 := m10 4
      clear d0 d1 d2 d3 d4 kx gx HD0 H
      refine HKA.out _ _ ?_
      clear HKA KA
      refine wp_seq_k (fun KB hKB => ?_)
      have HKB : Hid _ := hKB
      clear hKB
      by_cases hd1 : dl ≤ 1000
      · have hd1' : ¬ (1000 : Int) < (dl : Int) := by omega
        go_wp2_with fail
        refine HKB.out _ _ ?_
        clear HKB KB m10 m4
        refine step13 w w5 p S F w4.heap.size n j k cv cs wr.heap.size av aw xs ss fr o0 o1 o2 o3 da dl dc D _ _ _ _ _ _ _ _ _ _ _ _ _ _ _ _ _ _ _ _ _ _ _ _ _ _ _ _ _ _ _ _ _ _ _ _ _ _ _ _ _ _ _ _ _ _ _ _ _ _ _ _ _ _ _ _ _ _ _ _ _ _ _ _ _ _ _ _ _ _ _ _ _ _ _ _ _ _ _ _ _ _ _ _ _ _ _ _ _ _ _ _ _ _ _ _ _ _ _ _ _ _ _ _ _ _ _ _ _ _ _ _ _ _ _ _ _ _ _ _ _ _ _ _ _ _ _ _ _ _ _ _ _ _ _ _ _ _ _ _ _ _ _ _ _ _ _ _ _ _ _ _ _ _ _ _ _ _ _ _ _ _ _ _ _ _ _ _ _ _ _ _ _ _ _ _ _ _ _ _ _ _ _ _ _ _ _ _ _ _ _ _ _ _ _ _ _ _ _ _ _ _ _ _ _ _ _ _ _ _ _ _ _ _ _ _ _ _ _ _ _ _ _ _ _ _ _ _ _ _ _ _ _ _ _ _ _ _ _ _ _ _ _ _ _ _ _ _ _ _ _ _ _ _ _ _ _ _ _ _ _ _ _ _ _ _ _ _ _ _ _ _ _ _ _ _ _ _ _ _ _ _ _ _ _ _ _ _ _ _ _ _ _ _ _ _ _ _ _ _ _ _ _ _ _ _ _ _ _ _ _ _ _ _ _ _ _ _ _ _ _ _ _ _ _ _ _ _ _ _ _ _ _ _ _ _ _ _ _ _ _ _ _ _ _ _ _ _ _ _ _ _ (fun _ _ _ _ _ h => h) H5 (by omega) (by omega) HD5 HDl hd1 hdc hdm HDa hBr HOp z1 z2 z3 ?_ ?_
        · intro x7 x8 x11 x12 x13 x14 x15 x16 x17 x18 x19 x20 x55 x56 x57 x58 x59 x60 x61 x62 x63 x64 x65 x66 x67 x68 x69 x70 x71 x72 x73 x74 x75 x76 x77 x78 x79 x80 x81 x82 x83 x84 x85 x86 x87 x88 x89 x90 x91 x92 x93 x94 x95 x96 x97 x98 x99 x100 x101 x102 x103 x104 x105 x106 x107 x108 x109 x110 x111 x112 x113 x114 x115 x116 x117 x118 x119 x120 x121 x122 x123 x124 x125 x126 x127 x128 x129 x130 x131 x132 x133 x134 x135 x136 x137 x138 x139 x140 x141 x142 x143 x144 x145 x146 x147 x148 x149 x150 x151 x152 x153 x154 x155 x156 x157 x158 x159 x160 x161 x162 x163 x164 x165 x166 x167 x168 x169 x170 x171 x172 x173 x174 x175 x176 x177 x178 x179 x180 x181 x182 x183 x184 x185 x186 x187 x188 x189 x190 x191 x192 x193 x194 x195 x196 x197 x198 x199 x200 x201 x202 x203 x204 x205 x206 x207 x208 x209 x210 x211 x212 x213 x214 x215 x216 x217 x218 x219 x220 x221 x222 x223 x224 x225 x226 x227 x228 x229 x230 x231 x232 x233 x234 x235 x236 x237 x238 x239 x240 x241 x242 x243 x244 x245 x246 x247 x248 x249 x250 x251 x252 x253 x254 x255 x256 x257 x258 x259 x260 x261 x262 x263 x264 x265 x266 x267 x268 x269 x270 x271 x272 x273 x274 x275 x276 x277 x278 x279 x280 x281 x282 x283 x284 x285 x286 x287 x288 x289 x290 W k' av' aw' cv' cs' xs' ss' fr' e7 e8 hk' hE
          subst e7 e8
          go_wp2_with fail
          go_roundw
          case rel => exact ⟨j + 1, k', av', aw', cv', cs', xs', ss', fr', by omega, by simp, rfl, rfl, by omega, hE⟩
          case measure => simp [intOf]; omega
        · intro x7 x8 x11 x12 x13 x14 x15 x16 x17 x18 x19 x20 x55 x56 x57 x58 x59 x60 x61 x62 x63 x64 x65 x66 x67 x68 x69 x70 x71 x72 x73 x74 x75 x76 x77 x78 x79 x80 x81 x82 x83 x84 x85 x86 x87 x88 x89 x90 x91 x92 x93 x94 x95 x96 x97 x98 x99 x100 x101 x102 x103 x104 x105 x106 x107 x108 x109 x110 x111 x112 x113 x114 x115 x116 x117 x118 x119 x120 x121 x122 x123 x124 x125 x126 x127 x128 x129 x130 x131 x132 x133 x134 x135 x136 x137 x138 x139 x140 x141 x142 x143 x144 x145 x146 x147 x148 x149 x150 x151 x152 x153 x154 x155 x156 x157 x158 x159 x160 x161 x162 x163 x164 x165 x166 x167 x168 x169 x170 x171 x172 x173 x174 x175 x176 x177 x178 x179 x180 x181 x182 x183 x184 x185 x186 x187 x188 x189 x190 x191 x192 x193 x194 x195 x196 x197 x198 x199 x200 x201 x202 x203 x204 x205 x206 x207 x208 x209 x210 x211 x212 x213 x214 x215 x216 x217 x218 x219 x220 x221 x222 x223 x224 x225 x226 x227 x228 x229 x230 x231 x232 x233 x234 x235 x236 x237 x238 x239 x240 x241 x242 x243 x244 x245 x246 x247 x248 x249 x250 x251 x252 x253 x254 x255 x256 x257 x258 x259 x260 x261 x262 x263 x264 x265 x266 x267 x268 x269 x270 x271 x272 x273 x274 x275 x276 x277 x278 x279 x280 x281 x282 x283 x284 x285 x286 x287 x288 x289 x290 W k' av' aw' cv' cs' xs' ss' fr' e7 e8 hk' hE
          subst e7 e8
          go_wp2_with fail
          go_roundw
          case rel => exact ⟨j + 1, k', av', aw', cv', cs', xs', ss', fr', by omega, by simp, rfl, rfl, by omega, hE⟩
          case measure => simp [intOf]; omega
      · have hd1' : (1000 : Int) < (dl : Int) := by omega
        go_wp2_with fail
        exact HPP.out _ H5.out.below
    · go_wp2_with fail
      refine HK.out _ _ ?_
      exact tail40 w PP wr p S F w4.heap.size n j k cv cs av aw xs ss fr _ _ _ _ _ _ _ _ _ _ _ _ _ _ _ _ _ _ _ _ _ _ _ _ _ _ _ _ _ _ _ _ _ _ _ _ _ _ _ _ _ _ _ _ _ _ _ _ _ _ _ _ _ _ _ _ _ _ _ _ _ _ _ _ _ _ _ _ _ _ _ _ _ _ _ _ _ _ _ _ _ _ _ _ _ _ _ _ _ _ _ _ _ _ _ _ _ _ _ _ _ _ _ _ _ _ _ _ _ _ _ _ _ _ _ _ _ _ _ _ _ _ _ _ _ _ _ _ _ _ _ _ _ _ _ _ _ _ _ _ _ _ _ _ _ _ _ _ _ _ _ _ _ _ _ _ _ _ _ _ _ _ _ _ _ _ _ _ _ _ _ _ _ _ _ _ _ _ _ _ _ _ _ _ _ _ _ _ _ _ _ _ _ _ _ _ _ _ _ _ _ _ _ _ _ _ _ _ _ _ _ _ _ _ _ _ _ _ _ _ _ _ _ _ _ _ _ _ _ _ _ _ _ _ _ _ _ _ _ _ _ _ _ _ _ _ _ _ _ _ _ _ _ _ _ _ _ _ _ _ _ _ _ _ _ _ _ _ _ _ _ _ _ _ _ _ _ _ _ _ _ _ _ _ _ _ _ _ _ _ _ _ _ _ _ _ _ _ _ _ _ _ _ _ _ _ _ _ _ _ _ _ _ _ _ _ _ _ _ _ _ _ _ _ _ _ _ _ _ _ _ _ _ _ _ _ _ _ _ _ _ _ _ _ _ _ _ _ _ _ _ _ HPP H (by omega)

end Go.Proofs.Ytpjfhfbjdcgbjab
