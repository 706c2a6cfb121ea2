/-
  The walk of WholeAsked.
-/
import Derived.Test.YtojbfdlgjjghjaaGreatDoorKKo
import Derived.Test.YtojbfdlgjjghjaaGreatDoorFCode
import Derived.Test.YtojbfdlgjjghjaaGreatDoorFIs
import Derived.Test.YtojbfdlgjjghjaaGreatDoorFDepth
import Derived.Test.YtojbfdlgjjghjaaGreatDoorFnb
import Derived.Deep.DeepCutAuto
namespace Go.Proofs.YtojbfdlgjjghjaaGreatDoor.K
open Go.RowKit
open Go.Lib hiding intOf
set_option linter.unusedVariables false
set_option linter.unusedSimpArgs false

theorem DatAt.nil {w : World} {d : Value} (h : DatAt w d []) : ∃ ad, d = .slice ad 0 0 := by
  rcases h with ⟨_, rfl⟩ | ⟨B, rfl, _⟩
  · exact ⟨_, rfl⟩
  · exact ⟨_, rfl⟩
/-- the line that asks for a path -/
def stL (n : Nat) (p : ByteArray) : ByteArray := encP 6 ⟨6, n, 0, 0, p⟩ []
theorem stL_size (n : Nat) (hn : n ≤ 1048576) (p : ByteArray) (hp : p.size ≤ 5000) : (stL n p).size ≤ 16384 := by
  have hnl := num_len (n : Int) (by omega) (by omega)
  have hwl := wd_size 6 (by omega)
  have e : sps.size = 1 := rfl
  have hf : flds 6 = [1] := rfl
  have h0 : (encN (flds 6) ⟨6, n, 0, 0, p⟩ (wd 6)).size ≤ 200 := by
    rw [hf]
    show (wd 6 ++ (sps ++ num (Ak.get ⟨6, n, 0, 0, p⟩ 1))).size ≤ 200
    have : Ak.get ⟨6, n, 0, 0, p⟩ 1 = (n : Int) := rfl
    rw [this, ByteArray.size_append, ByteArray.size_append, e]
    omega
  unfold stL encP
  split
  · exact Nat.le_trans h0 (by omega)
  · have hr : restP 6 p [] = p := if_pos (by omega)
    rw [ByteArray.size_append, ByteArray.size_append, e]
    show _ + 1 + (restP 6 p []).size ≤ _
    rw [hr]
    have := h0
    show (encN (flds 6) ⟨6, n, 0, 0, p⟩ (wd 6)).size + 1 + p.size ≤ 16384
    omega
theorem stL_dec (n : Nat) (hn : n ≤ 1048576) (p : ByteArray) (hp : p.size ≤ 5000) : decP (stL n p) = .inr (⟨6, n, 0, 0, p⟩, []) :=
  dec_enc 6 (by omega) ⟨6, n, 0, 0, p⟩ [] (fun f hf => by
    have hf' : f ∈ [1] := hf
    have : f = 1 := by simpa using hf'
    subst this
    show 0 ≤ (n : Int) ∧ (n : Int) ≤ 1048576
    omega) rfl (.inl (by omega)) (.inr rfl) (stL_size n hn p hp)
theorem st_dec (n : Nat) (hn : n ≤ 1048576) (p : ByteArray) (hp : p.size ≤ 5000) (w : World) (ht : Vs w) :
    Calls Tryz.prog 4 #[.string (stL n p)] w fun e w' => ∃ d, e = .returned (.tuple #[.agg #[.int .i64 6, .int .i64 n, .int .i64 0, .int .i64 0, .string p, d], .int .i64 0]) ∧ DatAt w' d [] ∧ Below w.heap.size w w' := by
  have := decode_w (stL n p) (by have := stL_size n hn p hp; omega) w ht
  rw [stL_dec n hn p hp] at this
  refine this.mono ?_
  rintro e w' ⟨⟨d, rfl, hd⟩, b2⟩
  exact ⟨d, by simp [Ak.cells], hd, b2⟩
theorem st_enc (n : Nat) (hn : n ≤ 1048576) (p : ByteArray) (hp : p.size ≤ 5000) (ad : Option Addr) (w : World) (ht : Vs w) :
    Calls Tryz.prog 7 #[.agg #[.int .i64 6, .int .i64 n, .int .i64 0, .int .i64 0, .string p, .slice ad 0 0]] w fun e w' => e = .returned (.string (stL n p)) ∧ Below w.heap.size w w' :=
  encode_w ⟨6, n, 0, 0, p⟩ (.slice ad 0 0) [] 6 (by omega) (by omega) rfl (fun f hf => by rcases hf with rfl | rfl | rfl <;> simp [Ak.get] <;> omega) (by show p.size ≤ _; omega) (by simp) w (.inl ⟨rfl, ad, 0, rfl⟩) ht
theorem one_dec : decP ⟨#[115, 116, 97, 116, 32, 49, 32, 97, 47, 98]⟩ = .inr (⟨6, 1, 0, 0, ⟨#[97, 47, 98]⟩⟩, []) := by kernel_rfl
theorem first_dec (w : World) (ht : Vs w) :
    Calls Tryz.prog 4 #[.string ⟨#[115, 116, 97, 116, 32, 49, 32, 97, 47, 98]⟩] w fun e w' => ∃ d, e = .returned (.tuple #[.agg #[.int .i64 6, .int .i64 1, .int .i64 0, .int .i64 0, .string ⟨#[97, 47, 98]⟩, d], .int .i64 0]) ∧ DatAt w' d [] ∧ Below w.heap.size w w' := by
  have := decode_w ⟨#[115, 116, 97, 116, 32, 49, 32, 97, 47, 98]⟩ (by show (10 : Nat) ≤ _; omega) w ht
  rw [one_dec] at this
  refine this.mono ?_
  rintro e w' ⟨⟨d, rfl, hd⟩, b2⟩
  exact ⟨d, by simp [Ak.cells], hd, b2⟩

set_option maxRecDepth 20000 in
set_option maxHeartbeats 4000000 in
theorem asked_in (n : Nat) (hn : n ≤ 1048576) (l : List UInt8) (hl : l.length ≤ 5000) (D : Nat) (hD : D ≤ 20) (w : World) (ht : Vs w) (hL : F.Laid w) (hm : Ml w) :
    Calls Tryz.prog 3 #[.string (bs l), .int .i64 (n : Int), .int .i64 (D : Int)] w fun e w' => e = .returned (.bool true) ∧ Below w.heap.size w w' := by
  have hsz : (bs l).size ≤ 5000 := by rw [bs_size]; exact hl
  have HD0 := first_dec w ht
  have HC : Hid (∀ W, Below w.heap.size w W → Calls Tryz.prog 5 #[F.chain 200 [1]] W fun ev w' => ev = .returned (.int .i64 200) ∧ Below W.heap.size W w') := fun W b => F.code_any (some [1]) 200 W (hL.below b)
  have HE : Hid (∀ W ad, Below w.heap.size w W → Calls Tryz.prog 7 #[.agg #[.int .i64 6, .int .i64 n, .int .i64 0, .int .i64 0, .string (bs l), .slice ad 0 0]] W fun e w' => e = .returned (.string (stL n (bs l))) ∧ Below W.heap.size W w') := fun W ad b => st_enc n hn (bs l) hsz ad W (ht.below b)
  have HDc : Hid (∀ W, Below w.heap.size w W → Calls Tryz.prog 4 #[.string (stL n (bs l))] W fun e w' => ∃ d, e = .returned (.tuple #[.agg #[.int .i64 6, .int .i64 n, .int .i64 0, .int .i64 0, .string (bs l), d], .int .i64 0]) ∧ DatAt w' d [] ∧ Below W.heap.size W w') := fun W b => st_dec n hn (bs l) hsz W (ht.below b)
  have hz := zeroA
  have n0 : ¬ (n : Int) < 0 := by omega
  have n1 : ¬ 1048576 < (n : Int) := by omega
  have d0 : ¬ (D : Int) < 0 := by omega
  have d1 : ¬ 20 < (D : Int) := by omega
  have p0 : ¬ 5000 < ((bs l).size : Int) := by omega
  have si := sizeA Ak.zero (.slice none 0 0)
  have HV : Hid (Vs w) := ht
  have HM : Hid (Ml w) := hm
  have HLF : Hid (F.Laid w) := hL
  have HN : Hid (n ≤ 1048576) := hn
  have HLn : Hid (l.length ≤ 5000) := hl
  simp only [Ak.cells, Ak.zero] at hz si
  clear ht hm hL hsz
  go_enter Tryz.func3, Tryz.ntmps3
  go_upto_region 2 with (go_at_call 4; refine HD0.mono ?_; rintro e w1 ⟨d, rfl, hd, b1⟩; obtain ⟨ad, rfl⟩ := hd.nil)
  have b2 := b1.alloc b1.size (.cells #[.int .i64 6, .int .i64 1, .int .i64 0, .int .i64 0, .string ⟨#[97, 47, 98]⟩, .slice ad 0 0] 24)
  have x1 : Box (w1.alloc (.cells #[.int .i64 6, .int .i64 1, .int .i64 0, .int .i64 0, .string ⟨#[97, 47, 98]⟩, .slice ad 0 0] 24)) w1.heap.size #[.int .i64 6, .int .i64 1, .int .i64 0, .int .i64 0, .string ⟨#[97, 47, 98]⟩, .slice ad 0 0] := heap_alloc_new w1 _
  clear HD0 hd b1
  generalize w1.heap.size = g1 at *
  generalize World.alloc _ _ = W2 at *
  have y4 := x1.cell 4
  have hg1 := x1.lt
  simp at y4
  have HB2 : Hid _ := b2
  clear x1 b2
  go_upto_region 4 with (first
    | (go_at_call 6; refine (F.new_any 200 1 _ (by decide)).mono ?_; rintro e w3 ⟨rfl, rfl⟩)
    | (go_at_call 5; refine (HC.out _ HB2.out).mono ?_; rintro e w4 ⟨rfl, b4⟩))
  have b5 := HB2.out.trans (b4.mono HB2.out.size)
  have HB5 : Hid _ := b5
  clear HC HB2 b4 b5 y4 hg1
  go_upto_region 7 with (go_at_call 7; refine (HE.out _ none HB5.out).mono ?_; rintro e w6 ⟨rfl, b6⟩)
  have b7 := HB5.out.trans (b6.mono HB5.out.size)
  have HB7 : Hid _ := b7
  clear HB5 b6 b7
  go_upto_region 8 with (go_at_call 4; refine (HDc.out _ HB7.out).mono ?_; rintro e w8 ⟨d, rfl, hd, b8⟩; obtain ⟨a2, rfl⟩ := hd.nil)
  have b9 := HB7.out.trans (b8.mono HB7.out.size)
  have b10 := b9.alloc b9.size (.cells #[.int .i64 6, .int .i64 n, .int .i64 0, .int .i64 0, .string (bs l), .slice a2 0 0] 24)
  have x1 : Box (w8.alloc (.cells #[.int .i64 6, .int .i64 n, .int .i64 0, .int .i64 0, .string (bs l), .slice a2 0 0] 24)) w8.heap.size #[.int .i64 6, .int .i64 n, .int .i64 0, .int .i64 0, .string (bs l), .slice a2 0 0] := heap_alloc_new w8 _
  clear HB7 hd b8 b9
  generalize w8.heap.size = g2 at *
  generalize World.alloc _ _ = W9 at *
  have y4 := x1.cell
  have hg2 := x1.lt
  have HB9 : Hid _ := b10
  have HX9 : Hid (Box W9 g2 #[.int .i64 6, .int .i64 n, .int .i64 0, .int .i64 0, .string (bs l), .slice a2 0 0]) := x1
  clear x1 b10
  have HLE : Hid (stL n (bs l) = stL n (bs l)) := rfl
  go_upto_region 10 with (first
    | (go_at_call 7; refine (HE.out _ a2 HB9.out).mono ?_; rintro e w11 ⟨rfl, b11⟩))
  have b12 := HB9.out.trans (b11.mono HB9.out.size)
  have HB12 : Hid _ := b12
  have x12 := HX9.out.below b11 hg2
  have y4 := x12.cell 4
  have hg12 := x12.lt
  simp at y4
  have q10 := clean_w l (by have := HLn.out; omega) w11 (HM.out.below b12)
  have q10' : Calls Tryz.prog 8 #[.string (bs l)] w11 fun e w' => ∃ ad c, e = .returned (.tuple #[.slice ad (cln l).length c, .int .i64 (err l)]) ∧ (cln l).length ≤ c ∧ c ≤ 9223372036854775807 ∧ Sl w' ad (cln l) ∧ Below w11.heap.size w11 w' := q10.mono fun e w' ⟨v, h1, h2, h3⟩ => by
    obtain ⟨ad, c, rfl, e2, e3, e4⟩ := own_sl h2
    exact ⟨ad, c, h1, e2, e3, e4, h3⟩
  clear q10 HX9 HLE b11 b12 x12 hg2
  by_cases hE : err l = 0
  · rw [hE] at q10'
    go_upto_region 11 with (go_at_call 8; refine q10'.mono ?_; rintro e w13 ⟨a3, c3, rfl, hc3, hm3, hsl, b13⟩)
    have HB13 : Hid _ := HB12.out.trans (b13.mono HB12.out.size)
    have HSL : Hid (Sl w13 a3 (cln l)) := hsl
    clear q10' b13 hsl y4 hg12 HB12
    have HJL : Hid ((jn (cln l)).length ≤ 5000) := by
      show _ ≤ _
      unfold cln
      rw [if_pos hE]
      exact Nat.le_trans (jn_parts_length l) HLn.out
    have HCL : Hid ((cln l).length ≤ 140737488355328) := by
      show _ ≤ _
      unfold cln
      rw [if_pos hE]
      exact Nat.le_trans (List.length_filter_le _ _) (Nat.le_trans (spl_len_le l) (by have := HLn.out; omega))
    generalize cln l = ps at *
    go_wp2_with (go_at_call 6; refine (F.new_ok _ _).mono ?_; rintro e w14 ⟨rfl, rfl⟩)
    go_loopw [14, 92] (fun v i W => ∃ k : Nat, k ≤ D ∧ i = .int .i64 k ∧ v = .nilIface ∧ W = w13) (fun _ i _ => D - (intOf i).toNat)
    case atStart => exact ⟨0, Nat.zero_le _, rfl, rfl, rfl⟩
    case round =>
      obtain ⟨k, hk, rfl, rfl, rfl⟩ := hrel
      by_cases e : k < D
      · go_wp2_with (go_at_call 9; refine (F.wrap_nil _ _).mono ?_; rintro e w14 ⟨rfl, rfl⟩)
        go_roundw
        case rel => exact ⟨k + 1, by omega, by simp, rfl, trivial⟩
        case measure => simp [intOf]; omega
      · have qj : ∀ W, Below wr.heap.size wr W → Calls Tryz.prog 12 #[.slice a3 ps.length c3] W fun e w' => e = .returned (.string (bs (jn ps))) ∧ Below W.heap.size W w' := fun W b => join_w a3 c3 ps W (HSL.out.below b) hc3 HCL.out (by have := HJL.out; omega)
        have HQJ : Hid _ := qj
        have hsz2 : (bs (jn ps)).size ≤ 5000 := by rw [bs_size]; exact HJL.out
        have HE2 : Hid (∀ W ad, Below w.heap.size w W → Calls Tryz.prog 7 #[.agg #[.int .i64 6, .int .i64 n, .int .i64 0, .int .i64 0, .string (bs (jn ps)), .slice ad 0 0]] W fun e w' => e = .returned (.string (stL n (bs (jn ps)))) ∧ Below W.heap.size W w') := fun W ad b => st_enc n HN.out (bs (jn ps)) hsz2 ad W (HV.out.below b)
        have HD2 : Hid (∀ W, Below w.heap.size w W → Calls Tryz.prog 4 #[.string (stL n (bs (jn ps)))] W fun e w' => ∃ d, e = .returned (.tuple #[.agg #[.int .i64 6, .int .i64 n, .int .i64 0, .int .i64 0, .string (bs (jn ps)), d], .int .i64 0]) ∧ DatAt w' d [] ∧ Below W.heap.size W w') := fun W b => st_dec n HN.out (bs (jn ps)) hsz2 W (HV.out.below b)
        clear qj hsz2 HE HDc
        go_upto_region 20 with (first
          | (go_at_call 12; refine (HQJ.out _ (Below.refl _ _)).mono ?_; rintro e w15 ⟨rfl, b15⟩)
          | (go_at_call 7; refine (HE2.out _ none (HB13.out.trans (b15.mono HB13.out.size))).mono ?_; rintro e w16 ⟨rfl, b16⟩)
          | (go_at_call 4; refine (HD2.out _ ((HB13.out.trans (b15.mono HB13.out.size)).trans (b16.mono (HB13.out.trans (b15.mono HB13.out.size)).size))).mono ?_; rintro e w17 ⟨d, rfl, hd, b17⟩; obtain ⟨a4, rfl⟩ := hd.nil))
        have c15 := HB13.out.trans (b15.mono HB13.out.size)
        have c16 := c15.trans (b16.mono c15.size)
        have c17 := c16.trans (b17.mono c16.size)
        have d17 := b15.trans ((b16.mono b15.size).trans (b17.mono (b15.trans (b16.mono b15.size)).size))
        have c18 := c17.alloc c17.size (.cells #[.int .i64 6, .int .i64 n, .int .i64 0, .int .i64 0, .string (bs (jn ps)), .slice a4 0 0] 24)
        have d18 := d17.alloc d17.size (.cells #[.int .i64 6, .int .i64 n, .int .i64 0, .int .i64 0, .string (bs (jn ps)), .slice a4 0 0] 24)
        have x18 : Box (w17.alloc (.cells #[.int .i64 6, .int .i64 n, .int .i64 0, .int .i64 0, .string (bs (jn ps)), .slice a4 0 0] 24)) w17.heap.size #[.int .i64 6, .int .i64 n, .int .i64 0, .int .i64 0, .string (bs (jn ps)), .slice a4 0 0] := heap_alloc_new w17 _
        clear b15 b16 b17 c15 c16 c17 d17 hd HE2 HD2
        generalize w17.heap.size = g18 at *
        generalize World.alloc _ _ = W18 at *
        have y18 := x18.cell 4
        have hg18 := x18.lt
        simp at y18
        have hS0 : (fun W => (W.cell? ⟨g18, 4, none⟩ = some (.string (bs (jn ps))) ∧ Below w.heap.size w W ∧ Below W18.heap.size W18 W)) W18 := ⟨y18, c18, Below.refl _ _⟩
        have hS1 : (fun W => (W.cell? ⟨g18, 4, none⟩ = some (.string (bs (jn ps))) ∧ Below w.heap.size w W ∧ Below W18.heap.size W18 W)) W18.drew := ⟨y18, c18.drew, (Below.refl _ _).drew⟩
        have HS2 : Hid (∀ W W' : World, (W.cell? ⟨g18, 4, none⟩ = some (.string (bs (jn ps))) ∧ Below w.heap.size w W ∧ Below W18.heap.size W18 W) → Below W.heap.size W W' → (fun W => (W.cell? ⟨g18, 4, none⟩ = some (.string (bs (jn ps))) ∧ Below w.heap.size w W ∧ Below W18.heap.size W18 W)) W') := fun W W' h b => ⟨(b.cell (p := ⟨g18, 4, none⟩) (by have := h.2.2.size; show g18 < _; omega)).trans h.1, h.2.1.trans (b.mono h.2.1.size), h.2.2.trans (b.mono h.2.2.size)⟩
        have HJ2 : Hid (∀ W, (W.cell? ⟨g18, 4, none⟩ = some (.string (bs (jn ps))) ∧ Below w.heap.size w W ∧ Below W18.heap.size W18 W) → Calls Tryz.prog 12 #[.slice a3 ps.length c3] W fun e w' => e = .returned (.string (bs (jn ps))) ∧ Below W.heap.size W w') := fun W h => HQJ.out W (d18.trans (h.2.2.mono d18.size))
        clear x18 c18 d18 HQJ
        simp only at hS0 hS1 HS2
        go_region_held3 (fun W => (W.cell? ⟨g18, 4, none⟩ = some (.string (bs (jn ps))) ∧ Below w.heap.size w W ∧ Below W18.heap.size W18 W)) (first | assumption | exact hS0 | exact hS1 | go_keep) ((go_at_call 12; refine (HJ2.out _ (by assumption)).mono ?_; rintro e w20 ⟨rfl, b20⟩; have hS2 := HS2.out _ _ (by assumption) b20))
        all_goals
          go_wp2
          go_ret
          exact ⟨by first | rfl | simp, And.left (And.right (by assumption))⟩
  · have hz : (err l == 0) = false := by simpa using hE
    have hcl := cln_bad l hE
    rw [hcl] at q10'
    generalize err l = ev at *
    go_upto_region 11 with (go_at_call 8; refine q10'.mono ?_; rintro e w13 ⟨a3, c3, rfl, hc3, hm3, hsl, b13⟩)
    have HB13 : Hid _ := HB12.out.trans (b13.mono HB12.out.size)
    clear q10' b13 hsl y4 hg12 HB12
    go_wp2_with (go_at_call 6; refine (F.new_any _ _ _ hz).mono ?_; rintro e w14 ⟨rfl, rfl⟩)
    go_loopw [14, 92] (fun v i W => ∃ (k : Nat) (L : List Int), k ≤ D ∧ i = .int .i64 k ∧ v = F.chain ev L ∧ Hid (L.length = k + 1) ∧ W = w13) (fun _ i _ => D - (intOf i).toNat)
    case atStart => exact ⟨0, [(n : Int)], Nat.zero_le _, rfl, rfl, rfl, rfl⟩
    case round =>
      obtain ⟨k, L, hk, rfl, rfl, hLen, rfl⟩ := hrel
      by_cases e : k < D
      · go_wp2_with (go_at_call 9; refine (F.wrap_any L ev _ _).mono ?_; rintro e w14 ⟨rfl, rfl⟩)
        go_roundw
        case rel => exact ⟨k + 1, (k : Int) :: L, by omega, by simp, rfl, (by show (_ :: L).length = _; have := hLen.out; simp; omega), trivial⟩
        case measure => simp [intOf]; omega
      · obtain rfl : k = D := by omega
        have qi := F.is_any (some L) ev ev
        have qd := fun W => F.depth_any (some L) ev W (by show L.length ≤ 1000; have := hLen.out; omega)
        have ei : F.isIn ev ev (some L) = true := by simp [F.isIn, hz]
        have ed : ((F.left (some L) : Nat) : Int) = (k : Int) + 1 := by show (L.length : Int) = _; have := hLen.out; omega
        simp only [ei] at qi
        simp only [ed] at qd
        replace ed := hid ed
        change ∀ W, Calls Tryz.prog 10 #[F.chain ev L, .int .i64 ev] W _ at qi
        change ∀ W, Calls Tryz.prog 11 #[F.chain ev L] W _ at qd
        generalize F.chain ev L = cv at *
        have hw1 : wrap64 ((k : Int) + 1) = (k : Int) + 1 := by unfold wrap64; omega
        have hez : ¬ ev = 0 := hE
        go_wp2_with (first
          | (go_at_call 10; refine (qi _).mono ?_; rintro e w14 ⟨rfl, b14⟩)
          | (go_at_call 11; refine (qd _).mono ?_; rintro e w15 ⟨rfl, b15⟩))
        have c14 := HB13.out.trans (b14.mono HB13.out.size)
        have c15 := c14.trans (b15.mono c14.size)
        go_ret
        exact ⟨rfl, c15⟩

set_option maxRecDepth 20000 in
set_option maxHeartbeats 4000000 in
/-- WholeAsked -/
theorem asked_walk (n D : Int) (p : ByteArray) (w : World) (ht : Vs w) (hL : F.Laid w) (hm : Ml w) (hp : p.size ≤ 9223372036854775807) :
    Calls Tryz.prog 3 #[.string p, .int .i64 n, .int .i64 D] w fun e w' => e = .returned (.bool true) ∧ Below w.heap.size w w' := by
  by_cases hg : 0 ≤ n ∧ n ≤ 1048576 ∧ p.size ≤ 5000 ∧ 0 ≤ D ∧ D ≤ 20
  · obtain ⟨m, rfl⟩ : ∃ m : Nat, n = m := ⟨n.toNat, by omega⟩
    obtain ⟨d, rfl⟩ : ∃ d : Nat, D = d := ⟨D.toNat, by omega⟩
    rw [bs_of p]
    exact asked_in m (by omega) p.data.toList (by have : p.data.toList.length = p.size := rfl; omega) d (by omega) w ht hL hm
  · have HD0 := first_dec w ht
    have HC : Hid (∀ W, Below w.heap.size w W → Calls Tryz.prog 5 #[F.chain 200 [1]] W fun ev w' => ev = .returned (.int .i64 200) ∧ Below W.heap.size W w') := fun W b => F.code_any (some [1]) 200 W (hL.below b)
    have HG : (5000 : Int) < p.size ∨ (¬ (5000 : Int) < p.size ∧ n < 0) ∨ (¬ (5000 : Int) < p.size ∧ ¬ n < 0 ∧ 1048576 < n) ∨ (¬ (5000 : Int) < p.size ∧ ¬ n < 0 ∧ ¬ 1048576 < n ∧ D < 0) ∨ (¬ (5000 : Int) < p.size ∧ ¬ n < 0 ∧ ¬ 1048576 < n ∧ ¬ D < 0 ∧ 20 < D) := by omega
    clear hg ht hL hm
    rcases HG with h1 | ⟨h1, h2⟩ | ⟨h1, h2, h3⟩ | ⟨h1, h2, h3, h4⟩ | ⟨h1, h2, h3, h4, h5⟩
    all_goals
      go_enter Tryz.func3, Tryz.ntmps3
      go_upto_region 2 with (go_at_call 4; refine HD0.mono ?_; rintro e w1 ⟨d, rfl, hd, b1⟩; obtain ⟨ad, rfl⟩ := hd.nil)
      have b2 := b1.alloc b1.size (.cells #[.int .i64 6, .int .i64 1, .int .i64 0, .int .i64 0, .string ⟨#[97, 47, 98]⟩, .slice ad 0 0] 24)
      have x1 : Box (w1.alloc (.cells #[.int .i64 6, .int .i64 1, .int .i64 0, .int .i64 0, .string ⟨#[97, 47, 98]⟩, .slice ad 0 0] 24)) w1.heap.size #[.int .i64 6, .int .i64 1, .int .i64 0, .int .i64 0, .string ⟨#[97, 47, 98]⟩, .slice ad 0 0] := heap_alloc_new w1 _
      clear HD0 hd b1
      generalize w1.heap.size = g1 at *
      generalize World.alloc _ _ = W2 at *
      have y4 := x1.cell 4
      have hg1 := x1.lt
      simp at y4
      have HB2 : Hid _ := b2
      clear x1 b2
      go_upto_region 4 with (first
        | (go_at_call 6; refine (F.new_any 200 1 _ (by decide)).mono ?_; rintro e w3 ⟨rfl, rfl⟩)
        | (go_at_call 5; refine (HC.out _ HB2.out).mono ?_; rintro e w4 ⟨rfl, b4⟩))
      have b5 := HB2.out.trans (b4.mono HB2.out.size)
      clear HC HB2 b4 y4 hg1
      go_wp2_with fail
      go_ret
      exact ⟨rfl, b5⟩
end Go.Proofs.YtojbfdlgjjghjaaGreatDoor.K
