/-
  The laws' walks: AskNumbers, AskLong.
-/
import Derived.Test.YtojbfdlgjjghjaaDoorKKl
namespace Go.Proofs.YtojbfdlgjjghjaaDoor.K
open Go.RowKit
open Go.Lib hiding intOf
set_option linter.unusedVariables false
set_option linter.unusedSimpArgs false

/-- so many noughts -/
def zr (j : Nat) : ByteArray := ⟨(List.replicate j 48).toArray⟩
theorem zr_nb (j : Nat) (n : Nat) : NB (zr j ++ num n) := by
  unfold NB
  rw [ByteArray.data_append]
  simp only [Array.toList_append, List.mem_append, not_or]
  refine ⟨?_, num_nb n⟩
  show (32 : UInt8) ∉ List.replicate j 48
  intro h
  exact absurd (List.mem_replicate.1 h).2 (by decide)
theorem numP_zr (j : Nat) (hj : 0 < j) (n : Nat) : numP (zr j ++ num n) = .inl 200 := by
  have : nval (zr j ++ num n) = none := by
    rw [nval_nl]
    obtain ⟨i, rfl⟩ : ∃ i, j = i + 1 := ⟨j - 1, by omega⟩
    have e : (zr (i + 1) ++ num n).data.toList = 48 :: (List.replicate i 48 ++ Lib.decDigits n) := by
      unfold zr num
      rw [itoa_nat]
      simp [ByteArray.data_append, List.replicate_succ]
    rw [e]
    have hne : List.replicate i 48 ++ Lib.decDigits n ≠ [] := by
      intro h
      exact dec_ne n (List.append_eq_nil_iff.1 h).2
    obtain ⟨c, r, hcr⟩ := List.exists_cons_of_ne_nil hne
    rw [hcr]
    exact nl_zero c r
  unfold numP
  rw [this]

theorem dec_tick (z : ByteArray) (h : NB z) (hs : (wd 11 ++ (sps ++ z)).size ≤ 16384) :
    decP (wd 11 ++ (sps ++ z)) = match numP z with | .inl e => .inl e | .inr v => .inr (⟨11, 0, 0, v, ⟨#[]⟩⟩, []) := by
  have hw := dec_word 11 (by omega) z hs
  rw [hw]
  obtain ⟨c1, c2⟩ := cut_no h
  have hf : flds ((11 : Nat) : Int) = [3] := by decide
  rw [hf, goP, c1, c2]
  cases numP z with
  | inl e => rfl
  | inr v =>
    simp only [goP, endP, lastP, if_neg (show ¬ (11 = 5 ∨ 11 = 6 ∨ 11 = 7 ∨ 11 = 8) by omega), if_neg (show ¬ 11 = 2 by omega), if_true]
    rfl

theorem app3 (a b c d : ByteArray) : (a ++ b) ++ (c ++ d) = a ++ (b ++ (c ++ d)) := by simp [ByteArray.append_assoc]
theorem tick_lit : wd 11 ++ sps = ⟨#[116, 105, 99, 107, 32]⟩ := by decide

theorem ext_zr (j : Nat) (hj : j ≤ 3) : (⟨#[48, 48, 48]⟩ : ByteArray).extract 0 j = zr j := by
  have h : j = 0 ∨ j = 1 ∨ j = 2 ∨ j = 3 := by omega
  rcases h with rfl | rfl | rfl | rfl <;> decide

set_option maxRecDepth 20000 in
set_option maxHeartbeats 4000000 in
theorem numbers_in (n : Nat) (hn : n ≤ 9223372036854775807) (j : Nat) (hj : j ≤ 3) (w : World) (ht : Vs w) :
    Calls Tryd.prog 5 #[.int .i64 (n : Int), .int .i64 (j : Int)] w fun e w' => e = .returned (.bool true) ∧ Below w.heap.size w w' := by
  have q0 := asks_w w ht
  have qd := fun W => digits_w n hn W
  have hnl := num_len (n : Int) (by omega) (by omega)
  have hzl : (zr j).size = j := by show (List.replicate j (48 : UInt8)).toArray.size = j; simp
  have hext := ext_zr j hj
  have e0 : ((⟨#[116, 105, 99, 107, 32]⟩ : ByteArray) ++ zr j) ++ num n = wd 11 ++ (sps ++ (zr j ++ num n)) := by rw [← tick_lit]; simp [ByteArray.append_assoc]
  have hsz : (wd 11 ++ (sps ++ (zr j ++ num n))).size ≤ 16384 := by
    rw [← e0, ByteArray.size_append, ByteArray.size_append, hzl]; show 5 + j + _ ≤ _; omega
  have hdec := dec_tick (zr j ++ num n) (zr_nb j n) hsz
  rw [← e0] at hdec
  have HD : Hid (∀ W, Below w.heap.size w W → Calls Tryd.prog 10 #[.string (((⟨#[116, 105, 99, 107, 32]⟩ : ByteArray) ++ zr j) ++ num n)] W fun e w' => DecOk W w' e (match numP (zr j ++ num n) with | .inl e => .inl e | .inr v => .inr (⟨11, 0, 0, v, ⟨#[]⟩⟩, [])) ∧ Below W.heap.size W w') := fun W b => by
    have := decode_w (((⟨#[116, 105, 99, 107, 32]⟩ : ByteArray) ++ zr j) ++ num n) (by rw [e0]; omega) W (ht.below b)
    rw [hdec] at this
    exact this
  have HV : Hid (∀ W, Below w.heap.size w W → Vs W) := fun W b => ht.below b
  have c0 : (0 : Int) ≤ j := by omega
  have c1 : (j : Int) ≤ 3 := by omega
  have h5 : (⟨#[116, 105, 99, 107, 32]⟩ : ByteArray).size = 5 := rfl
  have z1 : ((⟨#[116, 105, 99, 107, 32]⟩ : ByteArray) ++ zr j).size = 5 + j := by rw [ByteArray.size_append, h5, hzl]
  by_cases d1 : 0 < j
  · rw [numP_zr j d1 n] at HD
    simp only [DecOk, Ak.cells, Ak.zero] at HD
    clear hdec hsz e0 ht HV
    generalize num n = nn at *
    generalize zr j = zz at *
    have s1 : ¬ 9223372036854775807 < (⟨#[116, 105, 99, 107, 32]⟩ : ByteArray).size + zz.size := by rw [h5, hzl]; omega
    have s2 : ¬ 9223372036854775807 < ((⟨#[116, 105, 99, 107, 32]⟩ : ByteArray) ++ zz).size + nn.size := by rw [z1]; omega
    go_enter Tryd.func5, Tryd.ntmps5
    go_upto_region 5 with (go_at_call 9; refine q0.mono ?_; rintro e w1 ⟨rfl, b1⟩)
    have HB1 : Hid (∀ W2, Below w1.heap.size w1 W2 → Below w.heap.size w W2) := fun W2 b => b1.trans (b.mono b1.size)
    clear b1 q0
    go_region_with (go_at_call 12; refine (qd _).mono ?_; rintro e w2 ⟨rfl, b2⟩; have b12 := HB1.out w2 ⟨b2.os, b2.tape, b2.output, b2.size, b2.block⟩)
    all_goals
      have b3 : Below w.heap.size w w2.drew := b12.drew
      go_wp2_with (go_at_call 10; refine (HD.out _ (by first | exact b12 | exact b3)).mono ?_; rintro e w4 ⟨rfl, b4⟩)
      go_ret
      exact ⟨rfl, by first | exact (b12.trans (b4.mono b12.size)).alloc (b12.trans (b4.mono b12.size)).size _ | exact (b3.trans (b4.mono b3.size)).alloc (b3.trans (b4.mono b3.size)).size _⟩
  · obtain rfl : j = 0 := by omega
    have hz0 : zr 0 ++ num n = num n := by
      apply ByteArray.ext
      simp [zr, ByteArray.data_append]
    have hnp := numP_num n hn
    rw [hz0, hnp] at HD
    have hlz : ((⟨#[116, 105, 99, 107, 32]⟩ : ByteArray) ++ zr 0) = ⟨#[116, 105, 99, 107, 32]⟩ := by decide
    rw [hlz] at HD z1
    by_cases d2 : 1048576 < (n : Int)
    · rw [if_pos d2] at HD
      simp only [DecOk, Ak.cells, Ak.zero] at HD
      clear hdec hsz e0 ht HV hz0 hnp hlz z1
      generalize num n = nn at *
      have hz3 : zr 0 = ⟨#[]⟩ := by decide
      rw [hz3] at hext
      have s2 : ¬ 9223372036854775807 < (⟨#[116, 105, 99, 107, 32]⟩ : ByteArray).size + nn.size := by rw [h5]; omega
      go_enter Tryd.func5, Tryd.ntmps5
      go_upto_region 5 with (go_at_call 9; refine q0.mono ?_; rintro e w1 ⟨rfl, b1⟩)
      have HB1 : Hid (∀ W2, Below w1.heap.size w1 W2 → Below w.heap.size w W2) := fun W2 b => b1.trans (b.mono b1.size)
      clear b1 q0
      go_region_with (go_at_call 12; refine (qd _).mono ?_; rintro e w2 ⟨rfl, b2⟩; have b12 := HB1.out w2 ⟨b2.os, b2.tape, b2.output, b2.size, b2.block⟩)
      all_goals
        have b3 : Below w.heap.size w w2.drew := b12.drew
        go_wp2_with (go_at_call 10; refine (HD.out _ (by first | exact b12 | exact b3)).mono ?_; rintro e w4 ⟨rfl, b4⟩)
        go_ret
        exact ⟨rfl, by first | exact (b12.trans (b4.mono b12.size)).alloc (b12.trans (b4.mono b12.size)).size _ | exact (b3.trans (b4.mono b3.size)).alloc (b3.trans (b4.mono b3.size)).size _⟩
    · rw [if_neg d2] at HD
      simp only [DecOk, Ak.cells] at HD
      have henc : encP 11 ⟨11, 0, 0, (n : Int), ⟨#[]⟩⟩ [] = (⟨#[116, 105, 99, 107, 32]⟩ : ByteArray) ++ num n := by
        have hr : restP 11 (⟨#[]⟩ : ByteArray) [] = ⟨#[]⟩ := by decide
        have hf : flds ((11 : Nat) : Int) = [3] := by decide
        unfold encP
        rw [hr, if_pos rfl, hf, ← tick_lit]
        simp only [encN]
        show wd 11 ++ (sps ++ num n) = _
        rw [ByteArray.append_assoc]
      have HE : Hid (∀ W d, Below w.heap.size w W → DatAt W d [] → Calls Tryd.prog 13 #[.agg #[.int .i64 11, .int .i64 0, .int .i64 0, .int .i64 (n : Int), .string ⟨#[]⟩, d]] W fun e w' => e = .returned (.string ((⟨#[116, 105, 99, 107, 32]⟩ : ByteArray) ++ num n)) ∧ Below W.heap.size W w') := fun W d b hd => by
        have := encode_w ⟨11, 0, 0, (n : Int), ⟨#[]⟩⟩ d [] 11 (by omega) (by omega) rfl (fun f hf => by rcases hf with rfl | rfl | rfl <;> simp [Ak.get]; omega) (Nat.zero_le _) (Nat.zero_le _) W hd.bytes (HV.out W b)
        rw [henc] at this
        exact this
      clear hdec hsz e0 ht HV hz0 hnp hlz z1 henc
      generalize num n = nn at *
      have hz3 : zr 0 = ⟨#[]⟩ := by decide
      rw [hz3] at hext
      have s2 : ¬ 9223372036854775807 < (⟨#[116, 105, 99, 107, 32]⟩ : ByteArray).size + nn.size := by rw [h5]; omega
      go_enter Tryd.func5, Tryd.ntmps5
      go_upto_region 5 with (go_at_call 9; refine q0.mono ?_; rintro e w1 ⟨rfl, b1⟩)
      have HB1 : Hid (∀ W2, Below w1.heap.size w1 W2 → Below w.heap.size w W2) := fun W2 b => b1.trans (b.mono b1.size)
      clear b1 q0
      go_region_with (go_at_call 12; refine (qd _).mono ?_; rintro e w2 ⟨rfl, b2⟩; have b12 := HB1.out w2 ⟨b2.os, b2.tape, b2.output, b2.size, b2.block⟩)
      all_goals
        have b3 : Below w.heap.size w w2.drew := b12.drew
        go_upto_region 7 with (go_at_call 10; refine (HD.out _ (by first | exact b12 | exact b3)).mono ?_; rintro e w4 ⟨⟨d, rfl, hd⟩, b4⟩; have b5 : Below w.heap.size w w4 := (by first | exact b12.trans (b4.mono b12.size) | exact b3.trans (b4.mono b3.size)); obtain ⟨ad, rfl⟩ := hd.nil)
        have b6 := b5.alloc b5.size (.cells #[.int .i64 11, .int .i64 0, .int .i64 0, .int .i64 (n : Int), .string ⟨#[]⟩, .slice ad 0 0] 25)
        have qe := HE.out _ _ b6 (hd.below ((Below.refl _ w4).alloc (Nat.le_refl _) _))
        clear HD HE b4 b5 hd b12 b3 b2 HB1
        go_wp2_with (go_at_call 13; refine qe.mono ?_; rintro e w7 ⟨rfl, b7⟩)
        go_ret
        exact ⟨by first | rfl | simp, b6.trans (b7.mono b6.size)⟩

/-- AskNumbers -/
theorem numbers_walk (n j : Int) (hn : n ≤ 9223372036854775807) (w : World) (ht : Vs w) :
    Calls Tryd.prog 5 #[.int .i64 n, .int .i64 j] w fun e w' => e = .returned (.bool true) ∧ Below w.heap.size w w' := by
  by_cases hg : 0 ≤ n ∧ 0 ≤ j ∧ j ≤ 3
  · obtain ⟨m, rfl⟩ : ∃ m : Nat, n = m := ⟨n.toNat, by omega⟩
    obtain ⟨i, rfl⟩ : ∃ i : Nat, j = i := ⟨j.toNat, by omega⟩
    exact numbers_in m (by omega) i (by omega) w ht
  · have q0 := asks_w w ht
    clear ht
    have HG : j < 0 ∨ (¬ j < 0 ∧ 3 < j) ∨ (¬ j < 0 ∧ ¬ 3 < j ∧ n < 0) := by omega
    clear hg
    rcases HG with h1 | ⟨h1, h2⟩ | ⟨h1, h2, h3⟩
    all_goals
      go_enter Tryd.func5, Tryd.ntmps5
      go_wp2_with (go_at_call 9; refine q0.mono ?_; rintro e w1 ⟨rfl, b1⟩)
      go_ret
      exact ⟨rfl, b1⟩
end Go.Proofs.YtojbfdlgjjghjaaDoor.K
