/-
  The laws' walks: AskPaths.
-/
import Derived.Test.YtojbfdlgjjghjaaDoorKKj
namespace Go.Proofs.YtojbfdlgjjghjaaDoor.K
open Go.RowKit
open Go.Lib hiding intOf
set_option linter.unusedVariables false
set_option linter.unusedSimpArgs false

theorem app5 (a b c d e : ByteArray) : (((a ++ b) ++ c) ++ d) ++ e = a ++ (b ++ (c ++ (d ++ e))) := by simp [ByteArray.append_assoc]
theorem idx4_0 (W : World) : (Instr.index 38 (.agg #[.string (wd 5), .string (wd 6), .string (wd 7), .string (wd 8)]) (.int .i64 0)).run Tryd.prog W = .ok (.string (wd 5)) W := by kernel_rfl
theorem idx4_1 (W : World) : (Instr.index 38 (.agg #[.string (wd 5), .string (wd 6), .string (wd 7), .string (wd 8)]) (.int .i64 1)).run Tryd.prog W = .ok (.string (wd 6)) W := by kernel_rfl
theorem idx4_2 (W : World) : (Instr.index 38 (.agg #[.string (wd 5), .string (wd 6), .string (wd 7), .string (wd 8)]) (.int .i64 2)).run Tryd.prog W = .ok (.string (wd 7)) W := by kernel_rfl
theorem idx4_3 (W : World) : (Instr.index 38 (.agg #[.string (wd 5), .string (wd 6), .string (wd 7), .string (wd 8)]) (.int .i64 3)).run Tryd.prog W = .ok (.string (wd 8)) W := by kernel_rfl
theorem idx4 (W : World) (i : Nat) (hi : i < 4) : (Instr.index 38 (.agg #[.string (wd 5), .string (wd 6), .string (wd 7), .string (wd 8)]) (.int .i64 (i : Int))).run Tryd.prog W = .ok (.string (wd (5 + i))) W := by
  have h : i = 0 ∨ i = 1 ∨ i = 2 ∨ i = 3 := by omega
  rcases h with rfl | rfl | rfl | rfl
  · exact idx4_0 W
  · exact idx4_1 W
  · exact idx4_2 W
  · exact idx4_3 W
theorem DatAt.nil {w : World} {d : Value} (h : DatAt w d []) : ∃ ad, d = .slice ad 0 0 := by
  rcases h with ⟨_, rfl⟩ | ⟨B, rfl, _⟩
  · exact ⟨_, rfl⟩
  · exact ⟨_, rfl⟩

set_option maxRecDepth 20000 in
set_option maxHeartbeats 4000000 in
theorem paths_in (n : Nat) (hn : n ≤ 1048576) (p : ByteArray) (hp : p.size ≤ 5000) (i : Nat) (hi : i ≤ 3) (w : World) (ht : Vs w) :
    Calls Tryd.prog 6 #[.int .i64 (n : Int), .string p, .int .i64 (i : Int)] w fun e w' => e = .returned (.bool true) ∧ Below w.heap.size w w' := by
  have q0 := asks_w w ht
  have hx := fun W => idx4 W i (by omega)
  have qd := fun W => digits_w n (by omega) W
  have hnl := num_len (n : Int) (by omega) (by omega)
  have hwl := wd_size (5 + i) (by omega)
  have hsz : (wd (5 + i) ++ (sps ++ (num n ++ (sps ++ p)))).size ≤ 16384 := by
    have e : sps.size = 1 := rfl
    rw [ByteArray.size_append, ByteArray.size_append, ByteArray.size_append, ByteArray.size_append, e]; omega
  have hdec := dec_path (5 + i) (by omega) n hn p hsz
  rw [← app5] at hdec
  have HD : Hid (∀ W, Below w.heap.size w W → Calls Tryd.prog 10 #[.string ((((wd (5 + i) ++ sps) ++ num n) ++ sps) ++ p)] W fun e w' => ∃ d, e = .returned (.tuple #[.agg #[.int .i64 (5 + i), .int .i64 n, .int .i64 0, .int .i64 0, .string p, d], .int .i64 0]) ∧ DatAt w' d [] ∧ Below W.heap.size W w') := fun W b => by
    have := decode_w ((((wd (5 + i) ++ sps) ++ num n) ++ sps) ++ p) (by rw [app5]; omega) W (ht.below b)
    rw [hdec] at this
    refine this.mono ?_
    rintro e w' ⟨⟨d, rfl, hd⟩, b2⟩
    exact ⟨d, by simp [Ak.cells], hd, b2⟩
  have es : sps = ⟨#[32]⟩ := rfl
  rw [es] at HD
  have h1 : (⟨#[32]⟩ : ByteArray).size = 1 := rfl
  generalize num n = nn at *
  have hwv : wd 5 = ⟨#[108, 105, 115, 116]⟩ ∧ wd 6 = ⟨#[115, 116, 97, 116]⟩ ∧ wd 7 = ⟨#[100, 101, 108, 101, 116, 101]⟩ ∧ wd 8 = ⟨#[103, 101, 116]⟩ := ⟨rfl, rfl, rfl, rfl⟩
  rw [hwv.1, hwv.2.1, hwv.2.2.1, hwv.2.2.2] at hx
  clear hwv hdec hsz es ht
  generalize wd (5 + i) = ww at *
  have s1 : ¬ 9223372036854775807 < ww.size + (⟨#[32]⟩ : ByteArray).size := by rw [h1]; omega
  have z1 : (ww ++ (⟨#[32]⟩ : ByteArray)).size = ww.size + 1 := by rw [ByteArray.size_append, h1]
  have s2 : ¬ 9223372036854775807 < (ww ++ (⟨#[32]⟩ : ByteArray)).size + nn.size := by rw [z1]; omega
  have z2 : (ww ++ (⟨#[32]⟩ : ByteArray) ++ nn).size = ww.size + 1 + nn.size := by rw [ByteArray.size_append, z1]
  have s3 : ¬ 9223372036854775807 < (ww ++ (⟨#[32]⟩ : ByteArray) ++ nn).size + (⟨#[32]⟩ : ByteArray).size := by rw [z2, h1]; omega
  have z3 : (ww ++ (⟨#[32]⟩ : ByteArray) ++ nn ++ (⟨#[32]⟩ : ByteArray)).size = ww.size + 1 + nn.size + 1 := by rw [ByteArray.size_append, z2, h1]
  have s4 : ¬ 9223372036854775807 < (ww ++ (⟨#[32]⟩ : ByteArray) ++ nn ++ (⟨#[32]⟩ : ByteArray)).size + p.size := by rw [z3]; omega
  go_enter Tryd.func6, Tryd.ntmps6
  go_upto_region 6 with (go_at_call 9; refine q0.mono ?_; rintro e w1 ⟨rfl, b1⟩)
  have HB1 : Hid (∀ W, Below w1.heap.size w1 W → Below w.heap.size w W) := fun W b => b1.trans (b.mono b1.size)
  have HD1 : Hid _ := HD
  clear HD b1 q0
  go_upto_region 7 with (first
    | (go_at_call 12; refine (qd _).mono ?_; rintro e w2 ⟨rfl, b2⟩)
    | (go_at_call 10; refine (HD1.out _ (HB1.out _ b2)).mono ?_; rintro e w3 ⟨d, rfl, hd, b3⟩; obtain ⟨ad, rfl⟩ := hd.nil))
  have HB3 : Hid (Below w.heap.size w (w3.alloc (.cells #[.int .i64 (5 + (i : Int)), .int .i64 (n : Int), .int .i64 0, .int .i64 0, .string p, .slice ad 0 0] 25))) := by
    have := (HB1.out _ b2).trans (b3.mono (HB1.out _ b2).size)
    exact this.alloc this.size _
  clear HD1 HB1 b2 b3 hd qd hx s1 s2 s3 s4 z1 z2 z3
  go_wp2
  go_ret
  exact ⟨by simp, HB3.out⟩

/-- AskPaths -/
theorem paths_walk (n : Int) (p : ByteArray) (i : Int) (w : World) (ht : Vs w) (hp : p.size ≤ 9223372036854775807) :
    Calls Tryd.prog 6 #[.int .i64 n, .string p, .int .i64 i] w fun e w' => e = .returned (.bool true) ∧ Below w.heap.size w w' := by
  by_cases hg : 0 ≤ n ∧ n ≤ 1048576 ∧ p.size ≤ 5000 ∧ 0 ≤ i ∧ i ≤ 3
  · obtain ⟨m, rfl⟩ : ∃ m : Nat, n = m := ⟨n.toNat, by omega⟩
    obtain ⟨j, rfl⟩ : ∃ j : Nat, i = j := ⟨i.toNat, by omega⟩
    exact paths_in m (by omega) p hg.2.2.1 j (by omega) w ht
  · have q0 := asks_w w ht
    clear ht
    have HG : n < 0 ∨ (¬ n < 0 ∧ 1048576 < n) ∨ (¬ n < 0 ∧ ¬ 1048576 < n ∧ (5000 : Int) < p.size) ∨ (¬ n < 0 ∧ ¬ 1048576 < n ∧ ¬ (5000 : Int) < p.size ∧ i < 0) ∨ (¬ n < 0 ∧ ¬ 1048576 < n ∧ ¬ (5000 : Int) < p.size ∧ ¬ i < 0 ∧ 3 < i) := by omega
    clear hg
    rcases HG with h1 | ⟨h1, h2⟩ | ⟨h1, h2, h3⟩ | ⟨h1, h2, h3, h4⟩ | ⟨h1, h2, h3, h4, h5⟩
    all_goals
      go_enter Tryd.func6, Tryd.ntmps6
      go_wp2_with (go_at_call 9; refine q0.mono ?_; rintro e w1 ⟨rfl, b1⟩)
      go_ret
      exact ⟨rfl, b1⟩
end Go.Proofs.YtojbfdlgjjghjaaDoor.K
