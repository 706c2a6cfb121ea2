/-
  Contracts of the document's own writer of numbers: pannierref02.Octal, pannierref02.Format; pannierref06.noughts.
-/
import Derived.Test.YtmholjjicklnhabDoorHr
namespace Go.Proofs.YtmholjjicklnhabDoor
open Go.RowKit
set_option linter.unusedVariables false
set_option linter.unusedSimpArgs false

theorem octs_zero (j : Nat) : octs 0 j = List.replicate j 48 := by
  induction j with
  | zero => rfl
  | succ j ih => rw [octs, List.replicate_succ', show (0 : Int) / 8 = 0 from rfl, ih]; rfl

theorem octs_pad (m : Nat) : ∀ (n : Int) (j : Nat), 0 ≤ n → n < 8 ^ m → octs n (j + m) = List.replicate j 48 ++ octs n m := by
  induction m with
  | zero =>
    intro n j h0 h1
    have : n = 0 := by simp at h1; omega
    subst this
    simp [octs, octs_zero]
  | succ m ih =>
    intro n j h0 h1
    rw [Int.pow_succ] at h1
    rw [← Nat.add_assoc, octs, octs, ih (n / 8) j (by omega) (by omega), List.append_assoc]

theorem octs_one_more (n : Int) (m : Nat) (h0 : 0 ≤ n) (h1 : n < 8 ^ m) : octs n (m + 1) = 48 :: octs n m := by
  rw [Nat.add_comm, octs_pad m n 1 h0 h1]; rfl

theorem odig_pos (n : Nat) : 1 ≤ odig n := by unfold odig; omega

theorem odig_lt (n : Nat) (h : n < 2 ^ 64) : n < 8 ^ odig n := (odig_le_iff (odig n) n (odig_pos n) h).1 (Nat.le_refl _)

theorem odig_lt' (n : Int) (h0 : 0 ≤ n) (h1 : n ≤ 9223372036854775807) : n < 8 ^ odig n.toNat := by
  have h := odig_lt n.toNat (by omega)
  have e : ((8 : Int) ^ odig n.toNat) = ((8 ^ odig n.toNat : Nat) : Int) := by simp
  rw [e]; omega

theorem lt_pow_of (n : Int) (m : Nat) (h0 : 0 ≤ n) (h1 : n ≤ 9223372036854775807) (h : odig n.toNat ≤ m) : n < 8 ^ m := by
  have h := (odig_le_iff m n.toNat (Nat.le_trans (odig_pos _) h) (by omega)).1 h
  have e : ((8 : Int) ^ m) = ((8 ^ m : Nat) : Int) := by simp
  rw [e]; omega

theorem odig_small (n : Nat) (h : n ≤ 7) : odig n = 1 := by
  have h1 := (odig_le_iff 1 n (by omega) (by omega)).2 (by omega)
  have h2 := odig_pos n
  omega

theorem odig_succ (n : Nat) (h : 7 < n) (h64 : n < 2 ^ 64) : odig n = odig (n / 8) + 1 := by
  have s := Lib.bitLen_shift 3 n (by omega) h64
  have p : 1 ≤ Lib.bitLen (n / 8) := by
    by_cases c : Lib.bitLen (n / 8) ≤ 0
    · have := (bitLen_le_iff 0 (n / 8) (by omega)).1 c; omega
    · omega
  unfold odig
  rw [s, show n / 2 ^ 3 = n / 8 from rfl]
  omega

theorem odig_le22 (n : Int) (h0 : 0 ≤ n) (h1 : n ≤ 9223372036854775807) : odig n.toNat ≤ 21 := (odig_le_iff 21 n.toNat (by omega) (by omega)).2 (by omega)

theorem ret_str {a b : ByteArray} (h : a = b) : Ending.returned (.string a) = .returned (.string b) := by rw [h]

set_option maxHeartbeats 1000000 in
theorem octal_any (n : Int) (w : World) (h0 : 0 ≤ n) (h1 : n ≤ 9223372036854775807) :
    Calls Tryd.prog 44 #[.int .i64 n] w fun e w' => e = .returned (.string (strOf (octs n (odig n.toNat)))) ∧ Below w.heap.size w w' := by
  have hc := conv_one
  have hs := strOf_size
  have ha := strOf_append
  have h21 := odig_le22 n h0 h1
  go_enter Tryd.func44, Tryd.ntmps44
  go_wp2
  go_loopw [0, 3] (fun tn ts wr => ∃ (x : Int) (t : List Int), 0 ≤ x ∧ x ≤ 9223372036854775807 ∧ tn = .int .i64 x ∧ ts = .string (strOf t) ∧ Hid (octs x (odig x.toNat) ++ t = octs n (odig n.toNat)) ∧ Below w.heap.size w wr)
    (fun i _ _ => (intOf i).toNat)
  case atStart => exact ⟨n, [], h0, h1, rfl, rfl, by simp [Hid], Below.refl _ _⟩
  case round =>
    obtain ⟨x, t, hx0, hx1, rfl, rfl, H, hb⟩ := hrel
    have ht : t.length ≤ 21 := by
      have := congrArg List.length H.out
      simp only [List.length_append, octs_length] at this
      omega
    by_cases c : 7 < x
    · have hd := odig_succ x.toNat (by omega) (by omega)
      have HD : Hid (octs (x / 8) (odig (x / 8).toNat) ++ (48 + x % 8) :: t = octs n (odig n.toNat)) := by
        show _ = _
        rw [← H.out, hd, show (x / 8).toNat = x.toNat / 8 by omega, octs]; simp
      clear hd H
      go_wp2
      go_roundw
      case rel => exact ⟨x / 8, (48 + x % 8) :: t, by omega, by omega, rfl, rfl, HD, hb.alloc hb.size _⟩
      case measure => simp [intOf]; omega
    · have HD : Hid (octs n (odig n.toNat) = (48 + x) :: t) := by
        show _ = _
        rw [← H.out, odig_small x.toNat (by omega)]
        simp [octs]; omega
      clear H
      go_wp2
      go_ret
      exact ⟨ret_str (by rw [HD.out]), hb.alloc hb.size _⟩

theorem ret2_str {a b : ByteArray} {c : Int} (h : a = b) : Ending.returned (.tuple #[.string a, .int .i64 c]) = .returned (.tuple #[.string b, .int .i64 c]) := by rw [h]

theorem ref_no (n : Int) (k : Nat) (w : World) (h1 : n ≤ 9223372036854775807) (k0 : 2 ≤ k) (k1 : k ≤ 24) (hf : fitsB n k = false) :
    Calls Tryd.prog 32 #[.int .i64 n, .int .i64 k] w fun e w' => e = .returned (.tuple #[.string ⟨#[]⟩, .int .i64 20]) ∧ Below w.heap.size w w' := by
  by_cases c : n < 0
  · go_enter Tryd.func32, Tryd.ntmps32
    go_wp2
    go_ret2
    exact ⟨rfl, Below.refl _ _⟩
  · have hs : (strOf (octs n (odig n.toNat))).size = odig n.toNat := by rw [strOf_size, octs_length]
    have hl : k ≤ odig n.toNat := by
      have : ¬ (0 ≤ n ∧ 2 ≤ (k : Int) ∧ (odig n.toNat : Int) < k) := by simpa [fitsB] using hf
      omega
    have h21 := odig_le22 n (by omega) h1
    clear hf
    go_enter Tryd.func32, Tryd.ntmps32
    go_wp2_with (go_at_call 44; refine (octal_any _ _ (by omega) (by omega)).mono ?_; rintro e w' ⟨rfl, hb⟩)
    go_ret2
    exact ⟨rfl, hb⟩

set_option maxHeartbeats 1000000 in
theorem ref_yes (n : Int) (k : Nat) (w : World) (h0 : 0 ≤ n) (h1 : n ≤ 9223372036854775807) (k0 : 2 ≤ k) (k1 : k ≤ 24) (hf : fitsB n k = true) :
    Calls Tryd.prog 32 #[.int .i64 n, .int .i64 k] w fun e w' => e = .returned (.tuple #[.string (strOf (octs n (k - 1) ++ [0])), .int .i64 0]) ∧ Below w.heap.size w w' := by
  have hs := strOf_size
  have ho := octs_length
  have hl : odig n.toNat < k := by
    have : 0 ≤ n ∧ 2 ≤ (k : Int) ∧ (odig n.toNat : Int) < k := by simpa [fitsB] using hf
    omega
  clear hf
  go_enter Tryd.func32, Tryd.ntmps32
  go_wp2_with (go_at_call 44; refine (octal_any _ _ (by omega) (by omega)).mono ?_; rintro e w' ⟨rfl, hb⟩)
  go_loop [6] (fun ts => ∃ (m : Nat), odig n.toNat ≤ m ∧ m < k ∧ ts = .string (strOf (octs n m))) (fun ts => k - strSize ts)
  case atStart => exact ⟨_, Nat.le_refl _, hl, rfl⟩
  case round =>
    obtain ⟨m, hm0, hm1, rfl⟩ := hrel
    by_cases c : m < k - 1
    · have HA : Hid (strOf [48] ++ strOf (octs n m) = strOf (octs n (m + 1))) := by
        show _ = _
        rw [strOf_append, octs_one_more n m h0 (lt_pow_of n m h0 h1 hm0)]; rfl
      go_wp2
      have e : (⟨#[48]⟩ : ByteArray) ++ strOf (octs n m) = strOf (octs n (m + 1)) := HA.out
      rw [e]
      go_round
      case rel => exact ⟨m + 1, by omega, by omega, rfl⟩
      case measure => simp only [strSize, strOf_size, octs_length]; omega
    · have e : m = k - 1 := by omega
      subst e
      go_wp2
      go_ret2
      exact ⟨ret2_str (by rw [← strOf_append]; rfl), hb⟩

theorem noughts_w (n : Nat) (w : World) (h : n ≤ 1000) : Calls Tryd.prog 31 #[.int .i64 n] w fun e w' => e = .returned (.string (strOf (List.replicate n 0))) ∧ w = w' := by
  have hs := strOf_size
  go_enter Tryd.func31, Tryd.ntmps31
  go_wp2
  go_loop [3, 4] (fun s i => ∃ k : Nat, k ≤ n ∧ i = .int .i64 k ∧ s = .string (strOf (List.replicate k 0))) (fun _ i => n - (intOf i).toNat)
  case atStart => exact ⟨0, by omega, rfl, rfl⟩
  case round =>
    obtain ⟨k, hk, rfl, rfl⟩ := hrel
    by_cases hlt : k < n
    · have HA : Hid (strOf (List.replicate k 0) ++ ⟨#[0]⟩ = strOf (List.replicate (k + 1) 0)) := by
        show _ = _
        rw [List.replicate_succ', ← strOf_append]; rfl
      have hz : (strOf (List.replicate k 0)).size = k := by rw [strOf_size]; simp
      generalize strOf (List.replicate k 0) = X at *
      go_wp2
      go_round
      case rel => exact ⟨k + 1, by omega, by go_num, by rw [HA.out]⟩
      case measure => simp [intOf]; omega
    · obtain rfl : k = n := by omega
      go_wp2
      go_ret
      exact ⟨rfl, rfl⟩

end Go.Proofs.YtmholjjicklnhabDoor
