/-
  The walk of FaultWords.
-/
import Derived.Test.YtamdonhmholjpaaDoorWords0
import Derived.Test.YtamdonhmholjpaaDoorWraps0
namespace Go.Proofs.YtamdonhmholjpaaDoor.faultWords
open Go.RowKit
open Go.Proofs.YtamdonhmholjpaaDoor.faultWraps (nth laid_held step_held st_drew)

set_option maxRecDepth 100000 in
theorem walk_out (a : Int) (ad : Option Addr) (n cap : Nat) (w : World) (hL : Laid w) (hb : n ≤ 9223372036854775807) (h : a = 0 ∨ 30 < n ∨ n = 0) : Calls Tryd.prog 6 #[.int .i64 a, .slice ad n cap] w fun ev w' => ev = .returned (.bool true) ∧ St w w' := by
  go_enter Tryd.func6, Tryd.ntmps6
  go_wp2_with fail
  refine (tells_any _ hL).mono ?_
  rintro ev w0 ⟨rfl, h0⟩
  by_cases e : a = 0
  · have e2 : (a == 0) = true := by simpa using e
    clear h
    go_wp2
    go_ret
    exact ⟨rfl, h0⟩
  · have e2 : (a == 0) = false := by simpa using e
    by_cases c : 30 < (n : Int)
    · clear h
      go_wp2
      go_ret
      exact ⟨rfl, h0⟩
    · obtain rfl : n = 0 := by omega
      clear h
      go_wp2
      go_ret
      exact ⟨rfl, h0⟩

set_option maxRecDepth 100000 in
set_option maxHeartbeats 1000000 in
theorem walk_in (a : Int) (a0 : -9223372036854775808 ≤ a) (a1 : a ≤ 9223372036854775807) (b off cap m : Nat) (zs : List Int) (w : World) (hL : Laid w) (ht : Tab w) (ha : (a == 0) = false) (hn : m + 1 ≤ 30) (hcap : m + 1 ≤ cap)
    (HC : Hid (∀ W, St w W → ∀ i : Nat, i ≤ m → W.cell? ⟨b, off + i, none⟩ = some (.int .i64 (nth zs i)))) (hcap1 : ¬ cap = 1) :
    Calls Tryd.prog 6 #[.int .i64 a, .slice (some ⟨b, off, none⟩) (m + 1) cap] w fun ev w' => ev = .returned (.bool true) ∧ St w w' := by
  have c : ¬ 30 < (m : Int) + 1 := by omega
  have c1 : ((m : Int) + 1 == 0) = false := by rw [beq_eq_false_iff_ne]; omega
  have HT : Hid (∀ W, St w W → Tab W) := fun W h => ht.below h.2
  have hs := says_size a a0 a1
  have hc : ¬ 9223372036854775807 < 4 + (says a).size := by omega
  go_enter Tryd.func6, Tryd.ntmps6
  go_wp2_with fail
  refine (tells_any _ hL).mono ?_
  rintro ev w0 ⟨rfl, h0⟩
  have k0 : w0.cell? ⟨b, off, none⟩ = some (.int .i64 (nth zs 0)) := by simpa using HC.out _ h0 0 (Nat.zero_le _)
  go_wp2_with fail
  refine (new_any a _ _ ha).mono ?_
  rintro ev w' ⟨rfl, rfl⟩
  go_wp2_with fail
  refine (errno_text a a0 a1 _ (HT.out _ h0)).mono ?_
  rintro ev w1 ⟨rfl, hb⟩
  have h1 := h0.step hb
  clear hb h0 k0
  have k1 : w1.cell? ⟨b, off, none⟩ = some (.int .i64 (nth zs 0)) := by simpa using HC.out _ h1 0 (Nat.zero_le _)
  go_wp2_with fail
  go_loop [5, 6, 35] (fun v s i => ∃ (k : Nat) (l : List Int) (t : ByteArray), k ≤ m ∧ i = .int .i64 k ∧ v = chain a l ∧ s = .string t ∧ l.length = k + 1 ∧ Hid (t.size = 4 * (k + 1) + (says a).size)) (fun _ _ i => m + 1 - (intOf i).toNat)
  case atStart => exact ⟨0, [nth zs 0], _, by omega, rfl, rfl, rfl, rfl, by show _ = _; rw [ByteArray.size_append]; rfl⟩
  case round =>
    obtain ⟨k, l, t, hk, rfl, rfl, rfl, hl, HS⟩ := hrel
    by_cases e : k < m
    · have kk : w1.cell? ⟨b, off + 1 + k, none⟩ = some (.int .i64 (nth zs (k + 1))) := by
        have := HC.out _ h1 (k + 1) e
        rwa [show off + (k + 1) = off + 1 + k by omega] at this
      have hct : ¬ 9223372036854775807 < 4 + t.size := by have := HS.out; omega
      go_wp2_with fail
      refine (wrap_any l a _ _).mono ?_
      rintro ev w' ⟨rfl, rfl⟩
      go_wp2
      go_round
      case rel => exact ⟨k + 1, nth zs (k + 1) :: l, _, by omega, by go_num, rfl, rfl, by simp [hl], by show _ = _; rw [ByteArray.size_append, HS.out]; show 4 + _ = _; omega⟩
      case measure => simp [intOf]; omega
    · obtain rfl : k = m := by omega
      have n4 : ∀ W, Calls Tryd.prog 14 #[chain a l] W fun ev w' => ev = .returned (.int .i64 ((k : Int) + 1)) ∧ Below W.heap.size W w' := fun W => (depth_any (some l) a W (by simp [left]; omega)).mono fun e w' q => ⟨q.1.trans (by simp [left, hl]), q.2⟩
      have HA : Hid (∀ W, Below (w1.alloc (.cells #[.int .i64 (nth zs 0), .iface 24 (.int .i64 a)] 36)).heap.size (w1.alloc (.cells #[.int .i64 (nth zs 0), .iface 24 (.int .i64 a)] 36)) W → W.cell? ⟨w1.heap.size, 0, none⟩ = some (.int .i64 (nth zs 0)) ∧ W.cell? ⟨w1.heap.size, 1, none⟩ = some (.iface 24 (.int .i64 a))) := fun W h => ⟨(h.cell (p := ⟨w1.heap.size, 0, none⟩) (by simp)).trans (by simp), (h.cell (p := ⟨w1.heap.size, 1, none⟩) (by simp)).trans (by simp)⟩
      have HU : Hid (St w (w1.alloc (.cells #[.int .i64 (nth zs 0), .iface 24 (.int .i64 a)] 36))) := h1.step ((Below.refl _ _).alloc (Nat.le_refl _) _)
      generalize chain a l = x at *
      go_wp2_with fail
      refine (n4 _).mono ?_
      rintro ev w2 ⟨rfl, b2⟩
      obtain ⟨p0, p1⟩ := HA.out _ b2
      have h2 := HU.out.step b2
      go_wp2_with fail
      refine (at_text (nth zs 0) a a0 a1 _ (HT.out _ h2)).mono ?_
      rintro ev w3 ⟨rfl, b3⟩
      have h3 := h2.step b3
      have b3' := b2.trans (b3.mono b2.size)
      clear p0 p1 h2 b2 b3
      obtain ⟨p0, p1⟩ := HA.out _ b3'
      go_wp2_with fail
      refine (errno_text a a0 a1 _ (HT.out _ h3)).mono ?_
      rintro ev w4 ⟨rfl, b4⟩
      have h4 := h3.step b4
      have b4' := b3'.trans (b4.mono b3'.size)
      clear p0 p1 h3 b3' b4
      obtain ⟨p0, p1⟩ := HA.out _ b4'
      have hat : atSays a = ⟨#[97, 116, 58, 32]⟩ ++ says a := rfl
      rw [hat]
      go_wp2_with fail
      refine (unwrap_at _ _ _).mono ?_
      rintro ev w' ⟨rfl, rfl⟩
      have h5 := h4.step ((Below.refl _ _).alloc (Nat.le_refl _) (.cells #[.int .i64 (nth zs 0), .iface 24 (.int .i64 a)] 36))
      clear p0 p1 h4 b4' HA HU h1 k1
      go_wp2_with fail
      refine (code_any (some []) a _ h5.1).mono ?_
      rintro ev w6 ⟨rfl, b6⟩
      have h6 := h5.step b6
      clear h5 b6
      go_wp2_with fail
      refine (errno_text a a0 a1 _ (HT.out _ h6)).mono ?_
      rintro ev w7 ⟨rfl, b7⟩
      have h7 := h6.step b7
      clear h6 b7
      have hsz := HS.out
      have m1 : IntKind.i64.wrap (4 * ((k : Int) + 1)) = 4 * ((k : Int) + 1) := by rw [IntKind.wrap_i64]; omega
      have m2 : IntKind.i64.wrap (4 * ((k : Int) + 1) + ((says a).size : Int)) = 4 * ((k : Int) + 1) + ((says a).size : Int) := by rw [IntKind.wrap_i64]; omega
      have m3 : ((t.size : Int) == 4 * ((k : Int) + 1) + ((says a).size : Int)) = true := by simp; omega
      go_wp2
      go_ret
      exact ⟨rfl, h7⟩

set_option maxRecDepth 100000 in
set_option maxHeartbeats 1000000 in
theorem walk_one (a : Int) (a0 : -9223372036854775808 ≤ a) (a1 : a ≤ 9223372036854775807) (b off : Nat) (zs : List Int) (w : World) (hL : Laid w) (ht : Tab w) (ha : (a == 0) = false)
    (HL : Hid (∀ W, St w W → W.cell? ⟨b, off, none⟩ = some (.int .i64 (nth zs 0)))) :
    Calls Tryd.prog 6 #[.int .i64 a, .slice (some ⟨b, off, none⟩) 1 1] w fun ev w' => ev = .returned (.bool true) ∧ St w w' := by
  have HT : Hid (∀ W, St w W → Tab W) := fun W h => ht.below h.2
  have hs := says_size a a0 a1
  have hc : ¬ 9223372036854775807 < 4 + (says a).size := by omega
  have n0 : ∀ W, Calls Tryd.prog 10 #[.int .i64 a, .int .i64 (nth zs 0)] W fun ev w' => ev = .returned (chain a [nth zs 0]) ∧ W = w' := fun W => new_any a (nth zs 0) W ha
  have n4 : ∀ W, Calls Tryd.prog 14 #[chain a [nth zs 0]] W fun ev w' => ev = .returned (.int .i64 1) ∧ Below W.heap.size W w' := fun W => depth_any (some [nth zs 0]) a W (by simp [left])
  generalize chain a [nth zs 0] = x at *
  go_enter Tryd.func6, Tryd.ntmps6
  go_wp2_with fail
  refine (tells_any _ hL).mono ?_
  rintro ev w0 ⟨rfl, h0⟩
  have k0 := HL.out _ h0
  go_wp2_with fail
  refine (n0 _).mono ?_
  rintro ev w' ⟨rfl, rfl⟩
  go_wp2_with fail
  refine (errno_text a a0 a1 _ (HT.out _ h0)).mono ?_
  rintro ev w1 ⟨rfl, hb⟩
  have h1 := h0.step hb
  clear hb h0 k0
  have k1 := HL.out _ h1
  have HA : Hid (∀ W, Below (w1.alloc (.cells #[.int .i64 (nth zs 0), .iface 24 (.int .i64 a)] 36)).heap.size (w1.alloc (.cells #[.int .i64 (nth zs 0), .iface 24 (.int .i64 a)] 36)) W → W.cell? ⟨w1.heap.size, 0, none⟩ = some (.int .i64 (nth zs 0)) ∧ W.cell? ⟨w1.heap.size, 1, none⟩ = some (.iface 24 (.int .i64 a))) := fun W h => ⟨(h.cell (p := ⟨w1.heap.size, 0, none⟩) (by simp)).trans (by simp), (h.cell (p := ⟨w1.heap.size, 1, none⟩) (by simp)).trans (by simp)⟩
  have HU : Hid (St w (w1.alloc (.cells #[.int .i64 (nth zs 0), .iface 24 (.int .i64 a)] 36))) := h1.step ((Below.refl _ _).alloc (Nat.le_refl _) _)
  go_wp2_with fail
  refine wp_loop_rounds 1 ?_
  rw [rounds_succ]
  go_wp2_with fail
  refine (n4 _).mono ?_
  rintro ev w2 ⟨rfl, b2⟩
  obtain ⟨p0, p1⟩ := HA.out _ b2
  have h2 := HU.out.step b2
  go_wp2_with fail
  refine (at_text (nth zs 0) a a0 a1 _ (HT.out _ h2)).mono ?_
  rintro ev w3 ⟨rfl, b3⟩
  have h3 := h2.step b3
  have b3' := b2.trans (b3.mono b2.size)
  clear p0 p1 h2 b2 b3
  obtain ⟨p0, p1⟩ := HA.out _ b3'
  go_wp2_with fail
  refine (errno_text a a0 a1 _ (HT.out _ h3)).mono ?_
  rintro ev w4 ⟨rfl, b4⟩
  have h4 := h3.step b4
  have b4' := b3'.trans (b4.mono b3'.size)
  clear p0 p1 h3 b3' b4
  obtain ⟨p0, p1⟩ := HA.out _ b4'
  have hat : atSays a = ⟨#[97, 116, 58, 32]⟩ ++ says a := rfl
  rw [hat]
  go_wp2_with fail
  refine (unwrap_at _ _ _).mono ?_
  rintro ev w' ⟨rfl, rfl⟩
  have h5 := h4.step ((Below.refl _ _).alloc (Nat.le_refl _) (.cells #[.int .i64 (nth zs 0), .iface 24 (.int .i64 a)] 36))
  clear p0 p1 h4 b4' HA HU h1 k1
  go_wp2_with fail
  refine (code_any (some []) a _ h5.1).mono ?_
  rintro ev w6 ⟨rfl, b6⟩
  have h6 := h5.step b6
  clear h5 b6
  go_wp2_with fail
  refine (errno_text a a0 a1 _ (HT.out _ h6)).mono ?_
  rintro ev w7 ⟨rfl, b7⟩
  have h7 := h6.step b7
  clear h6 b7
  have hsz : (⟨#[97, 116, 58, 32]⟩ ++ says a : ByteArray).size = 4 + (says a).size := by rw [ByteArray.size_append]; rfl
  have m2 : IntKind.i64.wrap (4 + ((says a).size : Int)) = 4 + ((says a).size : Int) := by rw [IntKind.wrap_i64]; omega
  go_wp2
  go_ret
  exact ⟨rfl, h7⟩

theorem walk_all (a : Int) (a0 : -9223372036854775808 ≤ a) (a1 : a ≤ 9223372036854775807) (ad : Option Addr) (n cap : Nat) (zs : List Int) (w : World) (hL : Laid w) (ht : Tab w) (hcap : n ≤ cap) (hbig : cap ≤ 9223372036854775807)
    (H : n = 0 ∨ ∃ b off, ad = some ⟨b, off, none⟩ ∧ ∀ W, St w W → ∀ i : Nat, i < n → W.cell? ⟨b, off + i, none⟩ = some (.int .i64 (nth zs i))) :
    Calls Tryd.prog 6 #[.int .i64 a, .slice ad n cap] w fun ev w' => ev = .returned (.bool true) ∧ St w w' := by
  by_cases d : a = 0 ∨ 30 < n ∨ n = 0
  · exact walk_out a ad n cap w hL (by omega) d
  · have ha : (a == 0) = false := by simp; omega
    rcases H with h0 | ⟨b, off, rfl, HC⟩
    · omega
    · obtain ⟨m, rfl⟩ : ∃ m, n = m + 1 := ⟨n - 1, by omega⟩
      by_cases e : cap = 1
      · subst e
        obtain rfl : m = 0 := by omega
        exact walk_one a a0 a1 b off zs w hL ht ha (fun W h => HC W h 0 (by omega))
      · exact walk_in a a0 a1 b off cap m zs w hL ht ha (by omega) hcap (fun W h i hi => HC W h i (by omega)) e

end Go.Proofs.YtamdonhmholjpaaDoor.faultWords
