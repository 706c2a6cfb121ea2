/-
  The walk of FaultWraps.
-/
import Derived.Test.YtamdonhmholjpaaDoorTells
import Derived.RegionCalls
import Derived.Deep.RegionHeld3
namespace Go.Proofs.YtamdonhmholjpaaDoor.faultWraps
open Go.RowKit

/-- The number at a place; behind the end 0. -/
def nth (ps : List Int) (i : Nat) : Int := ps[i]?.getD 0

theorem z1 (W : World) (h : Laid W) : Calls Tryd.prog 12 #[.nilIface] W fun ev w' => ev = .returned (.int .i64 0) ∧ Below W.heap.size W w' := code_any none 0 W h
theorem z2 (W : World) (h : Laid W) : Calls Tryd.prog 13 #[.nilIface] W fun ev w' => ev = .returned (.int .i64 (-1)) ∧ Below W.heap.size W w' := place_any none 0 W h
theorem z3 (W : World) : Calls Tryd.prog 14 #[.nilIface] W fun ev w' => ev = .returned (.int .i64 0) ∧ Below W.heap.size W w' := depth_any none 0 W (by decide)
theorem z4 (a : Int) (W : World) : Calls Tryd.prog 15 #[.nilIface, .int .i64 a] W fun ev w' => ev = .returned (.bool false) ∧ Below W.heap.size W w' := is_any none 0 a W

theorem laid_st {w W : World} (h : St w W) : Laid W := h.1
theorem st_step {w a b : World} (h : St w a) (hb : Below a.heap.size a b) : St w b := h.step hb
theorem laid_held {w W : World} {p : Prop} (h : St w W ∧ p) : Laid W := h.1.1
theorem step_held {w a b : World} {p : Prop} (h : St w a ∧ p) (hb : Below a.heap.size a b) : St w b := h.1.step hb
theorem st_drew {w W : World} (h : St w W) : St w W.drew := ⟨⟨h.1.1, h.1.2⟩, h.2.drew⟩

set_option maxRecDepth 100000 in
theorem walk_long (a : Int) (ad : Option Addr) (n cap : Nat) (w : World) (hL : Laid w) (hn : 50 < n) (hb : n ≤ 9223372036854775807) : Calls Tryd.prog 3 #[.int .i64 a, .slice ad n cap] w fun ev w' => ev = .returned (.bool true) ∧ St w w' := by
  have c : 50 < (n : Int) := by omega
  go_enter Tryd.func3, Tryd.ntmps3
  go_wp2_with fail
  refine (tells_any _ hL).mono ?_
  rintro ev w0 ⟨rfl, h0⟩
  go_wp2
  go_ret
  exact ⟨rfl, h0⟩

set_option maxRecDepth 100000 in
theorem walk_none (a : Int) (ad : Option Addr) (n cap : Nat) (w : World) (hL : Laid w) (hn : n ≤ 50) (h : a = 0 ∨ n = 0) : Calls Tryd.prog 3 #[.int .i64 a, .slice ad n cap] w fun ev w' => ev = .returned (.bool true) ∧ St w w' := by
  have c : ¬ 50 < (n : Int) := by omega
  have z4 := z4 a
  go_enter Tryd.func3, Tryd.ntmps3
  go_wp2_with fail
  refine (tells_any _ hL).mono ?_
  rintro ev w0 ⟨rfl, h0⟩
  go_wp2_with fail
  refine ((fun W => new_ok 3 W) _).mono ?_
  rintro ev w' ⟨rfl, rfl⟩
  go_wp2_with fail
  refine ((fun W => wrap_nil 3 W) _).mono ?_
  rintro ev w' ⟨rfl, rfl⟩
  go_wp2_with fail
  refine (z1 _ h0.1).mono ?_
  rintro ev w1 ⟨rfl, hb⟩
  have h1 := h0.step hb
  clear hb h0
  go_wp2_with fail
  refine (z2 _ h1.1).mono ?_
  rintro ev w2 ⟨rfl, hb⟩
  have h2 := h1.step hb
  clear hb h1
  go_wp2_with fail
  refine (z3 _).mono ?_
  rintro ev w3 ⟨rfl, hb⟩
  have h3 := h2.step hb
  clear hb h2
  go_wp2_with fail
  refine (z4 _).mono ?_
  rintro ev w4 ⟨rfl, hb⟩
  have h4 := h3.step hb
  clear hb h3
  by_cases e : a = 0
  · have e2 : (a == 0) = true := by simpa using e
    clear h
    go_wp2
    go_ret
    exact ⟨rfl, h4⟩
  · have e2 : (a == 0) = false := by simpa using e
    obtain rfl : n = 0 := by omega
    clear h
    go_wp2
    go_ret
    exact ⟨rfl, h4⟩

set_option maxRecDepth 100000 in
set_option maxHeartbeats 1000000 in
theorem walk_in (a : Int) (b off cap m : Nat) (zs : List Int) (w : World) (hL : Laid w) (ha : (a == 0) = false) (hn : m + 1 ≤ 50) (hcap : m + 1 ≤ cap) (hbig : cap ≤ 9223372036854775807)
    (HC : Hid (∀ W, St w W → ∀ i : Nat, i ≤ m → W.cell? ⟨b, off + i, none⟩ = some (.int .i64 (nth zs i)))) (hcap1 : ¬ cap = 1) :
    Calls Tryd.prog 3 #[.int .i64 a, .slice (some ⟨b, off, none⟩) (m + 1) cap] w fun ev w' => ev = .returned (.bool true) ∧ St w w' := by
  have c : ¬ 50 < (m : Int) + 1 := by omega
  have c1 : ((m : Int) + 1 == 0) = false := by rw [beq_eq_false_iff_ne]; omega
  have z4 := z4 a
  go_enter Tryd.func3, Tryd.ntmps3
  go_wp2_with fail
  refine (tells_any _ hL).mono ?_
  rintro ev w0 ⟨rfl, h0⟩
  go_wp2_with fail
  refine ((fun W => new_ok 3 W) _).mono ?_
  rintro ev w' ⟨rfl, rfl⟩
  go_wp2_with fail
  refine ((fun W => wrap_nil 3 W) _).mono ?_
  rintro ev w' ⟨rfl, rfl⟩
  go_wp2_with fail
  refine (z1 _ h0.1).mono ?_
  rintro ev w1 ⟨rfl, hb⟩
  have h1 := h0.step hb
  clear hb h0
  go_wp2_with fail
  refine (z2 _ h1.1).mono ?_
  rintro ev w2 ⟨rfl, hb⟩
  have h2 := h1.step hb
  clear hb h1
  go_wp2_with fail
  refine (z3 _).mono ?_
  rintro ev w3 ⟨rfl, hb⟩
  have h3 := h2.step hb
  clear hb h2
  go_wp2_with fail
  refine (z4 _).mono ?_
  rintro ev w4 ⟨rfl, hb⟩
  have h4 := h3.step hb
  clear hb h3
  have k0 : w4.cell? ⟨b, off, none⟩ = some (.int .i64 (nth zs 0)) := by simpa using HC.out _ h4 0 (Nat.zero_le _)
  go_wp2_with fail
  refine (new_any a _ _ ha).mono ?_
  rintro ev w' ⟨rfl, rfl⟩
  go_wp2_with fail
  go_loop [6, 52] (fun v i => ∃ (k : Nat) (l : List Int), k ≤ m ∧ i = .int .i64 k ∧ v = chain a l ∧ l.length = k + 1 ∧ Hid (placeOf (some l) = nth zs k)) (fun _ i => m + 1 - (intOf i).toNat)
  case atStart => exact ⟨0, [nth zs 0], by omega, rfl, rfl, rfl, rfl⟩
  case round =>
    obtain ⟨k, l, hk, rfl, rfl, hl, HP⟩ := hrel
    by_cases e : k < m
    · have kk : w4.cell? ⟨b, off + 1 + k, none⟩ = some (.int .i64 (nth zs (k + 1))) := by
        have := HC.out _ h4 (k + 1) e
        rwa [show off + (k + 1) = off + 1 + k by omega] at this
      go_wp2_with fail
      refine (wrap_any l a _ _).mono ?_
      rintro ev w' ⟨rfl, rfl⟩
      go_wp2
      go_round
      case rel => exact ⟨k + 1, nth zs (k + 1) :: l, by omega, by go_num, rfl, by simp [hl], rfl⟩
      case measure => simp [intOf]; omega
    · obtain rfl : k = m := by omega
      have n1 : ∀ W, Laid W → Calls Tryd.prog 12 #[chain a l] W fun ev w' => ev = .returned (.int .i64 a) ∧ Below W.heap.size W w' := fun W h => code_any (some l) a W h
      have n2 : ∀ W, Calls Tryd.prog 15 #[chain a l, .int .i64 a] W fun ev w' => ev = .returned (.bool true) ∧ Below W.heap.size W w' := fun W => (is_any (some l) a a W).mono fun e w' q => ⟨q.1.trans (by simp [isIn, ha]), q.2⟩
      have n3 : ∀ W, Laid W → Calls Tryd.prog 13 #[chain a l] W fun ev w' => ev = .returned (.int .i64 (nth zs k)) ∧ Below W.heap.size W w' := fun W h => (place_any (some l) a W h).mono fun e w' q => ⟨q.1.trans (by rw [HP.out]), q.2⟩
      have n4 : ∀ W, Calls Tryd.prog 14 #[chain a l] W fun ev w' => ev = .returned (.int .i64 ((k : Int) + 1)) ∧ Below W.heap.size W w' := fun W => (depth_any (some l) a W (by simp [left]; omega)).mono fun e w' q => ⟨q.1.trans (by simp [left, hl]), q.2⟩
      have HL : Hid (∀ W, St w W → W.cell? ⟨b, off + k, none⟩ = some (.int .i64 (nth zs k))) := fun W h => HC.out W h k (Nat.le_refl _)
      have hk0 := HL.out _ h4
      have b1 : (0 : Int) ≤ (k : Int) := by omega
      have b2 : (k : Int) < (k : Int) + 1 := by omega
      have b3 : IntKind.i64.wrap (k : Int) = k := by rw [IntKind.wrap_i64]; omega
      have b4 : IntKind.i64.wrap ((k : Int) + 1 - 1) = k := by rw [IntKind.wrap_i64]; omega
      generalize chain a l = x at *
      clear HC HP hl k0
      go_wp2_with fail
      go_region_held3 (fun W => St w W ∧ W.cell? ⟨b, off + k, none⟩ = some (.int .i64 (nth zs k))) (first | exact ⟨by assumption, by assumption⟩ | exact ⟨st_drew (by assumption), by assumption⟩ | go_keep) (first | (go_at_call 12; refine (n1 _ (laid_held (by assumption))).mono ?_; rintro ev wa ⟨rfl, hb⟩; have hs := step_held (by assumption) hb; have hcx := HL.out _ hs; clear hb) | (go_at_call 15; refine (n2 _).mono ?_; rintro ev wb ⟨rfl, hb⟩; have hs := step_held (by assumption) hb; have hcx := HL.out _ hs; clear hb) | (go_at_call 13; refine (n3 _ (laid_held (by assumption))).mono ?_; rintro ev wc ⟨rfl, hb⟩; have hs := step_held (by assumption) hb; have hcx := HL.out _ hs; clear hb) | (go_at_call 14; refine (n4 _).mono ?_; rintro ev wd ⟨rfl, hb⟩; have hs := step_held (by assumption) hb; have hcx := HL.out _ hs; clear hb))
      all_goals (go_wp2; go_ret; first | exact ⟨by simp, by assumption⟩ | exact ⟨by simp, And.left (by assumption)⟩)

set_option maxRecDepth 100000 in
set_option maxHeartbeats 1000000 in
theorem walk_one (a : Int) (b off : Nat) (zs : List Int) (w : World) (hL : Laid w) (ha : (a == 0) = false)
    (HL : Hid (∀ W, St w W → W.cell? ⟨b, off, none⟩ = some (.int .i64 (nth zs 0)))) :
    Calls Tryd.prog 3 #[.int .i64 a, .slice (some ⟨b, off, none⟩) 1 1] w fun ev w' => ev = .returned (.bool true) ∧ St w w' := by
  have z4 := z4 a
  have n1 : ∀ W, Laid W → Calls Tryd.prog 12 #[chain a [nth zs 0]] W fun ev w' => ev = .returned (.int .i64 a) ∧ Below W.heap.size W w' := fun W h => code_any (some [nth zs 0]) a W h
  have n2 : ∀ W, Calls Tryd.prog 15 #[chain a [nth zs 0], .int .i64 a] W fun ev w' => ev = .returned (.bool true) ∧ Below W.heap.size W w' := fun W => (is_any (some [nth zs 0]) a a W).mono fun e w' q => ⟨q.1.trans (by simp [isIn, ha]), q.2⟩
  have n3 : ∀ W, Laid W → Calls Tryd.prog 13 #[chain a [nth zs 0]] W fun ev w' => ev = .returned (.int .i64 (nth zs 0)) ∧ Below W.heap.size W w' := fun W h => place_any (some [nth zs 0]) a W h
  have n4 : ∀ W, Calls Tryd.prog 14 #[chain a [nth zs 0]] W fun ev w' => ev = .returned (.int .i64 1) ∧ Below W.heap.size W w' := fun W => depth_any (some [nth zs 0]) a W (by simp [left])
  have n0 : ∀ W, Calls Tryd.prog 10 #[.int .i64 a, .int .i64 (nth zs 0)] W fun ev w' => ev = .returned (chain a [nth zs 0]) ∧ W = w' := fun W => new_any a (nth zs 0) W ha
  generalize chain a [nth zs 0] = x at *
  go_enter Tryd.func3, Tryd.ntmps3
  go_wp2_with fail
  refine (tells_any _ hL).mono ?_
  rintro ev w0 ⟨rfl, h0⟩
  go_wp2_with fail
  refine ((fun W => new_ok 3 W) _).mono ?_
  rintro ev w' ⟨rfl, rfl⟩
  go_wp2_with fail
  refine ((fun W => wrap_nil 3 W) _).mono ?_
  rintro ev w' ⟨rfl, rfl⟩
  go_wp2_with fail
  refine (z1 _ h0.1).mono ?_
  rintro ev w1 ⟨rfl, hb⟩
  have h1 := h0.step hb
  clear hb h0
  go_wp2_with fail
  refine (z2 _ h1.1).mono ?_
  rintro ev w2 ⟨rfl, hb⟩
  have h2 := h1.step hb
  clear hb h1
  go_wp2_with fail
  refine (z3 _).mono ?_
  rintro ev w3 ⟨rfl, hb⟩
  have h3 := h2.step hb
  clear hb h2
  go_wp2_with fail
  refine (z4 _).mono ?_
  rintro ev w4 ⟨rfl, hb⟩
  have h4 := h3.step hb
  clear hb h3
  have k0 := HL.out _ h4
  have b3 : IntKind.i64.wrap (0 : Int) = 0 := by rw [IntKind.wrap_i64]; omega
  have b4 : IntKind.i64.wrap ((1 : Int) - 1) = 0 := by rw [IntKind.wrap_i64]; omega
  have b5 : (0 : Int) < 1 := by decide
  go_wp2_with fail
  refine (n0 _).mono ?_
  rintro ev w' ⟨rfl, rfl⟩
  go_wp2_with fail
  refine wp_loop_rounds 1 ?_
  rw [rounds_succ]
  go_wp2_with fail
  go_region_held3 (fun W => St w W ∧ W.cell? ⟨b, off, none⟩ = some (.int .i64 (nth zs 0))) (first | exact ⟨by assumption, by assumption⟩ | exact ⟨st_drew (by assumption), by assumption⟩ | go_keep) (first | (go_at_call 12; refine (n1 _ (laid_held (by assumption))).mono ?_; rintro ev wa ⟨rfl, hb⟩; have hs := step_held (by assumption) hb; have hcx := HL.out _ hs; clear hb) | (go_at_call 15; refine (n2 _).mono ?_; rintro ev wb ⟨rfl, hb⟩; have hs := step_held (by assumption) hb; have hcx := HL.out _ hs; clear hb) | (go_at_call 13; refine (n3 _ (laid_held (by assumption))).mono ?_; rintro ev wc ⟨rfl, hb⟩; have hs := step_held (by assumption) hb; have hcx := HL.out _ hs; clear hb) | (go_at_call 14; refine (n4 _).mono ?_; rintro ev wd ⟨rfl, hb⟩; have hs := step_held (by assumption) hb; have hcx := HL.out _ hs; clear hb))
  all_goals (go_wp2; go_ret; first | exact ⟨by simp, by assumption⟩ | exact ⟨by simp, And.left (by assumption)⟩)

/-- What is told of the list: its numbers lie there, in each world on the way. -/
theorem walk_all (a : Int) (ad : Option Addr) (n cap : Nat) (zs : List Int) (w : World) (hL : Laid w) (hn : n ≤ 9223372036854775807) (hcap : n ≤ cap) (hbig : cap ≤ 9223372036854775807)
    (H : n = 0 ∨ ∃ b off, ad = some ⟨b, off, none⟩ ∧ ∀ W, St w W → ∀ i : Nat, i < n → W.cell? ⟨b, off + i, none⟩ = some (.int .i64 (nth zs i))) :
    Calls Tryd.prog 3 #[.int .i64 a, .slice ad n cap] w fun ev w' => ev = .returned (.bool true) ∧ St w w' := by
  by_cases c : 50 < n
  · exact walk_long a ad n cap w hL c hn
  · by_cases d : a = 0 ∨ n = 0
    · exact walk_none a ad n cap w hL (by omega) d
    · have ha : (a == 0) = false := by simp; omega
      rcases H with h0 | ⟨b, off, rfl, HC⟩
      · omega
      · obtain ⟨m, rfl⟩ : ∃ m, n = m + 1 := ⟨n - 1, by omega⟩
        by_cases e : cap = 1
        · subst e
          obtain rfl : m = 0 := by omega
          exact walk_one a b off zs w hL ha (fun W h => HC W h 0 (by omega))
        · exact walk_in a b off cap m zs w hL ha (by omega) hcap hbig (fun W h i hi => HC W h i (by omega)) e

end Go.Proofs.YtamdonhmholjpaaDoor.faultWraps
