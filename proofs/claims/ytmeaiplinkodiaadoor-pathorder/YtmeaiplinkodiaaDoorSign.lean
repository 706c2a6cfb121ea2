/-
  Contract: the document's sign: how many bytes the sign at a place has.
-/
import Derived.Test.YtmeaiplinkodiaaDoorStr
namespace Go.Proofs.YtmeaiplinkodiaaDoor
open Go.RowKit
open Go.Lib hiding intOf
set_option linter.unusedVariables false
set_option linter.unusedSimpArgs false

/-- is a byte behind the first one in its range? -/
def rng (lo hi j y : Nat) : Prop := (if j = 1 then lo else 128) ≤ y ∧ y ≤ (if j = 1 then hi else 191)
instance (lo hi j y : Nat) : Decidable (rng lo hi j y) := by unfold rng; infer_instance

open Classical in
/-- how many bytes the sign at a place has, by its class -/
noncomputable def sgk (s : ByteArray) (i k lo hi : Nat) : Int := if i + k ≤ s.size ∧ ∀ j, 1 ≤ j → j < k → rng lo hi j (s.data.toList.getD (i + j) 0).toNat then k else 0

theorem at_get (s : ByteArray) (k : Nat) (h : k < s.size) : s.data.toList.getD k 0 = s[k]'h := by
  rw [List.getD_eq_getElem?_getD, Lib.data_getElem? s k h]; rfl

set_option maxRecDepth 20000 in
set_option maxHeartbeats 2000000 in
theorem sign_c2 (s : ByteArray) (i : Nat) (hi : i < s.size) (hs : s.size ≤ 5000) (w : World) (h1 : 194 ≤ (s[i]'hi).toNat) (h2 : (s[i]'hi).toNat ≤ 223) :
    Calls Tryd.prog 34 #[.string s, .int .i64 i] w fun e w' => e = .returned (.int .i64 (sgk s i 2 128 191)) ∧ w' = w := by
  obtain ⟨x, hx⟩ : ∃ x : UInt8, s[i]'hi = x := ⟨_, rfl⟩
  rw [hx] at h1 h2
  obtain ⟨b, hb⟩ : ∃ b : Nat, x.toNat = b := ⟨_, rfl⟩
  rw [hb] at h1 h2
  have k1 : decide ((b : Int) < 128) = false := decide_eq_false (by omega)
  have m1 : ¬ ((b : Int) < 128) := by omega
  have k2 : decide (194 ≤ (b : Int)) = true := decide_eq_true (by omega)
  have m2 : (194 ≤ (b : Int)) := by omega
  have k3 : decide ((b : Int) ≤ 223) = true := decide_eq_true (by omega)
  have m3 : ((b : Int) ≤ 223) := by omega
  have k4 : decide (224 ≤ (b : Int)) = false := decide_eq_false (by omega)
  have m4 : ¬ (224 ≤ (b : Int)) := by omega
  have k5 : decide ((b : Int) ≤ 239) = true := decide_eq_true (by omega)
  have m5 : ((b : Int) ≤ 239) := by omega
  have k6 : decide (240 ≤ (b : Int)) = false := decide_eq_false (by omega)
  have m6 : ¬ (240 ≤ (b : Int)) := by omega
  have k7 : decide ((b : Int) ≤ 244) = true := decide_eq_true (by omega)
  have m7 : ((b : Int) ≤ 244) := by omega
  have k8 : ((b : Int) == 224) = false := by exact beq_eq_false_iff_ne.2 (by omega)
  have m8 : ¬ (b : Int) = 224 := by omega
  have k9 : ((b : Int) == 237) = false := by exact beq_eq_false_iff_ne.2 (by omega)
  have m9 : ¬ (b : Int) = 237 := by omega
  have k10 : ((b : Int) == 240) = false := by exact beq_eq_false_iff_ne.2 (by omega)
  have m10 : ¬ (b : Int) = 240 := by omega
  have k11 : ((b : Int) == 244) = false := by exact beq_eq_false_iff_ne.2 (by omega)
  have m11 : ¬ (b : Int) = 244 := by omega
  by_cases hfit : i + 2 ≤ s.size
  · have hfz : ¬ ((s.size : Int) < (i : Int) + 2) := by omega
    have hfd : decide ((s.size : Int) < (i : Int) + 2) = false := decide_eq_false hfz
    have HK : Hid ((∀ j, 1 ≤ j → j < 2 → rng 128 191 j (s.data.toList.getD (i + j) 0).toNat) → sgk s i 2 128 191 = 2) := hid (fun h => by unfold sgk; rw [if_pos ⟨hfit, h⟩]; rfl)
    have HK0 : Hid (¬ (∀ j, 1 ≤ j → j < 2 → rng 128 191 j (s.data.toList.getD (i + j) 0).toNat) → sgk s i 2 128 191 = 0) := hid (fun h => by unfold sgk; rw [if_neg fun c => h c.2])
    go_enter Tryd.func34, Tryd.ntmps34
    go_wp2_with fail
    go_loop [7, 8, 9] (fun t7 t8 t9 => ∃ (j : Nat) (L H : Int), 1 ≤ j ∧ j ≤ 2 ∧ t9 = .int .i64 j ∧ t7 = .int .i64 L ∧ t8 = .int .i64 H ∧ Hid (L = ((if j = 1 then 128 else 128 : Nat) : Int) ∧ H = ((if j = 1 then 191 else 191 : Nat) : Int)) ∧ Hid (∀ j', 1 ≤ j' → j' < j → rng 128 191 j' (s.data.toList.getD (i + j') 0).toNat)) (fun _ _ t => 2 - (RowKit.intOf t).toNat)
    case atStart => exact ⟨1, 128, 191, by omega, by omega, rfl, rfl, rfl, ⟨rfl, rfl⟩, fun j' a c => by omega⟩
    case round =>
      obtain ⟨j, L, H, hj1, hj2, rfl, rfl, rfl, HLH, HR⟩ := hrel
      by_cases hlt : j < 2
      · have hij : i + j < s.size := by omega
        obtain ⟨y, hy⟩ : ∃ y : UInt8, s[i + j]'hij = y := ⟨_, rfl⟩
        have hg : s.data.toList.getD (i + j) 0 = y := by rw [at_get s _ hij, hy]
        have hyb := y.toNat_lt
        by_cases hr : rng 128 191 j y.toNat
        · have HR2 : Hid (∀ j', 1 ≤ j' → j' < j + 1 → rng 128 191 j' (s.data.toList.getD (i + j') 0).toNat) := hid (fun j' a c => by
            by_cases e : j' = j
            · subst e; rw [hg]; exact hr
            · exact HR.out j' a (by omega))
          have g1 : decide ((y.toNat : Int) < L) = false := decide_eq_false (by rw [HLH.out.1]; have := hr.1; omega)
          have g2 : decide (H < (y.toNat : Int)) = false := decide_eq_false (by rw [HLH.out.2]; have := hr.2; omega)
          clear hg hr
          go_wp2_with fail
          go_round
          case rel => exact ⟨j + 1, 128, 191, by omega, by omega, by simp, rfl, rfl, ⟨by rw [if_neg (by omega)]; rfl, by rw [if_neg (by omega)]; rfl⟩, HR2⟩
          case measure => simp [RowKit.intOf]; omega
        · have HF : Hid (sgk s i 2 128 191 = 0) := hid (HK0.out fun h => hr (by have := h j hj1 hlt; rwa [hg] at this))
          by_cases g1 : (y.toNat : Int) < L
          · have g1' : decide ((y.toNat : Int) < L) = true := decide_eq_true g1
            clear hg hr
            go_wp2_with fail
            go_ret
            exact ⟨by rw [HF.out]; rfl, rfl⟩
          · have g1' : decide ((y.toNat : Int) < L) = false := decide_eq_false g1
            have g2 : H < (y.toNat : Int) := by
              rw [HLH.out.2]
              rw [HLH.out.1] at g1
              have : ¬ (y.toNat ≤ (if j = 1 then 191 else 191)) := fun e => hr ⟨by omega, e⟩
              omega
            have g2' : decide (H < (y.toNat : Int)) = true := decide_eq_true g2
            clear hg hr
            go_wp2_with fail
            go_ret
            exact ⟨by rw [HF.out]; rfl, rfl⟩
      · obtain rfl : j = 2 := by omega
        have HF : Hid (sgk s i 2 128 191 = 2) := hid (HK.out HR.out)
        go_wp2_with fail
        go_ret
        exact ⟨by rw [HF.out]; rfl, rfl⟩
  · have hfz : (s.size : Int) < (i : Int) + 2 := by omega
    have hfd : decide ((s.size : Int) < (i : Int) + 2) = true := decide_eq_true hfz
    have HF : Hid (sgk s i 2 128 191 = 0) := hid (by unfold sgk; rw [if_neg (fun h => hfit h.1)])
    go_enter Tryd.func34, Tryd.ntmps34
    go_wp2_with fail
    go_ret
    exact ⟨by rw [HF.out]; rfl, rfl⟩

set_option maxRecDepth 20000 in
set_option maxHeartbeats 2000000 in
theorem sign_e0 (s : ByteArray) (i : Nat) (hi : i < s.size) (hs : s.size ≤ 5000) (w : World) (h1 : 224 ≤ (s[i]'hi).toNat) (h2 : (s[i]'hi).toNat ≤ 224) :
    Calls Tryd.prog 34 #[.string s, .int .i64 i] w fun e w' => e = .returned (.int .i64 (sgk s i 3 160 191)) ∧ w' = w := by
  obtain ⟨x, hx⟩ : ∃ x : UInt8, s[i]'hi = x := ⟨_, rfl⟩
  rw [hx] at h1 h2
  obtain ⟨b, hb⟩ : ∃ b : Nat, x.toNat = b := ⟨_, rfl⟩
  rw [hb] at h1 h2
  have k1 : decide ((b : Int) < 128) = false := decide_eq_false (by omega)
  have m1 : ¬ ((b : Int) < 128) := by omega
  have k2 : decide (194 ≤ (b : Int)) = true := decide_eq_true (by omega)
  have m2 : (194 ≤ (b : Int)) := by omega
  have k3 : decide ((b : Int) ≤ 223) = false := decide_eq_false (by omega)
  have m3 : ¬ ((b : Int) ≤ 223) := by omega
  have k4 : decide (224 ≤ (b : Int)) = true := decide_eq_true (by omega)
  have m4 : (224 ≤ (b : Int)) := by omega
  have k5 : decide ((b : Int) ≤ 239) = true := decide_eq_true (by omega)
  have m5 : ((b : Int) ≤ 239) := by omega
  have k6 : decide (240 ≤ (b : Int)) = false := decide_eq_false (by omega)
  have m6 : ¬ (240 ≤ (b : Int)) := by omega
  have k7 : decide ((b : Int) ≤ 244) = true := decide_eq_true (by omega)
  have m7 : ((b : Int) ≤ 244) := by omega
  have k8 : ((b : Int) == 224) = true := by exact beq_iff_eq.2 (by omega)
  have k9 : ((b : Int) == 237) = false := by exact beq_eq_false_iff_ne.2 (by omega)
  have m9 : ¬ (b : Int) = 237 := by omega
  have k10 : ((b : Int) == 240) = false := by exact beq_eq_false_iff_ne.2 (by omega)
  have m10 : ¬ (b : Int) = 240 := by omega
  have k11 : ((b : Int) == 244) = false := by exact beq_eq_false_iff_ne.2 (by omega)
  have m11 : ¬ (b : Int) = 244 := by omega
  by_cases hfit : i + 3 ≤ s.size
  · have hfz : ¬ ((s.size : Int) < (i : Int) + 3) := by omega
    have hfd : decide ((s.size : Int) < (i : Int) + 3) = false := decide_eq_false hfz
    have HK : Hid ((∀ j, 1 ≤ j → j < 3 → rng 160 191 j (s.data.toList.getD (i + j) 0).toNat) → sgk s i 3 160 191 = 3) := hid (fun h => by unfold sgk; rw [if_pos ⟨hfit, h⟩]; rfl)
    have HK0 : Hid (¬ (∀ j, 1 ≤ j → j < 3 → rng 160 191 j (s.data.toList.getD (i + j) 0).toNat) → sgk s i 3 160 191 = 0) := hid (fun h => by unfold sgk; rw [if_neg fun c => h c.2])
    go_enter Tryd.func34, Tryd.ntmps34
    go_wp2_with fail
    go_loop [7, 8, 9] (fun t7 t8 t9 => ∃ (j : Nat) (L H : Int), 1 ≤ j ∧ j ≤ 3 ∧ t9 = .int .i64 j ∧ t7 = .int .i64 L ∧ t8 = .int .i64 H ∧ Hid (L = ((if j = 1 then 160 else 128 : Nat) : Int) ∧ H = ((if j = 1 then 191 else 191 : Nat) : Int)) ∧ Hid (∀ j', 1 ≤ j' → j' < j → rng 160 191 j' (s.data.toList.getD (i + j') 0).toNat)) (fun _ _ t => 3 - (RowKit.intOf t).toNat)
    case atStart => exact ⟨1, 160, 191, by omega, by omega, rfl, rfl, rfl, ⟨rfl, rfl⟩, fun j' a c => by omega⟩
    case round =>
      obtain ⟨j, L, H, hj1, hj2, rfl, rfl, rfl, HLH, HR⟩ := hrel
      by_cases hlt : j < 3
      · have hij : i + j < s.size := by omega
        obtain ⟨y, hy⟩ : ∃ y : UInt8, s[i + j]'hij = y := ⟨_, rfl⟩
        have hg : s.data.toList.getD (i + j) 0 = y := by rw [at_get s _ hij, hy]
        have hyb := y.toNat_lt
        by_cases hr : rng 160 191 j y.toNat
        · have HR2 : Hid (∀ j', 1 ≤ j' → j' < j + 1 → rng 160 191 j' (s.data.toList.getD (i + j') 0).toNat) := hid (fun j' a c => by
            by_cases e : j' = j
            · subst e; rw [hg]; exact hr
            · exact HR.out j' a (by omega))
          have g1 : decide ((y.toNat : Int) < L) = false := decide_eq_false (by rw [HLH.out.1]; have := hr.1; omega)
          have g2 : decide (H < (y.toNat : Int)) = false := decide_eq_false (by rw [HLH.out.2]; have := hr.2; omega)
          clear hg hr
          go_wp2_with fail
          go_round
          case rel => exact ⟨j + 1, 128, 191, by omega, by omega, by simp, rfl, rfl, ⟨by rw [if_neg (by omega)]; rfl, by rw [if_neg (by omega)]; rfl⟩, HR2⟩
          case measure => simp [RowKit.intOf]; omega
        · have HF : Hid (sgk s i 3 160 191 = 0) := hid (HK0.out fun h => hr (by have := h j hj1 hlt; rwa [hg] at this))
          by_cases g1 : (y.toNat : Int) < L
          · have g1' : decide ((y.toNat : Int) < L) = true := decide_eq_true g1
            clear hg hr
            go_wp2_with fail
            go_ret
            exact ⟨by rw [HF.out]; rfl, rfl⟩
          · have g1' : decide ((y.toNat : Int) < L) = false := decide_eq_false g1
            have g2 : H < (y.toNat : Int) := by
              rw [HLH.out.2]
              rw [HLH.out.1] at g1
              have : ¬ (y.toNat ≤ (if j = 1 then 191 else 191)) := fun e => hr ⟨by omega, e⟩
              omega
            have g2' : decide (H < (y.toNat : Int)) = true := decide_eq_true g2
            clear hg hr
            go_wp2_with fail
            go_ret
            exact ⟨by rw [HF.out]; rfl, rfl⟩
      · obtain rfl : j = 3 := by omega
        have HF : Hid (sgk s i 3 160 191 = 3) := hid (HK.out HR.out)
        go_wp2_with fail
        go_ret
        exact ⟨by rw [HF.out]; rfl, rfl⟩
  · have hfz : (s.size : Int) < (i : Int) + 3 := by omega
    have hfd : decide ((s.size : Int) < (i : Int) + 3) = true := decide_eq_true hfz
    have HF : Hid (sgk s i 3 160 191 = 0) := hid (by unfold sgk; rw [if_neg (fun h => hfit h.1)])
    go_enter Tryd.func34, Tryd.ntmps34
    go_wp2_with fail
    go_ret
    exact ⟨by rw [HF.out]; rfl, rfl⟩

set_option maxRecDepth 20000 in
set_option maxHeartbeats 2000000 in
theorem sign_e1 (s : ByteArray) (i : Nat) (hi : i < s.size) (hs : s.size ≤ 5000) (w : World) (h1 : 225 ≤ (s[i]'hi).toNat) (h2 : (s[i]'hi).toNat ≤ 236) :
    Calls Tryd.prog 34 #[.string s, .int .i64 i] w fun e w' => e = .returned (.int .i64 (sgk s i 3 128 191)) ∧ w' = w := by
  obtain ⟨x, hx⟩ : ∃ x : UInt8, s[i]'hi = x := ⟨_, rfl⟩
  rw [hx] at h1 h2
  obtain ⟨b, hb⟩ : ∃ b : Nat, x.toNat = b := ⟨_, rfl⟩
  rw [hb] at h1 h2
  have k1 : decide ((b : Int) < 128) = false := decide_eq_false (by omega)
  have m1 : ¬ ((b : Int) < 128) := by omega
  have k2 : decide (194 ≤ (b : Int)) = true := decide_eq_true (by omega)
  have m2 : (194 ≤ (b : Int)) := by omega
  have k3 : decide ((b : Int) ≤ 223) = false := decide_eq_false (by omega)
  have m3 : ¬ ((b : Int) ≤ 223) := by omega
  have k4 : decide (224 ≤ (b : Int)) = true := decide_eq_true (by omega)
  have m4 : (224 ≤ (b : Int)) := by omega
  have k5 : decide ((b : Int) ≤ 239) = true := decide_eq_true (by omega)
  have m5 : ((b : Int) ≤ 239) := by omega
  have k6 : decide (240 ≤ (b : Int)) = false := decide_eq_false (by omega)
  have m6 : ¬ (240 ≤ (b : Int)) := by omega
  have k7 : decide ((b : Int) ≤ 244) = true := decide_eq_true (by omega)
  have m7 : ((b : Int) ≤ 244) := by omega
  have k8 : ((b : Int) == 224) = false := by exact beq_eq_false_iff_ne.2 (by omega)
  have m8 : ¬ (b : Int) = 224 := by omega
  have k9 : ((b : Int) == 237) = false := by exact beq_eq_false_iff_ne.2 (by omega)
  have m9 : ¬ (b : Int) = 237 := by omega
  have k10 : ((b : Int) == 240) = false := by exact beq_eq_false_iff_ne.2 (by omega)
  have m10 : ¬ (b : Int) = 240 := by omega
  have k11 : ((b : Int) == 244) = false := by exact beq_eq_false_iff_ne.2 (by omega)
  have m11 : ¬ (b : Int) = 244 := by omega
  by_cases hfit : i + 3 ≤ s.size
  · have hfz : ¬ ((s.size : Int) < (i : Int) + 3) := by omega
    have hfd : decide ((s.size : Int) < (i : Int) + 3) = false := decide_eq_false hfz
    have HK : Hid ((∀ j, 1 ≤ j → j < 3 → rng 128 191 j (s.data.toList.getD (i + j) 0).toNat) → sgk s i 3 128 191 = 3) := hid (fun h => by unfold sgk; rw [if_pos ⟨hfit, h⟩]; rfl)
    have HK0 : Hid (¬ (∀ j, 1 ≤ j → j < 3 → rng 128 191 j (s.data.toList.getD (i + j) 0).toNat) → sgk s i 3 128 191 = 0) := hid (fun h => by unfold sgk; rw [if_neg fun c => h c.2])
    go_enter Tryd.func34, Tryd.ntmps34
    go_wp2_with fail
    go_loop [7, 8, 9] (fun t7 t8 t9 => ∃ (j : Nat) (L H : Int), 1 ≤ j ∧ j ≤ 3 ∧ t9 = .int .i64 j ∧ t7 = .int .i64 L ∧ t8 = .int .i64 H ∧ Hid (L = ((if j = 1 then 128 else 128 : Nat) : Int) ∧ H = ((if j = 1 then 191 else 191 : Nat) : Int)) ∧ Hid (∀ j', 1 ≤ j' → j' < j → rng 128 191 j' (s.data.toList.getD (i + j') 0).toNat)) (fun _ _ t => 3 - (RowKit.intOf t).toNat)
    case atStart => exact ⟨1, 128, 191, by omega, by omega, rfl, rfl, rfl, ⟨rfl, rfl⟩, fun j' a c => by omega⟩
    case round =>
      obtain ⟨j, L, H, hj1, hj2, rfl, rfl, rfl, HLH, HR⟩ := hrel
      by_cases hlt : j < 3
      · have hij : i + j < s.size := by omega
        obtain ⟨y, hy⟩ : ∃ y : UInt8, s[i + j]'hij = y := ⟨_, rfl⟩
        have hg : s.data.toList.getD (i + j) 0 = y := by rw [at_get s _ hij, hy]
        have hyb := y.toNat_lt
        by_cases hr : rng 128 191 j y.toNat
        · have HR2 : Hid (∀ j', 1 ≤ j' → j' < j + 1 → rng 128 191 j' (s.data.toList.getD (i + j') 0).toNat) := hid (fun j' a c => by
            by_cases e : j' = j
            · subst e; rw [hg]; exact hr
            · exact HR.out j' a (by omega))
          have g1 : decide ((y.toNat : Int) < L) = false := decide_eq_false (by rw [HLH.out.1]; have := hr.1; omega)
          have g2 : decide (H < (y.toNat : Int)) = false := decide_eq_false (by rw [HLH.out.2]; have := hr.2; omega)
          clear hg hr
          go_wp2_with fail
          go_round
          case rel => exact ⟨j + 1, 128, 191, by omega, by omega, by simp, rfl, rfl, ⟨by rw [if_neg (by omega)]; rfl, by rw [if_neg (by omega)]; rfl⟩, HR2⟩
          case measure => simp [RowKit.intOf]; omega
        · have HF : Hid (sgk s i 3 128 191 = 0) := hid (HK0.out fun h => hr (by have := h j hj1 hlt; rwa [hg] at this))
          by_cases g1 : (y.toNat : Int) < L
          · have g1' : decide ((y.toNat : Int) < L) = true := decide_eq_true g1
            clear hg hr
            go_wp2_with fail
            go_ret
            exact ⟨by rw [HF.out]; rfl, rfl⟩
          · have g1' : decide ((y.toNat : Int) < L) = false := decide_eq_false g1
            have g2 : H < (y.toNat : Int) := by
              rw [HLH.out.2]
              rw [HLH.out.1] at g1
              have : ¬ (y.toNat ≤ (if j = 1 then 191 else 191)) := fun e => hr ⟨by omega, e⟩
              omega
            have g2' : decide (H < (y.toNat : Int)) = true := decide_eq_true g2
            clear hg hr
            go_wp2_with fail
            go_ret
            exact ⟨by rw [HF.out]; rfl, rfl⟩
      · obtain rfl : j = 3 := by omega
        have HF : Hid (sgk s i 3 128 191 = 3) := hid (HK.out HR.out)
        go_wp2_with fail
        go_ret
        exact ⟨by rw [HF.out]; rfl, rfl⟩
  · have hfz : (s.size : Int) < (i : Int) + 3 := by omega
    have hfd : decide ((s.size : Int) < (i : Int) + 3) = true := decide_eq_true hfz
    have HF : Hid (sgk s i 3 128 191 = 0) := hid (by unfold sgk; rw [if_neg (fun h => hfit h.1)])
    go_enter Tryd.func34, Tryd.ntmps34
    go_wp2_with fail
    go_ret
    exact ⟨by rw [HF.out]; rfl, rfl⟩

set_option maxRecDepth 20000 in
set_option maxHeartbeats 2000000 in
theorem sign_ed (s : ByteArray) (i : Nat) (hi : i < s.size) (hs : s.size ≤ 5000) (w : World) (h1 : 237 ≤ (s[i]'hi).toNat) (h2 : (s[i]'hi).toNat ≤ 237) :
    Calls Tryd.prog 34 #[.string s, .int .i64 i] w fun e w' => e = .returned (.int .i64 (sgk s i 3 128 159)) ∧ w' = w := by
  obtain ⟨x, hx⟩ : ∃ x : UInt8, s[i]'hi = x := ⟨_, rfl⟩
  rw [hx] at h1 h2
  obtain ⟨b, hb⟩ : ∃ b : Nat, x.toNat = b := ⟨_, rfl⟩
  rw [hb] at h1 h2
  have k1 : decide ((b : Int) < 128) = false := decide_eq_false (by omega)
  have m1 : ¬ ((b : Int) < 128) := by omega
  have k2 : decide (194 ≤ (b : Int)) = true := decide_eq_true (by omega)
  have m2 : (194 ≤ (b : Int)) := by omega
  have k3 : decide ((b : Int) ≤ 223) = false := decide_eq_false (by omega)
  have m3 : ¬ ((b : Int) ≤ 223) := by omega
  have k4 : decide (224 ≤ (b : Int)) = true := decide_eq_true (by omega)
  have m4 : (224 ≤ (b : Int)) := by omega
  have k5 : decide ((b : Int) ≤ 239) = true := decide_eq_true (by omega)
  have m5 : ((b : Int) ≤ 239) := by omega
  have k6 : decide (240 ≤ (b : Int)) = false := decide_eq_false (by omega)
  have m6 : ¬ (240 ≤ (b : Int)) := by omega
  have k7 : decide ((b : Int) ≤ 244) = true := decide_eq_true (by omega)
  have m7 : ((b : Int) ≤ 244) := by omega
  have k8 : ((b : Int) == 224) = false := by exact beq_eq_false_iff_ne.2 (by omega)
  have m8 : ¬ (b : Int) = 224 := by omega
  have k9 : ((b : Int) == 237) = true := by exact beq_iff_eq.2 (by omega)
  have k10 : ((b : Int) == 240) = false := by exact beq_eq_false_iff_ne.2 (by omega)
  have m10 : ¬ (b : Int) = 240 := by omega
  have k11 : ((b : Int) == 244) = false := by exact beq_eq_false_iff_ne.2 (by omega)
  have m11 : ¬ (b : Int) = 244 := by omega
  by_cases hfit : i + 3 ≤ s.size
  · have hfz : ¬ ((s.size : Int) < (i : Int) + 3) := by omega
    have hfd : decide ((s.size : Int) < (i : Int) + 3) = false := decide_eq_false hfz
    have HK : Hid ((∀ j, 1 ≤ j → j < 3 → rng 128 159 j (s.data.toList.getD (i + j) 0).toNat) → sgk s i 3 128 159 = 3) := hid (fun h => by unfold sgk; rw [if_pos ⟨hfit, h⟩]; rfl)
    have HK0 : Hid (¬ (∀ j, 1 ≤ j → j < 3 → rng 128 159 j (s.data.toList.getD (i + j) 0).toNat) → sgk s i 3 128 159 = 0) := hid (fun h => by unfold sgk; rw [if_neg fun c => h c.2])
    go_enter Tryd.func34, Tryd.ntmps34
    go_wp2_with fail
    go_loop [7, 8, 9] (fun t7 t8 t9 => ∃ (j : Nat) (L H : Int), 1 ≤ j ∧ j ≤ 3 ∧ t9 = .int .i64 j ∧ t7 = .int .i64 L ∧ t8 = .int .i64 H ∧ Hid (L = ((if j = 1 then 128 else 128 : Nat) : Int) ∧ H = ((if j = 1 then 159 else 191 : Nat) : Int)) ∧ Hid (∀ j', 1 ≤ j' → j' < j → rng 128 159 j' (s.data.toList.getD (i + j') 0).toNat)) (fun _ _ t => 3 - (RowKit.intOf t).toNat)
    case atStart => exact ⟨1, 128, 159, by omega, by omega, rfl, rfl, rfl, ⟨rfl, rfl⟩, fun j' a c => by omega⟩
    case round =>
      obtain ⟨j, L, H, hj1, hj2, rfl, rfl, rfl, HLH, HR⟩ := hrel
      by_cases hlt : j < 3
      · have hij : i + j < s.size := by omega
        obtain ⟨y, hy⟩ : ∃ y : UInt8, s[i + j]'hij = y := ⟨_, rfl⟩
        have hg : s.data.toList.getD (i + j) 0 = y := by rw [at_get s _ hij, hy]
        have hyb := y.toNat_lt
        by_cases hr : rng 128 159 j y.toNat
        · have HR2 : Hid (∀ j', 1 ≤ j' → j' < j + 1 → rng 128 159 j' (s.data.toList.getD (i + j') 0).toNat) := hid (fun j' a c => by
            by_cases e : j' = j
            · subst e; rw [hg]; exact hr
            · exact HR.out j' a (by omega))
          have g1 : decide ((y.toNat : Int) < L) = false := decide_eq_false (by rw [HLH.out.1]; have := hr.1; omega)
          have g2 : decide (H < (y.toNat : Int)) = false := decide_eq_false (by rw [HLH.out.2]; have := hr.2; omega)
          clear hg hr
          go_wp2_with fail
          go_round
          case rel => exact ⟨j + 1, 128, 191, by omega, by omega, by simp, rfl, rfl, ⟨by rw [if_neg (by omega)]; rfl, by rw [if_neg (by omega)]; rfl⟩, HR2⟩
          case measure => simp [RowKit.intOf]; omega
        · have HF : Hid (sgk s i 3 128 159 = 0) := hid (HK0.out fun h => hr (by have := h j hj1 hlt; rwa [hg] at this))
          by_cases g1 : (y.toNat : Int) < L
          · have g1' : decide ((y.toNat : Int) < L) = true := decide_eq_true g1
            clear hg hr
            go_wp2_with fail
            go_ret
            exact ⟨by rw [HF.out]; rfl, rfl⟩
          · have g1' : decide ((y.toNat : Int) < L) = false := decide_eq_false g1
            have g2 : H < (y.toNat : Int) := by
              rw [HLH.out.2]
              rw [HLH.out.1] at g1
              have : ¬ (y.toNat ≤ (if j = 1 then 159 else 191)) := fun e => hr ⟨by omega, e⟩
              omega
            have g2' : decide (H < (y.toNat : Int)) = true := decide_eq_true g2
            clear hg hr
            go_wp2_with fail
            go_ret
            exact ⟨by rw [HF.out]; rfl, rfl⟩
      · obtain rfl : j = 3 := by omega
        have HF : Hid (sgk s i 3 128 159 = 3) := hid (HK.out HR.out)
        go_wp2_with fail
        go_ret
        exact ⟨by rw [HF.out]; rfl, rfl⟩
  · have hfz : (s.size : Int) < (i : Int) + 3 := by omega
    have hfd : decide ((s.size : Int) < (i : Int) + 3) = true := decide_eq_true hfz
    have HF : Hid (sgk s i 3 128 159 = 0) := hid (by unfold sgk; rw [if_neg (fun h => hfit h.1)])
    go_enter Tryd.func34, Tryd.ntmps34
    go_wp2_with fail
    go_ret
    exact ⟨by rw [HF.out]; rfl, rfl⟩

set_option maxRecDepth 20000 in
set_option maxHeartbeats 2000000 in
theorem sign_ee (s : ByteArray) (i : Nat) (hi : i < s.size) (hs : s.size ≤ 5000) (w : World) (h1 : 238 ≤ (s[i]'hi).toNat) (h2 : (s[i]'hi).toNat ≤ 239) :
    Calls Tryd.prog 34 #[.string s, .int .i64 i] w fun e w' => e = .returned (.int .i64 (sgk s i 3 128 191)) ∧ w' = w := by
  obtain ⟨x, hx⟩ : ∃ x : UInt8, s[i]'hi = x := ⟨_, rfl⟩
  rw [hx] at h1 h2
  obtain ⟨b, hb⟩ : ∃ b : Nat, x.toNat = b := ⟨_, rfl⟩
  rw [hb] at h1 h2
  have k1 : decide ((b : Int) < 128) = false := decide_eq_false (by omega)
  have m1 : ¬ ((b : Int) < 128) := by omega
  have k2 : decide (194 ≤ (b : Int)) = true := decide_eq_true (by omega)
  have m2 : (194 ≤ (b : Int)) := by omega
  have k3 : decide ((b : Int) ≤ 223) = false := decide_eq_false (by omega)
  have m3 : ¬ ((b : Int) ≤ 223) := by omega
  have k4 : decide (224 ≤ (b : Int)) = true := decide_eq_true (by omega)
  have m4 : (224 ≤ (b : Int)) := by omega
  have k5 : decide ((b : Int) ≤ 239) = true := decide_eq_true (by omega)
  have m5 : ((b : Int) ≤ 239) := by omega
  have k6 : decide (240 ≤ (b : Int)) = false := decide_eq_false (by omega)
  have m6 : ¬ (240 ≤ (b : Int)) := by omega
  have k7 : decide ((b : Int) ≤ 244) = true := decide_eq_true (by omega)
  have m7 : ((b : Int) ≤ 244) := by omega
  have k8 : ((b : Int) == 224) = false := by exact beq_eq_false_iff_ne.2 (by omega)
  have m8 : ¬ (b : Int) = 224 := by omega
  have k9 : ((b : Int) == 237) = false := by exact beq_eq_false_iff_ne.2 (by omega)
  have m9 : ¬ (b : Int) = 237 := by omega
  have k10 : ((b : Int) == 240) = false := by exact beq_eq_false_iff_ne.2 (by omega)
  have m10 : ¬ (b : Int) = 240 := by omega
  have k11 : ((b : Int) == 244) = false := by exact beq_eq_false_iff_ne.2 (by omega)
  have m11 : ¬ (b : Int) = 244 := by omega
  by_cases hfit : i + 3 ≤ s.size
  · have hfz : ¬ ((s.size : Int) < (i : Int) + 3) := by omega
    have hfd : decide ((s.size : Int) < (i : Int) + 3) = false := decide_eq_false hfz
    have HK : Hid ((∀ j, 1 ≤ j → j < 3 → rng 128 191 j (s.data.toList.getD (i + j) 0).toNat) → sgk s i 3 128 191 = 3) := hid (fun h => by unfold sgk; rw [if_pos ⟨hfit, h⟩]; rfl)
    have HK0 : Hid (¬ (∀ j, 1 ≤ j → j < 3 → rng 128 191 j (s.data.toList.getD (i + j) 0).toNat) → sgk s i 3 128 191 = 0) := hid (fun h => by unfold sgk; rw [if_neg fun c => h c.2])
    go_enter Tryd.func34, Tryd.ntmps34
    go_wp2_with fail
    go_loop [7, 8, 9] (fun t7 t8 t9 => ∃ (j : Nat) (L H : Int), 1 ≤ j ∧ j ≤ 3 ∧ t9 = .int .i64 j ∧ t7 = .int .i64 L ∧ t8 = .int .i64 H ∧ Hid (L = ((if j = 1 then 128 else 128 : Nat) : Int) ∧ H = ((if j = 1 then 191 else 191 : Nat) : Int)) ∧ Hid (∀ j', 1 ≤ j' → j' < j → rng 128 191 j' (s.data.toList.getD (i + j') 0).toNat)) (fun _ _ t => 3 - (RowKit.intOf t).toNat)
    case atStart => exact ⟨1, 128, 191, by omega, by omega, rfl, rfl, rfl, ⟨rfl, rfl⟩, fun j' a c => by omega⟩
    case round =>
      obtain ⟨j, L, H, hj1, hj2, rfl, rfl, rfl, HLH, HR⟩ := hrel
      by_cases hlt : j < 3
      · have hij : i + j < s.size := by omega
        obtain ⟨y, hy⟩ : ∃ y : UInt8, s[i + j]'hij = y := ⟨_, rfl⟩
        have hg : s.data.toList.getD (i + j) 0 = y := by rw [at_get s _ hij, hy]
        have hyb := y.toNat_lt
        by_cases hr : rng 128 191 j y.toNat
        · have HR2 : Hid (∀ j', 1 ≤ j' → j' < j + 1 → rng 128 191 j' (s.data.toList.getD (i + j') 0).toNat) := hid (fun j' a c => by
            by_cases e : j' = j
            · subst e; rw [hg]; exact hr
            · exact HR.out j' a (by omega))
          have g1 : decide ((y.toNat : Int) < L) = false := decide_eq_false (by rw [HLH.out.1]; have := hr.1; omega)
          have g2 : decide (H < (y.toNat : Int)) = false := decide_eq_false (by rw [HLH.out.2]; have := hr.2; omega)
          clear hg hr
          go_wp2_with fail
          go_round
          case rel => exact ⟨j + 1, 128, 191, by omega, by omega, by simp, rfl, rfl, ⟨by rw [if_neg (by omega)]; rfl, by rw [if_neg (by omega)]; rfl⟩, HR2⟩
          case measure => simp [RowKit.intOf]; omega
        · have HF : Hid (sgk s i 3 128 191 = 0) := hid (HK0.out fun h => hr (by have := h j hj1 hlt; rwa [hg] at this))
          by_cases g1 : (y.toNat : Int) < L
          · have g1' : decide ((y.toNat : Int) < L) = true := decide_eq_true g1
            clear hg hr
            go_wp2_with fail
            go_ret
            exact ⟨by rw [HF.out]; rfl, rfl⟩
          · have g1' : decide ((y.toNat : Int) < L) = false := decide_eq_false g1
            have g2 : H < (y.toNat : Int) := by
              rw [HLH.out.2]
              rw [HLH.out.1] at g1
              have : ¬ (y.toNat ≤ (if j = 1 then 191 else 191)) := fun e => hr ⟨by omega, e⟩
              omega
            have g2' : decide (H < (y.toNat : Int)) = true := decide_eq_true g2
            clear hg hr
            go_wp2_with fail
            go_ret
            exact ⟨by rw [HF.out]; rfl, rfl⟩
      · obtain rfl : j = 3 := by omega
        have HF : Hid (sgk s i 3 128 191 = 3) := hid (HK.out HR.out)
        go_wp2_with fail
        go_ret
        exact ⟨by rw [HF.out]; rfl, rfl⟩
  · have hfz : (s.size : Int) < (i : Int) + 3 := by omega
    have hfd : decide ((s.size : Int) < (i : Int) + 3) = true := decide_eq_true hfz
    have HF : Hid (sgk s i 3 128 191 = 0) := hid (by unfold sgk; rw [if_neg (fun h => hfit h.1)])
    go_enter Tryd.func34, Tryd.ntmps34
    go_wp2_with fail
    go_ret
    exact ⟨by rw [HF.out]; rfl, rfl⟩

set_option maxRecDepth 20000 in
set_option maxHeartbeats 2000000 in
theorem sign_f0 (s : ByteArray) (i : Nat) (hi : i < s.size) (hs : s.size ≤ 5000) (w : World) (h1 : 240 ≤ (s[i]'hi).toNat) (h2 : (s[i]'hi).toNat ≤ 240) :
    Calls Tryd.prog 34 #[.string s, .int .i64 i] w fun e w' => e = .returned (.int .i64 (sgk s i 4 144 191)) ∧ w' = w := by
  obtain ⟨x, hx⟩ : ∃ x : UInt8, s[i]'hi = x := ⟨_, rfl⟩
  rw [hx] at h1 h2
  obtain ⟨b, hb⟩ : ∃ b : Nat, x.toNat = b := ⟨_, rfl⟩
  rw [hb] at h1 h2
  have k1 : decide ((b : Int) < 128) = false := decide_eq_false (by omega)
  have m1 : ¬ ((b : Int) < 128) := by omega
  have k2 : decide (194 ≤ (b : Int)) = true := decide_eq_true (by omega)
  have m2 : (194 ≤ (b : Int)) := by omega
  have k3 : decide ((b : Int) ≤ 223) = false := decide_eq_false (by omega)
  have m3 : ¬ ((b : Int) ≤ 223) := by omega
  have k4 : decide (224 ≤ (b : Int)) = true := decide_eq_true (by omega)
  have m4 : (224 ≤ (b : Int)) := by omega
  have k5 : decide ((b : Int) ≤ 239) = false := decide_eq_false (by omega)
  have m5 : ¬ ((b : Int) ≤ 239) := by omega
  have k6 : decide (240 ≤ (b : Int)) = true := decide_eq_true (by omega)
  have m6 : (240 ≤ (b : Int)) := by omega
  have k7 : decide ((b : Int) ≤ 244) = true := decide_eq_true (by omega)
  have m7 : ((b : Int) ≤ 244) := by omega
  have k8 : ((b : Int) == 224) = false := by exact beq_eq_false_iff_ne.2 (by omega)
  have m8 : ¬ (b : Int) = 224 := by omega
  have k9 : ((b : Int) == 237) = false := by exact beq_eq_false_iff_ne.2 (by omega)
  have m9 : ¬ (b : Int) = 237 := by omega
  have k10 : ((b : Int) == 240) = true := by exact beq_iff_eq.2 (by omega)
  have k11 : ((b : Int) == 244) = false := by exact beq_eq_false_iff_ne.2 (by omega)
  have m11 : ¬ (b : Int) = 244 := by omega
  by_cases hfit : i + 4 ≤ s.size
  · have hfz : ¬ ((s.size : Int) < (i : Int) + 4) := by omega
    have hfd : decide ((s.size : Int) < (i : Int) + 4) = false := decide_eq_false hfz
    have HK : Hid ((∀ j, 1 ≤ j → j < 4 → rng 144 191 j (s.data.toList.getD (i + j) 0).toNat) → sgk s i 4 144 191 = 4) := hid (fun h => by unfold sgk; rw [if_pos ⟨hfit, h⟩]; rfl)
    have HK0 : Hid (¬ (∀ j, 1 ≤ j → j < 4 → rng 144 191 j (s.data.toList.getD (i + j) 0).toNat) → sgk s i 4 144 191 = 0) := hid (fun h => by unfold sgk; rw [if_neg fun c => h c.2])
    go_enter Tryd.func34, Tryd.ntmps34
    go_wp2_with fail
    go_loop [7, 8, 9] (fun t7 t8 t9 => ∃ (j : Nat) (L H : Int), 1 ≤ j ∧ j ≤ 4 ∧ t9 = .int .i64 j ∧ t7 = .int .i64 L ∧ t8 = .int .i64 H ∧ Hid (L = ((if j = 1 then 144 else 128 : Nat) : Int) ∧ H = ((if j = 1 then 191 else 191 : Nat) : Int)) ∧ Hid (∀ j', 1 ≤ j' → j' < j → rng 144 191 j' (s.data.toList.getD (i + j') 0).toNat)) (fun _ _ t => 4 - (RowKit.intOf t).toNat)
    case atStart => exact ⟨1, 144, 191, by omega, by omega, rfl, rfl, rfl, ⟨rfl, rfl⟩, fun j' a c => by omega⟩
    case round =>
      obtain ⟨j, L, H, hj1, hj2, rfl, rfl, rfl, HLH, HR⟩ := hrel
      by_cases hlt : j < 4
      · have hij : i + j < s.size := by omega
        obtain ⟨y, hy⟩ : ∃ y : UInt8, s[i + j]'hij = y := ⟨_, rfl⟩
        have hg : s.data.toList.getD (i + j) 0 = y := by rw [at_get s _ hij, hy]
        have hyb := y.toNat_lt
        by_cases hr : rng 144 191 j y.toNat
        · have HR2 : Hid (∀ j', 1 ≤ j' → j' < j + 1 → rng 144 191 j' (s.data.toList.getD (i + j') 0).toNat) := hid (fun j' a c => by
            by_cases e : j' = j
            · subst e; rw [hg]; exact hr
            · exact HR.out j' a (by omega))
          have g1 : decide ((y.toNat : Int) < L) = false := decide_eq_false (by rw [HLH.out.1]; have := hr.1; omega)
          have g2 : decide (H < (y.toNat : Int)) = false := decide_eq_false (by rw [HLH.out.2]; have := hr.2; omega)
          clear hg hr
          go_wp2_with fail
          go_round
          case rel => exact ⟨j + 1, 128, 191, by omega, by omega, by simp, rfl, rfl, ⟨by rw [if_neg (by omega)]; rfl, by rw [if_neg (by omega)]; rfl⟩, HR2⟩
          case measure => simp [RowKit.intOf]; omega
        · have HF : Hid (sgk s i 4 144 191 = 0) := hid (HK0.out fun h => hr (by have := h j hj1 hlt; rwa [hg] at this))
          by_cases g1 : (y.toNat : Int) < L
          · have g1' : decide ((y.toNat : Int) < L) = true := decide_eq_true g1
            clear hg hr
            go_wp2_with fail
            go_ret
            exact ⟨by rw [HF.out]; rfl, rfl⟩
          · have g1' : decide ((y.toNat : Int) < L) = false := decide_eq_false g1
            have g2 : H < (y.toNat : Int) := by
              rw [HLH.out.2]
              rw [HLH.out.1] at g1
              have : ¬ (y.toNat ≤ (if j = 1 then 191 else 191)) := fun e => hr ⟨by omega, e⟩
              omega
            have g2' : decide (H < (y.toNat : Int)) = true := decide_eq_true g2
            clear hg hr
            go_wp2_with fail
            go_ret
            exact ⟨by rw [HF.out]; rfl, rfl⟩
      · obtain rfl : j = 4 := by omega
        have HF : Hid (sgk s i 4 144 191 = 4) := hid (HK.out HR.out)
        go_wp2_with fail
        go_ret
        exact ⟨by rw [HF.out]; rfl, rfl⟩
  · have hfz : (s.size : Int) < (i : Int) + 4 := by omega
    have hfd : decide ((s.size : Int) < (i : Int) + 4) = true := decide_eq_true hfz
    have HF : Hid (sgk s i 4 144 191 = 0) := hid (by unfold sgk; rw [if_neg (fun h => hfit h.1)])
    go_enter Tryd.func34, Tryd.ntmps34
    go_wp2_with fail
    go_ret
    exact ⟨by rw [HF.out]; rfl, rfl⟩

set_option maxRecDepth 20000 in
set_option maxHeartbeats 2000000 in
theorem sign_f1 (s : ByteArray) (i : Nat) (hi : i < s.size) (hs : s.size ≤ 5000) (w : World) (h1 : 241 ≤ (s[i]'hi).toNat) (h2 : (s[i]'hi).toNat ≤ 243) :
    Calls Tryd.prog 34 #[.string s, .int .i64 i] w fun e w' => e = .returned (.int .i64 (sgk s i 4 128 191)) ∧ w' = w := by
  obtain ⟨x, hx⟩ : ∃ x : UInt8, s[i]'hi = x := ⟨_, rfl⟩
  rw [hx] at h1 h2
  obtain ⟨b, hb⟩ : ∃ b : Nat, x.toNat = b := ⟨_, rfl⟩
  rw [hb] at h1 h2
  have k1 : decide ((b : Int) < 128) = false := decide_eq_false (by omega)
  have m1 : ¬ ((b : Int) < 128) := by omega
  have k2 : decide (194 ≤ (b : Int)) = true := decide_eq_true (by omega)
  have m2 : (194 ≤ (b : Int)) := by omega
  have k3 : decide ((b : Int) ≤ 223) = false := decide_eq_false (by omega)
  have m3 : ¬ ((b : Int) ≤ 223) := by omega
  have k4 : decide (224 ≤ (b : Int)) = true := decide_eq_true (by omega)
  have m4 : (224 ≤ (b : Int)) := by omega
  have k5 : decide ((b : Int) ≤ 239) = false := decide_eq_false (by omega)
  have m5 : ¬ ((b : Int) ≤ 239) := by omega
  have k6 : decide (240 ≤ (b : Int)) = true := decide_eq_true (by omega)
  have m6 : (240 ≤ (b : Int)) := by omega
  have k7 : decide ((b : Int) ≤ 244) = true := decide_eq_true (by omega)
  have m7 : ((b : Int) ≤ 244) := by omega
  have k8 : ((b : Int) == 224) = false := by exact beq_eq_false_iff_ne.2 (by omega)
  have m8 : ¬ (b : Int) = 224 := by omega
  have k9 : ((b : Int) == 237) = false := by exact beq_eq_false_iff_ne.2 (by omega)
  have m9 : ¬ (b : Int) = 237 := by omega
  have k10 : ((b : Int) == 240) = false := by exact beq_eq_false_iff_ne.2 (by omega)
  have m10 : ¬ (b : Int) = 240 := by omega
  have k11 : ((b : Int) == 244) = false := by exact beq_eq_false_iff_ne.2 (by omega)
  have m11 : ¬ (b : Int) = 244 := by omega
  by_cases hfit : i + 4 ≤ s.size
  · have hfz : ¬ ((s.size : Int) < (i : Int) + 4) := by omega
    have hfd : decide ((s.size : Int) < (i : Int) + 4) = false := decide_eq_false hfz
    have HK : Hid ((∀ j, 1 ≤ j → j < 4 → rng 128 191 j (s.data.toList.getD (i + j) 0).toNat) → sgk s i 4 128 191 = 4) := hid (fun h => by unfold sgk; rw [if_pos ⟨hfit, h⟩]; rfl)
    have HK0 : Hid (¬ (∀ j, 1 ≤ j → j < 4 → rng 128 191 j (s.data.toList.getD (i + j) 0).toNat) → sgk s i 4 128 191 = 0) := hid (fun h => by unfold sgk; rw [if_neg fun c => h c.2])
    go_enter Tryd.func34, Tryd.ntmps34
    go_wp2_with fail
    go_loop [7, 8, 9] (fun t7 t8 t9 => ∃ (j : Nat) (L H : Int), 1 ≤ j ∧ j ≤ 4 ∧ t9 = .int .i64 j ∧ t7 = .int .i64 L ∧ t8 = .int .i64 H ∧ Hid (L = ((if j = 1 then 128 else 128 : Nat) : Int) ∧ H = ((if j = 1 then 191 else 191 : Nat) : Int)) ∧ Hid (∀ j', 1 ≤ j' → j' < j → rng 128 191 j' (s.data.toList.getD (i + j') 0).toNat)) (fun _ _ t => 4 - (RowKit.intOf t).toNat)
    case atStart => exact ⟨1, 128, 191, by omega, by omega, rfl, rfl, rfl, ⟨rfl, rfl⟩, fun j' a c => by omega⟩
    case round =>
      obtain ⟨j, L, H, hj1, hj2, rfl, rfl, rfl, HLH, HR⟩ := hrel
      by_cases hlt : j < 4
      · have hij : i + j < s.size := by omega
        obtain ⟨y, hy⟩ : ∃ y : UInt8, s[i + j]'hij = y := ⟨_, rfl⟩
        have hg : s.data.toList.getD (i + j) 0 = y := by rw [at_get s _ hij, hy]
        have hyb := y.toNat_lt
        by_cases hr : rng 128 191 j y.toNat
        · have HR2 : Hid (∀ j', 1 ≤ j' → j' < j + 1 → rng 128 191 j' (s.data.toList.getD (i + j') 0).toNat) := hid (fun j' a c => by
            by_cases e : j' = j
            · subst e; rw [hg]; exact hr
            · exact HR.out j' a (by omega))
          have g1 : decide ((y.toNat : Int) < L) = false := decide_eq_false (by rw [HLH.out.1]; have := hr.1; omega)
          have g2 : decide (H < (y.toNat : Int)) = false := decide_eq_false (by rw [HLH.out.2]; have := hr.2; omega)
          clear hg hr
          go_wp2_with fail
          go_round
          case rel => exact ⟨j + 1, 128, 191, by omega, by omega, by simp, rfl, rfl, ⟨by rw [if_neg (by omega)]; rfl, by rw [if_neg (by omega)]; rfl⟩, HR2⟩
          case measure => simp [RowKit.intOf]; omega
        · have HF : Hid (sgk s i 4 128 191 = 0) := hid (HK0.out fun h => hr (by have := h j hj1 hlt; rwa [hg] at this))
          by_cases g1 : (y.toNat : Int) < L
          · have g1' : decide ((y.toNat : Int) < L) = true := decide_eq_true g1
            clear hg hr
            go_wp2_with fail
            go_ret
            exact ⟨by rw [HF.out]; rfl, rfl⟩
          · have g1' : decide ((y.toNat : Int) < L) = false := decide_eq_false g1
            have g2 : H < (y.toNat : Int) := by
              rw [HLH.out.2]
              rw [HLH.out.1] at g1
              have : ¬ (y.toNat ≤ (if j = 1 then 191 else 191)) := fun e => hr ⟨by omega, e⟩
              omega
            have g2' : decide (H < (y.toNat : Int)) = true := decide_eq_true g2
            clear hg hr
            go_wp2_with fail
            go_ret
            exact ⟨by rw [HF.out]; rfl, rfl⟩
      · obtain rfl : j = 4 := by omega
        have HF : Hid (sgk s i 4 128 191 = 4) := hid (HK.out HR.out)
        go_wp2_with fail
        go_ret
        exact ⟨by rw [HF.out]; rfl, rfl⟩
  · have hfz : (s.size : Int) < (i : Int) + 4 := by omega
    have hfd : decide ((s.size : Int) < (i : Int) + 4) = true := decide_eq_true hfz
    have HF : Hid (sgk s i 4 128 191 = 0) := hid (by unfold sgk; rw [if_neg (fun h => hfit h.1)])
    go_enter Tryd.func34, Tryd.ntmps34
    go_wp2_with fail
    go_ret
    exact ⟨by rw [HF.out]; rfl, rfl⟩

set_option maxRecDepth 20000 in
set_option maxHeartbeats 2000000 in
theorem sign_f4 (s : ByteArray) (i : Nat) (hi : i < s.size) (hs : s.size ≤ 5000) (w : World) (h1 : 244 ≤ (s[i]'hi).toNat) (h2 : (s[i]'hi).toNat ≤ 244) :
    Calls Tryd.prog 34 #[.string s, .int .i64 i] w fun e w' => e = .returned (.int .i64 (sgk s i 4 128 143)) ∧ w' = w := by
  obtain ⟨x, hx⟩ : ∃ x : UInt8, s[i]'hi = x := ⟨_, rfl⟩
  rw [hx] at h1 h2
  obtain ⟨b, hb⟩ : ∃ b : Nat, x.toNat = b := ⟨_, rfl⟩
  rw [hb] at h1 h2
  have k1 : decide ((b : Int) < 128) = false := decide_eq_false (by omega)
  have m1 : ¬ ((b : Int) < 128) := by omega
  have k2 : decide (194 ≤ (b : Int)) = true := decide_eq_true (by omega)
  have m2 : (194 ≤ (b : Int)) := by omega
  have k3 : decide ((b : Int) ≤ 223) = false := decide_eq_false (by omega)
  have m3 : ¬ ((b : Int) ≤ 223) := by omega
  have k4 : decide (224 ≤ (b : Int)) = true := decide_eq_true (by omega)
  have m4 : (224 ≤ (b : Int)) := by omega
  have k5 : decide ((b : Int) ≤ 239) = false := decide_eq_false (by omega)
  have m5 : ¬ ((b : Int) ≤ 239) := by omega
  have k6 : decide (240 ≤ (b : Int)) = true := decide_eq_true (by omega)
  have m6 : (240 ≤ (b : Int)) := by omega
  have k7 : decide ((b : Int) ≤ 244) = true := decide_eq_true (by omega)
  have m7 : ((b : Int) ≤ 244) := by omega
  have k8 : ((b : Int) == 224) = false := by exact beq_eq_false_iff_ne.2 (by omega)
  have m8 : ¬ (b : Int) = 224 := by omega
  have k9 : ((b : Int) == 237) = false := by exact beq_eq_false_iff_ne.2 (by omega)
  have m9 : ¬ (b : Int) = 237 := by omega
  have k10 : ((b : Int) == 240) = false := by exact beq_eq_false_iff_ne.2 (by omega)
  have m10 : ¬ (b : Int) = 240 := by omega
  have k11 : ((b : Int) == 244) = true := by exact beq_iff_eq.2 (by omega)
  by_cases hfit : i + 4 ≤ s.size
  · have hfz : ¬ ((s.size : Int) < (i : Int) + 4) := by omega
    have hfd : decide ((s.size : Int) < (i : Int) + 4) = false := decide_eq_false hfz
    have HK : Hid ((∀ j, 1 ≤ j → j < 4 → rng 128 143 j (s.data.toList.getD (i + j) 0).toNat) → sgk s i 4 128 143 = 4) := hid (fun h => by unfold sgk; rw [if_pos ⟨hfit, h⟩]; rfl)
    have HK0 : Hid (¬ (∀ j, 1 ≤ j → j < 4 → rng 128 143 j (s.data.toList.getD (i + j) 0).toNat) → sgk s i 4 128 143 = 0) := hid (fun h => by unfold sgk; rw [if_neg fun c => h c.2])
    go_enter Tryd.func34, Tryd.ntmps34
    go_wp2_with fail
    go_loop [7, 8, 9] (fun t7 t8 t9 => ∃ (j : Nat) (L H : Int), 1 ≤ j ∧ j ≤ 4 ∧ t9 = .int .i64 j ∧ t7 = .int .i64 L ∧ t8 = .int .i64 H ∧ Hid (L = ((if j = 1 then 128 else 128 : Nat) : Int) ∧ H = ((if j = 1 then 143 else 191 : Nat) : Int)) ∧ Hid (∀ j', 1 ≤ j' → j' < j → rng 128 143 j' (s.data.toList.getD (i + j') 0).toNat)) (fun _ _ t => 4 - (RowKit.intOf t).toNat)
    case atStart => exact ⟨1, 128, 143, by omega, by omega, rfl, rfl, rfl, ⟨rfl, rfl⟩, fun j' a c => by omega⟩
    case round =>
      obtain ⟨j, L, H, hj1, hj2, rfl, rfl, rfl, HLH, HR⟩ := hrel
      by_cases hlt : j < 4
      · have hij : i + j < s.size := by omega
        obtain ⟨y, hy⟩ : ∃ y : UInt8, s[i + j]'hij = y := ⟨_, rfl⟩
        have hg : s.data.toList.getD (i + j) 0 = y := by rw [at_get s _ hij, hy]
        have hyb := y.toNat_lt
        by_cases hr : rng 128 143 j y.toNat
        · have HR2 : Hid (∀ j', 1 ≤ j' → j' < j + 1 → rng 128 143 j' (s.data.toList.getD (i + j') 0).toNat) := hid (fun j' a c => by
            by_cases e : j' = j
            · subst e; rw [hg]; exact hr
            · exact HR.out j' a (by omega))
          have g1 : decide ((y.toNat : Int) < L) = false := decide_eq_false (by rw [HLH.out.1]; have := hr.1; omega)
          have g2 : decide (H < (y.toNat : Int)) = false := decide_eq_false (by rw [HLH.out.2]; have := hr.2; omega)
          clear hg hr
          go_wp2_with fail
          go_round
          case rel => exact ⟨j + 1, 128, 191, by omega, by omega, by simp, rfl, rfl, ⟨by rw [if_neg (by omega)]; rfl, by rw [if_neg (by omega)]; rfl⟩, HR2⟩
          case measure => simp [RowKit.intOf]; omega
        · have HF : Hid (sgk s i 4 128 143 = 0) := hid (HK0.out fun h => hr (by have := h j hj1 hlt; rwa [hg] at this))
          by_cases g1 : (y.toNat : Int) < L
          · have g1' : decide ((y.toNat : Int) < L) = true := decide_eq_true g1
            clear hg hr
            go_wp2_with fail
            go_ret
            exact ⟨by rw [HF.out]; rfl, rfl⟩
          · have g1' : decide ((y.toNat : Int) < L) = false := decide_eq_false g1
            have g2 : H < (y.toNat : Int) := by
              rw [HLH.out.2]
              rw [HLH.out.1] at g1
              have : ¬ (y.toNat ≤ (if j = 1 then 143 else 191)) := fun e => hr ⟨by omega, e⟩
              omega
            have g2' : decide (H < (y.toNat : Int)) = true := decide_eq_true g2
            clear hg hr
            go_wp2_with fail
            go_ret
            exact ⟨by rw [HF.out]; rfl, rfl⟩
      · obtain rfl : j = 4 := by omega
        have HF : Hid (sgk s i 4 128 143 = 4) := hid (HK.out HR.out)
        go_wp2_with fail
        go_ret
        exact ⟨by rw [HF.out]; rfl, rfl⟩
  · have hfz : (s.size : Int) < (i : Int) + 4 := by omega
    have hfd : decide ((s.size : Int) < (i : Int) + 4) = true := decide_eq_true hfz
    have HF : Hid (sgk s i 4 128 143 = 0) := hid (by unfold sgk; rw [if_neg (fun h => hfit h.1)])
    go_enter Tryd.func34, Tryd.ntmps34
    go_wp2_with fail
    go_ret
    exact ⟨by rw [HF.out]; rfl, rfl⟩

set_option maxHeartbeats 1000000 in
theorem sign_asc (s : ByteArray) (i : Nat) (hi : i < s.size) (hs : s.size ≤ 5000) (w : World) (h1 : 0 ≤ (s[i]'hi).toNat) (h2 : (s[i]'hi).toNat ≤ 127) :
    Calls Tryd.prog 34 #[.string s, .int .i64 i] w fun e w' => e = .returned (.int .i64 1) ∧ w' = w := by
  obtain ⟨x, hx⟩ : ∃ x : UInt8, s[i]'hi = x := ⟨_, rfl⟩
  rw [hx] at h1 h2
  obtain ⟨b, hb⟩ : ∃ b : Nat, x.toNat = b := ⟨_, rfl⟩
  rw [hb] at h1 h2
  have k1 : decide ((b : Int) < 128) = true := decide_eq_true (by omega)
  have m1 : ((b : Int) < 128) := by omega
  have k2 : decide (194 ≤ (b : Int)) = false := decide_eq_false (by omega)
  have m2 : ¬ (194 ≤ (b : Int)) := by omega
  have k3 : decide ((b : Int) ≤ 223) = true := decide_eq_true (by omega)
  have m3 : ((b : Int) ≤ 223) := by omega
  have k4 : decide (224 ≤ (b : Int)) = false := decide_eq_false (by omega)
  have m4 : ¬ (224 ≤ (b : Int)) := by omega
  have k5 : decide ((b : Int) ≤ 239) = true := decide_eq_true (by omega)
  have m5 : ((b : Int) ≤ 239) := by omega
  have k6 : decide (240 ≤ (b : Int)) = false := decide_eq_false (by omega)
  have m6 : ¬ (240 ≤ (b : Int)) := by omega
  have k7 : decide ((b : Int) ≤ 244) = true := decide_eq_true (by omega)
  have m7 : ((b : Int) ≤ 244) := by omega
  have k8 : ((b : Int) == 224) = false := by exact beq_eq_false_iff_ne.2 (by omega)
  have m8 : ¬ (b : Int) = 224 := by omega
  have k9 : ((b : Int) == 237) = false := by exact beq_eq_false_iff_ne.2 (by omega)
  have m9 : ¬ (b : Int) = 237 := by omega
  have k10 : ((b : Int) == 240) = false := by exact beq_eq_false_iff_ne.2 (by omega)
  have m10 : ¬ (b : Int) = 240 := by omega
  have k11 : ((b : Int) == 244) = false := by exact beq_eq_false_iff_ne.2 (by omega)
  have m11 : ¬ (b : Int) = 244 := by omega
  go_enter Tryd.func34, Tryd.ntmps34
  go_wp2_with fail
  go_ret
  exact ⟨rfl, rfl⟩

set_option maxHeartbeats 1000000 in
theorem sign_bad1 (s : ByteArray) (i : Nat) (hi : i < s.size) (hs : s.size ≤ 5000) (w : World) (h1 : 128 ≤ (s[i]'hi).toNat) (h2 : (s[i]'hi).toNat ≤ 193) :
    Calls Tryd.prog 34 #[.string s, .int .i64 i] w fun e w' => e = .returned (.int .i64 0) ∧ w' = w := by
  obtain ⟨x, hx⟩ : ∃ x : UInt8, s[i]'hi = x := ⟨_, rfl⟩
  rw [hx] at h1 h2
  obtain ⟨b, hb⟩ : ∃ b : Nat, x.toNat = b := ⟨_, rfl⟩
  rw [hb] at h1 h2
  have k1 : decide ((b : Int) < 128) = false := decide_eq_false (by omega)
  have m1 : ¬ ((b : Int) < 128) := by omega
  have k2 : decide (194 ≤ (b : Int)) = false := decide_eq_false (by omega)
  have m2 : ¬ (194 ≤ (b : Int)) := by omega
  have k3 : decide ((b : Int) ≤ 223) = true := decide_eq_true (by omega)
  have m3 : ((b : Int) ≤ 223) := by omega
  have k4 : decide (224 ≤ (b : Int)) = false := decide_eq_false (by omega)
  have m4 : ¬ (224 ≤ (b : Int)) := by omega
  have k5 : decide ((b : Int) ≤ 239) = true := decide_eq_true (by omega)
  have m5 : ((b : Int) ≤ 239) := by omega
  have k6 : decide (240 ≤ (b : Int)) = false := decide_eq_false (by omega)
  have m6 : ¬ (240 ≤ (b : Int)) := by omega
  have k7 : decide ((b : Int) ≤ 244) = true := decide_eq_true (by omega)
  have m7 : ((b : Int) ≤ 244) := by omega
  have k8 : ((b : Int) == 224) = false := by exact beq_eq_false_iff_ne.2 (by omega)
  have m8 : ¬ (b : Int) = 224 := by omega
  have k9 : ((b : Int) == 237) = false := by exact beq_eq_false_iff_ne.2 (by omega)
  have m9 : ¬ (b : Int) = 237 := by omega
  have k10 : ((b : Int) == 240) = false := by exact beq_eq_false_iff_ne.2 (by omega)
  have m10 : ¬ (b : Int) = 240 := by omega
  have k11 : ((b : Int) == 244) = false := by exact beq_eq_false_iff_ne.2 (by omega)
  have m11 : ¬ (b : Int) = 244 := by omega
  go_enter Tryd.func34, Tryd.ntmps34
  go_wp2_with fail
  go_ret
  exact ⟨rfl, rfl⟩

set_option maxHeartbeats 1000000 in
theorem sign_bad2 (s : ByteArray) (i : Nat) (hi : i < s.size) (hs : s.size ≤ 5000) (w : World) (h1 : 245 ≤ (s[i]'hi).toNat) (h2 : (s[i]'hi).toNat ≤ 255) :
    Calls Tryd.prog 34 #[.string s, .int .i64 i] w fun e w' => e = .returned (.int .i64 0) ∧ w' = w := by
  obtain ⟨x, hx⟩ : ∃ x : UInt8, s[i]'hi = x := ⟨_, rfl⟩
  rw [hx] at h1 h2
  obtain ⟨b, hb⟩ : ∃ b : Nat, x.toNat = b := ⟨_, rfl⟩
  rw [hb] at h1 h2
  have k1 : decide ((b : Int) < 128) = false := decide_eq_false (by omega)
  have m1 : ¬ ((b : Int) < 128) := by omega
  have k2 : decide (194 ≤ (b : Int)) = true := decide_eq_true (by omega)
  have m2 : (194 ≤ (b : Int)) := by omega
  have k3 : decide ((b : Int) ≤ 223) = false := decide_eq_false (by omega)
  have m3 : ¬ ((b : Int) ≤ 223) := by omega
  have k4 : decide (224 ≤ (b : Int)) = true := decide_eq_true (by omega)
  have m4 : (224 ≤ (b : Int)) := by omega
  have k5 : decide ((b : Int) ≤ 239) = false := decide_eq_false (by omega)
  have m5 : ¬ ((b : Int) ≤ 239) := by omega
  have k6 : decide (240 ≤ (b : Int)) = true := decide_eq_true (by omega)
  have m6 : (240 ≤ (b : Int)) := by omega
  have k7 : decide ((b : Int) ≤ 244) = false := decide_eq_false (by omega)
  have m7 : ¬ ((b : Int) ≤ 244) := by omega
  have k8 : ((b : Int) == 224) = false := by exact beq_eq_false_iff_ne.2 (by omega)
  have m8 : ¬ (b : Int) = 224 := by omega
  have k9 : ((b : Int) == 237) = false := by exact beq_eq_false_iff_ne.2 (by omega)
  have m9 : ¬ (b : Int) = 237 := by omega
  have k10 : ((b : Int) == 240) = false := by exact beq_eq_false_iff_ne.2 (by omega)
  have m10 : ¬ (b : Int) = 240 := by omega
  have k11 : ((b : Int) == 244) = false := by exact beq_eq_false_iff_ne.2 (by omega)
  have m11 : ¬ (b : Int) = 244 := by omega
  go_enter Tryd.func34, Tryd.ntmps34
  go_wp2_with fail
  go_ret
  exact ⟨rfl, rfl⟩

end Go.Proofs.YtmeaiplinkodiaaDoor
