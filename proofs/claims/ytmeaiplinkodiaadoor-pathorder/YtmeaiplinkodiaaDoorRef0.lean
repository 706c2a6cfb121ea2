/-
  Contract: the document's Utf8.
-/
import Derived.Test.YtmeaiplinkodiaaDoorSign
namespace Go.Proofs.YtmeaiplinkodiaaDoor
open Go.RowKit
open Go.Lib hiding intOf
set_option linter.unusedVariables false
set_option linter.unusedSimpArgs false

theorem sgk_yes {s : ByteArray} {i k lo hi : Nat} (h1 : i + k ≤ s.size) (h : ∀ j, 1 ≤ j → j < k → rng lo hi j (s.data.toList.getD (i + j) 0).toNat) : sgk s i k lo hi = k := by
  unfold sgk; rw [if_pos ⟨h1, h⟩]
theorem sgk_no {s : ByteArray} {i k lo hi : Nat} (h : ¬ (i + k ≤ s.size ∧ ∀ j, 1 ≤ j → j < k → rng lo hi j (s.data.toList.getD (i + j) 0).toNat)) : sgk s i k lo hi = 0 := by
  unfold sgk; rw [if_neg h]

theorem check_sgk (s : ByteArray) (i k lo hi b1 b2 b3 : Nat) (hi' : i < s.size) (e1 : (s.data.toList.getD (i + 1) 0).toNat = b1) (e2 : (s.data.toList.getD (i + 2) 0).toNat = b2) (e3 : (s.data.toList.getD (i + 3) 0).toNat = b3) (hk : k = 2 ∨ k = 3 ∨ k = 4) :
    (checkN (s.size - i) b1 b2 b3 k lo hi = none ∧ sgk s i k lo hi = 0) ∨ (checkN (s.size - i) b1 b2 b3 k lo hi = some k ∧ sgk s i k lo hi = k ∧ i + k ≤ s.size) := by
  rcases hk with rfl | rfl | rfl
  · unfold checkN
    simp only [if_true]
    split
    · rename_i c
      refine .inl ⟨rfl, sgk_no fun ⟨h1, h2⟩ => ?_⟩
      have r1 := h2 1 (by omega) (by omega)
      rw [e1] at r1
      simp [rng] at r1
      omega
    · rename_i c
      refine .inr ⟨rfl, sgk_yes (by omega) fun j h1 h2 => ?_, by omega⟩
      obtain rfl : j = 1 := by omega
      rw [e1]
      simp [rng]
      omega
  · unfold checkN
    simp only [if_true, show ¬ (3 = 2) by omega, if_false]
    split
    · rename_i c
      refine .inl ⟨rfl, sgk_no fun ⟨h1, h2⟩ => ?_⟩
      have r1 := h2 1 (by omega) (by omega)
      have r2 := h2 2 (by omega) (by omega)
      rw [e1] at r1
      rw [e2] at r2
      simp [rng] at r1 r2
      omega
    · rename_i c
      refine .inr ⟨rfl, sgk_yes (by omega) fun j h1 h2 => ?_, by omega⟩
      have : j = 1 ∨ j = 2 := by omega
      rcases this with rfl | rfl
      · rw [e1]; simp [rng]; omega
      · rw [e2]; simp [rng]; omega
  · unfold checkN
    simp only [if_true, show ¬ (4 = 2) by omega, show ¬ (4 = 3) by omega, if_false]
    split
    · rename_i c
      refine .inl ⟨rfl, sgk_no fun ⟨h1, h2⟩ => ?_⟩
      have r1 := h2 1 (by omega) (by omega)
      have r2 := h2 2 (by omega) (by omega)
      have r3 := h2 3 (by omega) (by omega)
      rw [e1] at r1
      rw [e2] at r2
      rw [e3] at r3
      simp [rng] at r1 r2 r3
      omega
    · rename_i c
      refine .inr ⟨rfl, sgk_yes (by omega) fun j h1 h2 => ?_, by omega⟩
      have : j = 1 ∨ j = 2 ∨ j = 3 := by omega
      rcases this with rfl | rfl | rfl
      · rw [e1]; simp [rng]; omega
      · rw [e2]; simp [rng]; omega
      · rw [e3]; simp [rng]; omega

/-- what a sign's length says of the text from there on -/
def Sg (s : ByteArray) (i : Nat) (r : Nat) : Prop :=
  (r = 0 ∧ validD (s.data.toList.drop i) = false) ∨ (1 ≤ r ∧ i + r ≤ s.size ∧ validD (s.data.toList.drop i) = validD (s.data.toList.drop (i + r)))

theorem sg_class (s : ByteArray) (i k lo hi : Nat) (h : i < s.size) (h0 : 128 ≤ (s[i]'h).toNat) (hk : k = 2 ∨ k = 3 ∨ k = 4) (f1 : firstT (s[i]'h).toNat % 8 = k) (f2 : accLo (firstT (s[i]'h).toNat / 16) = lo) (f3 : accHi (firstT (s[i]'h).toNat / 16) = hi) :
    ∃ r : Nat, sgk s i k lo hi = r ∧ Sg s i r := by
  have hl : i < s.data.toList.length := by rw [← size_eq]; exact h
  have hne : s.data.toList.drop i ≠ [] := by intro e; have := congrArg List.length e; rw [List.length_drop, ← size_eq, List.length_nil] at this; omega
  have g0 : (s.data.toList.drop i).getD 0 0 = s[i]'h := by rw [getD_drop, Nat.add_zero, at_get s i h]
  have v := validD_lead (s.data.toList.drop i) hne (by rw [g0]; exact h0)
  rw [g0, f1, f2, f3, getD_drop, getD_drop, getD_drop, List.length_drop, ← size_eq] at v
  rcases check_sgk s i k lo hi _ _ _ h rfl rfl rfl hk with ⟨c1, c2⟩ | ⟨c1, c2, c3⟩
  · rw [c1] at v
    exact ⟨0, by rw [c2]; rfl, .inl ⟨rfl, v⟩⟩
  · rw [c1] at v
    refine ⟨k, c2, .inr ⟨by omega, c3, ?_⟩⟩
    rw [v]
    simp only [List.drop_drop]

theorem sg_bad (s : ByteArray) (i : Nat) (h : i < s.size) (hb : (128 ≤ (s[i]'h).toNat ∧ (s[i]'h).toNat < 194) ∨ (245 ≤ (s[i]'h).toNat ∧ (s[i]'h).toNat < 256)) : Sg s i 0 := by
  have hne : s.data.toList.drop i ≠ [] := by intro e; have := congrArg List.length e; rw [List.length_drop, ← size_eq, List.length_nil] at this; omega
  have g0 : (s.data.toList.drop i).getD 0 0 = s[i]'h := by rw [getD_drop, Nat.add_zero, at_get s i h]
  have d := decodeN_bad (s.data.toList.drop i).length (s[i]'h).toNat ((s.data.toList.drop i).getD 1 0).toNat ((s.data.toList.drop i).getD 2 0).toNat ((s.data.toList.drop i).getD 3 0).toNat hb
  rw [← g0, ← decodeL_N] at d
  refine .inl ⟨rfl, ?_⟩
  rw [validD_step _ hne, d]
  simp

theorem sg_asc (s : ByteArray) (i : Nat) (h : i < s.size) (hb : (s[i]'h).toNat < 128) : Sg s i 1 := by
  have hl : i < s.data.toList.length := by rw [← size_eq]; exact h
  refine .inr ⟨by omega, by omega, ?_⟩
  rw [List.drop_eq_getElem_cons hl]
  exact validD_cons _ _ hb

theorem firstT_of (b : Nat) (h0 : 194 ≤ b) (h1 : b ≤ 244) : firstT b = if b < 224 then 2 else if b = 224 then 19 else if b < 237 then 3 else if b = 237 then 35 else if b < 240 then 3 else if b = 240 then 52 else if b < 244 then 4 else 68 := by
  unfold firstT
  rw [if_neg (by omega), if_neg (by omega)]
  repeat' split
  all_goals first | rfl | omega

theorem sign_w (s : ByteArray) (i : Nat) (hi : i < s.size) (hs : s.size ≤ 5000) (w : World) :
    ∃ r : Nat, Sg s i r ∧ Calls Tryd.prog 34 #[.string s, .int .i64 i] w fun e w' => e = .returned (.int .i64 r) ∧ w' = w := by
  have hb := (s[i]'hi).toNat_lt
  have cls : ∀ k lo hi' : Nat, (k = 2 ∨ k = 3 ∨ k = 4) → 128 ≤ (s[i]'hi).toNat → firstT (s[i]'hi).toNat % 8 = k → accLo (firstT (s[i]'hi).toNat / 16) = lo → accHi (firstT (s[i]'hi).toNat / 16) = hi' → Calls Tryd.prog 34 #[.string s, .int .i64 i] w (fun e w' => e = .returned (.int .i64 (sgk s i k lo hi')) ∧ w' = w) → ∃ r : Nat, Sg s i r ∧ Calls Tryd.prog 34 #[.string s, .int .i64 i] w fun e w' => e = .returned (.int .i64 r) ∧ w' = w := fun k lo hi' hk h0 f1 f2 f3 q => by
    obtain ⟨r, hr, hg⟩ := sg_class s i k lo hi' hi h0 hk f1 f2 f3
    rw [hr] at q
    exact ⟨r, hg, q⟩
  by_cases c1 : (s[i]'hi).toNat < 128
  · exact ⟨1, sg_asc s i hi c1, sign_asc s i hi hs w (by omega) (by omega)⟩
  by_cases c2 : (s[i]'hi).toNat < 194
  · exact ⟨0, sg_bad s i hi (.inl ⟨by omega, c2⟩), sign_bad1 s i hi hs w (by omega) (by omega)⟩
  by_cases c3 : 245 ≤ (s[i]'hi).toNat
  · exact ⟨0, sg_bad s i hi (.inr ⟨c3, hb⟩), sign_bad2 s i hi hs w (by omega) (by omega)⟩
  have ft := firstT_of (s[i]'hi).toNat (by omega) (by omega)
  by_cases d1 : (s[i]'hi).toNat < 224
  · exact cls 2 128 191 (by omega) (by omega) (by rw [ft, if_pos d1]) (by rw [ft, if_pos d1]; rfl) (by rw [ft, if_pos d1]; rfl) (sign_c2 s i hi hs w (by omega) (by omega))
  by_cases d2 : (s[i]'hi).toNat = 224
  · rw [if_neg d1, if_pos d2] at ft
    exact cls 3 160 191 (by omega) (by omega) (by rw [ft]) (by rw [ft]; rfl) (by rw [ft]; rfl) (sign_e0 s i hi hs w (by omega) (by omega))
  by_cases d3 : (s[i]'hi).toNat < 237
  · rw [if_neg d1, if_neg d2, if_pos d3] at ft
    exact cls 3 128 191 (by omega) (by omega) (by rw [ft]) (by rw [ft]; rfl) (by rw [ft]; rfl) (sign_e1 s i hi hs w (by omega) (by omega))
  by_cases d4 : (s[i]'hi).toNat = 237
  · rw [if_neg d1, if_neg d2, if_neg d3, if_pos d4] at ft
    exact cls 3 128 159 (by omega) (by omega) (by rw [ft]) (by rw [ft]; rfl) (by rw [ft]; rfl) (sign_ed s i hi hs w (by omega) (by omega))
  by_cases d5 : (s[i]'hi).toNat < 240
  · rw [if_neg d1, if_neg d2, if_neg d3, if_neg d4, if_pos d5] at ft
    exact cls 3 128 191 (by omega) (by omega) (by rw [ft]) (by rw [ft]; rfl) (by rw [ft]; rfl) (sign_ee s i hi hs w (by omega) (by omega))
  by_cases d6 : (s[i]'hi).toNat = 240
  · rw [if_neg d1, if_neg d2, if_neg d3, if_neg d4, if_neg d5, if_pos d6] at ft
    exact cls 4 144 191 (by omega) (by omega) (by rw [ft]) (by rw [ft]; rfl) (by rw [ft]; rfl) (sign_f0 s i hi hs w (by omega) (by omega))
  by_cases d7 : (s[i]'hi).toNat < 244
  · rw [if_neg d1, if_neg d2, if_neg d3, if_neg d4, if_neg d5, if_neg d6, if_pos d7] at ft
    exact cls 4 128 191 (by omega) (by omega) (by rw [ft]) (by rw [ft]; rfl) (by rw [ft]; rfl) (sign_f1 s i hi hs w (by omega) (by omega))
  · rw [if_neg d1, if_neg d2, if_neg d3, if_neg d4, if_neg d5, if_neg d6, if_neg d7] at ft
    exact cls 4 128 143 (by omega) (by omega) (by rw [ft]) (by rw [ft]; rfl) (by rw [ft]; rfl) (sign_f4 s i hi hs w (by omega) (by omega))

set_option maxHeartbeats 1000000 in
theorem utf8_w (s : ByteArray) (hs : s.size ≤ 5000) (w : World) :
    Calls Tryd.prog 26 #[.string s] w fun e w' => e = .returned (.bool (validD s.data.toList)) ∧ w' = w := by
  have HZ : Hid (s.data.toList.length = s.size) := (Lib.size_eq s).symm
  have HQ : Hid (∀ i, i < s.size → ∃ r : Nat, Sg s i r ∧ Calls Tryd.prog 34 #[.string s, .int .i64 i] w fun e w' => e = .returned (.int .i64 r) ∧ w' = w) := fun i hi => sign_w s i hi hs w
  go_enter Tryd.func26, Tryd.ntmps26
  go_wp2_with fail
  go_loop [3] (fun t => ∃ i : Nat, i ≤ s.size ∧ t = .int .i64 i ∧ Hid (validD s.data.toList = validD (s.data.toList.drop i))) (fun t => s.size - (RowKit.intOf t).toNat)
  case atStart => exact ⟨0, Nat.zero_le _, rfl, by simp [Hid]⟩
  case round =>
    obtain ⟨i, hi, rfl, H⟩ := hrel
    by_cases hlt : i < s.size
    · obtain ⟨r, hg, q⟩ := HQ.out i hlt
      rcases hg with ⟨rfl, hv⟩ | ⟨h1, h2, hv⟩
      · have HF : Hid (validD s.data.toList = false) := hid (by rw [H.out, hv])
        clear hv
        go_wp2_with (go_at_call 34; refine q.mono ?_; rintro e w' ⟨rfl, hw⟩; rw [hw])
        go_ret
        exact ⟨by rw [HF.out]; rfl, rfl⟩
      · have H2 : Hid (validD s.data.toList = validD (s.data.toList.drop (i + r))) := hid (by rw [H.out, hv])
        have hr0 : ¬ ((r : Int) = 0) := by omega
        clear hv
        go_wp2_with (go_at_call 34; refine q.mono ?_; rintro e w' ⟨rfl, hw⟩; rw [hw])
        go_round
        case rel => exact ⟨i + r, h2, by simp, H2⟩
        case measure => simp [RowKit.intOf]; omega
    · have HF : Hid (validD s.data.toList = true) := hid (by rw [H.out, List.drop_of_length_le (by rw [HZ.out]; omega)]; rfl)
      go_wp2_with fail
      go_ret
      exact ⟨by rw [HF.out]; rfl, rfl⟩

end Go.Proofs.YtmeaiplinkodiaaDoor
