/-
  Contract: the document's own Number.
-/
import Derived.Test.YtjnmmkohmfhnlaaDoorRefn
import Derived.Lib.IndexBytes
namespace Go.Proofs.YtjnmmkohmfhnlaaDoor
open Go.RowKit
set_option linter.unusedVariables false
set_option linter.unusedSimpArgs false

/-- what it answers -/
def rv : Option Int → Value
  | some v => .tuple #[.int .i64 v, .bool true]
  | none => .tuple #[.int .i64 0, .bool false]

theorem ne_empty {d : ByteArray} (h : 0 < d.size) : d.toList.isEmpty = false := by
  rw [Lib.toList_data]
  cases hq : d.data.toList with
  | nil => have := Lib.size_eq d; rw [hq, List.length_nil] at this; omega
  | cons _ _ => rfl

theorem tdiv_min (x : Int) (h0 : 0 ≤ x) (h1 : x ≤ 9) (n : Int) : n < Int.tdiv (-9223372036854775808 + x) 10 ↔ 10 * n - x < -9223372036854775808 := by
  have e : Int.tdiv (-9223372036854775808 + x) 10 = -((9223372036854775808 - x) / 10) := by
    rw [show -9223372036854775808 + x = -(9223372036854775808 - x) by omega, Int.neg_tdiv, Int.tdiv_eq_ediv_of_nonneg (by omega)]
  rw [e]
  omega

theorem rgo_cons (n : Int) (x : UInt8) (l : List UInt8) : rgo n (x :: l) = if x.toNat < 48 ∨ 57 < x.toNat then none else if 10 * n - ((x.toNat : Int) - 48) < -9223372036854775808 then none else rgo (10 * n - ((x.toNat : Int) - 48)) l := by rw [rgo]
theorem rgo_nil (n : Int) : rgo n [] = some n := by rw [rgo]

theorem drop_cons {l : List UInt8} {i : Nat} {x : UInt8} (h : l[i]? = some x) : l.drop i = x :: l.drop (i + 1) := by
  obtain ⟨hi, rfl⟩ := List.getElem?_eq_some_iff.1 h
  exact List.drop_eq_getElem_cons hi

set_option maxRecDepth 20000 in
set_option maxHeartbeats 4000000 in
theorem ref_plain (d : ByteArray) (hd0 : 0 < d.size) (hd1 : d.size ≤ 19) (w : World) (b0 : UInt8) (hb0 : d[0]'hd0 = b0) (hm : ¬ b0 = 45) (h48 : ¬ b0 = 48) (HN : Hid (rnum d.data.toList = match rgo 0 d.data.toList with | none => none | some n => if n = -9223372036854775808 then none else some (-n))) :
    Calls Tryd.prog 30 #[.string d] w fun e w' => e = .returned (rv (rnum d.data.toList)) ∧ w = w' := by
  have hne := ne_empty hd0
  have m1 : ¬ (b0.toNat : Int) = 45 := fun e => hm (UInt8.toNat_inj.1 (by show b0.toNat = 45; omega))
  have m2 : ¬ (b0.toNat : Int) = 48 := fun e => h48 (UInt8.toNat_inj.1 (by show b0.toNat = 48; omega))
  clear h48 hm
  go_enter Tryd.func30, Tryd.ntmps30
  go_wp2_with fail
  go_loopw [6, 7] (fun tn t wr => ∃ (i : Nat) (n : Int), i ≤ d.size ∧ t = .int .i64 i ∧ tn = .int .i64 n ∧ -9223372036854775808 ≤ n ∧ n ≤ 0 ∧ Hid (rgo 0 d.data.toList = rgo n (d.data.toList.drop i)) ∧ wr = w) (fun _ t _ => d.size - (intOf t).toNat)
  case atStart => exact ⟨0, 0, Nat.zero_le _, rfl, rfl, by omega, by omega, rfl, rfl⟩
  case round =>
    obtain ⟨i, n, hi, rfl, rfl, n0, n1, HR, rfl⟩ := hrel
    by_cases hlt : i < d.size
    · obtain ⟨x, hx⟩ : ∃ x : UInt8, d[i]'hlt = x := ⟨_, rfl⟩
      have hxl : d.data.toList[i]? = some x := by rw [← hx]; exact Lib.data_getElem? d i hlt
      have h := HR.out
      rw [drop_cons hxl, rgo_cons] at h
      clear hxl HR
      by_cases c1 : x.toNat < 48 ∨ 57 < x.toNat
      · rw [if_pos c1] at h
        have HR : Hid (rgo 0 d.data.toList = none) := h
        clear h
        by_cases c2 : x.toNat < 48
        · go_wp2
          go_ret2
          rw [HN.out, HR.out]
          exact ⟨rfl, rfl⟩
        · have c3 : 57 < x.toNat := by omega
          go_wp2
          go_ret2
          rw [HN.out, HR.out]
          exact ⟨rfl, rfl⟩
      · rw [if_neg c1] at h
        have x1 : 48 ≤ x.toNat := by omega
        have x2 : x.toNat ≤ 57 := by omega
        have w8 : IntKind.u8.wrap ((x.toNat : Int) - 48) = (x.toNat : Int) - 48 := by
          have e1 : IntKind.u8.signed = false := rfl
          simp [IntKind.wrap, e1, IntKind.bits]
          omega
        have ht := tdiv_min ((x.toNat : Int) - 48) (by omega) (by omega) n
        clear c1
        by_cases c4 : 10 * n - ((x.toNat : Int) - 48) < -9223372036854775808
        · rw [if_pos c4] at h
          have HR : Hid (rgo 0 d.data.toList = none) := h
          clear h
          have c5 := ht.2 c4
          clear ht
          go_wp2
          skip
          go_ret2
          rw [HN.out, HR.out]
          exact ⟨rfl, rfl⟩
        · rw [if_neg c4] at h
          have HR : Hid (rgo 0 d.data.toList = rgo (10 * n - ((x.toNat : Int) - 48)) (d.data.toList.drop (i + 1))) := h
          clear h
          have c5 : ¬ n < Int.tdiv (-9223372036854775808 + ((x.toNat : Int) - 48)) 10 := fun e => c4 (ht.1 e)
          clear ht
          go_wp2
          go_roundw
          case rel => exact ⟨i + 1, 10 * n - ((x.toNat : Int) - 48), by omega, by simp, rfl, by omega, by omega, HR.out, by first | rfl | trivial⟩
          case measure => simp [intOf]; omega
    · obtain rfl : i = d.size := by omega
      by_cases cm : n = -9223372036854775808
      · subst cm
        go_wp2
        go_ret2
        have h := HR.out
        rw [List.drop_of_length_le (by rw [← Lib.size_eq]; omega)] at h
        rw [rgo_nil] at h
        rw [HN.out, h]
        exact ⟨rfl, rfl⟩
      · go_wp2
        go_ret2
        have h := HR.out
        rw [List.drop_of_length_le (by rw [← Lib.size_eq]; omega)] at h
        rw [rgo_nil] at h
        rw [HN.out, h]
        simp only [if_neg cm]
        exact ⟨rfl, by first | rfl | trivial⟩

set_option maxRecDepth 20000 in
set_option maxHeartbeats 4000000 in
theorem ref_lead (d : ByteArray) (hd0 : 1 < d.size) (hbig : d.size ≤ 281474976710656) (w : World) (hb0 : (d[0]'(by omega)) = 48) :
    Calls Tryd.prog 30 #[.string d] w fun e w' => e = .returned (rv none) ∧ w = w' := by
  have hne := ne_empty (d := d) (by omega)
  go_enter Tryd.func30, Tryd.ntmps30
  go_wp2
  go_ret2
  exact ⟨rfl, rfl⟩

set_option maxRecDepth 20000 in
set_option maxHeartbeats 4000000 in
theorem ref_long (d : ByteArray) (hd0 : 19 < d.size) (hbig : d.size ≤ 281474976710656) (w : World) (b0 : UInt8) (hb0 : (d[0]'(by omega)) = b0) (hm : ¬ b0 = 45) (h48 : ¬ b0 = 48) :
    Calls Tryd.prog 30 #[.string d] w fun e w' => e = .returned (rv none) ∧ w = w' := by
  have hne := ne_empty (d := d) (by omega)
  have m1 : ¬ (b0.toNat : Int) = 45 := fun e => hm (UInt8.toNat_inj.1 (by show b0.toNat = 45; omega))
  have m2 : ¬ (b0.toNat : Int) = 48 := fun e => h48 (UInt8.toNat_inj.1 (by show b0.toNat = 48; omega))
  clear h48 hm
  go_enter Tryd.func30, Tryd.ntmps30
  go_wp2
  go_ret2
  exact ⟨rfl, rfl⟩

theorem ref_empty (w : World) : Calls Tryd.prog 30 #[.string ⟨#[]⟩] w fun e w' => e = .returned (rv none) ∧ w = w' := by
  go_enter Tryd.func30, Tryd.ntmps30
  go_wp2
  go_ret2
  exact ⟨rfl, rfl⟩

set_option maxRecDepth 20000 in
set_option maxHeartbeats 4000000 in
theorem ref_zero (w : World) : Calls Tryd.prog 30 #[.string ⟨#[48]⟩] w fun e w' => e = .returned (rv (some 0)) ∧ w = w' := by
  have e1 : (⟨#[48]⟩ : ByteArray)[0].toNat = 48 := rfl
  go_enter Tryd.func30, Tryd.ntmps30
  go_wp2_with fail
  refine wp_loop_rounds 2 ?_
  rw [rounds_succ]
  go_wp2
  rw [rounds_succ]
  go_wp2
  go_ret2
  exact ⟨rfl, rfl⟩

set_option maxRecDepth 20000 in
set_option maxHeartbeats 4000000 in
theorem ref_dash (w : World) : Calls Tryd.prog 30 #[.string ⟨#[45]⟩] w fun e w' => e = .returned (rv none) ∧ w = w' := by
  have e1 : (⟨#[45]⟩ : ByteArray)[0].toNat = 45 := rfl
  go_enter Tryd.func30, Tryd.ntmps30
  go_wp2
  go_ret2
  exact ⟨rfl, rfl⟩

set_option maxRecDepth 20000 in
set_option maxHeartbeats 4000000 in
theorem ref_mlead (s d : ByteArray) (hs0 : 1 < s.size) (hs1 : s.size ≤ 281474976710656) (h45 : (s[0]'(by omega)) = 45) (hd : s.extract 1 s.size = d) (hds : d.size + 1 = s.size) (w : World) (hb0 : ∀ h : 0 < d.size, (d[0]'h) = 48) :
    Calls Tryd.prog 30 #[.string s] w fun e w' => e = .returned (rv none) ∧ w = w' := by
  have hne := ne_empty (d := s) (by omega)
  have hne2 := ne_empty (d := d) (by omega)
  have hd0 : 0 < d.size := by omega
  have HS : Hid (d.size + 1 = s.size) := hds
  clear hds
  by_cases cl : 1 < d.size
  · go_enter Tryd.func30, Tryd.ntmps30
    go_wp2
    go_ret2
    exact ⟨rfl, rfl⟩
  · have cl1 : d.size = 1 := by omega
    go_enter Tryd.func30, Tryd.ntmps30
    go_wp2
    go_ret2
    exact ⟨rfl, rfl⟩

set_option maxRecDepth 20000 in
set_option maxHeartbeats 4000000 in
theorem ref_mlong (s d : ByteArray) (hs0 : 1 < s.size) (hs1 : s.size ≤ 281474976710656) (h45 : (s[0]'(by omega)) = 45) (hd : s.extract 1 s.size = d) (hds : d.size + 1 = s.size) (w : World) (hl : 19 < d.size) (b0 : UInt8) (hb0 : ∀ h : 0 < d.size, (d[0]'h) = b0) (h48 : ¬ b0 = 48) :
    Calls Tryd.prog 30 #[.string s] w fun e w' => e = .returned (rv none) ∧ w = w' := by
  have hne := ne_empty (d := s) (by omega)
  have hne2 := ne_empty (d := d) (by omega)
  have hd0 : 0 < d.size := by omega
  have HS : Hid (d.size + 1 = s.size) := hds
  clear hds
  have m2 : ¬ (b0.toNat : Int) = 48 := fun e => h48 (UInt8.toNat_inj.1 (by show b0.toNat = 48; omega))
  clear h48
  go_enter Tryd.func30, Tryd.ntmps30
  go_wp2
  go_ret2
  exact ⟨rfl, rfl⟩

set_option maxRecDepth 20000 in
set_option maxHeartbeats 4000000 in
theorem ref_minus (s d : ByteArray) (hs0 : 1 < s.size) (hs1 : s.size ≤ 281474976710656) (h45 : (s[0]'(by omega)) = 45) (hd : s.extract 1 s.size = d) (hds : d.size + 1 = s.size) (w : World) (hd1 : d.size ≤ 19) (b0 : UInt8) (hb0 : ∀ h : 0 < d.size, (d[0]'h) = b0) (h48 : ¬ b0 = 48) (R : Option Int) (HN : Hid (R = match rgo 0 d.data.toList with | none => none | some n => some n)) :
    Calls Tryd.prog 30 #[.string s] w fun e w' => e = .returned (rv R) ∧ w = w' := by
  have hne := ne_empty (d := s) (by omega)
  have hne2 := ne_empty (d := d) (by omega)
  have hd0 : 0 < d.size := by omega
  have HS : Hid (d.size + 1 = s.size) := hds
  clear hds
  have m2 : ¬ (b0.toNat : Int) = 48 := fun e => h48 (UInt8.toNat_inj.1 (by show b0.toNat = 48; omega))
  clear h48
  go_enter Tryd.func30, Tryd.ntmps30
  go_wp2_with fail
  go_loopw [6, 7] (fun tn t wr => ∃ (i : Nat) (n : Int), i ≤ d.size ∧ t = .int .i64 i ∧ tn = .int .i64 n ∧ -9223372036854775808 ≤ n ∧ n ≤ 0 ∧ Hid (rgo 0 d.data.toList = rgo n (d.data.toList.drop i)) ∧ wr = w) (fun _ t _ => d.size - (intOf t).toNat)
  case atStart => exact ⟨0, 0, Nat.zero_le _, rfl, rfl, by omega, by omega, rfl, rfl⟩
  case round =>
    obtain ⟨i, n, hi, rfl, rfl, n0, n1, HR, rfl⟩ := hrel
    by_cases hlt : i < d.size
    · obtain ⟨x, hx⟩ : ∃ x : UInt8, d[i]'hlt = x := ⟨_, rfl⟩
      have hxl : d.data.toList[i]? = some x := by rw [← hx]; exact Lib.data_getElem? d i hlt
      have h := HR.out
      rw [drop_cons hxl, rgo_cons] at h
      clear hxl HR
      by_cases c1 : x.toNat < 48 ∨ 57 < x.toNat
      · rw [if_pos c1] at h
        have HR : Hid (rgo 0 d.data.toList = none) := h
        clear h
        by_cases c2 : x.toNat < 48
        · go_wp2
          go_ret2
          rw [HN.out, HR.out]
          exact ⟨rfl, rfl⟩
        · have c3 : 57 < x.toNat := by omega
          go_wp2
          go_ret2
          rw [HN.out, HR.out]
          exact ⟨rfl, rfl⟩
      · rw [if_neg c1] at h
        have x1 : 48 ≤ x.toNat := by omega
        have x2 : x.toNat ≤ 57 := by omega
        have w8 : IntKind.u8.wrap ((x.toNat : Int) - 48) = (x.toNat : Int) - 48 := by
          have e1 : IntKind.u8.signed = false := rfl
          simp [IntKind.wrap, e1, IntKind.bits]
          omega
        have ht := tdiv_min ((x.toNat : Int) - 48) (by omega) (by omega) n
        clear c1
        by_cases c4 : 10 * n - ((x.toNat : Int) - 48) < -9223372036854775808
        · rw [if_pos c4] at h
          have HR : Hid (rgo 0 d.data.toList = none) := h
          clear h
          have c5 := ht.2 c4
          clear ht
          go_wp2
          skip
          go_ret2
          rw [HN.out, HR.out]
          exact ⟨rfl, rfl⟩
        · rw [if_neg c4] at h
          have HR : Hid (rgo 0 d.data.toList = rgo (10 * n - ((x.toNat : Int) - 48)) (d.data.toList.drop (i + 1))) := h
          clear h
          have c5 : ¬ n < Int.tdiv (-9223372036854775808 + ((x.toNat : Int) - 48)) 10 := fun e => c4 (ht.1 e)
          clear ht
          go_wp2
          go_roundw
          case rel => exact ⟨i + 1, 10 * n - ((x.toNat : Int) - 48), by omega, by simp, rfl, by omega, by omega, HR.out, by first | rfl | trivial⟩
          case measure => simp [intOf]; omega
    · obtain rfl : i = d.size := by omega
      go_wp2
      go_ret2
      have h := HR.out
      rw [List.drop_of_length_le (by rw [← Lib.size_eq]; omega)] at h
      rw [rgo_nil] at h
      rw [HN.out, h]
      exact ⟨rfl, rfl⟩

theorem ext_list {s : ByteArray} {l : List UInt8} (h : s.data.toList = l) : s = ⟨l.toArray⟩ := by
  cases s with
  | mk d => cases h; simp

/-- the document's Number, whole -/
theorem ref_w (s : ByteArray) (hs : s.size ≤ 281474976710656) (w : World) : Calls Tryd.prog 30 #[.string s] w fun e w' => e = .returned (rv (rnum s.data.toList)) ∧ w = w' := by
  have hsz := Lib.size_eq s
  cases hl : s.data.toList with
  | nil =>
    obtain rfl : s = ⟨#[]⟩ := ext_list hl
    exact ref_empty w
  | cons c r =>
    rw [hl, List.length_cons] at hsz
    have g0 : ∀ h : 0 < s.size, s[0]'h = c := fun h => by
      have := Lib.data_getElem? s 0 h
      rw [hl] at this
      simpa using this.symm
    by_cases hm : c = 45
    · subst hm
      cases r with
      | nil =>
        obtain rfl : s = ⟨#[45]⟩ := ext_list hl
        exact ref_dash w
      | cons x l =>
        rw [List.length_cons] at hsz
        have hdl : (s.extract 1 s.size).data.toList = x :: l := by
          rw [ByteArray.data_extract, Array.toList_extract, hl]
          simp [List.extract_eq_take_drop]
          first | omega | (exact List.take_of_length_le (by simp; omega)) | (rw [hsz]; simp)
        have hds : (s.extract 1 s.size).size + 1 = s.size := by
          rw [Lib.size_eq (s.extract 1 s.size), hdl, List.length_cons]
          omega
        have gd : ∀ h : 0 < (s.extract 1 s.size).size, (s.extract 1 s.size)[0]'h = x := fun h => by
          have := Lib.data_getElem? (s.extract 1 s.size) 0 h
          rw [hdl] at this
          simpa using this.symm
        unfold rnum
        simp only [List.head?_cons, List.drop_succ_cons, List.drop_zero, if_true]
        by_cases hx : x = 48
        · subst hx
          rw [if_pos (.inr (.inl ⟨rfl, .inr trivial⟩))]
          exact ref_mlead s _ (by omega) hs (g0 _) rfl hds w gd
        · by_cases h19 : 19 < (x :: l).length
          · rw [if_pos (.inr (.inr h19))]
            rw [List.length_cons] at h19
            exact ref_mlong s _ (by omega) hs (g0 _) rfl hds w (by omega) x gd hx
          · rw [if_neg (by simp [hx] at h19 ⊢; omega)]
            rw [List.length_cons] at h19
            refine ref_minus s _ (by omega) hs (g0 _) rfl hds w (by omega) x gd hx _ ?_
            show _ = _
            rw [hdl]
            cases rgo 0 (x :: l) <;> rfl
    · have hmin : ¬ (c :: r).head? = some 45 := by simpa using hm
      by_cases hx : c = 48
      · subst hx
        cases r with
        | nil =>
          obtain rfl : s = ⟨#[48]⟩ := ext_list hl
          have : rnum [48] = some 0 := by decide +kernel
          rw [this]
          exact ref_zero w
        | cons y l =>
          rw [List.length_cons] at hsz
          have : rnum (48 :: y :: l) = none := by
            unfold rnum
            simp only [hmin, if_false]
            rw [if_pos (.inr (.inl ⟨rfl, .inl (by simp)⟩))]
          rw [this]
          exact ref_lead s (by omega) hs w (g0 _)
      · by_cases h19 : 19 < (c :: r).length
        · have : rnum (c :: r) = none := by
            unfold rnum
            simp only [hmin, if_false]
            rw [if_pos (.inr (.inr h19))]
          rw [this]
          rw [List.length_cons] at h19
          exact ref_long s (by omega) hs w c (g0 _) hm hx
        · rw [← hl]
          rw [List.length_cons] at h19
          refine ref_plain s (by omega) (by omega) w c (g0 _) hm hx ?_
          show _ = _
          rw [hl]
          unfold rnum
          simp only [hmin, if_false]
          rw [if_neg (by simp [hx]; omega)]
          cases rgo 0 (c :: r) <;> rfl

end Go.Proofs.YtjnmmkohmfhnlaaDoor
