/-
  Contracts: path.rank, path.Compare.
-/
import Derived.Test.YtmeaiplinkodiabDoorFnb
import Derived.BigQuiet
import Derived.Deep.QuietTactic
namespace Go.Proofs.YtmeaiplinkodiabDoor
open Go.RowKit
open Go.Lib hiding intOf
set_option linter.unusedVariables false
set_option linter.unusedSimpArgs false

/-! Compare -/

def rk (c : UInt8) : Int := if c = 47 then -1 else c.toNat

theorem rank_w (c : UInt8) (w : World) : Calls Tryd.prog 31 #[.int .u8 (c.toNat : Int)] w fun e w' => e = .returned (.int .i64 (rk c)) ∧ w' = w := by
  have hb := c.toNat_lt
  by_cases h : c = 47
  · subst h
    have e : (((47 : UInt8).toNat : Nat) : Int) = 47 := rfl
    rw [e]
    have HF : Hid (rk 47 = -1) := hid (by decide)
    go_enter Tryd.func31, Tryd.ntmps31
    go_wp2_with fail
    go_ret
    exact ⟨by rw [HF.out]; rfl, rfl⟩
  · have h' : ¬ ((c.toNat : Int) = 47) := fun e => h (UInt8.toNat_inj.1 (show c.toNat = 47 by omega))
    have HF : Hid (rk c = c.toNat) := hid (by unfold rk; rw [if_neg h])
    generalize c.toNat = n at *
    go_enter Tryd.func31, Tryd.ntmps31
    go_wp2_with fail
    go_ret
    exact ⟨by rw [HF.out]; rfl, rfl⟩

/-- which of two texts stands ahead -/
def cmpL : List UInt8 → List UInt8 → Int
  | [], [] => 0
  | [], _ :: _ => -1
  | _ :: _, [] => 1
  | a :: x, b :: y => if a = b then cmpL x y else Lib.compareInt (rk a) (rk b)

theorem cmpL_same (a b : List UInt8) (i : Nat) (h1 : i < a.length) (h2 : i < b.length) (e : a[i] = b[i]) : cmpL (a.drop i) (b.drop i) = cmpL (a.drop (i + 1)) (b.drop (i + 1)) := by
  rw [List.drop_eq_getElem_cons h1, List.drop_eq_getElem_cons h2, cmpL]; simp [e]
theorem cmpL_diff (a b : List UInt8) (i : Nat) (h1 : i < a.length) (h2 : i < b.length) (e : ¬ a[i] = b[i]) : cmpL (a.drop i) (b.drop i) = Lib.compareInt (rk a[i]) (rk b[i]) := by
  rw [List.drop_eq_getElem_cons h1, List.drop_eq_getElem_cons h2, cmpL]; simp [e]

theorem cmpL_end (a b : List UInt8) (i : Nat) (h1 : i ≤ a.length) (h2 : i ≤ b.length) (h : ¬ (i < a.length ∧ i < b.length)) : cmpL (a.drop i) (b.drop i) = Lib.compareInt a.length b.length := by
  unfold Lib.compareInt
  by_cases c1 : i < a.length
  · have : i = b.length := by omega
    subst this
    rw [List.drop_length]
    rw [List.drop_eq_getElem_cons c1, cmpL, if_neg (by omega), if_pos (by omega)]
  · have : i = a.length := by omega
    subst this
    rw [List.drop_length]
    by_cases c2 : a.length < b.length
    · rw [List.drop_eq_getElem_cons c2, cmpL, if_pos (by omega)]
    · rw [List.drop_of_length_le (by omega), cmpL, if_neg (by omega), if_neg (by omega)]

set_option maxHeartbeats 2000000 in
theorem compare_b (s t : ByteArray) (ha : s.size ≤ 4611686018427387903) (hb : t.size ≤ 4611686018427387903) (w : World) :
    Calls Tryd.prog 20 #[.string s, .string t] w fun e w' => e = .returned (.int .i64 (cmpL s.data.toList t.data.toList)) ∧ Below w.heap.size w w' := by
  have qr := fun c W => rank_w c W
  have qc := fun x y W => Tryd.cmp_Compare_int x y W
  have ZA : Hid (s.data.toList.length = s.size) := (Lib.size_eq s).symm
  have ZB : Hid (t.data.toList.length = t.size) := (Lib.size_eq t).symm
  go_enter Tryd.func20, Tryd.ntmps20
  go_wp2_with fail
  go_loopw [11] (fun u wr => ∃ i : Nat, i ≤ s.size ∧ i ≤ t.size ∧ u = .int .i64 i ∧ Hid (cmpL s.data.toList t.data.toList = cmpL (s.data.toList.drop i) (t.data.toList.drop i)) ∧ Below w.heap.size w wr) (fun u _ => s.size - (RowKit.intOf u).toNat)
  case atStart => exact ⟨0, Nat.zero_le _, Nat.zero_le _, rfl, rfl, Below.refl _ _⟩
  case round =>
    obtain ⟨i, h1, h2, rfl, H, bb⟩ := hrel
    by_cases c : i < s.size ∧ i < t.size
    · obtain ⟨c1, c2⟩ := c
      have h := H.out
      have l1 : i < s.data.toList.length := by rw [ZA.out]; exact c1
      have l2 : i < t.data.toList.length := by rw [ZB.out]; exact c2
      obtain ⟨x, hx⟩ : ∃ x : UInt8, s[i]'c1 = x := ⟨_, rfl⟩
      obtain ⟨y, hy⟩ : ∃ y : UInt8, t[i]'c2 = y := ⟨_, rfl⟩
      have e1 : s.data.toList[i] = x := by rw [← hx]; rfl
      have e2 : t.data.toList[i] = y := by rw [← hy]; rfl
      by_cases e : x = y
      · subst e
        rw [cmpL_same _ _ i l1 l2 (e1.trans e2.symm)] at h
        have H2 : Hid (cmpL s.data.toList t.data.toList = cmpL (s.data.toList.drop (i + 1)) (t.data.toList.drop (i + 1))) := h
        clear h e1 e2 l1 l2
        go_wp2_with fail
        go_quiet (fail)
        go_wp2_with fail
        go_roundw
        case rel => exact ⟨i + 1, by omega, by omega, by simp, H2, bb.drewN' _⟩
        case measure => simp [RowKit.intOf]; omega
      · rw [cmpL_diff _ _ i l1 l2 (by rw [e1, e2]; exact e), e1, e2] at h
        have H2 : Hid (cmpL s.data.toList t.data.toList = Lib.compareInt (rk x) (rk y)) := h
        have e' : ¬ (x.toNat : Int) = (y.toNat : Int) := fun h => e (UInt8.toNat_inj.1 (by omega))
        have qx := fun W => rank_w x W
        have qy := fun W => rank_w y W
        have qz := fun W => Tryd.cmp_Compare_int (rk x) (rk y) W
        generalize Lib.compareInt (rk x) (rk y) = z at *
        generalize rk x = p at *
        generalize rk y = q at *
        clear h e e1 e2 l1 l2 qr qc
        go_wp2_with fail
        go_quiet (fail)
        have b7 := bb.drewN' nq
        generalize wr.drewN nq = w7 at *
        go_wp2_with fail
        go_quiet ((first | (go_at_call 31; exact Calls.quiet_of_same (qx _)) | (go_at_call 31; exact Calls.quiet_of_same (qy _)) | (go_at_call 30; exact Calls.quiet_of_same (qz _))))
        go_wp2_with fail
        go_ret
        exact ⟨by rw [H2.out]; rfl, b7.drewN' _⟩
    · have h := H.out
      rw [cmpL_end _ _ i (by rw [ZA.out]; exact h1) (by rw [ZB.out]; exact h2) (by rw [ZA.out, ZB.out]; exact c), ZA.out, ZB.out] at h
      have H2 : Hid (cmpL s.data.toList t.data.toList = Lib.compareInt s.size t.size) := h
      clear h
      by_cases c1 : i < s.size
      · have c2 : ¬ i < t.size := fun h => c ⟨c1, h⟩
        go_wp2_with (go_at_call 30; refine (qc _ _ _).mono ?_; rintro e w' ⟨rfl, hw⟩; rw [hw])
        go_ret
        exact ⟨by rw [H2.out]; rfl, bb⟩
      · go_wp2_with (go_at_call 30; refine (qc _ _ _).mono ?_; rintro e w' ⟨rfl, hw⟩; rw [hw])
        go_ret
        exact ⟨by rw [H2.out]; rfl, bb⟩

theorem compare_w (a b : List UInt8) (ha : a.length ≤ 4611686018427387903) (hb : b.length ≤ 4611686018427387903) (w : World) :
    Calls Tryd.prog 20 #[.string (bs a), .string (bs b)] w fun e w' => e = .returned (.int .i64 (cmpL a b)) ∧ Below w.heap.size w w' := by
  have := compare_b (bs a) (bs b) (by rw [bs_size]; exact ha) (by rw [bs_size]; exact hb) w
  rwa [bs_data, bs_data] at this

end Go.Proofs.YtmeaiplinkodiabDoor
