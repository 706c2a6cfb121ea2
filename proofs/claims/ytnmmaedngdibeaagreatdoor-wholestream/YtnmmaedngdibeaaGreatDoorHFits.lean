/-
  Contracts: math/bits.Len64, octal.countDigits, octal.Fits: each returns what the plain functions say; the world is as it was.
-/
import Derived.Test.YtnmmaedngdibeaaGreatDoorChecked
import Derived.Test.YtnmmaedngdibeaaGreatDoorHPlain
import Derived.WalkKit
namespace Go.Proofs.YtnmmaedngdibeaaGreatDoor.H
open Go.RowKit

theorem tab_len (i : Nat) (h : i < Lib.len8tab.size) : Lib.len8tab[i].toNat = Lib.bitLen i ∧ Lib.bitLen i ≤ 8 := by
  have h2 := h
  rw [Lib.len8tab_size] at h2
  have e := Lib.len8_eq ⟨i, h2⟩
  have l := Lib.bitLen_le8 ⟨i, h2⟩
  simp only [Lib.len8, Int.toNat_natCast, ByteArray.getElem?_lt' _ _ h, Option.getD_some] at e l
  exact ⟨by omega, l⟩

theorem wrap_sum (k a b c : Nat) (ha : a ≤ 8) (e : a = b) (s : c = k + b) (h : c ≤ 64) : wrap64 ((k : Int) + wrap64 (a : Int)) = (c : Int) := by
  unfold wrap64
  omega

theorem len_way (x b : Int) (k : Nat) (h : b.toNat < Lib.len8tab.size) (hx : x.toNat < 2 ^ 64) (hb : b.toNat = x.toNat / 2 ^ k) (hk : 2 ^ k ≤ x.toNat) :
    wrap64 ((k : Int) + wrap64 (Lib.len8tab[b.toNat].toNat : Int)) = (Lib.bitLen x.toNat : Int) :=
  wrap_sum k _ (Lib.bitLen (x.toNat / 2 ^ k)) _ ((tab_len b.toNat h).1 ▸ (tab_len b.toNat h).2) (hb ▸ (tab_len b.toNat h).1) (Lib.bitLen_shift k x.toNat hk hx) (bitLen_le64 x.toNat hx)

theorem len_way0 (x : Int) (h : x.toNat < Lib.len8tab.size) :
    wrap64 (wrap64 (Lib.len8tab[x.toNat].toNat : Int)) = (Lib.bitLen x.toNat : Int) := by
  obtain ⟨e, l⟩ := tab_len x.toNat h
  rw [e]
  unfold wrap64
  omega

set_option maxHeartbeats 4000000 in
set_option maxRecDepth 100000 in
theorem len64_any (x : Int) (w : World) (h0 : 0 ≤ x) (h1 : x ≤ 18446744073709551615) :
    Calls Tryz.prog 83 #[.int .u64 x] w fun e w' => e = .returned (.int .i64 (Lib.bitLen x.toNat)) ∧ w' = w := by
  have hsz : Lib.len8tab.size = 256 := Lib.len8tab_size
  go_enter Tryz.func83, Tryz.ntmps83
  go_wp2
  all_goals (go_ret; refine ⟨congrArg Ending.returned (congrArg (Value.int IntKind.i64) ?_), rfl⟩)
  · exact len_way x _ 56 _ (by omega) (by omega) (by omega)
  · exact len_way x _ 48 _ (by omega) (by omega) (by omega)
  · exact len_way x _ 40 _ (by omega) (by omega) (by omega)
  · exact len_way x _ 32 _ (by omega) (by omega) (by omega)
  · exact len_way x _ 24 _ (by omega) (by omega) (by omega)
  · exact len_way x _ 16 _ (by omega) (by omega) (by omega)
  · exact len_way x _ 8 _ (by omega) (by omega) (by omega)
  · exact len_way0 x _

theorem count_any (n : Int) (w : World) (h0 : 0 ≤ n) (h1 : n ≤ 9223372036854775807) :
    Calls Tryz.prog 67 #[.int .i64 n] w fun e w' => e = .returned (.int .i64 (odig n.toNat)) ∧ w' = w := by
  have hl := bitLen_le64 n.toNat (by omega)
  go_enter Tryz.func67, Tryz.ntmps67
  go_wp2_with (go_at_call 83; refine (len64_any _ _ (by omega) (by omega)).mono ?_; rintro e w' ⟨rfl, rfl⟩)
  all_goals (go_ret; refine ⟨congrArg Ending.returned (congrArg (Value.int IntKind.i64) ?_), rfl⟩; simp only [odig]; omega)

theorem fits_any (n v : Int) (w : World) (h0 : -9223372036854775808 ≤ n) (h1 : n ≤ 9223372036854775807) :
    Calls Tryz.prog 50 #[.int .i64 n, .int .i64 v] w fun e w' => e = .returned (.bool (fitsB n v)) ∧ w' = w := by
  by_cases a : 0 ≤ n
  · by_cases b : 2 ≤ v
    · go_enter Tryz.func50, Tryz.ntmps50
      go_wp2_with (go_at_call 67; refine (count_any _ _ (by omega) (by omega)).mono ?_; rintro e w' ⟨rfl, rfl⟩)
      all_goals (go_ret; refine ⟨congrArg Ending.returned (congrArg Value.bool ?_), rfl⟩; simp [fitsB, a, b])
    · go_enter Tryz.func50, Tryz.ntmps50
      go_wp2
      all_goals (go_ret; refine ⟨congrArg Ending.returned (congrArg Value.bool ?_), rfl⟩; simp [fitsB]; omega)
  · go_enter Tryz.func50, Tryz.ntmps50
    go_wp2
    all_goals (go_ret; refine ⟨congrArg Ending.returned (congrArg Value.bool ?_), rfl⟩; simp [fitsB]; omega)

theorem fits_w (n v : Int) (w : World) (h0 : -9223372036854775808 ≤ n) (h1 : n ≤ 9223372036854775807) :
    Calls Tryz.prog 50 #[.int .i64 n, .int .i64 v] w fun e w' => e = .returned (.bool (fitsB n v)) ∧ w = w' :=
  (fits_any n v w h0 h1).mono fun _ _ h => ⟨h.1, h.2.symm⟩

end Go.Proofs.YtnmmaedngdibeaaGreatDoor.H
