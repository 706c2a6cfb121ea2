/-
  The walk of WholeFields, for every list.
-/
import Derived.Test.YtamdonhmholjpacDoorWhole0
namespace Go.Proofs.YtamdonhmholjpacDoor.wholeFields
open Go.RowKit

set_option maxRecDepth 100000 in
set_option maxHeartbeats 4000000 in
theorem walk_nil (ad : Option Addr) (cap : Nat) (k d : Nat) (w : World) (hL : Laid w) (hk0 : 2 ≤ k) (hk1 : k ≤ 24) (hd : d ≤ 20) :
    Calls Tryd.prog 3 #[.slice ad 0 cap, .int .i64 k, .int .i64 d] w fun ev w' => ev = .returned (.bool true) ∧ St w w' := by
  have kc := fun (w : World) (C : Array Value) (n c : Nat) => Lib.run_convert_bytes_const (P := Tryd.prog) w 26 5 C n c Tryd.underlying26 Tryd.underlying5
  have c1 : ¬ (k : Int) < 2 := by omega
  have c2 : ¬ 24 < (k : Int) := by omega
  have c3 : ¬ (d : Int) < 0 := by omega
  have c4 : ¬ 20 < (d : Int) := by omega
  go_enter Tryd.func3, Tryd.ntmps3
  go_wp2_with fail
  refine (parse_head w _).mono ?_
  rintro e w' ⟨rfl, rfl⟩
  have h0 := laid_mark hL (.cells #[.int .u8 49, .int .u8 50, .int .u8 0] 5 (3, 3 + 1))
  go_wp2_with fail
  refine (new20 _).mono ?_
  rintro e w' ⟨rfl, rfl⟩
  go_wp2_with fail
  refine (code20 _ h0.1).mono ?_
  rintro e w1 ⟨rfl, hb1⟩
  have h1 := h0.step hb1
  clear hb1 h0 kc
  go_wp2_with fail
  refine wp_loop_rounds 1 ?_
  rw [rounds_succ]
  go_wp2
  go_ret
  exact ⟨rfl, h1⟩

theorem walk_all (ad : Option Addr) (n cap : Nat) (zs : List Int) (v d : Int) (w : World) (hL : Laid w) (hcap : n ≤ cap) (hbig : cap ≤ 9223372036854775807)
    (HZ : ∀ i : Nat, -9223372036854775808 ≤ nth zs i ∧ nth zs i ≤ 9223372036854775807)
    (H : n = 0 ∨ ∃ b off, ad = some ⟨b, off, none⟩ ∧ ∀ W, St w W → ∀ i : Nat, i < n → W.cell? ⟨b, off + i, none⟩ = some (.int .i64 (nth zs i))) :
    Calls Tryd.prog 3 #[.slice ad n cap, .int .i64 v, .int .i64 d] w fun ev w' => ev = .returned (.bool true) ∧ St w w' := by
  by_cases c : 30 < n ∨ v < 2 ∨ 24 < v ∨ d < 0 ∨ 20 < d
  · exact walk_out ad n cap v d w hL (by omega) c
  · obtain ⟨k, rfl⟩ : ∃ k : Nat, v = k := ⟨v.toNat, by omega⟩
    obtain ⟨e, rfl⟩ : ∃ e : Nat, d = e := ⟨d.toNat, by omega⟩
    rcases H with rfl | ⟨b, off, rfl, HC⟩
    · exact walk_nil ad cap k e w hL (by omega) (by omega) (by omega)
    · exact walk_in b off n cap zs k e w hL (by omega) (by omega) (by omega) (by omega) HC HZ

end Go.Proofs.YtamdonhmholjpacDoor.wholeFields
