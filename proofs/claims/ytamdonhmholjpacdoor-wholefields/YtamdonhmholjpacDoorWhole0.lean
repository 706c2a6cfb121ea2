/-
  The walk of WholeFields.
-/
import Derived.Test.YtamdonhmholjpacDoorTells
import Derived.Test.YtamdonhmholjpacDoorParse
import Derived.Test.YtamdonhmholjpacDoorFormat
import Derived.Test.YtamdonhmholjpacDoorPf
import Derived.Lib.SlBytesConst
import Derived.Deep.QuietTactic
import Derived.BigQuiet
import Derived.WalkSmall
namespace Go.Proofs.YtamdonhmholjpacDoor.wholeFields
open Go.RowKit

theorem bytes_mark (w : World) (cs : List Int) (t : TypeId) (m : Nat × Nat) (hl : cs.length ≤ 9223372036854775807) (h : ∀ z ∈ cs, 0 ≤ z ∧ z ≤ 255) : Bytes (w.alloc (.cells (row cs) t m)) (some ⟨w.heap.size, 0, none⟩) cs := by
  refine ⟨hl, .inr ⟨w.heap.size, 0, rfl, fun i hi => ?_⟩, fun i => ?_⟩
  · rw [Nat.zero_add, World.cell?_alloc_mark, row_get cs i hi]
  · by_cases hi : i < cs.length
    · simp [hi]; exact h _ (List.getElem_mem hi)
    · simp [hi]

theorem parse_head (w : World) (m : Nat × Nat) :
    Calls Tryd.prog 4 #[.slice (some ⟨w.heap.size, 0, none⟩) 3 3] (w.alloc (.cells #[.int .u8 49, .int .u8 50, .int .u8 0] 5 m))
      fun e w' => e = .returned (.tuple #[.int .i64 10, .int .i64 0]) ∧ (w.alloc (.cells #[.int .u8 49, .int .u8 50, .int .u8 0] 5 m)) = w' :=
  parse_w (some ⟨w.heap.size, 0, none⟩) 3 [49, 50, 0] _ (by decide) (by decide) (bytes_mark w [49, 50, 0] 5 m (by decide) (by decide))

theorem laid_mark {w : World} (h : Laid w) (o : Obj) : St w (w.alloc o) := (St.start h).step ((Below.refl _ _).alloc (Nat.le_refl _) _)

theorem new20 (W : World) : Calls Tryd.prog 6 #[.int .i64 20, .int .i64 3] W fun ev w' => ev = .returned (chain 20 [3]) ∧ W = w' := new_any 20 3 W rfl
theorem code20 (W : World) (h : Laid W) : Calls Tryd.prog 5 #[chain 20 [3]] W fun ev w' => ev = .returned (.int .i64 20) ∧ Below W.heap.size W w' := code_any (some [3]) 20 W h

/-- What is told of the list: its numbers lie there, in each world on the way. -/
def Told (w : World) (ad : Option Addr) (n cap : Nat) (zs : List Int) : Prop :=
  n ≤ cap ∧ cap ≤ 9223372036854775807 ∧ (n = 0 ∨ ∃ b off, ad = some ⟨b, off, none⟩ ∧ ∀ W, St w W → ∀ i : Nat, i < n → W.cell? ⟨b, off + i, none⟩ = some (.int .i64 (zs[i]?.getD 0)))

set_option maxRecDepth 100000 in
set_option maxHeartbeats 1000000 in
theorem walk_out (ad : Option Addr) (n cap : Nat) (v d : Int) (w : World) (hL : Laid w) (hb : n ≤ 9223372036854775807) (h : 30 < n ∨ v < 2 ∨ 24 < v ∨ d < 0 ∨ 20 < d) : Calls Tryd.prog 3 #[.slice ad n cap, .int .i64 v, .int .i64 d] w fun ev w' => ev = .returned (.bool true) ∧ St w w' := by
  have kc := fun (w : World) (C : Array Value) (n c : Nat) => Lib.run_convert_bytes_const (P := Tryd.prog) w 26 5 C n c Tryd.underlying26 Tryd.underlying5
  go_enter Tryd.func3, Tryd.ntmps3
  go_wp2_with fail
  refine (parse_head w _).mono ?_
  rintro e w' ⟨rfl, rfl⟩
  have h0 := laid_mark hL (.cells #[.int .u8 49, .int .u8 50, .int .u8 0] 5 (3, 3 + 1))
  go_wp2_with fail
  refine (new20 _).mono ?_
  rintro e w' ⟨rfl, rfl⟩
  go_wp2_with fail
  refine (code20 _ h0.1).mono ?_
  rintro e w1 ⟨rfl, hb1⟩
  have h1 := h0.step hb1
  clear hb1 h0 kc
  by_cases c0 : 30 < (n : Int)
  · go_wp2
    go_ret
    exact ⟨rfl, h1⟩
  · by_cases c1 : v < 2
    · go_wp2
      go_ret
      exact ⟨rfl, h1⟩
    · by_cases c2 : 24 < v
      · go_wp2
        go_ret
        exact ⟨rfl, h1⟩
      · by_cases c3 : d < 0
        · go_wp2
          go_ret
          exact ⟨rfl, h1⟩
        · have c4 : 20 < d := by omega
          clear h
          go_wp2
          go_ret
          exact ⟨rfl, h1⟩

/-- The number at a place; behind the end 0. -/
def nth (ps : List Int) (i : Nat) : Int := ps[i]?.getD 0

theorem st_drewN {w W : World} (h : St w W) (n : Nat) : St w (W.drewN n) := h.step (below_drewN (Below.refl _ _) n)

theorem bytes_row (w : World) (cs : List Int) (hl : cs.length ≤ 9223372036854775807) (h : ∀ z ∈ cs, 0 ≤ z ∧ z ≤ 255) (n : Nat) : Bytes ((w.alloc (.cells (row cs) 5)).drewN n) (some ⟨w.heap.size, 0, none⟩) cs := by
  refine ⟨hl, .inr ⟨w.heap.size, 0, rfl, fun i hi => ?_⟩, fun i => ?_⟩
  · show (w.alloc (.cells (row cs) 5)).cell? _ = _
    rw [Nat.zero_add, World.cell?_alloc_new, row_get cs i hi]
  · by_cases hi : i < cs.length
    · simp [hi]; exact h _ (List.getElem_mem hi)
    · simp [hi]

theorem parse_field (wr : World) (x : Int) (k : Nat) (x0 : 0 ≤ x) (z1 : x ≤ 9223372036854775807) (hk0 : 2 ≤ k) (hk1 : k ≤ 24) (hf : fitsB x k = true) (nq : Nat) :
    Calls Tryd.prog 4 #[.slice (some ⟨wr.heap.size, 0, none⟩) k k] ((wr.alloc (.cells (row (octs x (k - 1) ++ [0])) 5)).drewN nq) fun e w' => e = .returned (.tuple #[.int .i64 x, .int .i64 0]) ∧ (wr.alloc (.cells (row (octs x (k - 1) ++ [0])) 5)).drewN nq = w' := by
  have hlen : (octs x (k - 1) ++ [0]).length = k := by simp [octs_length]; omega
  have hp : parseO (octs x (k - 1) ++ [0]) = some x := by
    obtain ⟨m, rfl⟩ : ∃ m, k = m + 2 := ⟨k - 2, by omega⟩
    have := ((fits_iff x ((m + 2 : Nat) : Int) z1 (by omega)).1 hf).2
    rw [show (((m + 2 : Nat) : Int) - 1).toNat = m + 1 by omega] at this
    exact parseO_field x m x0 this z1
  have := parse_w (some ⟨wr.heap.size, 0, none⟩) k (octs x (k - 1) ++ [0]) _ (by omega) (by omega) (bytes_row wr _ (by omega) (field_bytes x (k - 1)) nq)
  rw [hlen, hp] at this
  exact this

set_option maxRecDepth 100000 in
set_option maxHeartbeats 4000000 in
theorem walk_in (b off n cap : Nat) (zs : List Int) (k d : Nat) (w : World) (hL : Laid w) (hn : n ≤ 30) (hk0 : 2 ≤ k) (hk1 : k ≤ 24) (hd : d ≤ 20)
    (HC : Hid (∀ W, St w W → ∀ i : Nat, i < n → W.cell? ⟨b, off + i, none⟩ = some (.int .i64 (nth zs i)))) (HZ : Hid (∀ i : Nat, -9223372036854775808 ≤ nth zs i ∧ nth zs i ≤ 9223372036854775807)) :
    Calls Tryd.prog 3 #[.slice (some ⟨b, off, none⟩) n cap, .int .i64 k, .int .i64 d] w fun ev w' => ev = .returned (.bool true) ∧ St w w' := by
  have kc := fun (w : World) (C : Array Value) (n c : Nat) => Lib.run_convert_bytes_const (P := Tryd.prog) w 26 5 C n c Tryd.underlying26 Tryd.underlying5
  have c0 : ¬ 30 < (n : Int) := by omega
  have c1 : ¬ (k : Int) < 2 := by omega
  have c2 : ¬ 24 < (k : Int) := by omega
  have c3 : ¬ (d : Int) < 0 := by omega
  have c4 : ¬ 20 < (d : Int) := by omega
  go_enter Tryd.func3, Tryd.ntmps3
  go_wp2_with fail
  refine (parse_head w _).mono ?_
  rintro e w' ⟨rfl, rfl⟩
  have h0 := laid_mark hL (.cells #[.int .u8 49, .int .u8 50, .int .u8 0] 5 (3, 3 + 1))
  go_wp2_with fail
  refine (new20 _).mono ?_
  rintro e w' ⟨rfl, rfl⟩
  go_wp2_with fail
  refine (code20 _ h0.1).mono ?_
  rintro e w1 ⟨rfl, hb1⟩
  have h1 := h0.step hb1
  clear hb1 h0 kc
  go_wp2_with fail
  go_loopw [55] (fun i wr => ∃ j : Nat, j ≤ n ∧ i = .int .i64 j ∧ St w wr) (fun i _ => n - (intOf i).toNat)
  case atStart => exact ⟨0, Nat.zero_le _, rfl, h1⟩
  case round =>
    obtain ⟨j, hj, rfl, hst⟩ := hrel
    by_cases cj : j < n
    · have hcell := HC.out wr hst j cj
      obtain ⟨z0, z1⟩ := HZ.out j
      generalize hx : nth zs j = x at *
      clear hx HC HZ h1
      cases hf : fitsB x k with
      | true =>
        have x0 : 0 ≤ x := ((fits_iff x k z1 (by omega)).1 hf).1
        have pk : ∀ nq, Calls Tryd.prog 4 #[.slice (some ⟨wr.heap.size, 0, none⟩) k k] ((wr.alloc (.cells (row (octs x (k - 1) ++ [0])) 5)).drewN nq) fun e w' => e = .returned (.tuple #[.int .i64 x, .int .i64 0]) ∧ (wr.alloc (.cells (row (octs x (k - 1) ++ [0])) 5)).drewN nq = w' := parse_field wr x k x0 z1 hk0 hk1 hf
        have HS : Hid (St w (wr.alloc (.cells (row (octs x (k - 1) ++ [0])) 5))) := hst.step ((Below.refl _ _).alloc (Nat.le_refl _) _)
        go_wp2_with fail
        refine (format_yes x k _ x0 z1 hk0 hk1 hf).mono ?_
        rintro e w' ⟨rfl, rfl⟩
        go_wp2_with fail
        refine (new_ok _ _).mono ?_
        rintro e w' ⟨rfl, rfl⟩
        go_wp2_with fail
        go_loop [13, 70] (fun v i => ∃ m : Nat, m ≤ d ∧ i = .int .i64 m ∧ v = .nilIface) (fun _ i => d - (intOf i).toNat)
        case atStart => exact ⟨0, Nat.zero_le _, rfl, rfl⟩
        case round =>
          obtain ⟨m, hm, rfl, rfl⟩ := hrel
          by_cases cm : m < d
          · go_wp2_with fail
            refine (wrap_nil _ _).mono ?_
            rintro e w' ⟨rfl, rfl⟩
            go_wp2
            go_round
            case rel => exact ⟨m + 1, by omega, by go_num, rfl⟩
            case measure => simp [intOf]; omega
          · go_wp2_with fail
            go_quiet ((go_at_call 9; exact Calls.quiet_of_same (fits_any x k _ z0 z1)))
            go_wp2_with fail
            refine (pk _).mono ?_
            rintro e w' ⟨rfl, rfl⟩
            go_wp2
            go_roundw
            case rel => exact ⟨j + 1, by omega, by go_num, st_drewN HS.out _⟩
            case measure => simp [intOf]; omega
      | false =>
        go_wp2_with fail
        refine (format_no x k _ z0 z1 (by omega) (by omega) hf).mono ?_
        rintro e w' ⟨rfl, rfl⟩
        go_wp2_with fail
        refine (new_any 20 _ _ rfl).mono ?_
        rintro e w' ⟨rfl, rfl⟩
        go_wp2_with fail
        go_loop [13, 70] (fun v i => ∃ (m : Nat) (l : List Int), m ≤ d ∧ i = .int .i64 m ∧ v = chain 20 l ∧ l.length = m + 1) (fun _ i => d - (intOf i).toNat)
        case atStart => exact ⟨0, [(j : Int)], Nat.zero_le _, rfl, rfl, rfl⟩
        case round =>
          obtain ⟨m, l, hm, rfl, rfl, hl⟩ := hrel
          by_cases cm : m < d
          · go_wp2_with fail
            refine (wrap_any l 20 _ _).mono ?_
            rintro e w' ⟨rfl, rfl⟩
            go_wp2
            go_round
            case rel => exact ⟨m + 1, (m : Int) :: l, by omega, by go_num, rfl, by simp [hl]⟩
            case measure => simp [intOf]; omega
          · obtain rfl : m = d := by omega
            have n1 : ∀ W, Calls Tryd.prog 10 #[chain 20 l, .int .i64 20] W fun ev w' => ev = .returned (.bool true) ∧ Below W.heap.size W w' := fun W => is_any (some l) 20 20 W
            have n2 : ∀ W, Calls Tryd.prog 11 #[chain 20 l] W fun ev w' => ev = .returned (.int .i64 ((m : Int) + 1)) ∧ Below W.heap.size W w' := fun W => (depth_any (some l) 20 W (by simp [left]; omega)).mono fun e w' q => ⟨q.1.trans (by simp [left, hl]), q.2⟩
            obtain ⟨t, y, hy⟩ := chain_form 20 l
            rw [hy] at n1 n2 ⊢
            clear hy hl
            go_wp2_with fail
            go_quiet ((go_at_call 9; exact Calls.quiet_of_same (fits_any x k _ z0 z1)))
            go_wp2_with fail
            refine (n1 _).mono ?_
            rintro e w2 ⟨rfl, hb2⟩
            have h2 := (st_drewN hst _).step hb2
            clear hb2
            go_wp2_with fail
            refine (n2 _).mono ?_
            rintro e w3 ⟨rfl, hb3⟩
            have h3 := h2.step hb3
            clear hb3 h2
            go_wp2
            go_roundw
            case rel => exact ⟨j + 1, by omega, by go_num, h3⟩
            case measure => simp [intOf]; omega
    · clear HC HZ h1
      go_wp2
      go_ret
      exact ⟨rfl, hst⟩

end Go.Proofs.YtamdonhmholjpacDoor.wholeFields
