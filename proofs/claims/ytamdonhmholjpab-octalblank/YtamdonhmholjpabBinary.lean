/-
  The law OctalBinary returns true for every number and every count; no condition.
-/
import Derived.Test.YtamdonhmholjpabRows
import Derived.Test.YtamdonhmholjpabReads
import Derived.Test.YtamdonhmholjpabPlain3
import Derived.WalkSpells
import Derived.ProofKit
import Derived.OpenShut
import Derived.ShutString
import Derived.ChangeOld
import Derived.Below
namespace Go.Proofs.Ytamdonhmholjpab.octalBinary
open Go.ChangeShapes Go.WideShapes Go.ChangeAt Go.RowKit
set_option linter.unusedVariables false


def be (n : Int) (j : Nat) : List Int := (List.range j).map fun t => n / 2 ^ (56 - 8 * t) % 256

theorem below_grown {w0 w w' : World} {o : Obj} {v : Value} {n : Nat} {xs : List Value} (hown : w.ownsRow w0.heap.size 5 1 v n xs) (hb : Below w0.heap.size w0 w) (hg : (w.alloc o).grownBy w' v.ownBlock) : Below w0.heap.size w0 w' :=
  (hb.alloc hb.size _).grown hg (by have := hb.size; simp; omega) fun k hk => (hown.lt k hk).1

def cellsOf (zs : List Int) : List Value := zs.map (Value.int .u8)
def pad (first fill : Int) (k : Nat) : List Int := first :: List.replicate k fill

theorem own_snoc {w : World} {b : Nat} {v : Value} {n : Nat} {xs : List Int} {z : Int} (h : w.ownsRow b 5 1 v n (cellsOf xs ++ [.int .u8 z])) : w.ownsRow b 5 1 v n (cellsOf (xs ++ [z])) := by
  simpa [cellsOf] using h

theorem pad_snoc (x y : Int) (k : Nat) : pad x y k ++ [y] = pad x y (k + 1) := by
  simp [pad, List.replicate_succ']

theorem be_snoc (n : Int) (j : Nat) : be n j ++ [n / 2 ^ (56 - 8 * j) % 256] = be n (j + 1) := by
  simp [be, List.range_succ]

theorem own_form {w : World} {b : Nat} {v : Value} {n : Nat} {xs : List Value} (h : w.ownsRow b 5 1 v (n + 1 + 8) xs) : ∃ g cap, v = .slice (some ⟨g, 0, none⟩) (n + 1 + 8) cap ∧ b ≤ g ∧ n + 1 + 8 ≤ cap ∧ cap ≤ maxLen := by
  rcases h.2 with ⟨_, h0⟩ | ⟨g, cap, cur, hv, hb, _, h1, h2, _⟩
  · omega
  · exact ⟨g, cap, hv, hb, h1, h2⟩

theorem own_bytes {w : World} {b g n cap : Nat} {zs : List Int} (h : w.ownsRow b 5 1 (.slice (some ⟨g, 0, none⟩) n cap) n (cellsOf zs)) (hl : zs.length = n) (hbig : zs.length ≤ 9223372036854775807) (hz : ∀ z ∈ zs, 0 ≤ z ∧ z ≤ 255) : Bytes w (some ⟨g, 0, none⟩) zs := by
  refine ⟨hbig, .inr ⟨g, 0, rfl, fun i hi => ?_⟩, fun i => ?_⟩
  · rw [Nat.zero_add, h.cellAt i (by omega)]
    simp [cellsOf, hi]
  · by_cases hi : i < zs.length
    · simp [hi]; exact hz _ (List.getElem_mem hi)
    · simp [hi]

theorem pad_be_bytes (x y : Int) (k : Nat) (n : Int) (hx : 0 ≤ x ∧ x ≤ 255) (hy : 0 ≤ y ∧ y ≤ 255) : ∀ z ∈ pad x y k ++ be n 8, 0 ≤ z ∧ z ≤ 255 := by
  intro z hz
  simp only [pad, be, List.mem_append, List.mem_cons, List.mem_replicate, List.mem_map] at hz
  rcases hz with (rfl | ⟨_, rfl⟩) | ⟨t, _, rfl⟩
  · exact hx
  · exact hy
  · omega

theorem val_be (n n0 : Int) (h : n / 18446744073709551616 = n0) : ∀ j, j ≤ 8 → val (be n j) n0 = n / 2 ^ (64 - 8 * j) := by
  intro j
  induction j with
  | zero => intro _; rw [show be n 0 = [] from rfl]; exact h.symm
  | succ j ih =>
    intro hj
    rw [← be_snoc, val_append, ih (by omega)]
    simp only [val]
    have e : (2 : Int) ^ (64 - 8 * j) = 2 ^ (56 - 8 * j) * 256 := by
      rw [show 64 - 8 * j = (56 - 8 * j) + 8 by omega, Int.pow_add]; rfl
    have e2 : 64 - 8 * (j + 1) = 56 - 8 * j := by omega
    have hp : (0 : Int) < 2 ^ (56 - 8 * j) := Int.pow_pos (by decide)
    rw [e, e2, ← Int.ediv_ediv_of_nonneg (Int.le_of_lt hp)]
    generalize n / 2 ^ (56 - 8 * j) = y
    omega

theorem bgo_rep (sg n0 : Int) (hs : (sg = 0 ∧ n0 = 0) ∨ (sg = 255 ∧ n0 = -1)) (r : List Int) (k : Nat) : bgo (List.replicate k sg ++ r) n0 = bgo r n0 := by
  induction k with
  | zero => rfl
  | succ k ih => rw [List.replicate_succ, List.cons_append, bgo_sign sg n0 hs, ih]

theorem bgo_be (n n0 : Int) (h0 : -9223372036854775808 ≤ n) (h1 : n ≤ 9223372036854775807) (h : n / 18446744073709551616 = n0) (hn : -1 ≤ n0 ∧ n0 ≤ 0) : bgo (be n 8) n0 = some n := by
  have v := val_be n n0 h 8 (by decide)
  simp at v
  rw [bgo_val (be n 8) (fun z hz => (pad_be_bytes 0 0 0 n (by decide) (by decide)) z (by simp [hz])) n0 (by omega) (by omega), v, if_pos ⟨h0, h1⟩]

theorem parse_be_plus (n : Int) (k : Nat) (h0 : -9223372036854775808 ≤ n) (h1 : n ≤ 9223372036854775807) (hn : 0 ≤ n) : parseO (pad 128 0 k ++ be n 8) = some n := by
  show bgo (List.replicate k 0 ++ be n 8) 0 = some n
  rw [bgo_rep 0 0 (.inl ⟨rfl, rfl⟩), bgo_be n 0 h0 h1 (by omega) (by decide)]

theorem parse_be_minus (n : Int) (k : Nat) (h0 : -9223372036854775808 ≤ n) (h1 : n ≤ 9223372036854775807) (hn : n < 0) : parseO (pad 255 255 k ++ be n 8) = some n := by
  show bgo (List.replicate k 255 ++ be n 8) (-1) = some n
  rw [bgo_rep 255 (-1) (.inr ⟨rfl, rfl⟩), bgo_be n (-1) h0 h1 (by omega) (by decide)]

theorem info5c : (Try.prog.info? 5).map (fun i => (i.zero, i.size, i.bytes)) = some (some (.int .u8 0), 1, 1) := by kernel_rfl

set_option maxRecDepth 100000 in
set_option maxHeartbeats 4000000 in
theorem walk_plus (n : Int) (m : Nat) (w : World) (h0 : -9223372036854775808 ≤ n) (h1 : n ≤ 9223372036854775807) (hn : 0 ≤ n) (hm : m ≤ 20) :
    Calls Try.prog 5 #[.int .i64 n, .int .i64 m] w fun e w' => e = .returned (.bool true) ∧ Below w.heap.size w w' := by
  obtain ⟨i0, hi, hz0, hz1, hz2⟩ := info_parts info5c
  have hx : bits .xor .u8 128 1 = 129 := by decide
  go_enter Try.func5, Try.ntmps5
  go_wp2_with (go_at_call 9; refine (reads_any _).mono ?_; rintro e w1 ⟨rfl, hb1⟩)
  go_loopw [7, 26] (fun v i wr => ∃ k : Nat, k ≤ m ∧ i = .int .i64 k ∧ wr.ownsRow w.heap.size 5 1 v (k + 1) (cellsOf (pad 128 0 k)) ∧ Below w.heap.size w wr)
    (fun _ i _ => m - (intOf i).toNat)
  case atStart => exact ⟨0, Nat.zero_le _, rfl, World.ownsRow_lit w1 #[.int .u8 128] 1 hb1.size (by decide) rfl, hb1.alloc hb1.size _⟩
  case round =>
    obtain ⟨k, hk, rfl, hown, hb⟩ := hrel
    by_cases c : k < m
    · go_wp2_with (at_builtin; refine wpList_append_own _ rfl _ _ 22 rfl w.heap.size 5 i0 (.int .u8 0) 1 1 Try.underlying22 hi hz0 hz1 hz2 rfl (by decide) _ _ _ rfl (hown.alloc _) ⟨wr.heap.size, 0, none⟩ 1 1 [.int .u8 0] rfl rfl ?c1 ?c2 ?c3 ?c4 ?c5 ?_)
      case c1 => exact cell_one_new _ _ _
      case c2 => intro u hu; simp at hu; subst hu; rfl
      case c3 => unfold maxLen; omega
      case c4 => omega
      case c5 => have := hb.size; simp; omega
      · intro v' w2 hown' hgrow hh
        have hB := below_grown hown hb hgrow
        have hO := own_snoc hown'
        clear hown' hgrow hown hb hh
        go_wp2
        go_roundw
        case rel => exact ⟨k + 1, by omega, by go_num, pad_snoc 128 0 k ▸ hO, hB⟩
        case measure => simp [intOf]; omega
    · obtain rfl : k = m := by omega
      go_wp2_with fail
      go_loopw [7, 8] (fun v i wr => ∃ j : Nat, j ≤ 8 ∧ i = .int .i64 (56 - 8 * (j : Int)) ∧ wr.ownsRow w.heap.size 5 1 v (k + 1 + j) (cellsOf (pad 128 0 k ++ be n j)) ∧ Below w.heap.size w wr)
        (fun _ i _ => (intOf i + 8).toNat)
      case atStart => exact ⟨0, by omega, rfl, by rw [show be n 0 = [] from rfl, List.append_nil]; exact hown, hb⟩
      case round =>
        clear hown hb
        obtain ⟨j, hj, rfl, hown, hb⟩ := hrel
        by_cases c2 : j < 8
        · have c3 : 0 ≤ 56 - 8 * (j : Int) := by omega
          go_wp2_with (at_builtin; refine wpList_append_own _ rfl _ _ 22 rfl w.heap.size 5 i0 (.int .u8 0) 1 1 Try.underlying22 hi hz0 hz1 hz2 rfl (by decide) _ _ _ rfl (hown.alloc _) ⟨wr.heap.size, 0, none⟩ 1 1 [.int .u8 (n / 2 ^ (56 - 8 * j) % 256)] rfl rfl ?d1 ?d2 ?d3 ?d4 ?d5 ?_)
          case d1 => exact cell_one_new _ _ _
          case d2 => intro u hu; simp at hu; subst hu; rfl
          case d3 => unfold maxLen; omega
          case d4 => omega
          case d5 => have := hb.size; simp; omega
          · intro v' w2 hown' hgrow hh
            have hB := below_grown hown hb hgrow
            have hO := own_snoc hown'
            clear hown' hgrow hown hb hh
            rw [List.append_assoc, be_snoc] at hO
            go_wp2
            go_roundw
            case rel => exact ⟨j + 1, by omega, by go_num, hO, hB⟩
            case measure => simp [intOf]; omega
        · obtain rfl : j = 8 := by omega
          obtain ⟨g, cap, hv, hg, hcap, hmax⟩ := own_form hown
          rw [hv] at hown ⊢
          have hBy := own_bytes hown (by simp [pad, be]) (by simp [pad, be]; omega) (pad_be_bytes 128 0 k n (by decide) (by decide))
          have hlen : (pad 128 0 k ++ be n 8).length = k + 1 + 8 := by simp [pad, be]
          have hP : parseO (pad 128 0 k ++ be n 8) = some n := parse_be_plus n k h0 h1 hn
          have hc0 : wr.cell? ⟨g, 0, none⟩ = some (.int .u8 128) := by rw [hown.cellAt 0 (by omega)]; rfl
          have hf0 := hown.frozenAt 0
          have hst := (hown.stored 0 (.int .u8 129)).1
          rw [show (cellsOf (pad 128 0 k ++ be n 8)).set 0 (.int .u8 129) = cellsOf (pad 129 0 k ++ be n 8) from rfl] at hst
          have hBy2 := own_bytes hst (by simp [pad, be]) (by simp [pad, be]; omega) (pad_be_bytes 129 0 k n (by decide) (by decide))
          have p1 := parse_w (some ⟨g, 0, none⟩) cap _ wr (by omega) (by unfold maxLen at hmax; omega) hBy
          have p2 := parse_w (some ⟨g, 0, none⟩) cap _ _ (by simp [pad, be]; omega) (by unfold maxLen at hmax; omega) hBy2
          rw [hlen, hP] at p1
          rw [show (pad 129 0 k ++ be n 8).length = k + 1 + 8 by simp [pad, be], show parseO (pad 129 0 k ++ be n 8) = none from rfl] at p2
          have q1 : Hid (∀ W, W = wr → Calls Try.prog 10 #[.slice (some ⟨g, 0, none⟩) (k + 1 + 8) cap] W fun e w' => e = .returned (.tuple #[.int .i64 n, .int .i64 0]) ∧ W = w') := fun W h => h ▸ p1
          have q2 : Hid (∀ W, W = wr.setCell ⟨g, 0, none⟩ (.int .u8 129) → Calls Try.prog 10 #[.slice (some ⟨g, 0, none⟩) (k + 1 + 8) cap] W fun e w' => e = .returned (.tuple #[.int .i64 0, .int .i64 20]) ∧ W = w') := fun W h => h ▸ p2
          clear p1 p2 hBy hBy2 hst hP hlen hown hv
          go_wp2_with fail
          refine (q1.out _ rfl).mono ?_
          rintro e w2 ⟨rfl, rfl⟩
          go_wp2_with fail
          refine (q2.out _ rfl).mono ?_
          rintro e w2 ⟨rfl, rfl⟩
          go_wp2
          go_ret
          exact ⟨by simp, hb.setCell hg _⟩

set_option maxRecDepth 100000 in
set_option maxHeartbeats 4000000 in
theorem walk_minus (n : Int) (m : Nat) (w : World) (h0 : -9223372036854775808 ≤ n) (h1 : n ≤ 9223372036854775807) (hn : n < 0) (hm : m ≤ 20) :
    Calls Try.prog 5 #[.int .i64 n, .int .i64 m] w fun e w' => e = .returned (.bool true) ∧ Below w.heap.size w w' := by
  obtain ⟨i0, hi, hz0, hz1, hz2⟩ := info_parts info5c
  have hx : bits .xor .u8 255 1 = 254 := by decide
  go_enter Try.func5, Try.ntmps5
  go_wp2_with (go_at_call 9; refine (reads_any _).mono ?_; rintro e w1 ⟨rfl, hb1⟩)
  go_loopw [7, 26] (fun v i wr => ∃ k : Nat, k ≤ m ∧ i = .int .i64 k ∧ wr.ownsRow w.heap.size 5 1 v (k + 1) (cellsOf (pad 255 255 k)) ∧ Below w.heap.size w wr)
    (fun _ i _ => m - (intOf i).toNat)
  case atStart => exact ⟨0, Nat.zero_le _, rfl, World.ownsRow_lit w1 #[.int .u8 255] 1 hb1.size (by decide) rfl, hb1.alloc hb1.size _⟩
  case round =>
    obtain ⟨k, hk, rfl, hown, hb⟩ := hrel
    by_cases c : k < m
    · go_wp2_with (at_builtin; refine wpList_append_own _ rfl _ _ 22 rfl w.heap.size 5 i0 (.int .u8 0) 1 1 Try.underlying22 hi hz0 hz1 hz2 rfl (by decide) _ _ _ rfl (hown.alloc _) ⟨wr.heap.size, 0, none⟩ 1 1 [.int .u8 255] rfl rfl ?c1 ?c2 ?c3 ?c4 ?c5 ?_)
      case c1 => exact cell_one_new _ _ _
      case c2 => intro u hu; simp at hu; subst hu; rfl
      case c3 => unfold maxLen; omega
      case c4 => omega
      case c5 => have := hb.size; simp; omega
      · intro v' w2 hown' hgrow hh
        have hB := below_grown hown hb hgrow
        have hO := own_snoc hown'
        clear hown' hgrow hown hb hh
        go_wp2
        go_roundw
        case rel => exact ⟨k + 1, by omega, by go_num, pad_snoc 255 255 k ▸ hO, hB⟩
        case measure => simp [intOf]; omega
    · obtain rfl : k = m := by omega
      go_wp2_with fail
      go_loopw [7, 8] (fun v i wr => ∃ j : Nat, j ≤ 8 ∧ i = .int .i64 (56 - 8 * (j : Int)) ∧ wr.ownsRow w.heap.size 5 1 v (k + 1 + j) (cellsOf (pad 255 255 k ++ be n j)) ∧ Below w.heap.size w wr)
        (fun _ i _ => (intOf i + 8).toNat)
      case atStart => exact ⟨0, by omega, rfl, by rw [show be n 0 = [] from rfl, List.append_nil]; exact hown, hb⟩
      case round =>
        clear hown hb
        obtain ⟨j, hj, rfl, hown, hb⟩ := hrel
        by_cases c2 : j < 8
        · have c3 : 0 ≤ 56 - 8 * (j : Int) := by omega
          go_wp2_with (at_builtin; refine wpList_append_own _ rfl _ _ 22 rfl w.heap.size 5 i0 (.int .u8 0) 1 1 Try.underlying22 hi hz0 hz1 hz2 rfl (by decide) _ _ _ rfl (hown.alloc _) ⟨wr.heap.size, 0, none⟩ 1 1 [.int .u8 (n / 2 ^ (56 - 8 * j) % 256)] rfl rfl ?d1 ?d2 ?d3 ?d4 ?d5 ?_)
          case d1 => exact cell_one_new _ _ _
          case d2 => intro u hu; simp at hu; subst hu; rfl
          case d3 => unfold maxLen; omega
          case d4 => omega
          case d5 => have := hb.size; simp; omega
          · intro v' w2 hown' hgrow hh
            have hB := below_grown hown hb hgrow
            have hO := own_snoc hown'
            clear hown' hgrow hown hb hh
            rw [List.append_assoc, be_snoc] at hO
            go_wp2
            go_roundw
            case rel => exact ⟨j + 1, by omega, by go_num, hO, hB⟩
            case measure => simp [intOf]; omega
        · obtain rfl : j = 8 := by omega
          obtain ⟨g, cap, hv, hg, hcap, hmax⟩ := own_form hown
          rw [hv] at hown ⊢
          have hBy := own_bytes hown (by simp [pad, be]) (by simp [pad, be]; omega) (pad_be_bytes 255 255 k n (by decide) (by decide))
          have hlen : (pad 255 255 k ++ be n 8).length = k + 1 + 8 := by simp [pad, be]
          have hP : parseO (pad 255 255 k ++ be n 8) = some n := parse_be_minus n k h0 h1 hn
          have hc0 : wr.cell? ⟨g, 0, none⟩ = some (.int .u8 255) := by rw [hown.cellAt 0 (by omega)]; rfl
          have hf0 := hown.frozenAt 0
          have hst := (hown.stored 0 (.int .u8 254)).1
          rw [show (cellsOf (pad 255 255 k ++ be n 8)).set 0 (.int .u8 254) = cellsOf (pad 254 255 k ++ be n 8) from rfl] at hst
          have hBy2 := own_bytes hst (by simp [pad, be]) (by simp [pad, be]; omega) (pad_be_bytes 254 255 k n (by decide) (by decide))
          have p1 := parse_w (some ⟨g, 0, none⟩) cap _ wr (by omega) (by unfold maxLen at hmax; omega) hBy
          have p2 := parse_w (some ⟨g, 0, none⟩) cap _ _ (by simp [pad, be]; omega) (by unfold maxLen at hmax; omega) hBy2
          rw [hlen, hP] at p1
          rw [show (pad 254 255 k ++ be n 8).length = k + 1 + 8 by simp [pad, be], show parseO (pad 254 255 k ++ be n 8) = none from rfl] at p2
          have q1 : Hid (∀ W, W = wr → Calls Try.prog 10 #[.slice (some ⟨g, 0, none⟩) (k + 1 + 8) cap] W fun e w' => e = .returned (.tuple #[.int .i64 n, .int .i64 0]) ∧ W = w') := fun W h => h ▸ p1
          have q2 : Hid (∀ W, W = wr.setCell ⟨g, 0, none⟩ (.int .u8 254) → Calls Try.prog 10 #[.slice (some ⟨g, 0, none⟩) (k + 1 + 8) cap] W fun e w' => e = .returned (.tuple #[.int .i64 0, .int .i64 20]) ∧ W = w') := fun W h => h ▸ p2
          clear p1 p2 hBy hBy2 hst hP hlen hown hv
          go_wp2_with fail
          refine (q1.out _ rfl).mono ?_
          rintro e w2 ⟨rfl, rfl⟩
          go_wp2_with fail
          refine (q2.out _ rfl).mono ?_
          rintro e w2 ⟨rfl, rfl⟩
          go_wp2
          go_ret
          exact ⟨by simp, hb.setCell hg _⟩

theorem walk_more (n m : Int) (w : World) (h : m < 0 ∨ 20 < m) :
    Calls Try.prog 5 #[.int .i64 n, .int .i64 m] w fun e w' => e = .returned (.bool true) ∧ Below w.heap.size w w' := by
  rcases h with h | h
  · go_enter Try.func5, Try.ntmps5
    go_wp2_with (go_at_call 9; refine (reads_any _).mono ?_; rintro e w1 ⟨rfl, hb1⟩)
    go_ret
    exact ⟨rfl, hb1⟩
  · have h' : ¬ m < 0 := by omega
    go_enter Try.func5, Try.ntmps5
    go_wp2_with (go_at_call 9; refine (reads_any _).mono ?_; rintro e w1 ⟨rfl, hb1⟩)
    go_ret
    exact ⟨rfl, hb1⟩

theorem walk (a b : Int) (wa : (Lit.int .i64 a).wf = true) (wb : (Lit.int .i64 b).wf = true) (w : World) :
    Calls Try.prog 5 #[.int .i64 a, .int .i64 b] w fun e w' => e = .returned (.bool true) ∧ Below w.heap.size w w' := by
  obtain ⟨h0, h1⟩ := bounds_i64 wa
  by_cases c : b < 0 ∨ 20 < b
  · exact walk_more a b w c
  · obtain ⟨m, rfl⟩ : ∃ m : Nat, b = m := ⟨b.toNat, by omega⟩
    by_cases d : 0 ≤ a
    · exact walk_plus a m w h0 h1 d (by omega)
    · exact walk_minus a m w h0 h1 (by omega) (by omega)

theorem own : ownKnob Try.prog.godebug = none := by kernel_rfl
set_option maxRecDepth 100000 in
theorem lifted (os : Os) (started : os.Started) (H : Type) (enc : TypeId × Value → H) :
    ReturnsInHanded {} Try.checked os 5 .any (Rows.octalBinarySpec.pre6 enc Try.prog Try.f5 Rows.octalBinaryRow.domain false) (Rows.octalBinarySpec.post enc Try.prog Try.f5 false true false false) := by
  refine returnsInHanded_of_change (C := Try.checked) own started (by kernel_rfl) Try.func5
    (ChangeSpec.witness6 (enc := enc) (C := Try.checked) false ⟨#[], #[.int .i64 0, .int .i64 0], []⟩ 8 (by kernel_rfl) (by kernel_rfl) (by kernel_rfl) (by kernel_rfl)) ?_
  intro W base args ds gs before hval0 hW hcnd _
  have hval : ∀ (j : Nat) t v, Try.f5.params[j]? = some t → args[j]? = some v → Value.okWide Try.prog W .any base t v := hval0
  have hW' := hW
  obtain ⟨p, q, hA0, hV, rfl, hfz, hnd⟩ := hW
  have hA : DataW.TrodAll enc Try.prog W 0 (fun _ => true) true Try.f5.params.toList args.toList ds p := hA0
  rw [Try.params5] at hA hval
  obtain ⟨v0, vs0, d0, ds0, p0, q0, hargs, rfl, rfl, h0, r0⟩ := trodAll_cons hA
  obtain ⟨v1, vs1, d1, ds1, p1, q1, rfl, rfl, rfl, h1, r1⟩ := trodAll_cons r0
  obtain ⟨rfl, rfl, rfl⟩ := trodAll_nil r1
  obtain rfl : args = #[v0, v1] := by cases args; simp_all
  obtain ⟨rfl, rfl⟩ := trodVars_none hV
  obtain ⟨a0, rfl, rfl, rfl, w0⟩ := open_int Try.underlying2 (hval 0 2 v0 rfl rfl) h0
  obtain ⟨a1, rfl, rfl, rfl, w1⟩ := open_int Try.underlying3 (hval 1 3 v1 rfl rfl) h1
  clear hA0 hval0
  refine (walk a0 a1 w0 w1 W).mono fun e W' ⟨he, bel⟩ => ?_
  subst he
  exact ⟨_, rfl, _, _, _, [], [], [], hW', trodAll_mk1 (shut_bool Try.underlying4 _), (trodAll_cons_mk (shut_int Try.underlying2 w0) (trodAll_cons_mk (shut_int Try.underlying3 w1) trodAll_mk0)), rfl, bel.frame _, fun h => by cases h⟩

theorem over : Rows.octalBinaryRow.holds Try.pinned (OpenSpec.ofChange Rows.octalBinarySpec) :=
  OpenClaim.holds_of_wide 5 Try.f5 rfl rfl rfl rfl rfl rfl rfl ⟨rfl, rfl, rfl, rfl, rfl⟩ rfl rfl rfl rfl rfl (by kernel_rfl) Try.func5 (by kernel_rfl)
    (of_decide_eq_true (by kernel_rfl)) (by unfold Func.isWrapper; first | (rw [if_pos (by decide +kernel)]; kernel_rfl) | (rw [if_neg (by decide +kernel)]; exact ⟨rfl, rfl⟩))
    (fun os started H enc _ => lifted os started H enc)

end Go.Proofs.Ytamdonhmholjpab.octalBinary
namespace Go.Proofs.Ytamdonhmholjpab
theorem octalBinary_holds : Rows.OctalBinarySaid := octalBinary.over
#print axioms octalBinary_holds
end Go.Proofs.Ytamdonhmholjpab
