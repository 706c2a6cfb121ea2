/-
  The walk of FaultApart.
-/
import Derived.Test.YtamdonhmholjpaaDoorTells
namespace Go.Proofs.YtamdonhmholjpaaDoor.faultApart
open Go.RowKit

theorem bcell {W w1 : World} (hb : Below W.heap.size W w1) : (∀ b o, b < W.heap.size → w1.cell? ⟨b, o, none⟩ = W.cell? ⟨b, o, none⟩) ∧ (∀ b o, b < W.heap.size → w1.frozen? ⟨b, o, none⟩ = W.frozen? ⟨b, o, none⟩) :=
  ⟨fun b o h => hb.cell (p := ⟨b, o, none⟩) h, fun b o h => hb.frozen (p := ⟨b, o, none⟩) h⟩

theorem st_fin {w w' : World} {o : Obj} (h : St (w.alloc o) w') : Below w.heap.size w w' :=
  ((Below.refl _ _).alloc (Nat.le_refl _) _).trans (h.2.mono (by simp))

set_option maxRecDepth 100000 in
theorem walk_out (a b p q : Int) (w : World) (hL : Laid w) (h : a = 0 ∨ b = 0 ∨ p < 0 ∨ 30 < p ∨ q < 0 ∨ 30 < q) : Calls Tryd.prog 7 #[.int .i64 a, .int .i64 b, .agg #[.int .i64 p, .int .i64 q]] w fun ev w' => ev = .returned (.bool true) ∧ Below w.heap.size w w' := by
  have hL0 := hL.alloc (.cells #[.int .i64 p, .int .i64 q] 38)
  by_cases c0 : a = 0
  · have e0 : (a == 0) = true := by simpa using c0
    go_enter Tryd.func7, Tryd.ntmps7
    go_wp2_with fail
    refine (tells_any _ hL0).mono ?_
    rintro ev w0 ⟨rfl, h0⟩
    obtain ⟨hcl, hfr⟩ := bcell h0.2
    go_wp2
    go_ret
    exact ⟨rfl, st_fin h0⟩
  · have e0 : (a == 0) = false := by simpa using c0
    by_cases c1 : b = 0
    · have e1 : (b == 0) = true := by simpa using c1
      go_enter Tryd.func7, Tryd.ntmps7
      go_wp2_with fail
      refine (tells_any _ hL0).mono ?_
      rintro ev w0 ⟨rfl, h0⟩
      obtain ⟨hcl, hfr⟩ := bcell h0.2
      go_wp2
      go_ret
      exact ⟨rfl, st_fin h0⟩
    · have e1 : (b == 0) = false := by simpa using c1
      by_cases c2 : p < 0
      · go_enter Tryd.func7, Tryd.ntmps7
        go_wp2_with fail
        refine (tells_any _ hL0).mono ?_
        rintro ev w0 ⟨rfl, h0⟩
        obtain ⟨hcl, hfr⟩ := bcell h0.2
        go_wp2
        go_ret
        exact ⟨rfl, st_fin h0⟩
      · by_cases c3 : 30 < p
        · go_enter Tryd.func7, Tryd.ntmps7
          go_wp2_with fail
          refine (tells_any _ hL0).mono ?_
          rintro ev w0 ⟨rfl, h0⟩
          obtain ⟨hcl, hfr⟩ := bcell h0.2
          go_wp2
          go_ret
          exact ⟨rfl, st_fin h0⟩
        · by_cases c4 : q < 0
          · go_enter Tryd.func7, Tryd.ntmps7
            go_wp2_with fail
            refine (tells_any _ hL0).mono ?_
            rintro ev w0 ⟨rfl, h0⟩
            obtain ⟨hcl, hfr⟩ := bcell h0.2
            go_wp2
            go_ret
            exact ⟨rfl, st_fin h0⟩
          · have c5 : 30 < q := by omega
            go_enter Tryd.func7, Tryd.ntmps7
            go_wp2_with fail
            refine (tells_any _ hL0).mono ?_
            rintro ev w0 ⟨rfl, h0⟩
            obtain ⟨hcl, hfr⟩ := bcell h0.2
            go_wp2
            go_ret
            exact ⟨rfl, st_fin h0⟩

set_option maxRecDepth 100000 in
set_option maxHeartbeats 2000000 in
theorem walk_in (a b : Int) (p q : Nat) (w : World) (hL : Laid w) (ha : (a == 0) = false) (hb0 : (b == 0) = false) (hp : p ≤ 30) (hq : q ≤ 30) : Calls Tryd.prog 7 #[.int .i64 a, .int .i64 b, .agg #[.int .i64 p, .int .i64 q]] w fun ev w' => ev = .returned (.bool true) ∧ Below w.heap.size w w' := by
  have hL0 := hL.alloc (.cells #[.int .i64 p, .int .i64 q] 38)
  have p1 : ¬ (p : Int) < 0 := by omega
  have p2 : ¬ 30 < (p : Int) := by omega
  have q1 : ¬ (q : Int) < 0 := by omega
  have q2 : ¬ 30 < (q : Int) := by omega
  go_enter Tryd.func7, Tryd.ntmps7
  go_wp2_with fail
  refine (tells_any _ hL0).mono ?_
  rintro ev w0 ⟨rfl, h0⟩
  obtain ⟨hcl, hfr⟩ := bcell h0.2
  go_wp2_with fail
  refine (new_any a 1 _ ha).mono ?_
  rintro ev w' ⟨rfl, rfl⟩
  go_wp2_with fail
  refine (new_any b 2 _ hb0).mono ?_
  rintro ev w' ⟨rfl, rfl⟩
  go_wp2_with fail
  go_loop [7, 45] (fun v i => ∃ (k : Nat) (l : List Int), k ≤ p ∧ i = .int .i64 k ∧ v = chain a l ∧ l.length = k + 1) (fun _ i => p - (intOf i).toNat)
  case atStart => exact ⟨0, [1], Nat.zero_le _, rfl, rfl, rfl⟩
  case round =>
    obtain ⟨k, l, hk, rfl, rfl, hl⟩ := hrel
    by_cases e : k < p
    · go_wp2_with fail
      refine (wrap_any l a _ _).mono ?_
      rintro ev w' ⟨rfl, rfl⟩
      go_wp2
      go_round
      case rel => exact ⟨k + 1, (k : Int) :: l, by omega, by go_num, rfl, by simp [hl]⟩
      case measure => simp [intOf]; omega
    · go_wp2_with fail
      go_loop [8, 54] (fun v i => ∃ (j : Nat) (m : List Int), j ≤ q ∧ i = .int .i64 j ∧ v = chain b m ∧ m.length = j + 1) (fun _ i => q - (intOf i).toNat)
      case atStart => exact ⟨0, [2], Nat.zero_le _, rfl, rfl, rfl⟩
      case round =>
        obtain ⟨j, m, hj, rfl, rfl, hm⟩ := hrel
        by_cases e2 : j < q
        · go_wp2_with fail
          refine (wrap_any m b _ _).mono ?_
          rintro ev w' ⟨rfl, rfl⟩
          go_wp2
          go_round
          case rel => exact ⟨j + 1, (j : Int) :: m, by omega, by go_num, rfl, by simp [hm]⟩
          case measure => simp [intOf]; omega
        · have i1 : ∀ W, Calls Tryd.prog 15 #[chain a l, .int .i64 b] W fun ev w' => ev = .returned (.bool (a == b)) ∧ Below W.heap.size W w' := fun W => (is_any (some l) a b W).mono fun e w' q => ⟨q.1.trans (by simp [isIn, hb0]), q.2⟩
          have i2 : ∀ W, Calls Tryd.prog 15 #[chain b m, .int .i64 a] W fun ev w' => ev = .returned (.bool (b == a)) ∧ Below W.heap.size W w' := fun W => (is_any (some m) b a W).mono fun e w' q => ⟨q.1.trans (by simp [isIn, ha]), q.2⟩
          have c1 : ∀ W, Laid W → Calls Tryd.prog 12 #[chain a l] W fun ev w' => ev = .returned (.int .i64 a) ∧ Below W.heap.size W w' := fun W h => code_any (some l) a W h
          have c2 : ∀ W, Laid W → Calls Tryd.prog 12 #[chain b m] W fun ev w' => ev = .returned (.int .i64 b) ∧ Below W.heap.size W w' := fun W h => code_any (some m) b W h
          generalize hx : chain a l = x at *
          generalize hy : chain b m = y at *
          clear hx hy hl hm hcl hfr
          by_cases ab : a = b
          · have g1 : (a == b) = true := by simpa using ab
            have g2 : (b == a) = true := by simpa using ab.symm
            clear ab
            go_wp2_with fail
            refine (i1 _).mono ?_
            rintro ev w1 ⟨rfl, hb⟩
            have h1 := h0.step hb
            clear hb h0
            go_wp2_with fail
            refine (i2 _).mono ?_
            rintro ev w2 ⟨rfl, hb⟩
            have h2 := h1.step hb
            clear hb h1
            go_wp2_with fail
            refine (c1 _ h2.1).mono ?_
            rintro ev w3 ⟨rfl, hb⟩
            have h3 := h2.step hb
            clear hb h2
            go_wp2_with fail
            refine (c2 _ h3.1).mono ?_
            rintro ev w4 ⟨rfl, hb⟩
            have h4 := h3.step hb
            clear hb h3
            go_wp2
            go_ret
            exact ⟨by simp, st_fin h4⟩
          · have g1 : (a == b) = false := by simpa using ab
            have g2 : (b == a) = false := by simpa using fun h => ab (Eq.symm h)
            clear ab
            go_wp2_with fail
            refine (i1 _).mono ?_
            rintro ev w1 ⟨rfl, hb⟩
            have h1 := h0.step hb
            clear hb h0
            go_wp2_with fail
            refine (i2 _).mono ?_
            rintro ev w2 ⟨rfl, hb⟩
            have h2 := h1.step hb
            clear hb h1
            go_wp2_with fail
            refine (c1 _ h2.1).mono ?_
            rintro ev w3 ⟨rfl, hb⟩
            have h3 := h2.step hb
            clear hb h2
            go_wp2_with fail
            refine (c2 _ h3.1).mono ?_
            rintro ev w4 ⟨rfl, hb⟩
            have h4 := h3.step hb
            clear hb h3
            go_wp2
            go_ret
            exact ⟨by simp, st_fin h4⟩

theorem walk (a b p q : Int) (w : World) (hL : Laid w) : Calls Tryd.prog 7 #[.int .i64 a, .int .i64 b, .agg #[.int .i64 p, .int .i64 q]] w fun ev w' => ev = .returned (.bool true) ∧ Below w.heap.size w w' := by
  by_cases h : a = 0 ∨ b = 0 ∨ p < 0 ∨ 30 < p ∨ q < 0 ∨ 30 < q
  · exact walk_out a b p q w hL h
  · obtain ⟨p, rfl⟩ : ∃ d : Nat, p = d := ⟨p.toNat, by omega⟩
    obtain ⟨q, rfl⟩ : ∃ d : Nat, q = d := ⟨q.toNat, by omega⟩
    exact walk_in a b p q w hL (by simp; omega) (by simp; omega) (by omega) (by omega)

end Go.Proofs.YtamdonhmholjpaaDoor.faultApart
