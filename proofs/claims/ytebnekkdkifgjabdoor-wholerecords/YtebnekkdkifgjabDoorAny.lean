/-
  Contract: strings.ContainsAny of the three bytes at any key.
-/
import Derived.Test.YtebnekkdkifgjabDoorRune
import Derived.Lib.OthersKept
namespace Go.Proofs.YtebnekkdkifgjabDoor
open Go.RowKit
set_option linter.unusedVariables false
set_option linter.unusedSimpArgs false

theorem decode_cover (s : ByteArray) (pos : Nat) (h : pos < s.size) (ha : 128 ≤ (s[pos]'h).toNat) :
    1 ≤ (Utf8.decode s pos).2 ∧ pos + (Utf8.decode s pos).2 ≤ s.size ∧ ∀ k, k < (Utf8.decode s pos).2 → 128 ≤ (s.get! (pos + k)).toNat := by
  have hn : ¬ (s[pos]'h).toNat < 128 := by omega
  have e0 := get_at s pos h
  have g0 : 128 ≤ (s.get! (pos + 0)).toNat := by rw [e0]; exact ha
  have key : ∀ k, k < 1 → 128 ≤ (s.get! (pos + k)).toNat := by
    intro k hk
    obtain rfl : k = 0 := by omega
    exact g0
  simp only [Utf8.decode, e0, hn, if_false]
  split
  · rename_i c
    simp only [Bool.and_eq_true, decide_eq_true_eq, beq_iff_eq] at c
    split
    · refine ⟨by simp, by simp; omega, fun k hk => ?_⟩
      simp only at hk
      match k, hk with
      | 0, _ => exact g0
      | 1, _ => omega
    · exact ⟨by simp, by simp; omega, key⟩
  · split
    · rename_i c
      simp only [Bool.and_eq_true, decide_eq_true_eq, beq_iff_eq] at c
      split
      · refine ⟨by simp, by simp; omega, fun k hk => ?_⟩
        simp only at hk
        match k, hk with
        | 0, _ => exact g0
        | 1, _ => omega
        | 2, _ => omega
      · exact ⟨by simp, by simp; omega, key⟩
    · split
      · rename_i c
        simp only [Bool.and_eq_true, decide_eq_true_eq, beq_iff_eq] at c
        split
        · refine ⟨by simp, by simp; omega, fun k hk => ?_⟩
          simp only at hk
          match k, hk with
          | 0, _ => exact g0
          | 1, _ => omega
          | 2, _ => omega
          | 3, _ => omega
        · exact ⟨by simp, by simp; omega, key⟩
      · exact ⟨by simp, by simp; omega, key⟩

theorem noAny_high {s : ByteArray} {i n : Nat} (h : Lib.NoAny s.data.toList [61, 0, 10] i) (hc : ∀ k, k < n → 128 ≤ (s.get! (i + k)).toNat) : Lib.NoAny s.data.toList [61, 0, 10] (i + n) := by
  intro j b hj hb
  by_cases c : j < i
  · exact h j b c hb
  · have := hc (j - i) (by omega)
    rw [show i + (j - i) = j by omega] at this
    have hlt : j < s.size := by
      have := (List.getElem?_eq_some_iff.1 hb).1
      rwa [← Lib.size_eq] at this
    have e := get_at s j hlt
    simp only [Nat.add_zero] at e
    rw [e] at this
    have e2 := Lib.data_getElem? s j hlt
    rw [hb] at e2
    cases e2
    generalize s[j] = x at *
    have n1 : ¬ x = 61 := fun e => by subst e; exact absurd this (by decide)
    have n2 : ¬ x = 0 := fun e => by subst e; exact absurd this (by decide)
    have n3 : ¬ x = 10 := fun e => by subst e; exact absurd this (by decide)
    simp [n1, n2, n3]

theorem iterAt_below {B : Nat} {a w : World} {k : Nat} {s : ByteArray} {pos : Nat} (h : Below B a w) (hk : B ≤ k) : Below B a (w.iterAt k s pos) := by
  refine ⟨h.os, h.tape, h.output, ?_, fun j hj => ?_⟩
  · have := h.size
    simpa [World.iterAt] using this
  · rw [← h.block j hj]
    simp [World.iterAt, Array.getElem?_setIfInBounds, show ¬ k = j by omega]

set_option maxRecDepth 100000 in
set_option maxHeartbeats 4000000 in
theorem indexAny_short (s : ByteArray) (h8 : s.size ≤ 8) (w : World) :
    Calls Tryd.prog 20 #[.string s, .string ⟨#[61, 0, 10]⟩] w fun e w' => e = .returned (.int .i64 (Lib.indexAny s.data.toList [61, 0, 10])) ∧ Below w.heap.size w w' := by
  have h8z : decide ((8 : Int) < (s.size : Int)) = false := decide_eq_false (by omega)
  have hs : ∀ n W, Calls Tryd.prog 28 #[.int .i64 n] W fun e w' => e = .returned (.bool (decide (8 < n))) ∧ w' = W := fun n W => Tryd.strings_shouldUseASCIISet n W
  go_enter Tryd.func20, Tryd.ntmps20
  go_wp2_with (go_at_call 28; refine (hs _ _).mono ?_; rintro e w' ⟨rfl, hw⟩; rw [hw, h8z])
  go_loopg [9, 10] s.size (fun g _ _ wx => ∃ i : Nat, i + g = s.size ∧ wx.heap[w.heap.size]? = some (.stringIter s i) ∧ Below w.heap.size w wx ∧ Lib.NoAny s.data.toList [61, 0, 10] i)
  case atStart => exact ⟨0, by omega, World.iter_heap w s 0, (Below.refl _ _).alloc (Nat.le_refl _) _, Lib.NoAny.zero _ _⟩
  case round =>
    obtain ⟨i, hig, hk, bb, hno⟩ := hrel
    have HN : Aside (Lib.NoAny s.data.toList [61, 0, 10] i) := hno
    have HK : Hid (wr.heap[w.heap.size]? = some (.stringIter s i)) := hk
    have hklt : w.heap.size < wr.heap.size := (Array.getElem?_eq_some_iff.1 hk).1
    clear hno
    by_cases hi : i < s.size
    · obtain ⟨x, hx⟩ : ∃ x : UInt8, s[i]'hi = x := ⟨_, rfl⟩
      by_cases hx128 : x.toNat < 128
      · have hxl : s.data.toList[i]? = some x := by rw [← hx]; exact Lib.data_getElem? s i hi
        have hnx := fun ty => Lib.run_next_ascii_at (P := Tryd.prog) wr w.heap.size s i ty hk hi (by rw [hx]; exact hx128)
        rw [hx] at hnx
        have hk2 := Lib.iterAt_heap wr w.heap.size s i (i + 1) hk
        have bb2 : Below w.heap.size w (wr.iterAt w.heap.size s (i + 1)) := iterAt_below bb (Nat.le_refl _)
        have Hx : Aside (s.data.toList[i]? = some x) := hxl
        clear hxl hx hk
        have hcon := Lib.contains_iff_indexByte [61, 0, 10] x
        have hq : ∀ W, Calls Tryd.prog 27 #[.string ⟨#[61, 0, 10]⟩, .int .i32 (x.toNat : Int)] W fun e w' => e = .returned (.int .i64 (Lib.indexByte [61, 0, 10] x)) ∧ w' = W := fun W => by
          have := Tryd.strings_IndexRune_ascii ⟨#[61, 0, 10]⟩ (x.toNat : Int) W (by omega) (by omega)
          rwa [show ((x.toNat : Int)).toNat.toUInt8 = x by simp] at this
        generalize wr.iterAt w.heap.size s (i + 1) = w2 at *
        cases hin : ([61, 0, 10] : List UInt8).contains x
        · rw [hin] at hcon
          have hlt : ¬ ((0 : Int) ≤ Lib.indexByte [61, 0, 10] x) := of_decide_eq_false hcon.symm
          clear hcon
          go_wp2_with (go_at_call 27; refine (hq _).mono ?_; rintro e w' ⟨rfl, hw⟩; rw [hw])
          go_roundg (s.size - (i + 1))
          case measure => omega
          case rel => exact ⟨i + 1, by omega, hk2, bb2, HN.out.succ Hx.out hin⟩
        · rw [hin] at hcon
          have hge : (0 : Int) ≤ Lib.indexByte [61, 0, 10] x := of_decide_eq_true hcon.symm
          clear hcon
          go_wp2_with (go_at_call 27; refine (hq _).mono ?_; rintro e w' ⟨rfl, hw⟩; rw [hw])
          go_ret
          exact ⟨by rw [Lib.indexAny_hit HN.out Hx.out hin]; rfl, bb2⟩
      · obtain ⟨d1, d2, d3⟩ := decode_cover s i hi (by rw [hx]; omega)
        obtain ⟨r1, _⟩ := decode_high s i hi (by rw [hx]; omega)
        have hnx := fun ty => Lib.run_next_any_at (P := Tryd.prog) wr w.heap.size s i ty hk hi
        generalize hdw : (Utf8.decode s i).2 = n at *
        have HN2 : Aside (Lib.NoAny s.data.toList [61, 0, 10] (i + n)) := noAny_high HN.out d3
        have hk2 := Lib.iterAt_heap wr w.heap.size s i (i + n) hk
        have bb2 : Below w.heap.size w (wr.iterAt w.heap.size s (i + n)) := iterAt_below bb (Nat.le_refl _)
        have hq := fun W => rune_high ((Utf8.decode s i).1 : Int) (by omega) W
        generalize ((Utf8.decode s i).1 : Int) = r at *
        clear d3 hx hk hdw
        generalize wr.iterAt w.heap.size s (i + n) = w2 at *
        go_wp2_with (go_at_call 27; refine (hq _).mono ?_; rintro e w3 ⟨rfl, b3⟩)
        go_roundg (s.size - (i + n))
        case measure => omega
        case rel =>
          have hlt2 : w.heap.size < w2.heap.size := (Array.getElem?_eq_some_iff.1 hk2).1
          exact ⟨i + n, by omega, (b3.block _ hlt2).trans hk2, bb2.trans (b3.mono bb2.size), HN2.out⟩
    · obtain rfl : i = s.size := by omega
      have hnx := fun ty => Lib.run_next_end_at (P := Tryd.prog) wr w.heap.size s s.size ty hk hi
      clear hk
      go_wp2
      go_ret
      exact ⟨by rw [Lib.indexAny_none (by rw [← Lib.size_eq]; exact HN.out)]; rfl, bb⟩

theorem indexAny_w (s : ByteArray) (hs : s.size < 4294967281) (w : World) :
    Calls Tryd.prog 20 #[.string s, .string ⟨#[61, 0, 10]⟩] w fun e w' => e = .returned (.int .i64 (Lib.indexAny s.data.toList [61, 0, 10])) ∧ Below w.heap.size w w' := by
  by_cases h8 : s.size ≤ 8
  · exact indexAny_short s h8 w
  · refine (Tryd.strings_IndexAny_long (fun w => by kernel_rfl) s ⟨#[61, 0, 10]⟩ w (by decide) (by omega) hs (by decide) (by
      intro j b h
      match j, h with
      | 0, h => cases h; decide
      | 1, h => cases h; decide
      | 2, h => cases h; decide
      | j + 3, h => simp at h)).mono fun e w' ⟨h1, h2⟩ => ⟨h1, ?_⟩
    rw [h2]
    exact ((Below.refl _ _).alloc (Nat.le_refl _) _).alloc (by simp) _

theorem cany_all (k : ByteArray) (hs : k.size < 4294967281) : Cany k := by
  intro W
  have q := indexAny_w k hs W
  unfold badKey Lib.containsAny
  generalize Lib.indexAny k.data.toList [61, 0, 10] = z at *
  by_cases c : 0 ≤ z
  · rw [decide_eq_true c]
    go_enter Tryd.func14, Tryd.ntmps14
    go_wp2_with (go_at_call 20; refine q.mono ?_; rintro e w' ⟨rfl, hb⟩)
    go_ret
    exact ⟨by first | rfl | simp [c], hb⟩
  · rw [decide_eq_false c]
    go_enter Tryd.func14, Tryd.ntmps14
    go_wp2_with (go_at_call 20; refine q.mono ?_; rintro e w' ⟨rfl, hb⟩)
    go_ret
    exact ⟨by first | rfl | simp [c], hb⟩

/-- pax.Check at any record -/
theorem check_any (k v : ByteArray) (hk : k.size < 4294967281) (hv : v.size ≤ 281474976710656) (w : World) :
    Calls Tryd.prog 6 #[.agg #[.string k, .string v]] w fun e w' => e = .returned (.int .i64 (chk k v)) ∧ Below w.heap.size w w' :=
  check_w k v (by omega) hv (cany_all k hk) w

theorem indexAny_any : ∀ l : List UInt8, decide (0 ≤ Lib.indexAny l [61, 0, 10]) = l.any (fun b => b == 61 || b == 0 || b == 10)
  | [] => rfl
  | b :: l => by
    have ih := indexAny_any l
    have hg := Lib.indexAny_ge [61, 0, 10] l
    unfold Lib.indexAny
    have hc : ([61, 0, 10] : List UInt8).contains b = (b == 61 || b == 0 || b == 10) := by simp only [List.contains_cons, List.contains_nil, Bool.or_false, Bool.or_assoc]
    cases hb : (b == 61 || b == 0 || b == 10) with
    | true => rw [hc, hb]; simp [hb]
    | false =>
      rw [hc, hb]
      simp only [Bool.false_eq_true, if_false, List.any_cons, hb, Bool.false_or]
      rw [← ih]
      by_cases e : Lib.indexAny l [61, 0, 10] = -1
      · rw [e]; rfl
      · rw [if_neg (by simpa using e)]
        rw [decide_eq_true (show 0 ≤ Lib.indexAny l [61, 0, 10] + 1 by omega), decide_eq_true (show 0 ≤ Lib.indexAny l [61, 0, 10] by omega)]

theorem badKey_any (k : ByteArray) : badKey k = k.data.toList.any (fun b => b == 61 || b == 0 || b == 10) := indexAny_any _

end Go.Proofs.YtebnekkdkifgjabDoor
