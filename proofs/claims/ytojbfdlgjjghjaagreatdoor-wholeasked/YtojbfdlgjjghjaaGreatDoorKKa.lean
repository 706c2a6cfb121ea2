/-
  Contracts: the library's numbers, ask.kindOf, ask.number.
-/
import Derived.Test.YtojbfdlgjjghjaaGreatDoorShelf
import Derived.Lib.AppendIntMem
import Derived.Lib.Bytealg
import Derived.Lib.IndexLaws
import Derived.WalkKit
import Derived.Below
namespace Go.Proofs.YtojbfdlgjjghjaaGreatDoor.K
open Go.RowKit
set_option linter.unusedVariables false
set_option linter.unusedSimpArgs false

/-- the words -/
def wdL : List ByteArray := [⟨#[]⟩, ⟨#[111, 112, 101, 110]⟩, ⟨#[115, 101, 110, 100]⟩, ⟨#[99, 111, 109, 109, 105, 116]⟩, ⟨#[97, 98, 111, 114, 116]⟩, ⟨#[108, 105, 115, 116]⟩, ⟨#[115, 116, 97, 116]⟩, ⟨#[100, 101, 108, 101, 116, 101]⟩, ⟨#[103, 101, 116]⟩, ⟨#[112, 117, 108, 108]⟩, ⟨#[99, 108, 111, 115, 101]⟩, ⟨#[116, 105, 99, 107]⟩]
def wd (i : Nat) : ByteArray := wdL.getD i ⟨#[]⟩

/-- The variables that are read lie there. -/
structure Vs (w : World) : Prop where
  tab : Lib.TabIs Tryz.prog w "internal/strconv.uint64pow10" .u64 Lib.pow10Tab
  syn : ∃ te pe, w.cell? ⟨3, 0, none⟩ = some (.iface te pe)
  rng : ∃ te pe, w.cell? ⟨4, 0, none⟩ = some (.iface te pe)
  wds : ∀ i, i < 12 → w.cell? ⟨0, i, none⟩ = some (.string (wd i))

theorem Vs.below {w w' : World} (h : Vs w) (hb : Below w.heap.size w w') : Vs w' := by
  obtain ⟨te, pe, h1⟩ := h.syn
  obtain ⟨tr, pr, h2⟩ := h.rng
  exact ⟨Lib.tabBelow_of_tabIs h.tab w' hb, ⟨te, pe, (hb.cell (Lib.lt_of_cell h1)).trans h1⟩, ⟨tr, pr, (hb.cell (Lib.lt_of_cell h2)).trans h2⟩, fun i hi => (hb.cell (Lib.lt_of_cell (h.wds i hi))).trans (h.wds i hi)⟩

def num (e : Int) : ByteArray := ⟨(Lib.itoa e).toArray⟩

theorem format_w (e : Int) (h0 : -9223372036854775808 ≤ e) (h1 : e ≤ 9223372036854775807) (w : World) (ht : Vs w) :
    Calls Tryz.prog 33 #[.int .i64 e, .int .i64 10] w fun ev w' => ev = .returned (.string (num e)) ∧ Below w.heap.size w w' :=
  (Tryz.strconv_FormatInt_10 e h0 h1 w ht.tab).mono fun _ _ ⟨h, k, os, hw⟩ => ⟨h, hw ▸ Lib.below_grow _ w (Nat.le_refl _) k os⟩
theorem itoa_w (e : Int) (h0 : -9223372036854775808 ≤ e) (h1 : e ≤ 9223372036854775807) (w : World) (ht : Vs w) :
    Calls Tryz.prog 21 #[.int .i64 e] w fun ev w' => ev = .returned (.string (num e)) ∧ Below w.heap.size w w' :=
  (Tryz.strconv_Itoa e h0 h1 w ht.tab).mono fun _ _ ⟨h, k, os, hw⟩ => ⟨h, hw ▸ Lib.below_grow _ w (Nat.le_refl _) k os⟩

/-- what a text says as a number, and the error of one that says none -/
def nval (s : ByteArray) : Option Int := match Lib.parseIntB 64 s.data.toList with
  | .ok v => if num v = s then some v else none
  | _ => none

theorem parseUintM_le (M : Nat) : ∀ (l : List UInt8) (acc u : Nat), acc ≤ M → Lib.parseUintM M acc l = .ok u → u ≤ M
  | [], acc, u, h, e => by
    simp only [Lib.parseUintM] at e
    cases e; exact h
  | c :: r, acc, u, h, e => by
    unfold Lib.parseUintM at e
    split at e
    · split at e
      · cases e
      · split at e
        · cases e
        · exact parseUintM_le M r _ u (by omega) e
    · cases e

theorem parseIntB_range (l : List UInt8) (v : Int) (h : Lib.parseIntB 64 l = .ok v) : -9223372036854775808 ≤ v ∧ v ≤ 9223372036854775807 := by
  unfold Lib.parseIntB at h
  cases l with
  | nil => simp at h
  | cons c r =>
    simp only at h
    split at h
    · cases h
    · cases h
    · rename_i u hu
      split at h
      · cases h
      · split at h
        · cases h
        · rename_i h1 h2
          cases h
          have p : (2 : Nat) ^ (64 - 1) = 9223372036854775808 := by decide
          rw [p] at h1 h2
          split <;> omega

theorem toList_inj {a b : ByteArray} (h : a.toList = b.toList) : a = b := by
  rw [ByteArray.toList_eq, ByteArray.toList_eq] at h
  cases a; cases b
  congr 1
  exact Array.ext' h

theorem ne_list {a b : ByteArray} (h : ¬ a = b) : (a.toList == b.toList) = false := beq_eq_false_iff_ne.2 fun e => h (toList_inj e)

/-- the number of a word, or its error -/
def numP (s : ByteArray) : Sum Int Int := match nval s with
  | none => .inl 200
  | some v => if v < 0 then .inl 200 else if 1048576 < v then .inl 1 else .inr v
def numV (s : ByteArray) : Value := match numP s with
  | .inl e => .tuple #[.int .i64 0, .int .i64 e]
  | .inr v => .tuple #[.int .i64 v, .int .i64 0]

set_option maxHeartbeats 1000000 in
theorem number_ok (s : ByteArray) (hl : s.size ≤ 281474976710656) (v : Int) (h : Lib.parseIntB 64 s.data.toList = .ok v) (w : World) (ht : Vs w) :
    Calls Tryz.prog 16 #[.string s] w fun e w' => e = .returned (if v < 0 then .tuple #[.int .i64 0, .int .i64 200] else if num v = s then (if 1048576 < v then .tuple #[.int .i64 0, .int .i64 1] else .tuple #[.int .i64 v, .int .i64 0]) else .tuple #[.int .i64 0, .int .i64 200]) ∧ Below w.heap.size w w' := by
  have HT : Hid (∀ W, Below w.heap.size w W → Vs W) := fun W h => ht.below h
  have hv := parseIntB_range _ _ h
  have q : Calls Tryz.prog 32 #[.string s, .int .i64 10, .int .i64 64] w fun e w' => e = .returned (.tuple #[.int .i64 v, .nilIface]) ∧ Below w.heap.size w w' := by
    refine (Tryz.strconv_ParseInt_10_at64_ok s (by omega) v h w).mono ?_
    rintro e W ⟨he, hW⟩
    refine ⟨he, ?_⟩
    rcases hW with rfl | ⟨t, rfl⟩
    · exact Below.refl _ _
    · exact Lib.bytesWorld_below _ _ _
  by_cases c0 : v < 0
  · rw [if_pos c0]
    go_enter Tryz.func16, Tryz.ntmps16
    go_wp2_with (first | (go_at_call 32; refine q.mono ?_; rintro e w1 ⟨rfl, b1⟩) | (go_at_call 33; refine (format_w v hv.1 hv.2 _ (HT.out _ b1)).mono ?_; rintro e w2 ⟨rfl, b2⟩; rw [c]))
    go_ret2
    exact ⟨rfl, b1⟩
  rw [if_neg c0]
  by_cases c : num v = s
  · rw [if_pos c]
    by_cases c2 : 1048576 < v
    · rw [if_pos c2]
      go_enter Tryz.func16, Tryz.ntmps16
      go_wp2_with (first | (go_at_call 32; refine q.mono ?_; rintro e w1 ⟨rfl, b1⟩) | (go_at_call 33; refine (format_w v hv.1 hv.2 _ (HT.out _ b1)).mono ?_; rintro e w2 ⟨rfl, b2⟩; rw [c]))
      go_ret2
      exact ⟨rfl, b1.trans (b2.mono b1.size)⟩
    · rw [if_neg c2]
      go_enter Tryz.func16, Tryz.ntmps16
      go_wp2_with (first | (go_at_call 32; refine q.mono ?_; rintro e w1 ⟨rfl, b1⟩) | (go_at_call 33; refine (format_w v hv.1 hv.2 _ (HT.out _ b1)).mono ?_; rintro e w2 ⟨rfl, b2⟩; rw [c]))
      go_ret2
      exact ⟨rfl, b1.trans (b2.mono b1.size)⟩
  · rw [if_neg c]
    have c' := ne_list c
    generalize hq : num v = t at *
    have q2 : ∀ W, Vs W → Calls Tryz.prog 33 #[.int .i64 v, .int .i64 10] W fun ev w' => ev = .returned (.string t) ∧ Below W.heap.size W w' := fun W h => hq ▸ format_w v hv.1 hv.2 W h
    clear hq
    go_enter Tryz.func16, Tryz.ntmps16
    go_wp2_with (first | (go_at_call 32; refine q.mono ?_; rintro e w1 ⟨rfl, b1⟩) | (go_at_call 33; refine (q2 _ (HT.out _ b1)).mono ?_; rintro e w2 ⟨rfl, b2⟩))
    go_ret2
    exact ⟨rfl, b1.trans (b2.mono b1.size)⟩

set_option maxHeartbeats 1000000 in
theorem number_bad (s : ByteArray) (hl : s.size ≤ 281474976710656) (h : ∀ v, ¬ Lib.parseIntB 64 s.data.toList = .ok v) (w : World) (ht : Vs w) :
    Calls Tryz.prog 16 #[.string s] w fun e w' => e = .returned (.tuple #[.int .i64 0, .int .i64 200]) ∧ Below w.heap.size w w' := by
  have q : Calls Tryz.prog 32 #[.string s, .int .i64 10, .int .i64 64] w fun e w' => (∃ z T N, e = .returned (.tuple #[.int .i64 z, .iface T (.pointer (some ⟨N, 0, none⟩))])) ∧ Below w.heap.size w w' := by
    obtain ⟨te, pe, h1⟩ := ht.syn
    obtain ⟨tr, pr, h2⟩ := ht.rng
    cases hp : Lib.parseIntB 64 s.data.toList with
    | ok v => exact absurd hp (h v)
    | «syntax» =>
      refine (Tryz.strconv_ParseInt_10_at64_syntax s hl hp _ w h1 (.inr ⟨_, _, rfl⟩)).mono ?_
      rintro e W ⟨N, he, _, _, hb⟩
      exact ⟨⟨_, _, N, he⟩, hb⟩
    | range =>
      refine (Tryz.strconv_ParseInt_10_at64_range s hl hp _ w h2 (.inr ⟨_, _, rfl⟩)).mono ?_
      rintro e W ⟨N, he, _, _, hb⟩
      exact ⟨⟨_, _, N, he⟩, hb⟩
  clear h
  go_enter Tryz.func16, Tryz.ntmps16
  go_wp2_with (go_at_call 32; refine q.mono ?_; rintro e w1 ⟨⟨z, T, N, rfl⟩, b1⟩)
  go_ret2
  exact ⟨rfl, b1⟩

/-- ask.number as one contract -/
theorem number_w (s : ByteArray) (hl : s.size ≤ 281474976710656) (w : World) (ht : Vs w) :
    Calls Tryz.prog 16 #[.string s] w fun e w' => e = .returned (numV s) ∧ Below w.heap.size w w' := by
  unfold numV numP nval
  cases hp : Lib.parseIntB 64 s.data.toList with
  | ok v =>
    refine (number_ok s hl v hp w ht).mono ?_
    rintro e W ⟨he, hb⟩
    refine ⟨?_, hb⟩
    rw [he]
    simp only
    by_cases c : num v = s
    · simp only [if_pos c]
      by_cases c0 : v < 0
      · simp only [if_pos c0]
      · simp only [if_neg c0]
        by_cases c2 : 1048576 < v
        · simp only [if_pos c2]
        · simp only [if_neg c2]
    · simp only [if_neg c]
      split <;> rfl
  | «syntax» => exact (number_bad s hl (fun v h => by rw [hp] at h; cases h) w ht).mono fun e W h => h
  | range => exact (number_bad s hl (fun v h => by rw [hp] at h; cases h) w ht).mono fun e W h => h

/-- the kind of a first word -/
def kindFrom : Nat → Nat → ByteArray → Nat
  | 0, _, _ => 0
  | f + 1, k, s => if wd k = s then k else kindFrom f (k + 1) s
def kindP (s : ByteArray) : Nat := kindFrom 11 1 s

set_option maxRecDepth 20000 in
theorem kindOf_w (s : ByteArray) (w : World) (ht : Vs w) :
    Calls Tryz.prog 14 #[.string s] w fun e w' => e = .returned (.int .i64 (kindP s)) ∧ w = w' := by
  have HW : Hid (∀ i, i < 12 → w.cell? ⟨0, i, none⟩ = some (.string (wd i))) := ht.wds
  have hlt := Lib.lt_of_cell (ht.wds 0 (by omega))
  simp only at hlt
  clear ht
  go_enter Tryz.func14, Tryz.ntmps14
  go_wp2
  go_loopw [3] (fun ta wr => ∃ k : Nat, 1 ≤ k ∧ k ≤ 12 ∧ Hid (kindP s = kindFrom (12 - k) k s) ∧ ta = .int .i64 k ∧ wr = w) (fun ta _ => (12 - (intOf ta).toNat))
  case atStart => exact ⟨1, by omega, by omega, rfl, rfl, rfl⟩
  case round =>
    obtain ⟨k, h1, h2, hk, rfl, rfl⟩ := hrel
    by_cases c : k ≤ 11
    · have cc := HW.out k (by omega)
      have c' : (k : Int) ≤ 11 := by omega
      by_cases e : wd k = s
      · have hr : Hid (kindP s = k) := by
          have := hk.out
          rw [show 12 - k = (11 - k) + 1 by omega] at this
          unfold kindFrom at this
          rw [if_pos e] at this
          exact this
        clear hk
        rw [e] at cc
        clear e
        go_wp2
        go_ret
        exact ⟨by rw [hr.out]; rfl, rfl⟩
      · have hr : Hid (kindP s = kindFrom (12 - (k + 1)) (k + 1) s) := by
          have := hk.out
          rw [show 12 - k = (12 - (k + 1)) + 1 by omega] at this
          unfold kindFrom at this
          rw [if_neg e] at this
          exact this
        have e' := ne_list e
        clear hk e
        generalize wd k = t at *
        go_wp2
        go_roundw
        case rel => refine ⟨k + 1, by omega, by omega, hr.out, ?_⟩; simp
        case measure => simp [intOf]; omega
    · have hr : Hid (kindP s = 0) := by
        have := hk.out
        rw [show k = 12 by omega] at this
        exact this
      have c' : ¬ (k : Int) ≤ 11 := by omega
      clear hk
      go_wp2
      go_ret
      exact ⟨by rw [hr.out]; rfl, rfl⟩

end Go.Proofs.YtojbfdlgjjghjaaGreatDoor.K
