/-
  Contracts: strconv.FormatInt as it is wanted here, pax.Number.
-/
import Derived.Test.YtnmmaedngdibeaaGreatDoorEEnt0
import Derived.Test.YtnmmaedngdibeaaGreatDoorShelf
import Derived.Lib.AppendIntMem
import Derived.WalkKit
import Derived.Below
namespace Go.Proofs.YtnmmaedngdibeaaGreatDoor.E
open Go.RowKit
set_option linter.unusedVariables false
set_option linter.unusedSimpArgs false

/-- The variables of the library that are read lie there. -/
structure Vs (w : World) : Prop where
  tab : Lib.TabIs Tryz.prog w "internal/strconv.uint64pow10" .u64 Lib.pow10Tab
  syn : ∃ te pe, w.cell? ⟨12, 0, none⟩ = some (.iface te pe)
  rng : ∃ te pe, w.cell? ⟨13, 0, none⟩ = some (.iface te pe)

theorem Vs.below {w w' : World} (h : Vs w) (hb : Below w.heap.size w w') : Vs w' := by
  obtain ⟨te, pe, h1⟩ := h.syn
  obtain ⟨tr, pr, h2⟩ := h.rng
  exact ⟨Lib.tabBelow_of_tabIs h.tab w' hb, ⟨te, pe, (hb.cell (Lib.lt_of_cell h1)).trans h1⟩, ⟨tr, pr, (hb.cell (Lib.lt_of_cell h2)).trans h2⟩⟩

def num (e : Int) : ByteArray := ⟨(Lib.itoa e).toArray⟩

theorem format_w (e : Int) (h0 : -9223372036854775808 ≤ e) (h1 : e ≤ 9223372036854775807) (w : World) (ht : Vs w) :
    Calls Tryz.prog 125 #[.int .i64 e, .int .i64 10] w fun ev w' => ev = .returned (.string (num e)) ∧ Below w.heap.size w w' :=
  (Tryz.strconv_FormatInt_10 e h0 h1 w ht.tab).mono fun _ _ ⟨h, k, os, hw⟩ => ⟨h, hw ▸ Lib.below_grow _ w (Nat.le_refl _) k os⟩

/-- what a text says as a number, and the error of one that says none -/
def nval (s : ByteArray) : Option Int := match Lib.parseIntB 64 s.data.toList with
  | .ok v => if num v = s then some v else none
  | _ => none

theorem parseUintM_le (M : Nat) : ∀ (l : List UInt8) (acc u : Nat), acc ≤ M → Lib.parseUintM M acc l = .ok u → u ≤ M
  | [], acc, u, h, e => by
    simp only [Lib.parseUintM] at e
    cases e; exact h
  | c :: r, acc, u, h, e => by
    unfold Lib.parseUintM at e
    split at e
    · split at e
      · cases e
      · split at e
        · cases e
        · exact parseUintM_le M r _ u (by omega) e
    · cases e

theorem parseIntB_range (l : List UInt8) (v : Int) (h : Lib.parseIntB 64 l = .ok v) : -9223372036854775808 ≤ v ∧ v ≤ 9223372036854775807 := by
  unfold Lib.parseIntB at h
  cases l with
  | nil => simp at h
  | cons c r =>
    simp only at h
    split at h
    · cases h
    · cases h
    · rename_i u hu
      split at h
      · cases h
      · split at h
        · cases h
        · rename_i h1 h2
          cases h
          have p : (2 : Nat) ^ (64 - 1) = 9223372036854775808 := by decide
          rw [p] at h1 h2
          split <;> omega

set_option maxHeartbeats 1000000 in
theorem number_ok (s : ByteArray) (hl : s.size ≤ 281474976710656) (v : Int) (h : Lib.parseIntB 64 s.data.toList = .ok v) (w : World) (ht : Vs w) :
    Calls Tryz.prog 115 #[.string s] w fun e w' => e = .returned (if num v = s then .tuple #[.int .i64 v, .int .i64 0] else .tuple #[.int .i64 0, .int .i64 70]) ∧ Below w.heap.size w w' := by
  have HT : Hid (∀ W, Below w.heap.size w W → Vs W) := fun W h => ht.below h
  have hv := parseIntB_range _ _ h
  have q : Calls Tryz.prog 124 #[.string s, .int .i64 10, .int .i64 64] w fun e w' => e = .returned (.tuple #[.int .i64 v, .nilIface]) ∧ Below w.heap.size w w' := by
    refine (Tryz.strconv_ParseInt_10_at64_ok s (by omega) v h w).mono ?_
    rintro e W ⟨he, hW⟩
    refine ⟨he, ?_⟩
    rcases hW with rfl | ⟨t, rfl⟩
    · exact Below.refl _ _
    · exact Lib.bytesWorld_below _ _ _
  by_cases c : num v = s
  · rw [if_pos c]
    go_enter Tryz.func115, Tryz.ntmps115
    go_wp2_with (first | (go_at_call 124; refine q.mono ?_; rintro e w1 ⟨rfl, b1⟩) | (go_at_call 125; refine (format_w v hv.1 hv.2 _ (HT.out _ b1)).mono ?_; rintro e w2 ⟨rfl, b2⟩; rw [c]))
    go_ret2
    exact ⟨rfl, b1.trans (b2.mono b1.size)⟩
  · rw [if_neg c]
    have c' := ne_list c
    generalize hq : num v = t at *
    have q2 : ∀ W, Vs W → Calls Tryz.prog 125 #[.int .i64 v, .int .i64 10] W fun ev w' => ev = .returned (.string t) ∧ Below W.heap.size W w' := fun W h => hq ▸ format_w v hv.1 hv.2 W h
    clear hq
    go_enter Tryz.func115, Tryz.ntmps115
    go_wp2_with (first | (go_at_call 124; refine q.mono ?_; rintro e w1 ⟨rfl, b1⟩) | (go_at_call 125; refine (q2 _ (HT.out _ b1)).mono ?_; rintro e w2 ⟨rfl, b2⟩))
    go_ret2
    exact ⟨rfl, b1.trans (b2.mono b1.size)⟩

theorem number_bad (s : ByteArray) (hl : s.size ≤ 281474976710656) (h : ∀ v, ¬ Lib.parseIntB 64 s.data.toList = .ok v) (w : World) (ht : Vs w) :
    Calls Tryz.prog 115 #[.string s] w fun e w' => e = .returned (.tuple #[.int .i64 0, .int .i64 70]) ∧ Below w.heap.size w w' := by
  have q : Calls Tryz.prog 124 #[.string s, .int .i64 10, .int .i64 64] w fun e w' => (∃ z N, e = .returned (.tuple #[.int .i64 z, .iface 209 (.pointer (some ⟨N, 0, none⟩))])) ∧ Below w.heap.size w w' := by
    obtain ⟨te, pe, h1⟩ := ht.syn
    obtain ⟨tr, pr, h2⟩ := ht.rng
    cases hp : Lib.parseIntB 64 s.data.toList with
    | ok v => exact absurd hp (h v)
    | «syntax» =>
      refine (Tryz.strconv_ParseInt_10_at64_syntax s hl hp _ w h1 (.inr ⟨_, _, rfl⟩)).mono ?_
      rintro e W ⟨N, he, _, _, hb⟩
      exact ⟨⟨_, N, he⟩, hb⟩
    | range =>
      refine (Tryz.strconv_ParseInt_10_at64_range s hl hp _ w h2 (.inr ⟨_, _, rfl⟩)).mono ?_
      rintro e W ⟨N, he, _, _, hb⟩
      exact ⟨⟨_, N, he⟩, hb⟩
  clear h
  go_enter Tryz.func115, Tryz.ntmps115
  go_wp2_with (go_at_call 124; refine q.mono ?_; rintro e w1 ⟨⟨z, N, rfl⟩, b1⟩)
  go_ret2
  exact ⟨rfl, b1⟩

/-- pax.Number as one contract -/
theorem number_w (s : ByteArray) (hl : s.size ≤ 281474976710656) (w : World) (ht : Vs w) :
    Calls Tryz.prog 115 #[.string s] w fun e w' => e = .returned (match nval s with | some v => .tuple #[.int .i64 v, .int .i64 0] | none => .tuple #[.int .i64 0, .int .i64 70]) ∧ Below w.heap.size w w' := by
  unfold nval
  cases hp : Lib.parseIntB 64 s.data.toList with
  | ok v =>
    refine (number_ok s hl v hp w ht).mono ?_
    rintro e W ⟨he, hb⟩
    refine ⟨?_, hb⟩
    rw [he]
    simp only
    split <;> rfl
  | «syntax» => exact (number_bad s hl (fun v h => by rw [hp] at h; cases h) w ht).mono fun e W h => h
  | range => exact (number_bad s hl (fun v h => by rw [hp] at h; cases h) w ht).mono fun e W h => h

end Go.Proofs.YtnmmaedngdibeaaGreatDoor.E
