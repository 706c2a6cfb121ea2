/-
  Contract: strings.IndexRune of a rune beyond ASCII in the three bytes that a key may not have.
-/
import Derived.Test.YtnmmaedngdibeaaGreatDoorXCheck
import Derived.Laws.Runes
import Derived.Laws.RangeAny
import Derived.WalkMore
namespace Go.Proofs.YtnmmaedngdibeaaGreatDoor.X
open Go.RowKit
set_option linter.unusedVariables false
set_option linter.unusedSimpArgs false

set_option maxRecDepth 100000 in
set_option maxHeartbeats 2000000 in
theorem rune_error (w : World) : Calls Tryz.prog 84 #[.string ⟨#[61, 0, 10]⟩, .int .i32 65533] w fun e w' => e = .returned (.int .i64 (-1)) ∧ Below w.heap.size w w' := by
  have n0 : ∀ ty, (Instr.next (.pointer (some ⟨w.heap.size, 0, none⟩)) true ty).run Tryz.prog (w.iter ⟨#[61, 0, 10]⟩ 0) = .ok (.tuple #[.bool true, .int .i64 0, .int .i32 61]) (w.iter ⟨#[61, 0, 10]⟩ 1) := fun ty => run_next_ascii (P := Tryz.prog) w ⟨#[61, 0, 10]⟩ 0 ty (by decide) (by decide)
  have n1 : ∀ ty, (Instr.next (.pointer (some ⟨w.heap.size, 0, none⟩)) true ty).run Tryz.prog (w.iter ⟨#[61, 0, 10]⟩ 1) = .ok (.tuple #[.bool true, .int .i64 1, .int .i32 0]) (w.iter ⟨#[61, 0, 10]⟩ 2) := fun ty => run_next_ascii (P := Tryz.prog) w ⟨#[61, 0, 10]⟩ 1 ty (by decide) (by decide)
  have n2 : ∀ ty, (Instr.next (.pointer (some ⟨w.heap.size, 0, none⟩)) true ty).run Tryz.prog (w.iter ⟨#[61, 0, 10]⟩ 2) = .ok (.tuple #[.bool true, .int .i64 2, .int .i32 10]) (w.iter ⟨#[61, 0, 10]⟩ 3) := fun ty => run_next_ascii (P := Tryz.prog) w ⟨#[61, 0, 10]⟩ 2 ty (by decide) (by decide)
  have n3 := fun ty => run_next_end (P := Tryz.prog) w ⟨#[61, 0, 10]⟩ 3 ty (by decide)
  go_enter Tryz.func84, Tryz.ntmps84
  go_wp2_with fail
  refine wp_loop_rounds 4 ?_
  rw [rounds_succ]
  go_wp2
  rw [rounds_succ]
  go_wp2
  rw [rounds_succ]
  go_wp2
  rw [rounds_succ]
  go_wp2
  go_ret
  exact ⟨rfl, (Below.refl _ _).alloc (Nat.le_refl _) _⟩

set_option maxRecDepth 100000 in
set_option maxHeartbeats 2000000 in
theorem rune_bad (r : Int) (h : 128 ≤ r) (hne : ¬ r = 65533) (hv : Lib.validRune r = false) (w : World) : Calls Tryz.prog 84 #[.string ⟨#[61, 0, 10]⟩, .int .i32 r] w fun e w' => e = .returned (.int .i64 (-1)) ∧ w' = w := by
  have q := Tryz.utf8_ValidRune r w
  rw [hv] at q
  clear hv
  go_enter Tryz.func84, Tryz.ntmps84
  go_wp2_with (go_at_call 103; refine q.mono ?_; rintro e w' ⟨rfl, hw⟩; rw [hw])
  go_ret
  exact ⟨rfl, rfl⟩

theorem indexByte_high (c : UInt8) (hc : 128 ≤ c.toNat) : ∀ l : List UInt8, (∀ b ∈ l, b.toNat < 128) → Lib.indexByte l c = -1
  | [], _ => rfl
  | b :: l, h => by
    have hb : (b == c) = false := beq_eq_false_iff_ne.2 (fun e => by have := h b (by simp); rw [e] at this; omega)
    have ih := indexByte_high c hc l (fun x hx => h x (by simp [hx]))
    rw [Lib.indexByte, hb, ih]
    rfl

set_option maxRecDepth 100000 in
set_option maxHeartbeats 4000000 in
theorem rune_two (r : Int) (h : 128 ≤ r) (hne : ¬ r = 65533) (hv : Lib.validRune r = true) (E : ByteArray) (hE : Utf8.encode r = E) (hs : E.size = 2) (c : UInt8) (hc : 128 ≤ c.toNat) (hl : ∀ h : 1 < E.size, E[1]'h = c) (w : World) : Calls Tryz.prog 84 #[.string ⟨#[61, 0, 10]⟩, .int .i32 r] w fun e w' => e = .returned (.int .i64 (-1)) ∧ Below w.heap.size w w' := by
  have q := Tryz.utf8_ValidRune r w
  rw [hv] at q
  have qi : ∀ (s : ByteArray) (W : World), (∀ b ∈ s.data.toList, b.toNat < 128) → Calls Tryz.prog 82 #[.string s, .int .u8 (c.toNat : Int)] W fun e w' => e = .returned (.int .i64 (-1)) ∧ w' = W := fun s W hb => by
    have := Tryz.strings_IndexByte s (c.toNat : Int) W
    rwa [show ((c.toNat : Int)).toNat.toUInt8 = c by simp, indexByte_high c hc _ hb] at this
  have e1 : (⟨#[61, 0, 10]⟩ : ByteArray)[1].toNat = 0 := rfl
  have c1 : ¬ (0 : Int) = (c.toNat : Int) := by omega
  clear hv
  go_enter Tryz.func84, Tryz.ntmps84
  go_wp2_with (go_at_call 103; refine q.mono ?_; rintro e w' ⟨rfl, hw⟩; rw [hw])
  go_step3
  go_wp2_with fail
  refine wp_loop_rounds 1 ?_
  rw [rounds_succ]
  go_wp2_with fail
  go_step3
  go_wp2_with fail
  go_region
  go_wp2_with fail
  go_region_with (go_at_call 82; refine (qi _ _ (by decide)).mono ?_; rintro e w' ⟨rfl, hw⟩; rw [hw])
  all_goals
    go_wp2
    simp only [Exit.noGoto, Exit.inBlock, Exit.then]
    go_ret
    exact ⟨rfl, by repeat (first | exact Below.refl _ _ | apply Below.drew)⟩

set_option maxRecDepth 100000 in
set_option maxHeartbeats 4000000 in
theorem rune_three (r : Int) (h : 128 ≤ r) (hne : ¬ r = 65533) (hv : Lib.validRune r = true) (E : ByteArray) (hE : Utf8.encode r = E) (hs : E.size = 3) (c : UInt8) (hc : 128 ≤ c.toNat) (hl : ∀ h : 2 < E.size, E[2]'h = c) (w : World) : Calls Tryz.prog 84 #[.string ⟨#[61, 0, 10]⟩, .int .i32 r] w fun e w' => e = .returned (.int .i64 (-1)) ∧ Below w.heap.size w w' := by
  have q := Tryz.utf8_ValidRune r w
  rw [hv] at q
  have qi : ∀ (s : ByteArray) (W : World), (∀ b ∈ s.data.toList, b.toNat < 128) → Calls Tryz.prog 82 #[.string s, .int .u8 (c.toNat : Int)] W fun e w' => e = .returned (.int .i64 (-1)) ∧ w' = W := fun s W hb => by
    have := Tryz.strings_IndexByte s (c.toNat : Int) W
    rwa [show ((c.toNat : Int)).toNat.toUInt8 = c by simp, indexByte_high c hc _ hb] at this
  have e1 : (⟨#[61, 0, 10]⟩ : ByteArray)[2].toNat = 10 := rfl
  have c1 : ¬ (10 : Int) = (c.toNat : Int) := by omega
  clear hv
  go_enter Tryz.func84, Tryz.ntmps84
  go_wp2_with (go_at_call 103; refine q.mono ?_; rintro e w' ⟨rfl, hw⟩; rw [hw])
  go_step3
  go_wp2_with fail
  refine wp_loop_rounds 1 ?_
  rw [rounds_succ]
  go_wp2_with fail
  go_step3
  go_wp2_with fail
  go_region
  go_wp2_with fail
  go_region_with (go_at_call 82; refine (qi _ _ (by decide)).mono ?_; rintro e w' ⟨rfl, hw⟩; rw [hw])
  all_goals
    go_wp2
    simp only [Exit.noGoto, Exit.inBlock, Exit.then]
    go_ret
    exact ⟨rfl, by repeat (first | exact Below.refl _ _ | apply Below.drew)⟩

set_option maxRecDepth 100000 in
set_option maxHeartbeats 4000000 in
theorem rune_four (r : Int) (h : 128 ≤ r) (hne : ¬ r = 65533) (hv : Lib.validRune r = true) (E : ByteArray) (hE : Utf8.encode r = E) (hs : E.size = 4) (w : World) : Calls Tryz.prog 84 #[.string ⟨#[61, 0, 10]⟩, .int .i32 r] w fun e w' => e = .returned (.int .i64 (-1)) ∧ Below w.heap.size w w' := by
  have q := Tryz.utf8_ValidRune r w
  rw [hv] at q
  clear hv
  go_enter Tryz.func84, Tryz.ntmps84
  go_wp2_with (go_at_call 103; refine q.mono ?_; rintro e w' ⟨rfl, hw⟩; rw [hw])
  go_step3
  go_wp2_with fail
  refine wp_loop_rounds 1 ?_
  rw [rounds_succ]
  go_wp2
  simp only [Exit.noGoto, Exit.inBlock, Exit.then]
  go_ret
  exact ⟨rfl, by repeat (first | exact Below.refl _ _ | apply Below.drew)⟩

theorem validRune_same (r : Int) : Lib.validRune r = Utf8.valid r := by rw [validRune_eq]; rfl

theorem rune_high (r : Int) (h : 128 ≤ r) (w : World) : Calls Tryz.prog 84 #[.string ⟨#[61, 0, 10]⟩, .int .i32 r] w fun e w' => e = .returned (.int .i64 (-1)) ∧ Below w.heap.size w w' := by
  by_cases h1 : r = 65533
  · subst h1; exact rune_error w
  cases hv : Lib.validRune r with
  | false => exact (rune_bad r h h1 hv w).mono fun e w' ⟨he, hw⟩ => ⟨he, hw ▸ Below.refl _ _⟩
  | true =>
    obtain ⟨s1, s2, s3⟩ := encode_facts r (by rw [← validRune_same]; exact hv) h
    have : (Utf8.encode r).size = 2 ∨ (Utf8.encode r).size = 3 ∨ (Utf8.encode r).size = 4 := by omega
    rcases this with hs | hs | hs
    · have hlt : 1 < (Utf8.encode r).size := by omega
      refine rune_two r h h1 hv _ rfl hs ((Utf8.encode r)[1]'hlt) ?_ (fun _ => rfl) w
      have := s3 (by omega)
      simpa [hs] using this
    · have hlt : 2 < (Utf8.encode r).size := by omega
      refine rune_three r h h1 hv _ rfl hs ((Utf8.encode r)[2]'hlt) ?_ (fun _ => rfl) w
      have := s3 (by omega)
      simpa [hs] using this
    · exact rune_four r h h1 hv _ rfl hs w

end Go.Proofs.YtnmmaedngdibeaaGreatDoor.X
