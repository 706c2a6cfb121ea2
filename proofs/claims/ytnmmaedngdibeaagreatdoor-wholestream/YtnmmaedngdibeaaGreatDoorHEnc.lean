/-
  Contract: head.Encode. (Made by genenc.py.)
-/
import Derived.Test.YtnmmaedngdibeaaGreatDoorHHdr
import Derived.Test.YtnmmaedngdibeaaGreatDoorHSeal
import Derived.Lib.BufferWrite
import Derived.Deep.RegionWith
import Derived.Deep.DeepCutAuto
import Derived.Deep.RegionHeld3
namespace Go.Proofs.YtnmmaedngdibeaaGreatDoor.H
open Go.RowKit
set_option linter.unusedVariables false
set_option linter.unusedSimpArgs false

def hcells (f : Int) (n l p u r : ByteArray) (ty a b c d m : Int) : Array Value := #[.int .i64 f, .string n, .string l, .string p, .string u, .string r, .int .u8 ty, .int .i64 a, .int .i64 b, .int .i64 c, .int .i64 d, .int .i64 m]

theorem new_cell (w : World) (cs : Array Value) (t : TypeId) (j : Nat) (v : Value) (h : cs[j]? = some v) : (w.alloc (.cells cs t)).cell? ⟨w.heap.size, j, none⟩ = some v := by
  have := heap_alloc_new w (.cells cs t)
  simp only [World.cell?, this]
  exact h

set_option maxHeartbeats 1000000 in
theorem enc_long (f : Int) (n l p u r : ByteArray) (ty a b c d m : Int) (w : World) (hf : textsB n l p u r = false) :
    Calls Tryz.prog 20 #[.agg (hcells f n l p u r ty a b c d m)] w fun e w' => e = .returned (.tuple #[.slice none 0 0, .int .i64 2]) ∧ Below w.heap.size w w' := by
  have b1 : Below w.heap.size w (w.alloc (.cells (hcells f n l p u r ty a b c d m) 55)) := (Below.refl _ w).alloc (Nat.le_refl _) _
  have q := textsFit_w (w.alloc (.cells (hcells f n l p u r ty a b c d m) 55)) w.heap.size n l p u r ⟨new_cell w _ _ 1 _ rfl, new_cell w _ _ 2 _ rfl, new_cell w _ _ 3 _ rfl, new_cell w _ _ 4 _ rfl, new_cell w _ _ 5 _ rfl⟩
  rw [hf] at q
  unfold hcells at *
  go_enter Tryz.func20, Tryz.ntmps20
  go_wp2_with fail
  refine q.mono ?_
  rintro e w' ⟨rfl, rfl⟩
  go_wp2
  go_ret2
  exact ⟨rfl, b1⟩

def numB : Nat → Nat | 0 => 100 | 1 => 108 | 2 => 116 | 3 => 124 | _ => 136
def numE : Nat → Nat | 0 => 108 | 1 => 116 | 2 => 124 | 3 => 136 | _ => 148
/-- a number as its field has it -/
def numL (x : Int) (k : Nat) : List Int := octs x (numE k - numB k - 1) ++ [0]
/-- a block with the first k numbers -/
def encN (ns : Nat → Int) : Nat → List Int
  | 0 => List.replicate 512 0
  | k + 1 => splice (encN ns k) (numB k) (numL (ns k) k)

theorem numL_length (x : Int) (k : Nat) : (numL x k).length = numE k - numB k := by
  unfold numL
  rw [List.length_append, octs_length]
  have : 1 ≤ numE k - numB k := by unfold numE numB; split <;> decide
  simp; omega

theorem encN_length (ns : Nat → Int) : ∀ k, k ≤ 5 → (encN ns k).length = 512
  | 0, _ => by unfold encN; rw [List.length_replicate]
  | k + 1, h => by
    unfold encN
    have e := encN_length ns k (by omega)
    have f : numE k ≤ 512 ∧ numB k ≤ numE k := by unfold numE numB; split <;> decide
    rw [length_splice _ _ _ (by rw [numL_length, e]; omega), e]

def numsF (a b c d m : Int) : Nat → Int | 0 => a | 1 => b | 2 => c | 3 => d | _ => m
theorem fmt_ok (x : Int) (k wd : Nat) (hwd : numE k - numB k = wd) (w1 wa : World) (G : Nat) (ZS : List Int) (O : Own w1 wa G ZS) (h1 : x ≤ 9223372036854775807) (hk0 : 2 ≤ wd) (hk1 : wd ≤ 24) (hf : fitsB x wd = true) :
    Calls Tryz.prog 33 #[.int .i64 x, .int .i64 wd] wa.drew fun e w' => e = .returned (.tuple #[.slice (some ⟨wa.heap.size, 0, none⟩) wd wd, .int .i64 0]) ∧ Own w1 w' G ZS ∧ Src w' (some ⟨wa.heap.size, 0, none⟩) (numL x k) ∧ Below wa.heap.size wa w' := by
  have h0 : 0 ≤ x := (of_decide_eq_true hf).1
  refine (format_yes x wd wa.drew h0 h1 hk0 hk1 hf).mono ?_
  rintro e w' ⟨rfl, rfl⟩
  have b : Below wa.heap.size wa (wa.drew.alloc (.cells (row (octs x (wd - 1) ++ [0])) 5)) := ((Below.refl _ wa).drew).alloc (Nat.le_refl _) _
  refine ⟨rfl, O.grow b, ?_, b⟩
  have := src_alloc wa.drew (octs x (wd - 1) ++ [0]) 5
  unfold numL
  rw [hwd]
  exact this

theorem fmt_no (x : Int) (wd : Nat) (w1 wa : World) (G : Nat) (ZS : List Int) (O : Own w1 wa G ZS) (h0 : -9223372036854775808 ≤ x) (h1 : x ≤ 9223372036854775807) (hk0 : 2 ≤ wd) (hk1 : wd ≤ 24) (hf : fitsB x wd = false) :
    Calls Tryz.prog 33 #[.int .i64 x, .int .i64 wd] wa.drew fun e w' => e = .returned (.tuple #[.slice none 0 0, .int .i64 20]) ∧ Own w1 w' G ZS ∧ Below wa.heap.size wa w' := by
  refine (format_no x wd wa.drew h0 h1 (by omega) (by omega) hf).mono ?_
  rintro e w' ⟨rfl, rfl⟩
  have b : Below wa.heap.size wa wa.drew := (Below.refl _ wa).drew
  exact ⟨rfl, O.grow b, b⟩

def s8 (s : ByteArray) : List Int := s.data.toList.map (fun b => (b.toNat : Int))
theorem s8_length (s : ByteArray) : (s8 s).length = s.size := by unfold s8; rw [List.length_map]; rfl
theorem s8_allB (s : ByteArray) : AllB (s8 s) := by
  intro z hz
  simp only [s8, List.mem_map] at hz
  obtain ⟨b, _, rfl⟩ := hz
  have := b.toNat_lt
  omega
theorem allB_splice (zs cs : List Int) (o : Nat) (h1 : AllB zs) (h2 : AllB cs) : AllB (splice zs o cs) := by
  intro z hz
  unfold splice at hz
  simp only [List.mem_append] at hz
  rcases hz with h | h | h
  · exact h1 z (List.mem_of_mem_take h)
  · exact h2 z h
  · exact h1 z (List.mem_of_mem_drop h)

theorem copy_own_str {w w' : World} {g : Nat} {zs : List Int} (h : Own w w' g zs) (off dLen dCap : Nat) (s : ByteArray) (hd : s.size ≤ dLen) (hf : off + s.size ≤ zs.length) :
    ∃ w2, (∀ ty, (Builtin.copy_ #[22, 9] ty #[.slice (some ⟨g, off, none⟩) dLen dCap, .string s]).run Tryz.prog w' = .ok (goInt s.size) w2) ∧ Own w w2 g (splice zs off (s8 s)) := by
  obtain ⟨rest, h1⟩ := h.row
  have e8 : Lib.byteCells s.data.toList = cellsOf (s8 s) := by
    simp only [cellsOf, s8, List.map_map, Lib.byteCells]; rfl
  refine ⟨w'.setRow g (splice (cellsOf zs ++ rest) off (cellsOf (s8 s))).toArray, fun ty => ?_, ⟨?_, h.ge, rest, ?_⟩⟩
  · have := Lib.run_copy_row_string (P := Tryz.prog) w' 22 9 ty 5 g off dLen dCap s (cellsOf zs ++ rest).toArray 5 Tryz.underlying22 inf5 h1 hd (by rw [List.size_toArray, List.length_append, cellsOf_length]; omega)
    rw [this, e8]
    unfold splice
    rw [cellsOf_length, s8_length, List.append_assoc]
  · exact ⟨h.below.os, h.below.tape, h.below.output, by rw [setRow_size]; exact h.below.size, fun k hk => by rw [setRow_other _ _ _ _ (by have := h.ge; omega)]; exact h.below.block k hk⟩
  · rw [setRow_heap _ _ _ _ _ _ h1]
    congr 2
    rw [cellsOf_splice]
    unfold splice
    rw [cellsOf_length, List.take_append_of_le_length (by rw [cellsOf_length]; omega), List.drop_append_of_le_length (by rw [cellsOf_length, s8_length]; omega)]
    simp

def numFit (ns : Nat → Int) (k : Nat) : Bool := fitsB (ns k) ((numE k - numB k : Nat) : Int)

theorem idx56_0 (a0 a1 a2 a3 a4 : Addr) (w : World) : (Instr.index 82 (.agg #[.pointer (some a0), .pointer (some a1), .pointer (some a2), .pointer (some a3), .pointer (some a4)]) (.int .i64 0)).run Tryz.prog w = .ok (.pointer (some a0)) w := by kernel_rfl
theorem idx56_1 (a0 a1 a2 a3 a4 : Addr) (w : World) : (Instr.index 82 (.agg #[.pointer (some a0), .pointer (some a1), .pointer (some a2), .pointer (some a3), .pointer (some a4)]) (.int .i64 1)).run Tryz.prog w = .ok (.pointer (some a1)) w := by kernel_rfl
theorem idx56_2 (a0 a1 a2 a3 a4 : Addr) (w : World) : (Instr.index 82 (.agg #[.pointer (some a0), .pointer (some a1), .pointer (some a2), .pointer (some a3), .pointer (some a4)]) (.int .i64 2)).run Tryz.prog w = .ok (.pointer (some a2)) w := by kernel_rfl
theorem idx56_3 (a0 a1 a2 a3 a4 : Addr) (w : World) : (Instr.index 82 (.agg #[.pointer (some a0), .pointer (some a1), .pointer (some a2), .pointer (some a3), .pointer (some a4)]) (.int .i64 3)).run Tryz.prog w = .ok (.pointer (some a3)) w := by kernel_rfl
theorem idx56_4 (a0 a1 a2 a3 a4 : Addr) (w : World) : (Instr.index 82 (.agg #[.pointer (some a0), .pointer (some a1), .pointer (some a2), .pointer (some a3), .pointer (some a4)]) (.int .i64 4)).run Tryz.prog w = .ok (.pointer (some a4)) w := by kernel_rfl

def ustarS : ByteArray := ⟨#[117, 115, 116, 97, 114, 0, 48, 48]⟩
/-- the block of a header, ahead of its sum -/
def encL (n l p u r : ByteArray) (ty : Int) (ns : Nat → Int) : List Int :=
  (splice (splice (splice (splice (splice (splice (encN ns 5) 0 (s8 n)) 157 (s8 l)) 257 (s8 ustarS)) 265 (s8 u)) 297 (s8 r)) 345 (s8 p)).set 156 ty

theorem texts_sizes {n l p u r : ByteArray} (h : textsB n l p u r = true) : n.size ≤ 100 ∧ l.size ≤ 100 ∧ p.size ≤ 155 ∧ u.size ≤ 31 ∧ r.size ≤ 31 := by
  unfold textsB fitsT at h
  simp only [Bool.and_eq_true, decide_eq_true_eq] at h
  omega

theorem encN_allB (ns : Nat → Int) : ∀ k, AllB (encN ns k)
  | 0 => fun z h => by have := List.eq_of_mem_replicate h; omega
  | k + 1 => by
    unfold encN
    refine allB_splice _ _ _ (encN_allB ns k) ?_
    intro z hz
    simp only [numL, List.mem_append, List.mem_cons, List.not_mem_nil, or_false] at hz
    rcases hz with h | rfl
    · have := octs_mem _ _ z h; omega
    · omega

set_option maxHeartbeats 2000000 in
theorem enc_yes (f : Int) (n l p u r : ByteArray) (ty a b c d m : Int) (w : World) (hf : textsB n l p u r = true) (L : Laid w) (hty : 0 ≤ ty ∧ ty ≤ 255) (ha : -9223372036854775808 ≤ a ∧ a ≤ 9223372036854775807) (hb : -9223372036854775808 ≤ b ∧ b ≤ 9223372036854775807) (hc : -9223372036854775808 ≤ c ∧ c ≤ 9223372036854775807) (hd : -9223372036854775808 ≤ d ∧ d ≤ 9223372036854775807) (hm : -9223372036854775808 ≤ m ∧ m ≤ 9223372036854775807) :
    Calls Tryz.prog 20 #[.agg (hcells f n l p u r ty a b c d m)] w fun e w' =>
      (e = .returned (.tuple #[.slice none 0 0, .int .i64 20]) ∧ (∃ k, k < 5 ∧ numFit (numsF a b c d m) k = false) ∧ Below w.heap.size w w') ∨
      (∃ g, e = .returned (.tuple #[.slice (some ⟨g, 0, none⟩) 512 512, .int .i64 0]) ∧ (∀ k, k < 5 → numFit (numsF a b c d m) k = true) ∧ Own w w' g (sealL (encL n l p u r ty (numsF a b c d m)))) := by
  have b1 : Below w.heap.size w (w.alloc (.cells (hcells f n l p u r ty a b c d m) 55)) := (Below.refl _ w).alloc (Nat.le_refl _) _
  have q := textsFit_w (w.alloc (.cells (hcells f n l p u r ty a b c d m) 55)) w.heap.size n l p u r ⟨new_cell w _ _ 1 _ rfl, new_cell w _ _ 2 _ rfl, new_cell w _ _ 3 _ rfl, new_cell w _ _ 4 _ rfl, new_cell w _ _ 5 _ rfl⟩
  have hft := texts_sizes hf
  rw [hf] at q
  have hcc : ∀ j v, (hcells f n l p u r ty a b c d m)[j]? = some v → (w.alloc (.cells (hcells f n l p u r ty a b c d m) 55)).cell? ⟨w.heap.size, j, none⟩ = some v := fun j v h => new_cell w _ _ j v h
  have L1 := L.grow b1
  generalize hW1 : w.alloc (.cells (hcells f n l p u r ty a b c d m) 55) = w1 at *
  have HW1 : Hid _ := hW1
  have hmk := make512 w1
  have o1 : Own w1 (w1.alloc (.cells (row (List.replicate 512 0)) 5)) w1.heap.size (encN (numsF a b c d m) 0) := own_alloc w1 (List.replicate 512 0)
  generalize w1.alloc (.cells (row (List.replicate 512 0)) 5) = w2 at *
  have q2 := numbers_w w.heap.size w2
  have hcell : ∀ j v, (hcells f n l p u r ty a b c d m)[j]? = some v → ∀ wr, Below w1.heap.size w1 wr → wr.cell? ⟨w.heap.size, j, none⟩ = some v := fun j v h wr hb => cell_grow (hcc j v h) hb
  have hcell_0 := hcell 7 _ rfl
  have hcell_1 := hcell 8 _ rfl
  have hcell_2 := hcell 9 _ rfl
  have hcell_3 := hcell 10 _ rfl
  have hcell_4 := hcell 11 _ rfl
  have Hcell : Hid _ := hcell
  clear hcc hcell
  generalize hG : w1.heap.size = G at *
  have HG : Hid _ := hG
  clear hG
  unfold hcells at *
  unfold nums5 at *
  go_enter Tryz.func20, Tryz.ntmps20
  go_wp2_with fail
  refine q.mono ?_
  rintro e w' ⟨rfl, rfl⟩
  go_wp2_with fail
  refine q2.mono ?_
  rintro e w3 ⟨rfl, hw3⟩
  have O3 : Own w1 w3 G (encN (numsF a b c d m) 0) := by
    subst hw3
    exact o1.grow (((Below.refl _ w2).alloc (Nat.le_refl _) _).drew)
  clear hw3 q q2 o1 hmk
  go_wp2
  go_loopw [14] (fun i wr => ∃ (k : Nat), k ≤ 5 ∧ i = .int .i64 k ∧ Own w1 wr G (encN (numsF a b c d m) k) ∧ Hid (∀ j, j < k → numFit (numsF a b c d m) j = true))
    (fun i _ => 5 - (intOf i).toNat)
  case atStart => exact ⟨0, Nat.zero_le _, rfl, O3, fun j hj => by omega⟩
  case round =>
    obtain ⟨k, hk, hi, O, HF⟩ := hrel
    match k, hk, hi, O, HF with
    | 0, _, hi, O, HF =>
      obtain rfl : _ = Value.int .i64 0 := hi
      have bel : Below G w1 wr := by rw [← HG.out]; exact O.below
      have hx := hcell_0 wr bel
      have hp0 := cell_grow L1.f0 O.below
      have hp1 := cell_grow L1.f1 O.below
      have hix := fun a0 a1 a2 a3 a4 W => idx56_0 a0 a1 a2 a3 a4 W
      have hba : Below wr.heap.size wr (wr.alloc (.cells #[.int .i64 100, .int .i64 108] 85)) := (Below.refl _ wr).alloc (Nat.le_refl _) _
      have hxa := cell_grow hx hba
      have hpa0 := new_cell wr #[.int .i64 100, .int .i64 108] 85 0 _ rfl
      have hpa1 := new_cell wr #[.int .i64 100, .int .i64 108] 85 1 _ rfl
      have Oa := O.grow hba
      have Hba : Hid _ := hba
      clear hba
      have b3 : IntKind.i64.wrap 8 = 8 := rfl
      have b4 : IntKind.i64.wrap (108 - 100) = 8 := rfl
      have l8 : (numL a 0).length = 8 := numL_length _ _
      have hlen := encN_length (numsF a b c d m) 0 (by omega)
      cases hfit : numFit (numsF a b c d m) 0 with
      | false =>
        have q := fmt_no a 8 w1 _ G _ Oa (by omega) (by omega) (by omega) (by omega) hfit
        have HFit : Hid _ := hfit
        have Hb1 : Hid _ := b1
        clear O bel Oa hfit hlen l8
        go_upto_region 8 with fail
        generalize hwa : wr.alloc (.cells #[.int .i64 100, .int .i64 108] 85) = wa at *
        clear hwa
        go_region_held3 (fun W => W.cell? ⟨w.heap.size, 7, none⟩ = some (.int .i64 a) ∧ W.cell? ⟨wr.heap.size, 0, none⟩ = some (.int .i64 100) ∧ W.cell? ⟨wr.heap.size, 1, none⟩ = some (.int .i64 108)) (first | assumption | exact ⟨hxa, hpa0, hpa1⟩ | go_keep) (first | (go_at_call 33; refine q.mono ?_; rintro e w8 ⟨rfl, O8, B8⟩; have hs8 := And.intro (cell_grow hxa B8) (And.intro (cell_grow hpa0 B8) (cell_grow hpa1 B8))))
        have HB : Hid (Below w.heap.size w w8) := Hb1.out.trans (O8.below.mono Hb1.out.size)
        clear O8 B8 q hs8
        go_wp2
        go_ret2
        exact .inl ⟨rfl, ⟨0, by omega, HFit.out⟩, HB.out⟩
      | true =>
        have q := fmt_ok a 0 8 rfl w1 _ G _ Oa (by omega) (by omega) (by omega) hfit
        have HO : Hid _ := O
        have HFit : Hid _ := hfit
        have Hlen : Hid _ := hlen
        have HL8 : Hid _ := l8
        clear O bel Oa hfit hlen l8
        go_upto_region 8 with fail
        generalize hwa : wr.alloc (.cells #[.int .i64 100, .int .i64 108] 85) = wa at *
        clear hwa
        go_region_held3 (fun W => W.cell? ⟨w.heap.size, 7, none⟩ = some (.int .i64 a) ∧ W.cell? ⟨wr.heap.size, 0, none⟩ = some (.int .i64 100) ∧ W.cell? ⟨wr.heap.size, 1, none⟩ = some (.int .i64 108)) (first | assumption | exact ⟨hxa, hpa0, hpa1⟩ | go_keep) (first | (go_at_call 33; refine q.mono ?_; rintro e w8 ⟨rfl, O8, S8, B8⟩; have hs8 := And.intro (cell_grow hxa B8) (And.intro (cell_grow hpa0 B8) (cell_grow hpa1 B8))))
        obtain ⟨j1, j2, j3⟩ := hs8
        obtain ⟨w9, c9, o9, k9⟩ := copy_own O8 100 412 412 _ _ 8 S8 (by rw [HL8.out]; omega) (by rw [HL8.out, Hlen.out]; omega)
        replace c9 := c9 3
        rw [HL8.out] at c9
        have HO9 : Hid _ := o9
        clear O8 S8 B8 q k9 o9
        go_wp2
        go_roundw
        case rel => exact ⟨1, by omega, by first | rfl | go_num, HO9.out, fun j hj => by by_cases e : j = 0; (subst e; exact HFit.out); exact HF.out j (by omega)⟩
        case measure => simp [intOf]
    | 1, _, hi, O, HF =>
      obtain rfl : _ = Value.int .i64 1 := hi
      have bel : Below G w1 wr := by rw [← HG.out]; exact O.below
      have hx := hcell_1 wr bel
      have hp0 := cell_grow L1.f2 O.below
      have hp1 := cell_grow L1.f3 O.below
      have hix := fun a0 a1 a2 a3 a4 W => idx56_1 a0 a1 a2 a3 a4 W
      have hba : Below wr.heap.size wr (wr.alloc (.cells #[.int .i64 108, .int .i64 116] 85)) := (Below.refl _ wr).alloc (Nat.le_refl _) _
      have hxa := cell_grow hx hba
      have hpa0 := new_cell wr #[.int .i64 108, .int .i64 116] 85 0 _ rfl
      have hpa1 := new_cell wr #[.int .i64 108, .int .i64 116] 85 1 _ rfl
      have Oa := O.grow hba
      have Hba : Hid _ := hba
      clear hba
      have b3 : IntKind.i64.wrap 8 = 8 := rfl
      have b4 : IntKind.i64.wrap (116 - 108) = 8 := rfl
      have l8 : (numL b 1).length = 8 := numL_length _ _
      have hlen := encN_length (numsF a b c d m) 1 (by omega)
      cases hfit : numFit (numsF a b c d m) 1 with
      | false =>
        have q := fmt_no b 8 w1 _ G _ Oa (by omega) (by omega) (by omega) (by omega) hfit
        have HFit : Hid _ := hfit
        have Hb1 : Hid _ := b1
        clear O bel Oa hfit hlen l8
        go_upto_region 8 with fail
        generalize hwa : wr.alloc (.cells #[.int .i64 108, .int .i64 116] 85) = wa at *
        clear hwa
        go_region_held3 (fun W => W.cell? ⟨w.heap.size, 8, none⟩ = some (.int .i64 b) ∧ W.cell? ⟨wr.heap.size, 0, none⟩ = some (.int .i64 108) ∧ W.cell? ⟨wr.heap.size, 1, none⟩ = some (.int .i64 116)) (first | assumption | exact ⟨hxa, hpa0, hpa1⟩ | go_keep) (first | (go_at_call 33; refine q.mono ?_; rintro e w8 ⟨rfl, O8, B8⟩; have hs8 := And.intro (cell_grow hxa B8) (And.intro (cell_grow hpa0 B8) (cell_grow hpa1 B8))))
        have HB : Hid (Below w.heap.size w w8) := Hb1.out.trans (O8.below.mono Hb1.out.size)
        clear O8 B8 q hs8
        go_wp2
        go_ret2
        exact .inl ⟨rfl, ⟨1, by omega, HFit.out⟩, HB.out⟩
      | true =>
        have q := fmt_ok b 1 8 rfl w1 _ G _ Oa (by omega) (by omega) (by omega) hfit
        have HO : Hid _ := O
        have HFit : Hid _ := hfit
        have Hlen : Hid _ := hlen
        have HL8 : Hid _ := l8
        clear O bel Oa hfit hlen l8
        go_upto_region 8 with fail
        generalize hwa : wr.alloc (.cells #[.int .i64 108, .int .i64 116] 85) = wa at *
        clear hwa
        go_region_held3 (fun W => W.cell? ⟨w.heap.size, 8, none⟩ = some (.int .i64 b) ∧ W.cell? ⟨wr.heap.size, 0, none⟩ = some (.int .i64 108) ∧ W.cell? ⟨wr.heap.size, 1, none⟩ = some (.int .i64 116)) (first | assumption | exact ⟨hxa, hpa0, hpa1⟩ | go_keep) (first | (go_at_call 33; refine q.mono ?_; rintro e w8 ⟨rfl, O8, S8, B8⟩; have hs8 := And.intro (cell_grow hxa B8) (And.intro (cell_grow hpa0 B8) (cell_grow hpa1 B8))))
        obtain ⟨j1, j2, j3⟩ := hs8
        obtain ⟨w9, c9, o9, k9⟩ := copy_own O8 108 404 404 _ _ 8 S8 (by rw [HL8.out]; omega) (by rw [HL8.out, Hlen.out]; omega)
        replace c9 := c9 3
        rw [HL8.out] at c9
        have HO9 : Hid _ := o9
        clear O8 S8 B8 q k9 o9
        go_wp2
        go_roundw
        case rel => exact ⟨2, by omega, by first | rfl | go_num, HO9.out, fun j hj => by by_cases e : j = 1; (subst e; exact HFit.out); exact HF.out j (by omega)⟩
        case measure => simp [intOf]
    | 2, _, hi, O, HF =>
      obtain rfl : _ = Value.int .i64 2 := hi
      have bel : Below G w1 wr := by rw [← HG.out]; exact O.below
      have hx := hcell_2 wr bel
      have hp0 := cell_grow L1.f4 O.below
      have hp1 := cell_grow L1.f5 O.below
      have hix := fun a0 a1 a2 a3 a4 W => idx56_2 a0 a1 a2 a3 a4 W
      have hba : Below wr.heap.size wr (wr.alloc (.cells #[.int .i64 116, .int .i64 124] 85)) := (Below.refl _ wr).alloc (Nat.le_refl _) _
      have hxa := cell_grow hx hba
      have hpa0 := new_cell wr #[.int .i64 116, .int .i64 124] 85 0 _ rfl
      have hpa1 := new_cell wr #[.int .i64 116, .int .i64 124] 85 1 _ rfl
      have Oa := O.grow hba
      have Hba : Hid _ := hba
      clear hba
      have b3 : IntKind.i64.wrap 8 = 8 := rfl
      have b4 : IntKind.i64.wrap (124 - 116) = 8 := rfl
      have l8 : (numL c 2).length = 8 := numL_length _ _
      have hlen := encN_length (numsF a b c d m) 2 (by omega)
      cases hfit : numFit (numsF a b c d m) 2 with
      | false =>
        have q := fmt_no c 8 w1 _ G _ Oa (by omega) (by omega) (by omega) (by omega) hfit
        have HFit : Hid _ := hfit
        have Hb1 : Hid _ := b1
        clear O bel Oa hfit hlen l8
        go_upto_region 8 with fail
        generalize hwa : wr.alloc (.cells #[.int .i64 116, .int .i64 124] 85) = wa at *
        clear hwa
        go_region_held3 (fun W => W.cell? ⟨w.heap.size, 9, none⟩ = some (.int .i64 c) ∧ W.cell? ⟨wr.heap.size, 0, none⟩ = some (.int .i64 116) ∧ W.cell? ⟨wr.heap.size, 1, none⟩ = some (.int .i64 124)) (first | assumption | exact ⟨hxa, hpa0, hpa1⟩ | go_keep) (first | (go_at_call 33; refine q.mono ?_; rintro e w8 ⟨rfl, O8, B8⟩; have hs8 := And.intro (cell_grow hxa B8) (And.intro (cell_grow hpa0 B8) (cell_grow hpa1 B8))))
        have HB : Hid (Below w.heap.size w w8) := Hb1.out.trans (O8.below.mono Hb1.out.size)
        clear O8 B8 q hs8
        go_wp2
        go_ret2
        exact .inl ⟨rfl, ⟨2, by omega, HFit.out⟩, HB.out⟩
      | true =>
        have q := fmt_ok c 2 8 rfl w1 _ G _ Oa (by omega) (by omega) (by omega) hfit
        have HO : Hid _ := O
        have HFit : Hid _ := hfit
        have Hlen : Hid _ := hlen
        have HL8 : Hid _ := l8
        clear O bel Oa hfit hlen l8
        go_upto_region 8 with fail
        generalize hwa : wr.alloc (.cells #[.int .i64 116, .int .i64 124] 85) = wa at *
        clear hwa
        go_region_held3 (fun W => W.cell? ⟨w.heap.size, 9, none⟩ = some (.int .i64 c) ∧ W.cell? ⟨wr.heap.size, 0, none⟩ = some (.int .i64 116) ∧ W.cell? ⟨wr.heap.size, 1, none⟩ = some (.int .i64 124)) (first | assumption | exact ⟨hxa, hpa0, hpa1⟩ | go_keep) (first | (go_at_call 33; refine q.mono ?_; rintro e w8 ⟨rfl, O8, S8, B8⟩; have hs8 := And.intro (cell_grow hxa B8) (And.intro (cell_grow hpa0 B8) (cell_grow hpa1 B8))))
        obtain ⟨j1, j2, j3⟩ := hs8
        obtain ⟨w9, c9, o9, k9⟩ := copy_own O8 116 396 396 _ _ 8 S8 (by rw [HL8.out]; omega) (by rw [HL8.out, Hlen.out]; omega)
        replace c9 := c9 3
        rw [HL8.out] at c9
        have HO9 : Hid _ := o9
        clear O8 S8 B8 q k9 o9
        go_wp2
        go_roundw
        case rel => exact ⟨3, by omega, by first | rfl | go_num, HO9.out, fun j hj => by by_cases e : j = 2; (subst e; exact HFit.out); exact HF.out j (by omega)⟩
        case measure => simp [intOf]
    | 3, _, hi, O, HF =>
      obtain rfl : _ = Value.int .i64 3 := hi
      have bel : Below G w1 wr := by rw [← HG.out]; exact O.below
      have hx := hcell_3 wr bel
      have hp0 := cell_grow L1.f6 O.below
      have hp1 := cell_grow L1.f7 O.below
      have hix := fun a0 a1 a2 a3 a4 W => idx56_3 a0 a1 a2 a3 a4 W
      have hba : Below wr.heap.size wr (wr.alloc (.cells #[.int .i64 124, .int .i64 136] 85)) := (Below.refl _ wr).alloc (Nat.le_refl _) _
      have hxa := cell_grow hx hba
      have hpa0 := new_cell wr #[.int .i64 124, .int .i64 136] 85 0 _ rfl
      have hpa1 := new_cell wr #[.int .i64 124, .int .i64 136] 85 1 _ rfl
      have Oa := O.grow hba
      have Hba : Hid _ := hba
      clear hba
      have b3 : IntKind.i64.wrap 12 = 12 := rfl
      have b4 : IntKind.i64.wrap (136 - 124) = 12 := rfl
      have l8 : (numL d 3).length = 12 := numL_length _ _
      have hlen := encN_length (numsF a b c d m) 3 (by omega)
      cases hfit : numFit (numsF a b c d m) 3 with
      | false =>
        have q := fmt_no d 12 w1 _ G _ Oa (by omega) (by omega) (by omega) (by omega) hfit
        have HFit : Hid _ := hfit
        have Hb1 : Hid _ := b1
        clear O bel Oa hfit hlen l8
        go_upto_region 8 with fail
        generalize hwa : wr.alloc (.cells #[.int .i64 124, .int .i64 136] 85) = wa at *
        clear hwa
        go_region_held3 (fun W => W.cell? ⟨w.heap.size, 10, none⟩ = some (.int .i64 d) ∧ W.cell? ⟨wr.heap.size, 0, none⟩ = some (.int .i64 124) ∧ W.cell? ⟨wr.heap.size, 1, none⟩ = some (.int .i64 136)) (first | assumption | exact ⟨hxa, hpa0, hpa1⟩ | go_keep) (first | (go_at_call 33; refine q.mono ?_; rintro e w8 ⟨rfl, O8, B8⟩; have hs8 := And.intro (cell_grow hxa B8) (And.intro (cell_grow hpa0 B8) (cell_grow hpa1 B8))))
        have HB : Hid (Below w.heap.size w w8) := Hb1.out.trans (O8.below.mono Hb1.out.size)
        clear O8 B8 q hs8
        go_wp2
        go_ret2
        exact .inl ⟨rfl, ⟨3, by omega, HFit.out⟩, HB.out⟩
      | true =>
        have q := fmt_ok d 3 12 rfl w1 _ G _ Oa (by omega) (by omega) (by omega) hfit
        have HO : Hid _ := O
        have HFit : Hid _ := hfit
        have Hlen : Hid _ := hlen
        have HL8 : Hid _ := l8
        clear O bel Oa hfit hlen l8
        go_upto_region 8 with fail
        generalize hwa : wr.alloc (.cells #[.int .i64 124, .int .i64 136] 85) = wa at *
        clear hwa
        go_region_held3 (fun W => W.cell? ⟨w.heap.size, 10, none⟩ = some (.int .i64 d) ∧ W.cell? ⟨wr.heap.size, 0, none⟩ = some (.int .i64 124) ∧ W.cell? ⟨wr.heap.size, 1, none⟩ = some (.int .i64 136)) (first | assumption | exact ⟨hxa, hpa0, hpa1⟩ | go_keep) (first | (go_at_call 33; refine q.mono ?_; rintro e w8 ⟨rfl, O8, S8, B8⟩; have hs8 := And.intro (cell_grow hxa B8) (And.intro (cell_grow hpa0 B8) (cell_grow hpa1 B8))))
        obtain ⟨j1, j2, j3⟩ := hs8
        obtain ⟨w9, c9, o9, k9⟩ := copy_own O8 124 388 388 _ _ 12 S8 (by rw [HL8.out]; omega) (by rw [HL8.out, Hlen.out]; omega)
        replace c9 := c9 3
        rw [HL8.out] at c9
        have HO9 : Hid _ := o9
        clear O8 S8 B8 q k9 o9
        go_wp2
        go_roundw
        case rel => exact ⟨4, by omega, by first | rfl | go_num, HO9.out, fun j hj => by by_cases e : j = 3; (subst e; exact HFit.out); exact HF.out j (by omega)⟩
        case measure => simp [intOf]
    | 4, _, hi, O, HF =>
      obtain rfl : _ = Value.int .i64 4 := hi
      have bel : Below G w1 wr := by rw [← HG.out]; exact O.below
      have hx := hcell_4 wr bel
      have hp0 := cell_grow L1.f8 O.below
      have hp1 := cell_grow L1.f9 O.below
      have hix := fun a0 a1 a2 a3 a4 W => idx56_4 a0 a1 a2 a3 a4 W
      have hba : Below wr.heap.size wr (wr.alloc (.cells #[.int .i64 136, .int .i64 148] 85)) := (Below.refl _ wr).alloc (Nat.le_refl _) _
      have hxa := cell_grow hx hba
      have hpa0 := new_cell wr #[.int .i64 136, .int .i64 148] 85 0 _ rfl
      have hpa1 := new_cell wr #[.int .i64 136, .int .i64 148] 85 1 _ rfl
      have Oa := O.grow hba
      have Hba : Hid _ := hba
      clear hba
      have b3 : IntKind.i64.wrap 12 = 12 := rfl
      have b4 : IntKind.i64.wrap (148 - 136) = 12 := rfl
      have l8 : (numL m 4).length = 12 := numL_length _ _
      have hlen := encN_length (numsF a b c d m) 4 (by omega)
      cases hfit : numFit (numsF a b c d m) 4 with
      | false =>
        have q := fmt_no m 12 w1 _ G _ Oa (by omega) (by omega) (by omega) (by omega) hfit
        have HFit : Hid _ := hfit
        have Hb1 : Hid _ := b1
        clear O bel Oa hfit hlen l8
        go_upto_region 8 with fail
        generalize hwa : wr.alloc (.cells #[.int .i64 136, .int .i64 148] 85) = wa at *
        clear hwa
        go_region_held3 (fun W => W.cell? ⟨w.heap.size, 11, none⟩ = some (.int .i64 m) ∧ W.cell? ⟨wr.heap.size, 0, none⟩ = some (.int .i64 136) ∧ W.cell? ⟨wr.heap.size, 1, none⟩ = some (.int .i64 148)) (first | assumption | exact ⟨hxa, hpa0, hpa1⟩ | go_keep) (first | (go_at_call 33; refine q.mono ?_; rintro e w8 ⟨rfl, O8, B8⟩; have hs8 := And.intro (cell_grow hxa B8) (And.intro (cell_grow hpa0 B8) (cell_grow hpa1 B8))))
        have HB : Hid (Below w.heap.size w w8) := Hb1.out.trans (O8.below.mono Hb1.out.size)
        clear O8 B8 q hs8
        go_wp2
        go_ret2
        exact .inl ⟨rfl, ⟨4, by omega, HFit.out⟩, HB.out⟩
      | true =>
        have q := fmt_ok m 4 12 rfl w1 _ G _ Oa (by omega) (by omega) (by omega) hfit
        have HO : Hid _ := O
        have HFit : Hid _ := hfit
        have Hlen : Hid _ := hlen
        have HL8 : Hid _ := l8
        clear O bel Oa hfit hlen l8
        go_upto_region 8 with fail
        generalize hwa : wr.alloc (.cells #[.int .i64 136, .int .i64 148] 85) = wa at *
        clear hwa
        go_region_held3 (fun W => W.cell? ⟨w.heap.size, 11, none⟩ = some (.int .i64 m) ∧ W.cell? ⟨wr.heap.size, 0, none⟩ = some (.int .i64 136) ∧ W.cell? ⟨wr.heap.size, 1, none⟩ = some (.int .i64 148)) (first | assumption | exact ⟨hxa, hpa0, hpa1⟩ | go_keep) (first | (go_at_call 33; refine q.mono ?_; rintro e w8 ⟨rfl, O8, S8, B8⟩; have hs8 := And.intro (cell_grow hxa B8) (And.intro (cell_grow hpa0 B8) (cell_grow hpa1 B8))))
        obtain ⟨j1, j2, j3⟩ := hs8
        obtain ⟨w9, c9, o9, k9⟩ := copy_own O8 136 376 376 _ _ 12 S8 (by rw [HL8.out]; omega) (by rw [HL8.out, Hlen.out]; omega)
        replace c9 := c9 3
        rw [HL8.out] at c9
        have HO9 : Hid _ := o9
        clear O8 S8 B8 q k9 o9
        go_wp2
        go_roundw
        case rel => exact ⟨5, by omega, by first | rfl | go_num, HO9.out, fun j hj => by by_cases e : j = 4; (subst e; exact HFit.out); exact HF.out j (by omega)⟩
        case measure => simp [intOf]
    | 5, _, hi, O, HF =>
      obtain rfl : _ = Value.int .i64 5 := hi
      obtain ⟨z1, z2, z3, z4, z5⟩ := hft
      have zl0 := encN_length (numsF a b c d m) 5 (by omega)
      have HB5 := encN_allB (numsF a b c d m) 5
      generalize hZ0 : encN (numsF a b c d m) 5 = Z0 at *
      have bl0 : Below G w1 wr := by rw [← HG.out]; exact O.below
      have g0 := cell_grow L1.n0 O.below
      have t0 := Hcell.out 1 _ rfl wr bl0
      obtain ⟨v1, c1, O1⟩ := copy_own_str (O.grow (Below.refl _ wr).drew) 0 512 512 n (by omega) (by rw [zl0]; omega)
      have zl1 : (splice Z0 0 (s8 n)).length = 512 := by rw [length_splice _ _ _ (by rw [s8_length, zl0]; omega), zl0]
      replace c1 := c1 3
      generalize hZ1 : splice Z0 0 (s8 n) = Z1 at *
      have bl1 : Below G w1 v1 := by rw [← HG.out]; exact O1.below
      have g1 := cell_grow L1.l0 O1.below
      have t1 := Hcell.out 2 _ rfl v1 bl1
      obtain ⟨v2, c2, O2⟩ := copy_own_str (O1.grow (Below.refl _ v1).drew) 157 355 355 l (by omega) (by rw [zl1]; omega)
      have zl2 : (splice Z1 157 (s8 l)).length = 512 := by rw [length_splice _ _ _ (by rw [s8_length, zl1]; omega), zl1]
      replace c2 := c2 3
      generalize hZ2 : splice Z1 157 (s8 l) = Z2 at *
      have bl2 : Below G w1 v2 := by rw [← HG.out]; exact O2.below
      have g2 := cell_grow L1.m0 O2.below
      have hus : ustarS.size = 8 := rfl
      obtain ⟨v3, c3, O3⟩ := copy_own_str O2 257 255 255 ustarS (by omega) (by rw [zl2]; omega)
      have zl3 : (splice Z2 257 (s8 ustarS)).length = 512 := by rw [length_splice _ _ _ (by rw [s8_length, zl2]; omega), zl2]
      replace c3 := c3 3
      generalize hZ3 : splice Z2 257 (s8 ustarS) = Z3 at *
      have bl3 : Below G w1 v3 := by rw [← HG.out]; exact O3.below
      have g3 := cell_grow L1.u0 O3.below
      have t3 := Hcell.out 4 _ rfl v3 bl3
      obtain ⟨v4, c4, O4⟩ := copy_own_str (O3.grow (Below.refl _ v3).drew) 265 247 247 u (by omega) (by rw [zl3]; omega)
      have zl4 : (splice Z3 265 (s8 u)).length = 512 := by rw [length_splice _ _ _ (by rw [s8_length, zl3]; omega), zl3]
      replace c4 := c4 3
      generalize hZ4 : splice Z3 265 (s8 u) = Z4 at *
      have bl4 : Below G w1 v4 := by rw [← HG.out]; exact O4.below
      have g4 := cell_grow L1.g0 O4.below
      have t4 := Hcell.out 5 _ rfl v4 bl4
      obtain ⟨v5, c5, O5⟩ := copy_own_str (O4.grow (Below.refl _ v4).drew) 297 215 215 r (by omega) (by rw [zl4]; omega)
      have zl5 : (splice Z4 297 (s8 r)).length = 512 := by rw [length_splice _ _ _ (by rw [s8_length, zl4]; omega), zl4]
      replace c5 := c5 3
      generalize hZ5 : splice Z4 297 (s8 r) = Z5 at *
      have bl5 : Below G w1 v5 := by rw [← HG.out]; exact O5.below
      have g5 := cell_grow L1.p0 O5.below
      have t5 := Hcell.out 3 _ rfl v5 bl5
      obtain ⟨v6, c6, O6⟩ := copy_own_str (O5.grow (Below.refl _ v5).drew) 345 167 167 p (by omega) (by rw [zl5]; omega)
      have zl6 : (splice Z5 345 (s8 p)).length = 512 := by rw [length_splice _ _ _ (by rw [s8_length, zl5]; omega), zl5]
      replace c6 := c6 3
      generalize hZ6 : splice Z5 345 (s8 p) = Z6 at *
      have bl6 : Below G w1 v6 := by rw [← HG.out]; exact O6.below
      have t6 := Hcell.out 6 _ rfl v6 bl6
      have g6 := O6.cell 156 (by omega)
      have fr6 := O6.frozen 156
      have O7 := O6.set 156 (by omega) ty
      have zl7 : (Z6.set 156 ty).length = 512 := by rw [List.length_set, zl6]
      have hB7 : AllB (Z6.set 156 ty) := by
        rw [← hZ6, ← hZ5, ← hZ4, ← hZ3, ← hZ2, ← hZ1]
        intro z hz
        rcases List.mem_or_eq_of_mem_set hz with h | rfl
        · exact allB_splice _ _ _ (allB_splice _ _ _ (allB_splice _ _ _ (allB_splice _ _ _ (allB_splice _ _ _ (allB_splice _ _ _ HB5 (s8_allB _)) (s8_allB _)) (s8_allB _)) (s8_allB _)) (s8_allB _)) (s8_allB _) z h
        · exact hty
      have hE : encL n l p u r ty (numsF a b c d m) = Z6.set 156 ty := by
        unfold encL
        rw [hZ0, hZ1, hZ2, hZ3, hZ4, hZ5, hZ6]
      have HE : Hid _ := hE
      generalize hV7 : v6.setCell ⟨G, 156, none⟩ (.int .u8 ty) = v7 at *
      have HV7 : Hid _ := hV7
      have q7 := seal_yes ⟨G, 0, none⟩ 512 _ v7 hB7 zl7 O7.src
      have HO7 : Hid _ := O7
      have Hb1 : Hid _ := b1
      generalize Z6[156]?.getD 0 = z156 at *
      clear O O1 O2 O3 O4 O5 O6 O7 hZ0 hZ1 hZ2 hZ3 hZ4 hZ5 hZ6 zl0 zl1 zl2 zl3 zl4 zl5 zl6 zl7 hB7 hE HB5 bl0 bl1 bl2 bl3 bl4 bl5 bl6
      unfold ustarS at *
      go_wp2_with fail
      go_region
      go_wp2_with fail
      go_region
      go_wp2_with fail
      go_region
      go_wp2_with fail
      go_region
      go_wp2_with fail
      go_region
      go_wp2_with fail
      refine q7.mono ?_
      rintro e w8 ⟨g, rfl, Os⟩
      have HOs : Hid _ := (HO7.out.newer Os).since Hb1.out
      clear Os q7
      go_wp2
      go_ret2
      exact .inr ⟨g, rfl, fun k hk => HF.out k hk, by rw [HE.out]; exact HOs.out⟩
    | k + 6, h, _, _, _ => omega

end Go.Proofs.YtnmmaedngdibeaaGreatDoor.H
