/-
  Texts in one: T0, T1, T2, T3, T4, T5, T6, T7, T8, T9.
-/
import Derived.Test.YtpgiibpalmhhlaaGreatDoorUp
import Derived.Test.YtpgiibpalmhhlaaGreatDoorOrd
import Derived.Deep.MidRow
import Derived.Deep.Cut
import Derived.Lib.AppendZeros
import Derived.Laws.AppendOwn
import Derived.Laws.AppendOwnNone
import Derived.Laws.Tables
import Derived.Laws.Rows
import Derived.Laws.CopyOwn
import Derived.Deep.RegionHeld3
import Derived.Laws.CopyRow
import Derived.Lib.SliceRun
import Derived.Shelf.SlicesQ.Reverse
namespace Go.Proofs.YtpgiibpalmhhlaaGreatDoor
open Go.RowKit
open Go.Lib hiding intOf
set_option linter.unusedVariables false
set_option linter.unusedSimpArgs false

/-- a row, as far as the laws lay one -/
structure Rw where
  p : List UInt8
  id : Int
  kind : Int
  mode : Int
  size : Int
  made : Bool

def Rw.cs (r : Rw) : List Value := [.string (bs r.p), .int .i64 r.id, .int .i64 r.kind, .int .i64 r.mode, .int .i64 0, .int .i64 0, .int .i64 0, .string ⟨#[]⟩, .string ⟨#[]⟩, .string ⟨#[]⟩, .slice none 0 0, .int .i64 r.size, .bool r.made]
theorem Rw.cs_length (r : Rw) : r.cs.length = 13 := rfl

def flat (L : List Rw) : List Value := L.flatMap Rw.cs
theorem flat_nil : flat [] = [] := rfl
theorem flat_cons (r : Rw) (L : List Rw) : flat (r :: L) = r.cs ++ flat L := rfl
theorem flat_append (A B : List Rw) : flat (A ++ B) = flat A ++ flat B := by simp [flat]
theorem flat_length (L : List Rw) : (flat L).length = L.length * 13 := by
  induction L with
  | nil => rfl
  | cons r L ih => rw [flat_cons, List.length_append, ih, Rw.cs_length, List.length_cons]; omega
theorem flat_get (L : List Rw) (i j : Nat) (r : Rw) (v : Value) (h : L[i]? = some r) (hv : r.cs[j]? = some v) : (flat L)[i * 13 + j]? = some v := by
  induction L generalizing i with
  | nil => simp at h
  | cons a L ih =>
    have hj : j < 13 := by have := (List.getElem?_eq_some_iff.1 hv).1; rwa [Rw.cs_length] at this
    cases i with
    | zero =>
      simp at h; subst h
      rw [flat_cons, List.getElem?_append_left (by rw [Rw.cs_length]; omega), Nat.zero_mul, Nat.zero_add]
      exact hv
    | succ i =>
      rw [flat_cons, List.getElem?_append_right (by rw [Rw.cs_length]; omega), Rw.cs_length]
      rw [show (i + 1) * 13 + j - 13 = i * 13 + j by omega]
      exact ih i (by simpa using h)

/-- rows at an address -/
def Rs (w : World) (ad : Option Addr) (L : List Rw) : Prop := L = [] ∨ ∃ b o, ad = some ⟨b, o, none⟩ ∧ b < w.heap.size ∧ w.rangeAt b o (flat L)

theorem range_below {w w' : World} {B b o : Nat} {cs : List Value} (h : w.rangeAt b o cs) (hb : Below B w w') (hl : b < B) : w'.rangeAt b o cs := fun j v hv => by
  rw [hb.cell (p := ⟨b, o + j, none⟩) hl]; exact h j v hv

theorem Rs.below {w w' : World} {ad : Option Addr} {L : List Rw} (h : Rs w ad L) (hb : Below w.heap.size w w') : Rs w' ad L := by
  rcases h with h | ⟨b, o, h1, h2, h3⟩
  · exact .inl h
  · exact .inr ⟨b, o, h1, Nat.lt_of_lt_of_le h2 hb.size, range_below h3 hb h2⟩

theorem Rs.at {w : World} {ad : Option Addr} {L : List Rw} (h : Rs w ad L) {i : Nat} {r : Rw} (hi : L[i]? = some r) : ∃ b o, ad = some ⟨b, o, none⟩ ∧ b < w.heap.size ∧ w.rangeAt b (o + i * 13) r.cs := by
  rcases h with h | ⟨b, o, h1, h2, h3⟩
  · subst h; simp at hi
  · refine ⟨b, o, h1, h2, fun j v hv => ?_⟩
    rw [Nat.add_assoc]
    exact h3 _ _ (flat_get L i j r v hi hv)

theorem below_box (w : World) (o : Obj) : Below w.heap.size w (w.alloc o) := (Below.refl _ w).alloc (Nat.le_refl _) o
theorem size_box (w : World) (o : Obj) : (w.alloc o).heap.size = w.heap.size + 1 := by unfold World.alloc; exact Array.size_push _

set_option maxHeartbeats 1000000 in
theorem key_w (r : Rw) (s : List UInt8) (w : World) (h1 : r.p.length ≤ 4611686018427387903) (h2 : s.length ≤ 4611686018427387903) :
    Calls Tryz.prog 84 #[.agg r.cs.toArray, .string (bs s)] w fun e w' => e = .returned (.int .i64 (cmpL r.p s)) ∧ Below w.heap.size w w' := by
  have q := fun W => compare_w r.p s h1 h2 W
  unfold Rw.cs
  generalize cmpL r.p s = z at *
  generalize bs r.p = p at *
  generalize bs s = t at *
  go_enter Tryz.func84, Tryz.ntmps84
  go_wp2_with (go_at_call 14; refine (q _).mono ?_; rintro e w1 ⟨rfl, b1⟩)
  go_ret
  exact ⟨rfl, (below_box w _).trans (b1.mono (by rw [size_box]; omega))⟩

end Go.Proofs.YtpgiibpalmhhlaaGreatDoor

namespace Go.Proofs.YtpgiibpalmhhlaaGreatDoor
open Go.RowKit
open Go.Lib hiding intOf
set_option linter.unusedVariables false
set_option linter.unusedSimpArgs false

theorem cmpL_lt_trans (a b c : List UInt8) (h1 : cmpL a b < 0) (h2 : cmpL b c < 0) : cmpL a c < 0 := by
  have h3 := cmpL_trans a b c (by omega) (by omega)
  by_cases h : cmpL a c = 0
  · have := (cmpL_zero a c).1 h
    subst this
    have := cmpL_swap a b
    omega
  · omega

/-- rows in the order of their paths -/
def Srt (L : List Rw) : Prop := L.Pairwise fun a b => cmpL a.p b.p < 0

/-- how many rows stand ahead of a path -/
def ix (L : List Rw) (s : List UInt8) : Nat := (L.takeWhile fun r => decide (cmpL r.p s < 0)).length
/-- does a row of that path stand there? -/
def fd (L : List Rw) (s : List UInt8) : Bool := match L[ix L s]? with | some r => decide (cmpL r.p s = 0) | none => false

theorem ix_le (L : List Rw) (s : List UInt8) : ix L s ≤ L.length := by
  unfold ix
  exact (List.takeWhile_sublist _).length_le

theorem ix_cons (r : Rw) (L : List Rw) (s : List UInt8) : ix (r :: L) s = if cmpL r.p s < 0 then ix L s + 1 else 0 := by
  unfold ix
  rw [List.takeWhile_cons]
  by_cases c : cmpL r.p s < 0
  · simp [c]
  · simp [c]

theorem ix_iff (L : List Rw) (s : List UInt8) (h : Srt L) (i : Nat) (r : Rw) (hi : L[i]? = some r) : cmpL r.p s < 0 ↔ i < ix L s := by
  induction L generalizing i with
  | nil => simp at hi
  | cons a L ih =>
    rw [ix_cons]
    obtain ⟨h1, h2⟩ := List.pairwise_cons.1 h
    cases i with
    | zero =>
      simp at hi; subst hi
      by_cases c : cmpL a.p s < 0
      · simp [c]
      · simp [c]
    | succ i =>
      have hi' : L[i]? = some r := by simpa using hi
      by_cases c : cmpL a.p s < 0
      · rw [if_pos c, ih h2 i hi']; omega
      · rw [if_neg c]
        constructor
        · intro hr
          have := h1 r (List.mem_of_getElem? hi')
          exact absurd (cmpL_lt_trans a.p r.p s this hr) c
        · intro hr; omega

set_option maxRecDepth 20000 in
set_option maxHeartbeats 1000000 in
theorem search_w (ad : Option Addr) (cap : Nat) (L : List Rw) (s : List UInt8) (w : World) (hs : Srt L) (hr : Rs w ad L) (hl : L.length ≤ 1000000) (hp : ∀ r ∈ L, r.p.length ≤ 4611686018427387903) (hsl : s.length ≤ 4611686018427387903) :
    Calls Tryz.prog 83 #[.slice ad L.length cap, .string (bs s), .func (.func 84) #[] #[]] w fun e w' => e = .returned (.tuple #[.int .i64 (ix L s : Int), .bool (fd L s)]) ∧ Below w.heap.size w w' := by
  have KK : Hid (∀ (W : World) (i : Nat) (r : Rw), L[i]? = some r → Calls Tryz.prog 84 #[.agg r.cs.toArray, .string (bs s)] W fun e w' => e = .returned (.int .i64 (cmpL r.p s)) ∧ Below W.heap.size W w') := fun W i r hi => key_w r s W (hp r (List.mem_of_getElem? hi)) hsl
  have KI : Hid (∀ (i : Nat) (r : Rw), L[i]? = some r → (cmpL r.p s < 0 ↔ i < ix L s)) := fun i r hi => ix_iff L s hs i r hi
  have HF : Hid (fd L s = match L[ix L s]? with | some r => decide (cmpL r.p s = 0) | none => false) := rfl
  have hix := ix_le L s
  have HR : Hid (Rs w ad L) := hr
  clear hs hp hsl hr
  generalize ix L s = X at *
  generalize fd L s = F at *
  generalize hLn : L.length = n at *
  have HL : Hid (L.length = n) := hLn
  clear hLn
  go_enter Tryz.func83, Tryz.ntmps83
  go_wp2_with fail
  go_loopw [9, 10] (fun x y wr => ∃ (i j : Nat), x = .int .i64 (i : Int) ∧ y = .int .i64 (j : Int) ∧ i ≤ X ∧ X ≤ j ∧ j ≤ n ∧ Below w.heap.size w wr) (fun x y _ => (intOf y).toNat - (intOf x).toNat)
  case atStart => exact ⟨0, n, rfl, rfl, by omega, hix, Nat.le_refl _, Below.refl _ _⟩
  case round =>
    obtain ⟨i, j, rfl, rfl, hi, hj, hjn, bb⟩ := hrel
    by_cases hij : i < j
    · have e1 : wrap64 ((i : Int) + (j : Int)) = (i : Int) + (j : Int) := by unfold wrap64; omega
      have e2 : IntKind.u64.wrap ((i : Int) + (j : Int)) = (i : Int) + (j : Int) := by rw [IntKind.wrap_u64]; omega
      go_upto_region 5 with fail
      obtain ⟨h, hh⟩ : ∃ h : Nat, ((i : Int) + (j : Int)) / 2 = (h : Int) := ⟨(i + j) / 2, by omega⟩
      have hlo : i ≤ h ∧ h < j := by omega
      rw [hh]
      clear hh e1 e2
      obtain ⟨r, hr⟩ : ∃ r, L[h]? = some r := ⟨_, List.getElem?_eq_getElem (by have := HL.out; omega)⟩
      obtain ⟨b, o, rfl, hb1, hb2⟩ := (HR.out.below bb).at hr
      have HB : Hid (wr.rangeAt b (o + h * 13) r.cs) := hb2
      have hq := KI.out h r hr
      have KK1 : Hid (∀ W, Calls Tryz.prog 84 #[.agg r.cs.toArray, .string (bs s)] W fun e w' => e = .returned (.int .i64 (cmpL r.p s)) ∧ Below W.heap.size W w') := fun W => KK.out W h r hr
      have h1 : (0 : Int) ≤ (h : Int) := by omega
      have h2 : (h : Int) < (n : Int) := by omega
      have hcs : Hid (r.cs.length = 13) := rfl
      clear hb2 hr
      generalize cmpL r.p s = z at *
      generalize r.cs = C at *
      have w1 : wrap64 ((h : Int) + 1) = (h : Int) + 1 := by unfold wrap64; omega
      by_cases hz : z < 0
      · have hX := hq.1 hz
        clear hq
        go_wp2_with (first
          | (refine wpList_load_mid rfl 43 _ rfl b (o + h * 13) rfl C _ HB.out Tryz.underlying43 rfl (by rw [hcs.out]; kernel_rfl) ?_)
          | (go_at_call 84; refine (KK1.out _).mono ?_; rintro e w2 ⟨rfl, b2⟩))
        go_roundw
        case rel => exact ⟨h + 1, j, by simp, rfl, by omega, hj, hjn, bb.trans (b2.mono bb.size)⟩
        case measure => simp [intOf]; omega
      · have hX : ¬ h < X := fun q => hz (hq.2 q)
        clear hq
        go_wp2_with (first
          | (refine wpList_load_mid rfl 43 _ rfl b (o + h * 13) rfl C _ HB.out Tryz.underlying43 rfl (by rw [hcs.out]; kernel_rfl) ?_)
          | (go_at_call 84; refine (KK1.out _).mono ?_; rintro e w2 ⟨rfl, b2⟩))
        go_roundw
        case rel => exact ⟨i, h, rfl, rfl, hi, by omega, by omega, bb.trans (b2.mono bb.size)⟩
        case measure => simp [intOf]; omega
    · obtain rfl : i = X := by omega
      by_cases hn : i < n
      · obtain ⟨r, hr⟩ : ∃ r, L[i]? = some r := ⟨_, List.getElem?_eq_getElem (by have := HL.out; omega)⟩
        obtain ⟨b, o, rfl, hb1, hb2⟩ := (HR.out.below bb).at hr
        have HB : Hid (wr.rangeAt b (o + i * 13) r.cs) := hb2
        have KK1 : Hid (∀ W, Calls Tryz.prog 84 #[.agg r.cs.toArray, .string (bs s)] W fun e w' => e = .returned (.int .i64 (cmpL r.p s)) ∧ Below W.heap.size W w') := fun W => KK.out W i r hr
        have h1 : (0 : Int) ≤ (i : Int) := by omega
        have h2 : (i : Int) < (n : Int) := by omega
        have HF2 : Hid (F = decide (cmpL r.p s = 0)) := (by show _ = _; rw [HF.out, hr])
        have c0 : wr.cell? ⟨b, o + i * 13, none⟩ = some (.string (bs r.p)) := hb2 0 _ rfl
        have c1 : wr.cell? ⟨b, o + i * 13 + 1, none⟩ = some (.int .i64 r.id) := hb2 1 _ rfl
        have c2 : wr.cell? ⟨b, o + i * 13 + 2, none⟩ = some (.int .i64 r.kind) := hb2 2 _ rfl
        have c3 : wr.cell? ⟨b, o + i * 13 + 3, none⟩ = some (.int .i64 r.mode) := hb2 3 _ rfl
        have c4 : wr.cell? ⟨b, o + i * 13 + 4, none⟩ = some (.int .i64 0) := hb2 4 _ rfl
        have c5 : wr.cell? ⟨b, o + i * 13 + 5, none⟩ = some (.int .i64 0) := hb2 5 _ rfl
        have c6 : wr.cell? ⟨b, o + i * 13 + 6, none⟩ = some (.int .i64 0) := hb2 6 _ rfl
        have c7 : wr.cell? ⟨b, o + i * 13 + 7, none⟩ = some (.string ⟨#[]⟩) := hb2 7 _ rfl
        have c8 : wr.cell? ⟨b, o + i * 13 + 8, none⟩ = some (.string ⟨#[]⟩) := hb2 8 _ rfl
        have c9 : wr.cell? ⟨b, o + i * 13 + 9, none⟩ = some (.string ⟨#[]⟩) := hb2 9 _ rfl
        have c10 : wr.cell? ⟨b, o + i * 13 + 10, none⟩ = some (.slice none 0 0) := hb2 10 _ rfl
        have c11 : wr.cell? ⟨b, o + i * 13 + 11, none⟩ = some (.int .i64 r.size) := hb2 11 _ rfl
        have c12 : wr.cell? ⟨b, o + i * 13 + 12, none⟩ = some (.bool r.made) := hb2 12 _ rfl
        unfold Rw.cs at KK1
        clear hb2 hr HF HB
        generalize cmpL r.p s = z at *
        generalize bs r.p = rp at *
        go_wp2_with (go_at_call 84; refine (KK1.out _).mono ?_; rintro e w2 ⟨rfl, b2⟩)
        go_ret2
        exact ⟨by rw [HF2.out]; rfl, bb.trans (b2.mono bb.size)⟩
      · have HF2 : Hid (F = false) := (by show _ = _; rw [HF.out, List.getElem?_eq_none (by have := HL.out; omega)])
        go_wp2_with fail
        go_ret2
        exact ⟨by rw [HF2.out]; rfl, bb⟩

set_option maxHeartbeats 1000000 in
theorem find_w (ad : Option Addr) (cap : Nat) (nx : Int) (L : List Rw) (s : List UInt8) (w : World) (hs : Srt L) (hr : Rs w ad L) (hl : L.length ≤ 1000000) (hp : ∀ r ∈ L, r.p.length ≤ 4611686018427387903) (hsl : s.length ≤ 4611686018427387903) :
    Calls Tryz.prog 59 #[.agg #[.slice ad L.length cap, .int .i64 nx], .string (bs s)] w fun e w' => e = .returned (.tuple #[.int .i64 (ix L s : Int), .bool (fd L s)]) ∧ Below w.heap.size w w' := by
  have KQ : Hid (∀ W, Below w.heap.size w W → Calls Tryz.prog 83 #[.slice ad L.length cap, .string (bs s), .func (.func 84) #[] #[]] W fun e w' => e = .returned (.tuple #[.int .i64 (ix L s : Int), .bool (fd L s)]) ∧ Below W.heap.size W w') := fun W hb => search_w ad cap L s W hs (hr.below hb) hl hp hsl
  clear hs hr hl hp hsl
  go_enter Tryz.func59, Tryz.ntmps59
  go_wp2_with (go_at_call 83; refine (KQ.out _ (below_box w _)).mono ?_; rintro e w1 ⟨rfl, b1⟩)
  go_ret2
  exact ⟨rfl, (below_box w _).trans (b1.mono (by rw [size_box]; omega))⟩

end Go.Proofs.YtpgiibpalmhhlaaGreatDoor

namespace Go.Proofs.YtpgiibpalmhhlaaGreatDoor
open Go.RowKit
open Go.Lib hiding intOf
set_option linter.unusedVariables false
set_option linter.unusedSimpArgs false

theorem i40 : ∃ i, Tryz.prog.info? 43 = some i ∧ i.size = 13 ∧ i.bytes = 152 ∧ ∃ z, i.zero = some z ∧ z.cells.size = 13 := by
  have a : (Tryz.prog.info? 43).map (fun i => (i.size, i.bytes)) = some (13, 152) := by kernel_rfl
  have b : ((Tryz.prog.info? 43).bind (fun i => i.zero)).map (fun z => z.cells.size) = some 13 := by kernel_rfl
  cases h : Tryz.prog.info? 43 with
  | none => rw [h] at a; simp at a
  | some i =>
    rw [h] at a b
    simp at a b
    cases hz : i.zero with
    | none => rw [hz] at b; simp at b
    | some z => rw [hz] at b; simp at b; exact ⟨i, rfl, a.1, a.2, z, hz, b⟩

/-- rows of one's own -/
def Ow (w : World) (B : Nat) (v : Value) (L : List Rw) : Prop := w.ownsRow B 43 13 v L.length (flat L)

theorem Ow.rs {w : World} {B : Nat} {ad : Option Addr} {n c : Nat} {L : List Rw} (h : Ow w B (.slice ad n c) L) : n = L.length ∧ Rs w ad L := by
  rcases h.2 with ⟨e1, e2⟩ | ⟨g, cap, cur, e1, e2, e3, e4, e5, e6, e7⟩
  · cases e1; exact ⟨e2.symm, .inl (List.length_eq_zero_iff.1 e2)⟩
  · cases e1
    refine ⟨rfl, .inr ⟨g, 0, rfl, (Array.getElem?_eq_some_iff.1 e3).1, fun j v hv => ?_⟩⟩
    rw [Nat.zero_add]
    unfold World.cell?
    simp only [e3]
    rw [← e7, List.getElem?_take] at hv
    split at hv
    · simpa using hv
    · cases hv

set_option maxHeartbeats 1000000 in
theorem grow_w (N : Nat) (h0 : 0 < N) (hN : N ≤ 3000000) (w : World) :
    Calls Tryz.prog 86 #[.slice none 0 0, .int .i64 (N : Int)] w fun e w' => ∃ c, e = .returned (.slice (some ⟨w.heap.size, 0, none⟩) 0 c) ∧ Ow w' w.heap.size (.slice (some ⟨w.heap.size, 0, none⟩) 0 c) [] ∧ Below w.heap.size w w' := by
  obtain ⟨i, hi, hsz, hby, z, hz, hzs⟩ := i40
  have hrun := fun ty => Lib.run_append_nil_zeros (P := Tryz.prog) w 24 3 ty 43 i z .i64 .i64 Tryz.underlying24 Tryz.underlying3 hi hz N h0 (by omega) (by omega) (by rw [hby]; omega)
  have hge := grownCap_ge w N 0 43
  have hle := grownCap_le_maxLen w N 0 43 (by unfold maxLen; omega)
  generalize grownCap w N 0 43 = c at *
  have hsize : (Builtin.zeroCells z.cells N ++ Builtin.zeroCells z.cells (c - N)).size = c * 13 := by
    simp [Builtin.zeroCells, hzs]
    omega
  generalize (Builtin.zeroCells z.cells N ++ Builtin.zeroCells z.cells (c - N)) = Z at *
  have HO : Hid (Ow (w.drew.alloc (.cells Z 43)) w.heap.size (.slice (some ⟨w.heap.size, 0, none⟩) 0 c) []) := ⟨rfl, .inr ⟨w.heap.size, c, Z, rfl, Nat.le_refl _, heap_alloc_new w.drew _, Nat.zero_le _, hle, hsize, by simp [flat]⟩⟩
  have HB : Hid (Below w.heap.size w (w.drew.alloc (.cells Z 43))) := ((Below.refl _ w).drew).alloc (Nat.le_refl _) _
  have HRU : Hid (∀ ty, (Builtin.append_ #[24, 3] ty #[.slice none 0 0, .int .i64 (N : Int)]).run Tryz.prog w = .ok (.slice (some ⟨w.heap.size, 0, none⟩) N c) (w.drew.alloc (.cells Z 43))) := hrun
  have hw1 : wrap64 (N : Int) = (N : Int) := by unfold wrap64; omega
  have hc1 : (0 : Int) ≤ (c : Int) := by omega
  have hp : (0 : Int) < (N : Int) := by omega
  clear hrun hi hsz hby hz hzs hsize
  generalize w.drew.alloc (.cells Z 43) = w1 at *
  go_enter Tryz.func86, Tryz.ntmps86
  go_wp2_with (at_builtin; refine Lib.wpList_append_run _ rfl _ _ 24 3 rfl _ _ rfl rfl _ _ (HRU.out _) ?_)
  go_ret
  exact ⟨c, rfl, HO.out, HB.out⟩

theorem cs_one (r : Rw) : ∀ v ∈ r.cs, v.oneCell' = true := by
  intro v hv
  simp only [Rw.cs, List.mem_cons, List.not_mem_nil, or_false] at hv
  rcases hv with rfl | rfl | rfl | rfl | rfl | rfl | rfl | rfl | rfl | rfl | rfl | rfl | rfl <;> rfl

theorem flat_one (L : List Rw) : ∀ v ∈ flat L, v.oneCell' = true := by
  intro v hv
  obtain ⟨r, _, hr⟩ := List.mem_flatMap.1 hv
  exact cs_one r v hr

/-- append of rows to rows of one's own -/
theorem wpList_rows {W : World} {ops : Array Oper} {rest : List Oper} {o : Oper} {a : Act} {Q : Exit → Act → World → Prop} (hgd : o.guard = none) (s x : Operand)
    (ho : o.op = .call { callee := .builtin .append, args := #[s, x], argTypes := #[24, 24] })
    (B g0 n0 c0 : Nat) (L : List Rw) (hs : a.eval s = .slice (some ⟨g0, 0, none⟩) n0 c0) (hn0 : L.length = n0) (hown : Ow W B (.slice (some ⟨g0, 0, none⟩) n0 c0) L) (hB : B ≤ W.heap.size)
    (ad : Option Addr) (n c : Nat) (M : List Rw) (hx : a.eval x = .slice ad n c) (hn : M.length = n) (hM : Rs W ad M) (hnil : ad = none → c = 0) (hl : n0 + n ≤ 3000000)
    (h : ∀ g' c' w', Ow w' B (.slice (some ⟨g', 0, none⟩) (n0 + n) c') (L ++ M) → Below B W w' → wpList Tryz.prog ops Q rest (a.put o.dst (.slice (some ⟨g', 0, none⟩) (n0 + n) c')) w') : wpList Tryz.prog ops Q (o :: rest) a W := by
  obtain ⟨i0, hi0, hi1, hi2, z, hz, hzs⟩ := i40
  subst hn
  subst hn0
  cases ad with
  | none =>
    have hc := hnil rfl
    subst hc
    obtain rfl : M = [] := by
      rcases hM with h | ⟨b, o, e, _⟩
      · exact h
      · cases e
    refine wpList_append_own_none hgd s x 24 ho B 43 i0 13 Tryz.underlying24 hi0 _ _ _ hs hown hx ?_
    have := h g0 c0 W (by rw [List.append_nil]; exact hown) (Below.refl _ _)
    exact this
  | some ad =>
    have hb : ∀ j u, (flat M)[j]? = some u → W.cell? (ad.add j) = some u := by
      intro j u hu
      rcases hM with h | ⟨b, o, e, _, h3⟩
      · subst h; simp [flat] at hu
      · cases e; rw [Addr.add_mid]; exact h3 j u hu
    refine wpList_append_own _ hgd s x 24 ho B 43 i0 z 13 152 Tryz.underlying24 hi0 hz hi1 hi2 hzs (by decide) _ _ _ hs hown ad M.length c (flat M) hx (flat_length M) hb (flat_one M) ?_ ?_ hB ?_
    · unfold maxLen; omega
    · omega
    · intro v' w3 hown' hgrow hh
      have hgB : B ≤ g0 := by
        rcases hown.2 with ⟨e1, _⟩ | ⟨g', cp, cur, e1, e2, _⟩
        · cases e1
        · simp at e1; omega
      have b3 : Below B W w3 := (Below.refl _ _).grown hgrow hB (fun k hk => by simp [Value.ownBlock] at hk; omega)
      have hne : v' ≠ .slice none 0 0 := fun e => by have := (hh.1 e).1; cases this
      obtain ⟨g', c', rfl⟩ : ∃ g' c', v' = .slice (some ⟨g', 0, none⟩) (L.length + M.length) c' := by
        rcases hown'.2 with ⟨e1, e2⟩ | ⟨g', c', cur, e1, _⟩
        · exact absurd e1 hne
        · exact ⟨g', c', e1⟩
      refine h g' c' w3 ?_ b3
      unfold Ow
      rw [flat_append, List.length_append]
      exact hown'

end Go.Proofs.YtpgiibpalmhhlaaGreatDoor

namespace Go.Proofs.YtpgiibpalmhhlaaGreatDoor
open Go.RowKit
open Go.Lib hiding intOf
set_option linter.unusedVariables false
set_option linter.unusedSimpArgs false

set_option maxRecDepth 20000 in
set_option maxHeartbeats 2000000 in
theorem concat_w (g : Nat) (a1 a2 a3 : Option Addr) (c1 c2 c3 : Nat) (L1 L2 L3 : List Rw) (w : World) (d1 : w.cell? ⟨g, 0, none⟩ = some (.slice a1 L1.length c1)) (d2 : w.cell? ⟨g, 1, none⟩ = some (.slice a2 L2.length c2)) (d3 : w.cell? ⟨g, 2, none⟩ = some (.slice a3 L3.length c3))
    (r1 : Rs w a1 L1) (r2 : Rs w a2 L2) (r3 : Rs w a3 L3) (z1 : a1 = none → c1 = 0) (z2 : a2 = none → c2 = 0) (z3 : a3 = none → c3 = 0) (h0 : 0 < L1.length + L2.length + L3.length) (hl : L1.length + L2.length + L3.length ≤ 3000000) :
    Calls Tryz.prog 62 #[.slice (some ⟨g, 0, none⟩) 3 3] w fun e w' => ∃ gd c, e = .returned (.slice (some ⟨gd, 0, none⟩) (L1 ++ L2 ++ L3).length c) ∧ Rs w' (some ⟨gd, 0, none⟩) (L1 ++ L2 ++ L3) ∧ w.heap.size ≤ gd ∧ (L1 ++ L2 ++ L3).length ≤ c ∧ Below w.heap.size w w' := by
  have hg : g < w.heap.size := World.block_lt_of_cell? w _ d1
  have KG : Hid (∀ W z, z = ((L1.length + L2.length + L3.length : Nat) : Int) → Calls Tryz.prog 86 #[.slice none 0 0, .int .i64 z] W fun e w' => ∃ c, e = .returned (.slice (some ⟨W.heap.size, 0, none⟩) 0 c) ∧ Ow w' W.heap.size (.slice (some ⟨W.heap.size, 0, none⟩) 0 c) [] ∧ Below W.heap.size W w') := fun W z hz => by subst hz; exact grow_w _ h0 hl W
  have R1 : Hid (Rs w a1 L1) := r1
  have R2 : Hid (Rs w a2 L2) := r2
  have R3 : Hid (Rs w a3 L3) := r3
  have Z1 : Hid (a1 = none → c1 = 0) := z1
  have Z2 : Hid (a2 = none → c2 = 0) := z2
  have Z3 : Hid (a3 = none → c3 = 0) := z3
  clear r1 r2 r3 z1 z2 z3
  have w1 : wrap64 (L1.length : Int) = (L1.length : Int) := by unfold wrap64; omega
  have w2 : wrap64 ((L1.length : Int) + (L2.length : Int)) = (L1.length : Int) + (L2.length : Int) := by unfold wrap64; omega
  have w3 : wrap64 ((L1.length : Int) + (L2.length : Int) + (L3.length : Int)) = (L1.length : Int) + (L2.length : Int) + (L3.length : Int) := by unfold wrap64; omega
  have p1 : ¬ (L1.length : Int) < 0 := by omega
  have p2 : ¬ (L1.length : Int) + (L2.length : Int) < 0 := by omega
  have p3 : ¬ (L1.length : Int) + (L2.length : Int) + (L3.length : Int) < 0 := by omega
  go_enter Tryz.func62, Tryz.ntmps62
  go_wp2_with fail
  refine wp_loop_rounds 4 ?_
  rw [rounds_succ]
  go_wp2
  rw [rounds_succ]
  go_wp2
  rw [rounds_succ]
  go_wp2
  rw [rounds_succ]
  go_wp2_with (go_at_call 86; refine (KG.out _ _ (by omega)).mono ?_; rintro e v0 ⟨c, rfl, O0, b0⟩)
  clear w1 w2 w3 p1 p2 p3 KG
  have f1 : v0.cell? ⟨g, 0, none⟩ = some (.slice a1 L1.length c1) := (b0.cell (p := ⟨g, 0, none⟩) hg).trans d1
  refine wp_loop_rounds 4 ?_
  rw [rounds_succ]
  go_wp2_with (at_builtin; refine wpList_rows rfl _ _ rfl w.heap.size w.heap.size 0 c [] rfl rfl O0 b0.size a1 L1.length c1 L1 rfl rfl (R1.out.below b0) Z1.out (by omega) ?_; intro g1 e1 v1 O1 b1; simp only [List.nil_append, Nat.zero_add] at O1 ⊢)
  have b01 : Below w.heap.size w v1 := b0.trans b1
  have f2 : v1.cell? ⟨g, 1, none⟩ = some (.slice a2 L2.length c2) := (b01.cell (p := ⟨g, 1, none⟩) hg).trans d2
  have l12 : Hid (L1.length + L2.length ≤ 3000000) := (by show _ ≤ _; omega)
  clear f1 b0 b1 O0
  rw [rounds_succ]
  go_wp2_with (at_builtin; refine wpList_rows rfl _ _ rfl w.heap.size g1 L1.length e1 L1 rfl rfl O1 b01.size a2 L2.length c2 L2 rfl rfl (R2.out.below b01) Z2.out l12.out ?_; intro g2 e2 v2 O2 b2)
  have b02 : Below w.heap.size w v2 := b01.trans b2
  have f3 : v2.cell? ⟨g, 2, none⟩ = some (.slice a3 L3.length c3) := (b02.cell (p := ⟨g, 2, none⟩) hg).trans d3
  have l123 : Hid (L1.length + L2.length + L3.length ≤ 3000000) := hl
  have l4 : Hid ((L1 ++ L2).length = L1.length + L2.length) := List.length_append
  clear f2 b01 b2 O1
  rw [rounds_succ]
  go_wp2_with (at_builtin; refine wpList_rows rfl _ _ rfl w.heap.size g2 (L1.length + L2.length) e2 (L1 ++ L2) rfl l4.out O2 b02.size a3 L3.length c3 L3 rfl rfl (R3.out.below b02) Z3.out l123.out ?_; intro g3 e3 v3 O3 b3)
  have b03 : Below w.heap.size w v3 := b02.trans b3
  have hge : w.heap.size ≤ g3 := by
    rcases O3.2 with ⟨q1, _⟩ | ⟨g', cp, cur, q1, q2, _⟩
    · cases q1
    · simp at q1; omega
  have hle : Hid ((L1 ++ L2 ++ L3).length ≤ e3) := (by
    rcases O3.2 with ⟨q1, _⟩ | ⟨g', cp, cur, q1, q2, q3, q4, _⟩
    · cases q1
    · simp at q1; show _ ≤ _; omega)
  have l5 : Hid (L1.length + L2.length + L3.length = (L1 ++ L2 ++ L3).length) := (by show _ = _; simp only [List.length_append])
  have l6 : Hid (Rs v3 (some ⟨g3, 0, none⟩) (L1 ++ L2 ++ L3)) := (Ow.rs O3).2
  rw [rounds_succ]
  go_wp2_with fail
  go_ret
  exact ⟨g3, e3, by rw [← l5.out]; rfl, l6.out, hge, hle.out, b03⟩

end Go.Proofs.YtpgiibpalmhhlaaGreatDoor

namespace Go.Proofs.YtpgiibpalmhhlaaGreatDoor
open Go.RowKit
open Go.Lib hiding intOf
set_option linter.unusedVariables false
set_option linter.unusedSimpArgs false

def zr : Rw := ⟨[], 0, 0, 0, 0, false⟩
/-- what stands at a path, or the zero row -/
def atR (L : List Rw) (s : List UInt8) : Rw := if fd L s then (L[ix L s]?).getD zr else zr

theorem fd_some {L : List Rw} {s : List UInt8} (h : fd L s = true) : ∃ r, L[ix L s]? = some r ∧ r.p = s := by
  unfold fd at h
  cases hr : L[ix L s]? with
  | none => rw [hr] at h; cases h
  | some r => rw [hr] at h; exact ⟨r, rfl, (cmpL_zero _ _).1 (of_decide_eq_true h)⟩

theorem kept_last {w w1 : World} {C : Array Value} {t : TypeId} (h : Below (w.alloc (.cells C t)).heap.size (w.alloc (.cells C t)) w1) : w1.heap[w.heap.size]? = some (.cells C t (0, 0)) := by
  rw [h.block _ (by rw [size_box]; exact Nat.lt_succ_self _)]
  exact heap_alloc_new _ _
theorem kept_first {w w1 : World} {C : Array Value} {t : TypeId} {o : Obj} (h : Below ((w.alloc (.cells C t)).alloc o).heap.size ((w.alloc (.cells C t)).alloc o) w1) : w1.heap[w.heap.size]? = some (.cells C t (0, 0)) := by
  rw [h.block _ (by rw [size_box, size_box]; show w.heap.size < _; omega)]
  rw [Below.heap_alloc _ _ _ (by rw [size_box]; omega)]
  exact heap_alloc_new _ _
theorem kept_second {w w1 : World} {C : Array Value} {t : TypeId} {o : Obj} (h : Below ((w.alloc o).alloc (.cells C t)).heap.size ((w.alloc o).alloc (.cells C t)) w1) : w1.heap[w.heap.size + 1]? = some (.cells C t (0, 0)) := by
  have := kept_last h
  rwa [size_box] at this
theorem two_below {w w1 : World} {o p : Obj} (h : Below ((w.alloc o).alloc p).heap.size ((w.alloc o).alloc p) w1) : Below w.heap.size w w1 :=
  ((below_box w o).alloc (by rw [size_box]; omega) p).trans (h.mono (by rw [size_box, size_box]; omega))
theorem cells_of {w : World} {g : Nat} {C : Array Value} {t : TypeId} {fr : Nat × Nat} (h : w.heap[g]? = some (.cells C t fr)) (i : Nat) : w.cell? ⟨g, i, none⟩ = C[i]? := by
  unfold World.cell?
  simp [h]

theorem all_one {C : List Value} (h : ∀ v ∈ C, v.oneCell' = true) : C.toArray.all (·.oneCell') = true := by
  simp only [List.all_toArray, List.all_eq_true]; exact h

theorem isDir_w (r : Rw) (w : World) : Calls Tryz.prog 42 #[.agg r.cs.toArray] w fun e w' => e = .returned (.bool (decide (r.kind = 4))) ∧ Below w.heap.size w w' := by
  unfold Rw.cs
  go_enter Tryz.func42, Tryz.ntmps42
  go_wp2_with fail
  go_ret
  exact ⟨rfl, below_box _ _⟩

set_option maxRecDepth 20000 in
set_option maxHeartbeats 2000000 in
theorem at_w (ad : Option Addr) (cap : Nat) (nx : Int) (L : List Rw) (s : List UInt8) (w : World) (hs : Srt L) (hr : Rs w ad L) (hl : L.length ≤ 1000000) (hp : ∀ r ∈ L, r.p.length ≤ 4611686018427387903) (hsl : s.length ≤ 4611686018427387903) :
    Calls Tryz.prog 39 #[.agg #[.slice ad L.length cap, .int .i64 nx], .string (bs s)] w fun e w' => e = .returned (.tuple #[.agg (atR L s).cs.toArray, .bool (fd L s)]) ∧ Below w.heap.size w w' := by
  have KQ : Hid (∀ W, Below w.heap.size w W → Calls Tryz.prog 59 #[.agg #[.slice ad L.length cap, .int .i64 nx], .string (bs s)] W fun e w' => e = .returned (.tuple #[.int .i64 (ix L s : Int), .bool (fd L s)]) ∧ Below W.heap.size W w') := fun W hb => find_w ad cap nx L s W hs (hr.below hb) hl hp hsl
  have hb0 : ∀ o p, Below w.heap.size w ((w.alloc o).alloc p) := fun o p => (below_box w o).alloc (by rw [size_box]; omega) p
  cases hf : fd L s with
  | false =>
    rw [hf] at KQ
    have ha : atR L s = zr := by unfold atR; rw [hf]; rfl
    rw [ha]
    have hb1 : bs [] = ⟨#[]⟩ := rfl
    unfold zr Rw.cs
    simp only [hb1]
    go_enter Tryz.func39, Tryz.ntmps39
    go_wp2_with (first
      | (go_at_call 59; refine (KQ.out _ (hb0 _ _)).mono ?_; rintro e w1 ⟨rfl, b1⟩; have c2 : Hid _ := kept_second b1; have c3 : Hid _ := two_below b1; clear b1)
      | (refine wpList_store_row rfl 43 _ _ rfl _ _ rfl rfl 43 _ c2.out (by kernel_rfl) rfl (by simp [Value.oneCell']) ?_))
    have hld := run_loadVar_row _ _ _ 43 _ _ _ (setRow_heap _ _ _ #[.string ⟨#[]⟩, .int .i64 0, .int .i64 0, .int .i64 0, .int .i64 0, .int .i64 0, .int .i64 0, .string ⟨#[]⟩, .string ⟨#[]⟩, .string ⟨#[]⟩, .slice none 0 0, .int .i64 0, .bool false] _ _ c2.out) Tryz.underlying43 rfl (by kernel_rfl)
    exact bodyPost_ret (by rw [results_cell_tmp rfl]; simp [asAddr, hld]) rfl ⟨rfl, below_setRow c3.out (by omega) _⟩
  | true =>
    rw [hf] at KQ
    obtain ⟨r, hr1, hr2⟩ := fd_some hf
    have ha : atR L s = r := by unfold atR; rw [hf, hr1]; rfl
    rw [ha]
    obtain ⟨b, o, rfl, hb1, hb2⟩ := hr.at hr1
    have HB : Hid (∀ W, Below w.heap.size w W → W.rangeAt b (o + ix L s * 13) r.cs) := fun W hW => range_below hb2 hW hb1
    have hcs : Hid (r.cs.length = 13) := rfl
    have hone : Hid (r.cs.toArray.all (·.oneCell') = true) := all_one (cs_one r)
    have si : Hid ((Tryz.prog.info? 43).map (·.size) = some r.cs.toArray.size) := (by show _ = _; rw [List.size_toArray, Rw.cs_length]; kernel_rfl)
    have sj : Hid ((#[.string ⟨#[]⟩, .int .i64 0, .int .i64 0, .int .i64 0, .int .i64 0, .int .i64 0, .int .i64 0, .string ⟨#[]⟩, .string ⟨#[]⟩, .string ⟨#[]⟩, .slice none 0 0, .int .i64 0, .bool false] : Array Value).size = r.cs.toArray.size) := rfl
    have hlt : ix L s < L.length := (List.getElem?_eq_some_iff.1 hr1).1
    generalize L.length = n at *
    generalize ix L s = i at *
    generalize r.cs = C at *
    have h1 : (0 : Int) ≤ (i : Int) := by omega
    have h2 : (i : Int) < (n : Int) := by omega
    clear hs hr hl hp hsl hf ha hr1 hr2 hb2 hlt
    go_enter Tryz.func39, Tryz.ntmps39
    go_wp2_with (first
      | (go_at_call 59; refine (KQ.out _ (hb0 _ _)).mono ?_; rintro e w1 ⟨rfl, b1⟩; have c1 := cells_of (kept_first b1); have c2 : Hid _ := kept_second b1; have c3 : Hid (Below w.heap.size w w1) := two_below b1; clear b1)
      | (refine wpList_load_mid rfl 43 _ rfl b (o + i * 13) rfl C _ (HB.out _ c3.out) Tryz.underlying43 rfl (by rw [hcs.out]; kernel_rfl) ?_)
      | (refine wpList_store_row rfl 43 _ _ rfl _ C.toArray rfl rfl 43 _ c2.out si.out sj.out hone.out ?_))
    have hld := run_loadVar_row _ _ _ 43 _ _ _ (setRow_heap _ _ _ C.toArray _ _ c2.out) Tryz.underlying43 rfl si.out
    exact bodyPost_ret (by rw [results_cell_tmp rfl]; simp [asAddr, hld]) rfl ⟨rfl, below_setRow c3.out (by omega) _⟩

/-- what two boxes keep -/
def Two (w W : World) (C D : Array Value) (t u : TypeId) : Prop := W.heap[w.heap.size]? = some (.cells C t (0, 0)) ∧ W.heap[w.heap.size + 1]? = some (.cells D u (0, 0)) ∧ Below w.heap.size w W ∧ w.heap.size + 2 ≤ W.heap.size
theorem Two.mk0 (w : World) (C D : Array Value) (t u : TypeId) : Two w ((w.alloc (.cells C t)).alloc (.cells D u)) C D t u := by
  have h := Below.refl ((w.alloc (.cells C t)).alloc (.cells D u)).heap.size ((w.alloc (.cells C t)).alloc (.cells D u))
  exact ⟨kept_first h, kept_second h, two_below h, by rw [size_box, size_box]; omega⟩
theorem Two.next {w W W' : World} {C D : Array Value} {t u : TypeId} (h : Two w W C D t u) (b : Below W.heap.size W W') : Two w W' C D t u := by
  have := h.2.2.2
  exact ⟨by rw [b.block _ (by omega)]; exact h.1, by rw [b.block _ (by omega)]; exact h.2.1, h.2.2.1.trans (b.mono h.2.2.1.size), Nat.le_trans h.2.2.2 b.size⟩
theorem Two.drew {w W : World} {C D : Array Value} {t u : TypeId} (h : Two w W C D t u) : Two w W.drew C D t u := ⟨h.1, h.2.1, h.2.2.1.drew, h.2.2.2⟩

theorem two_new' (w : World) (A B : Obj) : ((w.alloc A).alloc B).drew.heap[w.heap.size + 1]? = some B := by
  have := heap_alloc_new (w.alloc A) B
  rwa [size_box] at this

set_option maxHeartbeats 1000000 in
theorem ownContent_w (z : Int) (w : World) :
    Calls Tryz.prog 35 #[.agg #[.slice none 0 0, .int .i64 z]] w fun e w' => e = .returned (.agg #[.slice none 0 0, .int .i64 z]) ∧ Below w.heap.size w w' := by
  have KC : Hid (∀ W, Calls Tryz.prog 58 #[.slice none 0 0] W fun e w' => e = .returned (.slice none 0 0) ∧ w' = W) := fun W => Tryz.slices_Clone_int_nil 0 0 W
  go_enter Tryz.func35, Tryz.ntmps35
  go_wp2_with fail
  go_region_with (go_at_call 58; refine (KC.out _).mono ?_; rintro e w' ⟨rfl, hw⟩; rw [hw])
  all_goals
    go_wp2_with fail
    exact bodyPost_ret (results_cell_row rfl _ _ (w.heap.size + 1) 39 _ (0, 0) _ rfl (two_new' _ _ _) Tryz.underlying39 rfl (by kernel_rfl)) rfl ⟨rfl, ((below_box w _).alloc (by rw [size_box]; omega) _).drew⟩

end Go.Proofs.YtpgiibpalmhhlaaGreatDoor

namespace Go.Proofs.YtpgiibpalmhhlaaGreatDoor
open Go.RowKit
open Go.Lib hiding intOf
set_option linter.unusedVariables false
set_option linter.unusedSimpArgs false

theorem setCell_same {w : World} {g i : Nat} {cur : Array Value} {t : TypeId} {v : Value} (h : w.heap[g]? = some (.cells cur t (0, 0))) (hv : cur[i]? = some v) : w.setCell ⟨g, i, none⟩ v = w := by
  rw [setCell_eq_setRow w g i cur t (0, 0) v h]
  have e : cur.setIfInBounds i v = cur := by
    apply Array.ext
    · simp
    · intro j h1 h2
      rw [Array.getElem_setIfInBounds (by simpa using h1)]
      split
      · next e => subst e; rw [Array.getElem?_eq_getElem h2] at hv; exact (Option.some.inj hv).symm
      · rfl
  rw [e]
  exact setRow_self w g cur t (0, 0) h

theorem froz_of {w : World} {g : Nat} {cur : Array Value} {t : TypeId} (h : w.heap[g]? = some (.cells cur t (0, 0))) (i : Nat) : w.frozen? ⟨g, i, none⟩ = false := frozen_of_row w g i cur t h

set_option maxRecDepth 20000 in
set_option maxHeartbeats 1000000 in
theorem own_w (r : Rw) (w : World) : Calls Tryz.prog 40 #[.agg r.cs.toArray] w fun e w' => e = .returned (.agg r.cs.toArray) ∧ Below w.heap.size w w' := by
  have KC : Hid (∀ W, Calls Tryz.prog 35 #[.agg #[.slice none 0 0, .int .i64 r.size]] W fun e w' => e = .returned (.agg #[.slice none 0 0, .int .i64 r.size]) ∧ Below W.heap.size W w') := fun W => ownContent_w r.size W
  have si : Hid ((Tryz.prog.info? 43).map (·.size) = some (#[.string (bs r.p), .int .i64 r.id, .int .i64 r.kind, .int .i64 r.mode, .int .i64 0, .int .i64 0, .int .i64 0, .string ⟨#[]⟩, .string ⟨#[]⟩, .string ⟨#[]⟩, .slice none 0 0, .int .i64 r.size, .bool r.made] : Array Value).size) := (by show _ = _; kernel_rfl)
  have sj : Hid ((#[.string ⟨#[]⟩, .int .i64 0, .int .i64 0, .int .i64 0, .int .i64 0, .int .i64 0, .int .i64 0, .string ⟨#[]⟩, .string ⟨#[]⟩, .string ⟨#[]⟩, .slice none 0 0, .int .i64 0, .bool false] : Array Value).size = (#[.string (bs r.p), .int .i64 r.id, .int .i64 r.kind, .int .i64 r.mode, .int .i64 0, .int .i64 0, .int .i64 0, .string ⟨#[]⟩, .string ⟨#[]⟩, .string ⟨#[]⟩, .slice none 0 0, .int .i64 r.size, .bool r.made] : Array Value).size) := rfl
  have sk : Hid ((#[.string (bs r.p), .int .i64 r.id, .int .i64 r.kind, .int .i64 r.mode, .int .i64 0, .int .i64 0, .int .i64 0, .string ⟨#[]⟩, .string ⟨#[]⟩, .string ⟨#[]⟩, .slice none 0 0, .int .i64 r.size, .bool r.made] : Array Value).all (·.oneCell') = true) := all_one (cs_one r)
  unfold Rw.cs
  go_enter Tryz.func40, Tryz.ntmps40
  go_upto_region 2 with (go_at_call 35; refine (KC.out _).mono ?_; rintro e w1 ⟨rfl, b1⟩; have H1 : Hid _ := kept_first b1; have c1 := cells_of H1.out; have f1 := froz_of H1.out; have s1 : w1.setCell ⟨w.heap.size, 10, none⟩ (.slice none 0 0) = w1 := setCell_same H1.out rfl; have s2 : w1.setCell ⟨w.heap.size, 11, none⟩ (.int .i64 r.size) = w1 := setCell_same H1.out rfl; have c2 : Hid _ := kept_second b1; have c3 : Hid (Below w.heap.size w w1) := two_below b1; clear b1)
  (try rw [s1]); (try rw [s2])
  clear c1 f1 s1 s2
  go_wp2_with (first
    | (refine wpList_load_row rfl 43 _ rfl w.heap.size rfl 43 #[.string (bs r.p), .int .i64 r.id, .int .i64 r.kind, .int .i64 r.mode, .int .i64 0, .int .i64 0, .int .i64 0, .string ⟨#[]⟩, .string ⟨#[]⟩, .string ⟨#[]⟩, .slice none 0 0, .int .i64 r.size, .bool r.made] _ _ H1.out Tryz.underlying43 rfl si.out ?_)
    | (refine wpList_store_row rfl 43 _ _ rfl (w.heap.size + 1) #[.string (bs r.p), .int .i64 r.id, .int .i64 r.kind, .int .i64 r.mode, .int .i64 0, .int .i64 0, .int .i64 0, .string ⟨#[]⟩, .string ⟨#[]⟩, .string ⟨#[]⟩, .slice none 0 0, .int .i64 r.size, .bool r.made] rfl rfl 43 _ c2.out si.out sj.out sk.out ?_))
  have hld := run_loadVar_row _ _ _ 43 _ _ _ (setRow_heap _ _ _ #[.string (bs r.p), .int .i64 r.id, .int .i64 r.kind, .int .i64 r.mode, .int .i64 0, .int .i64 0, .int .i64 0, .string ⟨#[]⟩, .string ⟨#[]⟩, .string ⟨#[]⟩, .slice none 0 0, .int .i64 r.size, .bool r.made] _ _ c2.out) Tryz.underlying43 rfl si.out
  exact bodyPost_ret (results_cell_row rfl _ _ (w.heap.size + 1) 43 _ (0, 0) _ rfl (setRow_heap _ _ _ #[.string (bs r.p), .int .i64 r.id, .int .i64 r.kind, .int .i64 r.mode, .int .i64 0, .int .i64 0, .int .i64 0, .string ⟨#[]⟩, .string ⟨#[]⟩, .string ⟨#[]⟩, .slice none 0 0, .int .i64 r.size, .bool r.made] _ _ c2.out) Tryz.underlying43 rfl si.out) rfl ⟨rfl, below_setRow c3.out (by omega) _⟩

end Go.Proofs.YtpgiibpalmhhlaaGreatDoor

namespace Go.Proofs.YtpgiibpalmhhlaaGreatDoor
open Go.RowKit
open Go.Lib hiding intOf
set_option linter.unusedVariables false
set_option linter.unusedSimpArgs false

def lowAt (a : Option Addr) (cap c : Nat) : Option Addr := if cap = c then a else a.map (·.add (c * 13))

theorem info40 : (Tryz.prog.info? 43).map (·.size) = some 13 := by kernel_rfl

set_option maxRecDepth 20000 in
theorem run_lowAt (w : World) (a : Option Addr) (n cap c : Nat) (h : c ≤ n) : (Instr.sliceAt 24 (.slice a n cap) (some (.int .i64 (c : Int))) none none).run Tryz.prog w = .ok (.slice (lowAt a cap c) (n - c) (cap - c)) w := by
  rw [run_sliceAt_slice w 24 _ _ _ _ Tryz.underlying24]
  have hi := info40
  cases hq : Tryz.prog.info? 43 with
  | none => simp [hq] at hi
  | some i =>
    have hs : i.size = 13 := by simpa [hq] using hi
    have hb : (Instr.sliceBound (.int .i64 (c : Int)) n .sliceB).run Tryz.prog w = .ok c w := by
      have := run_sliceBound (P := Tryz.prog) w .i64 (c : Int) n .sliceB (by omega) (by omega)
      simpa using this
    simp [Instr.slice, run_underlying Tryz.underlying24, Instr.sliceBounds, sizeOf, typeInfo, hq, hs, hb, lowAt]

set_option maxRecDepth 20000 in
theorem run_highAt (w : World) (a : Option Addr) (n cap c : Nat) (h : c ≤ cap) : (Instr.sliceAt 24 (.slice a n cap) none (some (.int .i64 (c : Int))) none).run Tryz.prog w = .ok (.slice a c cap) w := by
  rw [run_sliceAt_slice w 24 _ _ _ _ Tryz.underlying24]
  have hi := info40
  cases hq : Tryz.prog.info? 43 with
  | none => simp [hq] at hi
  | some i =>
    have hb : (Instr.sliceBound (.int .i64 (c : Int)) cap .sliceAcap).run Tryz.prog w = .ok c w := by
      have := run_sliceBound (P := Tryz.prog) w .i64 (c : Int) cap .sliceAcap (by omega) (by omega)
      simpa using this
    cases a <;> simp [Instr.slice, run_underlying Tryz.underlying24, Instr.sliceBounds, sizeOf, typeInfo, hq, hb, Addr.add]

theorem Rs.take {w : World} {ad : Option Addr} {L : List Rw} (h : Rs w ad L) (c : Nat) : Rs w ad (L.take c) := by
  rcases h with h | ⟨b, o, h1, h2, h3⟩
  · subst h; exact .inl (by simp)
  · refine .inr ⟨b, o, h1, h2, fun j v hv => h3 j v ?_⟩
    have e : flat L = flat (L.take c) ++ flat (L.drop c) := by rw [← flat_append, List.take_append_drop]
    rw [e, List.getElem?_append_left (List.getElem?_eq_some_iff.1 hv).1]
    exact hv

theorem Rs.drop {w : World} {ad : Option Addr} {L : List Rw} (h : Rs w ad L) (cap c : Nat) (hc : L.length ≤ cap) : Rs w (lowAt ad cap c) (L.drop c) := by
  by_cases hl : L.length ≤ c
  · exact .inl (List.drop_eq_nil_of_le hl)
  · rcases h with h | ⟨b, o, h1, h2, h3⟩
    · subst h; exact .inl (by simp)
    · refine .inr ⟨b, o + c * 13, ?_, h2, fun j v hv => ?_⟩
      · subst h1
        unfold lowAt
        rw [if_neg (by omega)]
        rw [Option.map_some, Addr.add_mid]
      · rw [Nat.add_assoc]
        refine h3 _ v ?_
        have e : flat L = flat (L.take c) ++ flat (L.drop c) := by rw [← flat_append, List.take_append_drop]
        have l1 : (flat (L.take c)).length = c * 13 := by rw [flat_length, List.length_take]; rw [Nat.min_eq_left (by omega)]
        rw [e, List.getElem?_append_right (by rw [l1]; omega), l1, Nat.add_sub_cancel_left]
        exact hv

theorem low_none {ad : Option Addr} {cap c : Nat} (h : lowAt ad cap c = none) : ad = none := by
  unfold lowAt at h
  split at h
  · exact h
  · simpa using h

/-- a row laid into rows -/
def putL (L : List Rw) (r : Rw) : List Rw := L.take (ix L r.p) ++ [r] ++ L.drop (ix L r.p + if fd L r.p then 1 else 0)

/-- what lay keeps in memory -/
structure Ly (w W : World) (T C D : Array Value) : Prop where
  tre : W.heap[w.heap.size]? = some (.cells T 26 (0, 0))
  row : W.heap[w.heap.size + 1]? = some (.cells C 43 (0, 0))
  res : W.heap[w.heap.size + 2]? = some (.cells D 26 (0, 0))
  bel : Below w.heap.size w W
  lt : w.heap.size + 3 ≤ W.heap.size

theorem Ly.next {w W W' : World} {T C D : Array Value} (h : Ly w W T C D) (b : Below W.heap.size W W') : Ly w W' T C D := by
  have := h.lt
  exact ⟨by rw [b.block _ (by omega)]; exact h.tre, by rw [b.block _ (by omega)]; exact h.row, by rw [b.block _ (by omega)]; exact h.res, h.bel.trans (b.mono h.bel.size), Nat.le_trans h.lt b.size⟩
theorem Ly.drew {w W : World} {T C D : Array Value} (h : Ly w W T C D) : Ly w W.drew T C D := ⟨h.tre, h.row, h.res, h.bel.drew, h.lt⟩
theorem Ly.mk0 (w : World) (T C D : Array Value) : Ly w (((w.alloc (.cells T 26)).alloc (.cells C 43)).alloc (.cells D 26)) T C D := by
  have s1 := size_box w (.cells T 26)
  have s2 := size_box (w.alloc (.cells T 26)) (.cells C 43)
  have s3 := size_box ((w.alloc (.cells T 26)).alloc (.cells C 43)) (.cells D 26)
  refine ⟨?_, ?_, ?_, ?_, by omega⟩
  · rw [Below.heap_alloc _ _ _ (by omega), Below.heap_alloc _ _ _ (by omega)]; exact heap_alloc_new _ _
  · rw [Below.heap_alloc _ _ _ (by omega)]
    have := heap_alloc_new (w.alloc (.cells T 26)) (.cells C 43)
    rwa [s1] at this
  · have := heap_alloc_new ((w.alloc (.cells T 26)).alloc (.cells C 43)) (.cells D 26)
    rwa [s2, s1] at this
  · exact ((below_box w _).alloc (by omega) _).alloc (by omega) _

theorem two_set {w : World} {g : Nat} {a b : Value} {t : TypeId} (h : w.heap[g]? = some (.cells #[a, b] t (0, 0))) (x y : Value) : ((w.setCell ⟨g, 0, none⟩ x).setCell ⟨g, 1, none⟩ y).heap[g]? = some (.cells #[x, y] t (0, 0)) := by
  have h1 := setRow_heap w g _ (#[a, b].setIfInBounds 0 x) t (0, 0) h
  rw [← setCell_eq_setRow w g 0 _ t (0, 0) x h] at h1
  have h2 := setRow_heap _ g _ ((#[a, b].setIfInBounds 0 x).setIfInBounds 1 y) t (0, 0) h1
  rw [← setCell_eq_setRow _ g 1 _ t (0, 0) y h1] at h2
  exact h2

theorem Rs.far {w : World} {ad : Option Addr} {L : List Rw} (h : Rs w ad L) {gd : Nat} (hd : ad = some ⟨gd, 0, none⟩) (g : Nat) (hne : gd ≠ g) (x y : Value) : Rs ((w.setCell ⟨g, 0, none⟩ x).setCell ⟨g, 1, none⟩ y) ad L := by
  rcases h with h | ⟨b, o, h1, h2, h3⟩
  · exact .inl h
  · rw [hd] at h1
    cases h1
    refine .inr ⟨gd, 0, hd, by simpa using h2, fun j v hv => ?_⟩
    rw [World.cell?_setCell_far _ _ _ _ (by show g ≠ gd; omega), World.cell?_setCell_far _ _ _ _ (by show g ≠ gd; omega)]
    exact h3 j v hv

set_option maxRecDepth 20000 in
set_option maxHeartbeats 4000000 in
theorem lay_core (F : Bool) (ad : Option Addr) (cap n i j : Nat) (nx : Int) (r : Rw) (w : World) (hF : j = if F then i + 1 else i) (hj : j ≤ n) (hn : n ≤ 1000000) (hcap : n ≤ cap)
    (KQ : Hid (∀ W, Below w.heap.size w W → Calls Tryz.prog 59 #[.agg #[.slice ad n cap, .int .i64 nx], .string (bs r.p)] W fun e w' => e = .returned (.tuple #[.int .i64 (i : Int), .bool F]) ∧ Below W.heap.size W w'))
    (M : List Rw)
    (KC : Hid (∀ W g gr, Below w.heap.size w W → g < W.heap.size → W.cell? ⟨g, 0, none⟩ = some (.slice ad i cap) → W.cell? ⟨g, 1, none⟩ = some (.slice (some ⟨gr, 0, none⟩) 1 1) → W.cell? ⟨g, 2, none⟩ = some (.slice (lowAt ad cap j) (n - j) (cap - j)) → gr < W.heap.size → W.rangeAt gr 0 r.cs →
      Calls Tryz.prog 62 #[.slice (some ⟨g, 0, none⟩) 3 3] W fun e w' => ∃ gd c, e = .returned (.slice (some ⟨gd, 0, none⟩) M.length c) ∧ Rs w' (some ⟨gd, 0, none⟩) M ∧ W.heap.size ≤ gd ∧ M.length ≤ c ∧ Below W.heap.size W w')) :
    Calls Tryz.prog 48 #[.agg #[.slice ad n cap, .int .i64 nx], .agg r.cs.toArray] w fun e w' => ∃ gd c, e = .returned (.agg #[.slice (some ⟨gd, 0, none⟩) M.length c, .int .i64 nx]) ∧ Rs w' (some ⟨gd, 0, none⟩) M ∧ w.heap.size ≤ gd ∧ M.length ≤ c ∧ Below w.heap.size w w' := by
  have H0 := Ly.mk0 w #[.slice ad n cap, .int .i64 nx] #[.string (bs r.p), .int .i64 r.id, .int .i64 r.kind, .int .i64 r.mode, .int .i64 0, .int .i64 0, .int .i64 0, .string ⟨#[]⟩, .string ⟨#[]⟩, .string ⟨#[]⟩, .slice none 0 0, .int .i64 r.size, .bool r.made] #[.slice none 0 0, .int .i64 0]
  have hb3 : Hid (∀ o p q, Below w.heap.size w (((w.alloc o).alloc p).alloc q)) := fun o p q => ((below_box w o).alloc (by rw [size_box]; omega) p).alloc (by rw [size_box, size_box]; omega) q
  have HCS : Hid (r.cs = [.string (bs r.p), .int .i64 r.id, .int .i64 r.kind, .int .i64 r.mode, .int .i64 0, .int .i64 0, .int .i64 0, .string ⟨#[]⟩, .string ⟨#[]⟩, .string ⟨#[]⟩, .slice none 0 0, .int .i64 r.size, .bool r.made]) := rfl
  have wi : wrap64 ((i : Int) + 1) = ((i + 1 : Nat) : Int) := by unfold wrap64; cases F <;> simp at hF <;> omega
  unfold Rw.cs
  cases F with
  | false =>
    simp only [Bool.false_eq_true, if_false] at hF
    obtain rfl : i = j := hF.symm
    clear wi hF
    go_enter Tryz.func48, Tryz.ntmps48
    go_upto_region 5 with (go_at_call 59; refine (KQ.out _ (hb3.out _ _ _)).mono ?_; rintro e w1 ⟨rfl, b1⟩; have H1 : Hid (Ly w w1 _ _ _) := H0.next b1)
    have L0 := H1.out
    have c0 := cells_of L0.tre 0
    have c1 := cells_of L0.tre 1
    have c2 := cells_of L0.row
    have c3 := cells_of L0.res 0
    have c4 := cells_of L0.res 1
    have f3 := froz_of L0.res
    have q1 := fun W => run_lowAt W ad n cap i hj
    have q2 := fun W => run_highAt W ad n cap i (by omega)
    have hj1 : (0 : Int) ≤ (i : Int) := by omega
    have hj2 : (i : Int) ≤ (n : Int) := by omega
    have hj3 : (i : Int) ≤ (cap : Int) := by omega
    have lt0 : w.heap.size < w1.heap.size := by have := L0.lt; omega
    have lt1 : w.heap.size + 1 < w1.heap.size := by have := L0.lt; omega
    have lt2 : w.heap.size + 2 < w1.heap.size := by have := L0.lt; omega
    have LA : Hid (∀ A B, Ly w ((w1.alloc A).alloc B).drew _ _ _) := fun A B => ((L0.next (below_box w1 A)).next (below_box _ B)).drew
    have KC1 : Hid (Calls Tryz.prog 62 #[.slice (some ⟨w1.heap.size + 1, 0, none⟩) 3 3] ((w1.alloc (.cells #[.string (bs r.p), .int .i64 r.id, .int .i64 r.kind, .int .i64 r.mode, .int .i64 0, .int .i64 0, .int .i64 0, .string ⟨#[]⟩, .string ⟨#[]⟩, .string ⟨#[]⟩, .slice none 0 0, .int .i64 r.size, .bool r.made] 43)).alloc (.cells #[.slice ad i cap, .slice (some ⟨w1.heap.size, 0, none⟩) 1 1, .slice (lowAt ad cap i) (n - i) (cap - i)] 24)).drew fun e w' => ∃ gd c, e = .returned (.slice (some ⟨gd, 0, none⟩) M.length c) ∧ Rs w' (some ⟨gd, 0, none⟩) M ∧ (((w1.alloc (.cells #[.string (bs r.p), .int .i64 r.id, .int .i64 r.kind, .int .i64 r.mode, .int .i64 0, .int .i64 0, .int .i64 0, .string ⟨#[]⟩, .string ⟨#[]⟩, .string ⟨#[]⟩, .slice none 0 0, .int .i64 r.size, .bool r.made] 43)).alloc (.cells #[.slice ad i cap, .slice (some ⟨w1.heap.size, 0, none⟩) 1 1, .slice (lowAt ad cap i) (n - i) (cap - i)] 24)).drew).heap.size ≤ gd ∧ M.length ≤ c ∧ Below (((w1.alloc (.cells #[.string (bs r.p), .int .i64 r.id, .int .i64 r.kind, .int .i64 r.mode, .int .i64 0, .int .i64 0, .int .i64 0, .string ⟨#[]⟩, .string ⟨#[]⟩, .string ⟨#[]⟩, .slice none 0 0, .int .i64 r.size, .bool r.made] 43)).alloc (.cells #[.slice ad i cap, .slice (some ⟨w1.heap.size, 0, none⟩) 1 1, .slice (lowAt ad cap i) (n - i) (cap - i)] 24)).drew).heap.size ((w1.alloc (.cells #[.string (bs r.p), .int .i64 r.id, .int .i64 r.kind, .int .i64 r.mode, .int .i64 0, .int .i64 0, .int .i64 0, .string ⟨#[]⟩, .string ⟨#[]⟩, .string ⟨#[]⟩, .slice none 0 0, .int .i64 r.size, .bool r.made] 43)).alloc (.cells #[.slice ad i cap, .slice (some ⟨w1.heap.size, 0, none⟩) 1 1, .slice (lowAt ad cap i) (n - i) (cap - i)] 24)).drew w') := by
      have hh := two_new' w1 (.cells #[.string (bs r.p), .int .i64 r.id, .int .i64 r.kind, .int .i64 r.mode, .int .i64 0, .int .i64 0, .int .i64 0, .string ⟨#[]⟩, .string ⟨#[]⟩, .string ⟨#[]⟩, .slice none 0 0, .int .i64 r.size, .bool r.made] 43) (.cells #[.slice ad i cap, .slice (some ⟨w1.heap.size, 0, none⟩) 1 1, .slice (lowAt ad cap i) (n - i) (cap - i)] 24)
      have sz : (((w1.alloc (.cells #[.string (bs r.p), .int .i64 r.id, .int .i64 r.kind, .int .i64 r.mode, .int .i64 0, .int .i64 0, .int .i64 0, .string ⟨#[]⟩, .string ⟨#[]⟩, .string ⟨#[]⟩, .slice none 0 0, .int .i64 r.size, .bool r.made] 43)).alloc (.cells #[.slice ad i cap, .slice (some ⟨w1.heap.size, 0, none⟩) 1 1, .slice (lowAt ad cap i) (n - i) (cap - i)] 24)).drew).heap.size = w1.heap.size + 2 := by
        show ((w1.alloc _).alloc _).heap.size = _
        rw [size_box, size_box]
      refine KC.out _ _ w1.heap.size (LA.out _ _).bel (by omega) (cells_of hh 0) (cells_of hh 1) (cells_of hh 2) (by omega) ?_
      have hr0 := kept_first (Below.refl (((w1.alloc (.cells #[.string (bs r.p), .int .i64 r.id, .int .i64 r.kind, .int .i64 r.mode, .int .i64 0, .int .i64 0, .int .i64 0, .string ⟨#[]⟩, .string ⟨#[]⟩, .string ⟨#[]⟩, .slice none 0 0, .int .i64 r.size, .bool r.made] 43)).alloc (.cells #[.slice ad i cap, .slice (some ⟨w1.heap.size, 0, none⟩) 1 1, .slice (lowAt ad cap i) (n - i) (cap - i)] 24))).heap.size ((w1.alloc (.cells #[.string (bs r.p), .int .i64 r.id, .int .i64 r.kind, .int .i64 r.mode, .int .i64 0, .int .i64 0, .int .i64 0, .string ⟨#[]⟩, .string ⟨#[]⟩, .string ⟨#[]⟩, .slice none 0 0, .int .i64 r.size, .bool r.made] 43)).alloc (.cells #[.slice ad i cap, .slice (some ⟨w1.heap.size, 0, none⟩) 1 1, .slice (lowAt ad cap i) (n - i) (cap - i)] 24)))
      intro k v hv
      rw [Nat.zero_add]
      have := cells_of hr0 k
      refine Eq.trans (show _ = _ from this) ?_
      rw [HCS.out] at hv
      simpa using hv
    clear H1 H0 b1
    have HS : Hid (∀ W, Ly w W #[.slice ad n cap, .int .i64 nx] #[.string (bs r.p), .int .i64 r.id, .int .i64 r.kind, .int .i64 r.mode, .int .i64 0, .int .i64 0, .int .i64 0, .string ⟨#[]⟩, .string ⟨#[]⟩, .string ⟨#[]⟩, .slice none 0 0, .int .i64 r.size, .bool r.made] #[.slice none 0 0, .int .i64 0] → W.cell? ⟨w.heap.size, 0, none⟩ = some (.slice ad n cap) ∧ W.cell? ⟨w.heap.size, 1, none⟩ = some (.int .i64 nx) ∧ (∀ k, W.cell? ⟨w.heap.size + 1, k, none⟩ = (#[.string (bs r.p), .int .i64 r.id, .int .i64 r.kind, .int .i64 r.mode, .int .i64 0, .int .i64 0, .int .i64 0, .string ⟨#[]⟩, .string ⟨#[]⟩, .string ⟨#[]⟩, .slice none 0 0, .int .i64 r.size, .bool r.made] : Array Value)[k]?)) := fun W h => ⟨cells_of h.tre 0, cells_of h.tre 1, cells_of h.row⟩
    have HK : Hid (∀ W p v, p.block = w.heap.size + 2 → (W.cell? ⟨w.heap.size, 0, none⟩ = some (.slice ad n cap) ∧ W.cell? ⟨w.heap.size, 1, none⟩ = some (.int .i64 nx) ∧ (∀ k, W.cell? ⟨w.heap.size + 1, k, none⟩ = (#[.string (bs r.p), .int .i64 r.id, .int .i64 r.kind, .int .i64 r.mode, .int .i64 0, .int .i64 0, .int .i64 0, .string ⟨#[]⟩, .string ⟨#[]⟩, .string ⟨#[]⟩, .slice none 0 0, .int .i64 r.size, .bool r.made] : Array Value)[k]?)) → (fun W => W.cell? ⟨w.heap.size, 0, none⟩ = some (.slice ad n cap) ∧ W.cell? ⟨w.heap.size, 1, none⟩ = some (.int .i64 nx) ∧ (∀ k, W.cell? ⟨w.heap.size + 1, k, none⟩ = (#[.string (bs r.p), .int .i64 r.id, .int .i64 r.kind, .int .i64 r.mode, .int .i64 0, .int .i64 0, .int .i64 0, .string ⟨#[]⟩, .string ⟨#[]⟩, .string ⟨#[]⟩, .slice none 0 0, .int .i64 r.size, .bool r.made] : Array Value)[k]?)) (World.setCell W p v)) := fun W p v hp h => ⟨by rw [World.cell?_setCell_far _ _ _ _ (by rw [hp]; show _ ≠ w.heap.size; omega)]; exact h.1, by rw [World.cell?_setCell_far _ _ _ _ (by rw [hp]; show _ ≠ w.heap.size; omega)]; exact h.2.1, fun k => by rw [World.cell?_setCell_far _ _ _ _ (by rw [hp]; show _ ≠ w.heap.size + 1; omega)]; exact h.2.2 k⟩
    have h3 := HS.out _ L0.drew
    have hA : Hid (∀ A, (fun W => W.cell? ⟨w.heap.size, 0, none⟩ = some (.slice ad n cap) ∧ W.cell? ⟨w.heap.size, 1, none⟩ = some (.int .i64 nx) ∧ (∀ k, W.cell? ⟨w.heap.size + 1, k, none⟩ = (#[.string (bs r.p), .int .i64 r.id, .int .i64 r.kind, .int .i64 r.mode, .int .i64 0, .int .i64 0, .int .i64 0, .string ⟨#[]⟩, .string ⟨#[]⟩, .string ⟨#[]⟩, .slice none 0 0, .int .i64 r.size, .bool r.made] : Array Value)[k]?)) (w1.alloc A).drew) := fun A => HS.out _ (L0.next (below_box w1 A)).drew
    have hB : Hid (∀ A B, (fun W => W.cell? ⟨w.heap.size, 0, none⟩ = some (.slice ad n cap) ∧ W.cell? ⟨w.heap.size, 1, none⟩ = some (.int .i64 nx) ∧ (∀ k, W.cell? ⟨w.heap.size + 1, k, none⟩ = (#[.string (bs r.p), .int .i64 r.id, .int .i64 r.kind, .int .i64 r.mode, .int .i64 0, .int .i64 0, .int .i64 0, .string ⟨#[]⟩, .string ⟨#[]⟩, .string ⟨#[]⟩, .slice none 0 0, .int .i64 r.size, .bool r.made] : Array Value)[k]?)) ((w1.alloc A).alloc B).drew) := fun A B => HS.out _ (LA.out A B)
    clear c0 c1 c2 c3 c4 f3 L0
    go_region_held3 (fun W => W.cell? ⟨w.heap.size, 0, none⟩ = some (.slice ad n cap) ∧ W.cell? ⟨w.heap.size, 1, none⟩ = some (.int .i64 nx) ∧ (∀ k, W.cell? ⟨w.heap.size + 1, k, none⟩ = (#[.string (bs r.p), .int .i64 r.id, .int .i64 r.kind, .int .i64 r.mode, .int .i64 0, .int .i64 0, .int .i64 0, .string ⟨#[]⟩, .string ⟨#[]⟩, .string ⟨#[]⟩, .slice none 0 0, .int .i64 r.size, .bool r.made] : Array Value)[k]?)) (first | assumption | exact h3 | exact hA.out _ | exact hB.out _ _ | exact HK.out _ _ _ rfl (HK.out _ _ _ rfl h4) | exact HK.out _ _ _ rfl h4) ((go_at_call 62; refine KC1.out.mono ?_; rintro e w4 ⟨gd, c, rfl, R4, G4, C4, b4⟩; have L4 := (LA.out _ _).next b4; have h4 := HS.out _ L4; have d3 := cells_of L4.res 0; have d4 := cells_of L4.res 1; have g3 := froz_of L4.res))
    have hg2 : gd ≠ w.heap.size + 2 := by
      have h1 : ((w1.alloc (.cells #[.string (bs r.p), .int .i64 r.id, .int .i64 r.kind, .int .i64 r.mode, .int .i64 0, .int .i64 0, .int .i64 0, .string ⟨#[]⟩, .string ⟨#[]⟩, .string ⟨#[]⟩, .slice none 0 0, .int .i64 r.size, .bool r.made] 43)).alloc (.cells #[.slice ad i cap, .slice (some ⟨w1.heap.size, 0, none⟩) 1 1, .slice (lowAt ad cap i) (n - i) (cap - i)] 24)).heap.size ≤ gd := G4
      rw [size_box, size_box] at h1
      omega
    have hg3 : w.heap.size ≤ gd := by
      have h1 : ((w1.alloc (.cells #[.string (bs r.p), .int .i64 r.id, .int .i64 r.kind, .int .i64 r.mode, .int .i64 0, .int .i64 0, .int .i64 0, .string ⟨#[]⟩, .string ⟨#[]⟩, .string ⟨#[]⟩, .slice none 0 0, .int .i64 r.size, .bool r.made] 43)).alloc (.cells #[.slice ad i cap, .slice (some ⟨w1.heap.size, 0, none⟩) 1 1, .slice (lowAt ad cap i) (n - i) (cap - i)] 24)).heap.size ≤ gd := G4
      rw [size_box, size_box] at h1
      omega
    have e2 := two_set L4.res (.slice (some ⟨gd, 0, none⟩) M.length c) (.int .i64 nx)
    have R5 := R4.far (gd := gd) rfl (w.heap.size + 2) hg2 (.slice (some ⟨gd, 0, none⟩) M.length c) (.int .i64 nx)
    have b5 : Below w.heap.size w ((w4.setCell ⟨w.heap.size + 2, 0, none⟩ (.slice (some ⟨gd, 0, none⟩) M.length c)).setCell ⟨w.heap.size + 2, 1, none⟩ (.int .i64 nx)) := (L4.bel.setCell (by show _ ≤ w.heap.size + 2; omega) _).setCell (by show _ ≤ w.heap.size + 2; omega) _
    go_wp2_with fail
    exact bodyPost_ret (results_cell_row rfl _ _ (w.heap.size + 2) 26 _ (0, 0) _ rfl e2 Tryz.underlying26 rfl (by kernel_rfl)) rfl ⟨gd, c, rfl, R5, hg3, C4, b5⟩
  | true =>
    simp only [if_true] at hF
    rw [← hF] at wi
    have hij : i < j := by omega
    have HF : Hid ((i : Int) + 1 = (j : Int)) := (by show _ = _; omega)
    clear hF
    go_enter Tryz.func48, Tryz.ntmps48
    go_upto_region 5 with (go_at_call 59; refine (KQ.out _ (hb3.out _ _ _)).mono ?_; rintro e w1 ⟨rfl, b1⟩; have H1 : Hid (Ly w w1 _ _ _) := H0.next b1)
    rw [HF.out]
    clear HF
    have L0 := H1.out
    have c0 := cells_of L0.tre 0
    have c1 := cells_of L0.tre 1
    have c2 := cells_of L0.row
    have c3 := cells_of L0.res 0
    have c4 := cells_of L0.res 1
    have f3 := froz_of L0.res
    have q1 := fun W => run_lowAt W ad n cap j hj
    have q2 := fun W => run_highAt W ad n cap i (by omega)
    have hj1 : (0 : Int) ≤ (i : Int) := by omega
    have hj2 : (j : Int) ≤ (n : Int) := by omega
    have hj3 : (i : Int) ≤ (cap : Int) := by omega
    have hj4 : (0 : Int) ≤ (j : Int) := by omega
    clear wi
    have lt0 : w.heap.size < w1.heap.size := by have := L0.lt; omega
    have lt1 : w.heap.size + 1 < w1.heap.size := by have := L0.lt; omega
    have lt2 : w.heap.size + 2 < w1.heap.size := by have := L0.lt; omega
    have LA : Hid (∀ A B, Ly w ((w1.alloc A).alloc B).drew _ _ _) := fun A B => ((L0.next (below_box w1 A)).next (below_box _ B)).drew
    have KC1 : Hid (Calls Tryz.prog 62 #[.slice (some ⟨w1.heap.size + 1, 0, none⟩) 3 3] ((w1.alloc (.cells #[.string (bs r.p), .int .i64 r.id, .int .i64 r.kind, .int .i64 r.mode, .int .i64 0, .int .i64 0, .int .i64 0, .string ⟨#[]⟩, .string ⟨#[]⟩, .string ⟨#[]⟩, .slice none 0 0, .int .i64 r.size, .bool r.made] 43)).alloc (.cells #[.slice ad i cap, .slice (some ⟨w1.heap.size, 0, none⟩) 1 1, .slice (lowAt ad cap j) (n - j) (cap - j)] 24)).drew fun e w' => ∃ gd c, e = .returned (.slice (some ⟨gd, 0, none⟩) M.length c) ∧ Rs w' (some ⟨gd, 0, none⟩) M ∧ (((w1.alloc (.cells #[.string (bs r.p), .int .i64 r.id, .int .i64 r.kind, .int .i64 r.mode, .int .i64 0, .int .i64 0, .int .i64 0, .string ⟨#[]⟩, .string ⟨#[]⟩, .string ⟨#[]⟩, .slice none 0 0, .int .i64 r.size, .bool r.made] 43)).alloc (.cells #[.slice ad i cap, .slice (some ⟨w1.heap.size, 0, none⟩) 1 1, .slice (lowAt ad cap j) (n - j) (cap - j)] 24)).drew).heap.size ≤ gd ∧ M.length ≤ c ∧ Below (((w1.alloc (.cells #[.string (bs r.p), .int .i64 r.id, .int .i64 r.kind, .int .i64 r.mode, .int .i64 0, .int .i64 0, .int .i64 0, .string ⟨#[]⟩, .string ⟨#[]⟩, .string ⟨#[]⟩, .slice none 0 0, .int .i64 r.size, .bool r.made] 43)).alloc (.cells #[.slice ad i cap, .slice (some ⟨w1.heap.size, 0, none⟩) 1 1, .slice (lowAt ad cap j) (n - j) (cap - j)] 24)).drew).heap.size ((w1.alloc (.cells #[.string (bs r.p), .int .i64 r.id, .int .i64 r.kind, .int .i64 r.mode, .int .i64 0, .int .i64 0, .int .i64 0, .string ⟨#[]⟩, .string ⟨#[]⟩, .string ⟨#[]⟩, .slice none 0 0, .int .i64 r.size, .bool r.made] 43)).alloc (.cells #[.slice ad i cap, .slice (some ⟨w1.heap.size, 0, none⟩) 1 1, .slice (lowAt ad cap j) (n - j) (cap - j)] 24)).drew w') := by
      have hh := two_new' w1 (.cells #[.string (bs r.p), .int .i64 r.id, .int .i64 r.kind, .int .i64 r.mode, .int .i64 0, .int .i64 0, .int .i64 0, .string ⟨#[]⟩, .string ⟨#[]⟩, .string ⟨#[]⟩, .slice none 0 0, .int .i64 r.size, .bool r.made] 43) (.cells #[.slice ad i cap, .slice (some ⟨w1.heap.size, 0, none⟩) 1 1, .slice (lowAt ad cap j) (n - j) (cap - j)] 24)
      have sz : (((w1.alloc (.cells #[.string (bs r.p), .int .i64 r.id, .int .i64 r.kind, .int .i64 r.mode, .int .i64 0, .int .i64 0, .int .i64 0, .string ⟨#[]⟩, .string ⟨#[]⟩, .string ⟨#[]⟩, .slice none 0 0, .int .i64 r.size, .bool r.made] 43)).alloc (.cells #[.slice ad i cap, .slice (some ⟨w1.heap.size, 0, none⟩) 1 1, .slice (lowAt ad cap j) (n - j) (cap - j)] 24)).drew).heap.size = w1.heap.size + 2 := by
        show ((w1.alloc _).alloc _).heap.size = _
        rw [size_box, size_box]
      refine KC.out _ _ w1.heap.size (LA.out _ _).bel (by omega) (cells_of hh 0) (cells_of hh 1) (cells_of hh 2) (by omega) ?_
      have hr0 := kept_first (Below.refl (((w1.alloc (.cells #[.string (bs r.p), .int .i64 r.id, .int .i64 r.kind, .int .i64 r.mode, .int .i64 0, .int .i64 0, .int .i64 0, .string ⟨#[]⟩, .string ⟨#[]⟩, .string ⟨#[]⟩, .slice none 0 0, .int .i64 r.size, .bool r.made] 43)).alloc (.cells #[.slice ad i cap, .slice (some ⟨w1.heap.size, 0, none⟩) 1 1, .slice (lowAt ad cap j) (n - j) (cap - j)] 24))).heap.size ((w1.alloc (.cells #[.string (bs r.p), .int .i64 r.id, .int .i64 r.kind, .int .i64 r.mode, .int .i64 0, .int .i64 0, .int .i64 0, .string ⟨#[]⟩, .string ⟨#[]⟩, .string ⟨#[]⟩, .slice none 0 0, .int .i64 r.size, .bool r.made] 43)).alloc (.cells #[.slice ad i cap, .slice (some ⟨w1.heap.size, 0, none⟩) 1 1, .slice (lowAt ad cap j) (n - j) (cap - j)] 24)))
      intro k v hv
      rw [Nat.zero_add]
      have := cells_of hr0 k
      refine Eq.trans (show _ = _ from this) ?_
      rw [HCS.out] at hv
      simpa using hv
    clear H1 H0 b1
    have HS : Hid (∀ W, Ly w W #[.slice ad n cap, .int .i64 nx] #[.string (bs r.p), .int .i64 r.id, .int .i64 r.kind, .int .i64 r.mode, .int .i64 0, .int .i64 0, .int .i64 0, .string ⟨#[]⟩, .string ⟨#[]⟩, .string ⟨#[]⟩, .slice none 0 0, .int .i64 r.size, .bool r.made] #[.slice none 0 0, .int .i64 0] → W.cell? ⟨w.heap.size, 0, none⟩ = some (.slice ad n cap) ∧ W.cell? ⟨w.heap.size, 1, none⟩ = some (.int .i64 nx) ∧ (∀ k, W.cell? ⟨w.heap.size + 1, k, none⟩ = (#[.string (bs r.p), .int .i64 r.id, .int .i64 r.kind, .int .i64 r.mode, .int .i64 0, .int .i64 0, .int .i64 0, .string ⟨#[]⟩, .string ⟨#[]⟩, .string ⟨#[]⟩, .slice none 0 0, .int .i64 r.size, .bool r.made] : Array Value)[k]?)) := fun W h => ⟨cells_of h.tre 0, cells_of h.tre 1, cells_of h.row⟩
    have HK : Hid (∀ W p v, p.block = w.heap.size + 2 → (W.cell? ⟨w.heap.size, 0, none⟩ = some (.slice ad n cap) ∧ W.cell? ⟨w.heap.size, 1, none⟩ = some (.int .i64 nx) ∧ (∀ k, W.cell? ⟨w.heap.size + 1, k, none⟩ = (#[.string (bs r.p), .int .i64 r.id, .int .i64 r.kind, .int .i64 r.mode, .int .i64 0, .int .i64 0, .int .i64 0, .string ⟨#[]⟩, .string ⟨#[]⟩, .string ⟨#[]⟩, .slice none 0 0, .int .i64 r.size, .bool r.made] : Array Value)[k]?)) → (fun W => W.cell? ⟨w.heap.size, 0, none⟩ = some (.slice ad n cap) ∧ W.cell? ⟨w.heap.size, 1, none⟩ = some (.int .i64 nx) ∧ (∀ k, W.cell? ⟨w.heap.size + 1, k, none⟩ = (#[.string (bs r.p), .int .i64 r.id, .int .i64 r.kind, .int .i64 r.mode, .int .i64 0, .int .i64 0, .int .i64 0, .string ⟨#[]⟩, .string ⟨#[]⟩, .string ⟨#[]⟩, .slice none 0 0, .int .i64 r.size, .bool r.made] : Array Value)[k]?)) (World.setCell W p v)) := fun W p v hp h => ⟨by rw [World.cell?_setCell_far _ _ _ _ (by rw [hp]; show _ ≠ w.heap.size; omega)]; exact h.1, by rw [World.cell?_setCell_far _ _ _ _ (by rw [hp]; show _ ≠ w.heap.size; omega)]; exact h.2.1, fun k => by rw [World.cell?_setCell_far _ _ _ _ (by rw [hp]; show _ ≠ w.heap.size + 1; omega)]; exact h.2.2 k⟩
    have h3 := HS.out _ L0.drew
    have hA : Hid (∀ A, (fun W => W.cell? ⟨w.heap.size, 0, none⟩ = some (.slice ad n cap) ∧ W.cell? ⟨w.heap.size, 1, none⟩ = some (.int .i64 nx) ∧ (∀ k, W.cell? ⟨w.heap.size + 1, k, none⟩ = (#[.string (bs r.p), .int .i64 r.id, .int .i64 r.kind, .int .i64 r.mode, .int .i64 0, .int .i64 0, .int .i64 0, .string ⟨#[]⟩, .string ⟨#[]⟩, .string ⟨#[]⟩, .slice none 0 0, .int .i64 r.size, .bool r.made] : Array Value)[k]?)) (w1.alloc A).drew) := fun A => HS.out _ (L0.next (below_box w1 A)).drew
    have hB : Hid (∀ A B, (fun W => W.cell? ⟨w.heap.size, 0, none⟩ = some (.slice ad n cap) ∧ W.cell? ⟨w.heap.size, 1, none⟩ = some (.int .i64 nx) ∧ (∀ k, W.cell? ⟨w.heap.size + 1, k, none⟩ = (#[.string (bs r.p), .int .i64 r.id, .int .i64 r.kind, .int .i64 r.mode, .int .i64 0, .int .i64 0, .int .i64 0, .string ⟨#[]⟩, .string ⟨#[]⟩, .string ⟨#[]⟩, .slice none 0 0, .int .i64 r.size, .bool r.made] : Array Value)[k]?)) ((w1.alloc A).alloc B).drew) := fun A B => HS.out _ (LA.out A B)
    clear c0 c1 c2 c3 c4 f3 L0
    go_region_held3 (fun W => W.cell? ⟨w.heap.size, 0, none⟩ = some (.slice ad n cap) ∧ W.cell? ⟨w.heap.size, 1, none⟩ = some (.int .i64 nx) ∧ (∀ k, W.cell? ⟨w.heap.size + 1, k, none⟩ = (#[.string (bs r.p), .int .i64 r.id, .int .i64 r.kind, .int .i64 r.mode, .int .i64 0, .int .i64 0, .int .i64 0, .string ⟨#[]⟩, .string ⟨#[]⟩, .string ⟨#[]⟩, .slice none 0 0, .int .i64 r.size, .bool r.made] : Array Value)[k]?)) (first | assumption | exact h3 | exact hA.out _ | exact hB.out _ _ | exact HK.out _ _ _ rfl (HK.out _ _ _ rfl h4) | exact HK.out _ _ _ rfl h4) ((go_at_call 62; refine KC1.out.mono ?_; rintro e w4 ⟨gd, c, rfl, R4, G4, C4, b4⟩; have L4 := (LA.out _ _).next b4; have h4 := HS.out _ L4; have d3 := cells_of L4.res 0; have d4 := cells_of L4.res 1; have g3 := froz_of L4.res))
    have hg2 : gd ≠ w.heap.size + 2 := by
      have h1 : ((w1.alloc (.cells #[.string (bs r.p), .int .i64 r.id, .int .i64 r.kind, .int .i64 r.mode, .int .i64 0, .int .i64 0, .int .i64 0, .string ⟨#[]⟩, .string ⟨#[]⟩, .string ⟨#[]⟩, .slice none 0 0, .int .i64 r.size, .bool r.made] 43)).alloc (.cells #[.slice ad i cap, .slice (some ⟨w1.heap.size, 0, none⟩) 1 1, .slice (lowAt ad cap j) (n - j) (cap - j)] 24)).heap.size ≤ gd := G4
      rw [size_box, size_box] at h1
      omega
    have hg3 : w.heap.size ≤ gd := by
      have h1 : ((w1.alloc (.cells #[.string (bs r.p), .int .i64 r.id, .int .i64 r.kind, .int .i64 r.mode, .int .i64 0, .int .i64 0, .int .i64 0, .string ⟨#[]⟩, .string ⟨#[]⟩, .string ⟨#[]⟩, .slice none 0 0, .int .i64 r.size, .bool r.made] 43)).alloc (.cells #[.slice ad i cap, .slice (some ⟨w1.heap.size, 0, none⟩) 1 1, .slice (lowAt ad cap j) (n - j) (cap - j)] 24)).heap.size ≤ gd := G4
      rw [size_box, size_box] at h1
      omega
    have e2 := two_set L4.res (.slice (some ⟨gd, 0, none⟩) M.length c) (.int .i64 nx)
    have R5 := R4.far (gd := gd) rfl (w.heap.size + 2) hg2 (.slice (some ⟨gd, 0, none⟩) M.length c) (.int .i64 nx)
    have b5 : Below w.heap.size w ((w4.setCell ⟨w.heap.size + 2, 0, none⟩ (.slice (some ⟨gd, 0, none⟩) M.length c)).setCell ⟨w.heap.size + 2, 1, none⟩ (.int .i64 nx)) := (L4.bel.setCell (by show _ ≤ w.heap.size + 2; omega) _).setCell (by show _ ≤ w.heap.size + 2; omega) _
    go_wp2_with fail
    exact bodyPost_ret (results_cell_row rfl _ _ (w.heap.size + 2) 26 _ (0, 0) _ rfl e2 Tryz.underlying26 rfl (by kernel_rfl)) rfl ⟨gd, c, rfl, R5, hg3, C4, b5⟩

theorem lay_w (ad : Option Addr) (cap : Nat) (nx : Int) (L : List Rw) (r : Rw) (w : World) (hs : Srt L) (hr : Rs w ad L) (hl : L.length ≤ 1000000) (hcap : L.length ≤ cap) (hnil : ad = none → cap = 0) (hp : ∀ r ∈ L, r.p.length ≤ 4611686018427387903) (hsl : r.p.length ≤ 4611686018427387903) :
    Calls Tryz.prog 48 #[.agg #[.slice ad L.length cap, .int .i64 nx], .agg r.cs.toArray] w fun e w' => ∃ gd c, e = .returned (.agg #[.slice (some ⟨gd, 0, none⟩) (putL L r).length c, .int .i64 nx]) ∧ Rs w' (some ⟨gd, 0, none⟩) (putL L r) ∧ w.heap.size ≤ gd ∧ (putL L r).length ≤ c ∧ Below w.heap.size w w' := by
  have hix := ix_le L r.p
  obtain ⟨j, hj, hj2⟩ : ∃ j, j = (if fd L r.p then ix L r.p + 1 else ix L r.p) ∧ j ≤ L.length := by
    refine ⟨_, rfl, ?_⟩
    cases hf : fd L r.p with
    | false => simpa using hix
    | true =>
      obtain ⟨q, hq, _⟩ := fd_some hf
      have := (List.getElem?_eq_some_iff.1 hq).1
      simp; omega
  have hP : putL L r = L.take (ix L r.p) ++ [r] ++ L.drop j := by
    unfold putL
    rw [hj]
    cases fd L r.p <;> simp
  have hlt : (L.take (ix L r.p)).length = ix L r.p := by rw [List.length_take]; omega
  have hld : (L.drop j).length = L.length - j := List.length_drop
  refine lay_core (fd L r.p) ad cap L.length (ix L r.p) j nx r w hj hj2 hl hcap (fun W hb => find_w ad cap nx L r.p W hs (hr.below hb) hl hp hsl) (putL L r) ?_
  intro W g gr hb hg d1 d2 d3 hgr hrow
  have hrW := hr.below hb
  have := concat_w g ad (some ⟨gr, 0, none⟩) (lowAt ad cap j) cap 1 (cap - j) (L.take (ix L r.p)) [r] (L.drop j) W (by rw [hlt]; exact d1) d2 (by rw [hld]; exact d3) (hrW.take _) (.inr ⟨gr, 0, rfl, hgr, by rw [flat_cons, flat_nil, List.append_nil]; exact hrow⟩) (hrW.drop cap j hcap) hnil (fun h => by cases h) (fun h => by have := hnil (low_none h); omega) (by simp; omega) (by rw [hlt, hld]; simp; omega)
  rw [hP]
  exact this

end Go.Proofs.YtpgiibpalmhhlaaGreatDoor

namespace Go.Proofs.YtpgiibpalmhhlaaGreatDoor
open Go.RowKit
open Go.Lib hiding intOf
set_option linter.unusedVariables false
set_option linter.unusedSimpArgs false

set_option maxRecDepth 20000 in
set_option maxHeartbeats 4000000 in
theorem put_core (ad : Option Addr) (cap n : Nat) (nx : Int) (r : Rw) (w : World) (M : List Rw)
    (KL : Hid (∀ W, Below w.heap.size w W → Calls Tryz.prog 48 #[.agg #[.slice ad n cap, .int .i64 nx], .agg #[.string (bs r.p), .int .i64 r.id, .int .i64 r.kind, .int .i64 r.mode, .int .i64 0, .int .i64 0, .int .i64 0, .string ⟨#[]⟩, .string ⟨#[]⟩, .string ⟨#[]⟩, .slice none 0 0, .int .i64 r.size, .bool r.made]] W fun e w' => ∃ gd c, e = .returned (.agg #[.slice (some ⟨gd, 0, none⟩) M.length c, .int .i64 nx]) ∧ Rs w' (some ⟨gd, 0, none⟩) M ∧ W.heap.size ≤ gd ∧ M.length ≤ c ∧ Below W.heap.size W w')) :
    Calls Tryz.prog 44 #[.agg #[.slice ad n cap, .int .i64 nx], .agg r.cs.toArray] w fun e w' => ∃ gd c, e = .returned (.agg #[.slice (some ⟨gd, 0, none⟩) M.length c, .int .i64 nx]) ∧ Rs w' (some ⟨gd, 0, none⟩) M ∧ w.heap.size ≤ gd ∧ M.length ≤ c ∧ Below w.heap.size w w' := by
  have H0 := Ly.mk0 w #[.slice ad n cap, .int .i64 nx] #[.string (bs r.p), .int .i64 r.id, .int .i64 r.kind, .int .i64 r.mode, .int .i64 0, .int .i64 0, .int .i64 0, .string ⟨#[]⟩, .string ⟨#[]⟩, .string ⟨#[]⟩, .slice none 0 0, .int .i64 r.size, .bool r.made] #[.slice none 0 0, .int .i64 0]
  have KO : Hid (∀ W, Calls Tryz.prog 40 #[.agg #[.string (bs r.p), .int .i64 r.id, .int .i64 r.kind, .int .i64 r.mode, .int .i64 0, .int .i64 0, .int .i64 0, .string ⟨#[]⟩, .string ⟨#[]⟩, .string ⟨#[]⟩, .slice none 0 0, .int .i64 r.size, .bool r.made]] W fun e w' => e = .returned (.agg #[.string (bs r.p), .int .i64 r.id, .int .i64 r.kind, .int .i64 r.mode, .int .i64 0, .int .i64 0, .int .i64 0, .string ⟨#[]⟩, .string ⟨#[]⟩, .string ⟨#[]⟩, .slice none 0 0, .int .i64 r.size, .bool r.made]) ∧ Below W.heap.size W w') := fun W => own_w r W
  unfold Rw.cs
  have HS : Hid (∀ W, Ly w W #[.slice ad n cap, .int .i64 nx] #[.string (bs r.p), .int .i64 r.id, .int .i64 r.kind, .int .i64 r.mode, .int .i64 0, .int .i64 0, .int .i64 0, .string ⟨#[]⟩, .string ⟨#[]⟩, .string ⟨#[]⟩, .slice none 0 0, .int .i64 r.size, .bool r.made] #[.slice none 0 0, .int .i64 0] → W.cell? ⟨w.heap.size, 0, none⟩ = some (.slice ad n cap) ∧ W.cell? ⟨w.heap.size, 1, none⟩ = some (.int .i64 nx) ∧ (∀ k, W.cell? ⟨w.heap.size + 1, k, none⟩ = (#[.string (bs r.p), .int .i64 r.id, .int .i64 r.kind, .int .i64 r.mode, .int .i64 0, .int .i64 0, .int .i64 0, .string ⟨#[]⟩, .string ⟨#[]⟩, .string ⟨#[]⟩, .slice none 0 0, .int .i64 r.size, .bool r.made] : Array Value)[k]?)) := fun W h => ⟨cells_of h.tre 0, cells_of h.tre 1, cells_of h.row⟩
  have HK : Hid (∀ W p v, p.block = w.heap.size + 2 → (W.cell? ⟨w.heap.size, 0, none⟩ = some (.slice ad n cap) ∧ W.cell? ⟨w.heap.size, 1, none⟩ = some (.int .i64 nx) ∧ (∀ k, W.cell? ⟨w.heap.size + 1, k, none⟩ = (#[.string (bs r.p), .int .i64 r.id, .int .i64 r.kind, .int .i64 r.mode, .int .i64 0, .int .i64 0, .int .i64 0, .string ⟨#[]⟩, .string ⟨#[]⟩, .string ⟨#[]⟩, .slice none 0 0, .int .i64 r.size, .bool r.made] : Array Value)[k]?)) → (fun W => W.cell? ⟨w.heap.size, 0, none⟩ = some (.slice ad n cap) ∧ W.cell? ⟨w.heap.size, 1, none⟩ = some (.int .i64 nx) ∧ (∀ k, W.cell? ⟨w.heap.size + 1, k, none⟩ = (#[.string (bs r.p), .int .i64 r.id, .int .i64 r.kind, .int .i64 r.mode, .int .i64 0, .int .i64 0, .int .i64 0, .string ⟨#[]⟩, .string ⟨#[]⟩, .string ⟨#[]⟩, .slice none 0 0, .int .i64 r.size, .bool r.made] : Array Value)[k]?)) (World.setCell W p v)) := fun W p v hp h => ⟨by rw [World.cell?_setCell_far _ _ _ _ (by rw [hp]; show _ ≠ w.heap.size; omega)]; exact h.1, by rw [World.cell?_setCell_far _ _ _ _ (by rw [hp]; show _ ≠ w.heap.size; omega)]; exact h.2.1, fun k => by rw [World.cell?_setCell_far _ _ _ _ (by rw [hp]; show _ ≠ w.heap.size + 1; omega)]; exact h.2.2 k⟩
  go_enter Tryz.func44, Tryz.ntmps44
  go_wp2_with fail
  generalize ((w.alloc _).alloc _).alloc _ = w1 at *
  have L1 := H0.drew
  have h3 := HS.out _ L1
  have lt0 := H0.lt
  go_region_held3 (fun W => W.cell? ⟨w.heap.size, 0, none⟩ = some (.slice ad n cap) ∧ W.cell? ⟨w.heap.size, 1, none⟩ = some (.int .i64 nx) ∧ (∀ k, W.cell? ⟨w.heap.size + 1, k, none⟩ = (#[.string (bs r.p), .int .i64 r.id, .int .i64 r.kind, .int .i64 r.mode, .int .i64 0, .int .i64 0, .int .i64 0, .string ⟨#[]⟩, .string ⟨#[]⟩, .string ⟨#[]⟩, .slice none 0 0, .int .i64 r.size, .bool r.made] : Array Value)[k]?)) (first | assumption | exact h3 | exact HK.out _ _ _ rfl (HK.out _ _ _ rfl h5) | exact HK.out _ _ _ rfl h5) ((first
    | (go_at_call 40; refine (KO.out _).mono ?_; rintro e w4 ⟨rfl, b4⟩; have L4 := L1.next b4; have h4 := HS.out _ L4)
    | (go_at_call 48; refine (KL.out _ L4.bel).mono ?_; rintro e w5 ⟨gd, c, rfl, R5, G5, C5, b5⟩; have L5 := L4.next b5; have h5 := HS.out _ L5; have d3 := cells_of L5.res 0; have d4 := cells_of L5.res 1; have g3 := froz_of L5.res)))
  have hg2 : gd ≠ w.heap.size + 2 := by
    have := L4.lt
    omega
  have hg3 : w.heap.size ≤ gd := by
    have := L4.lt
    omega
  have e2 := two_set L5.res (.slice (some ⟨gd, 0, none⟩) M.length c) (.int .i64 nx)
  have R6 := R5.far (gd := gd) rfl (w.heap.size + 2) hg2 (.slice (some ⟨gd, 0, none⟩) M.length c) (.int .i64 nx)
  have b6 : Below w.heap.size w ((w5.setCell ⟨w.heap.size + 2, 0, none⟩ (.slice (some ⟨gd, 0, none⟩) M.length c)).setCell ⟨w.heap.size + 2, 1, none⟩ (.int .i64 nx)) := (L5.bel.setCell (by show _ ≤ w.heap.size + 2; omega) _).setCell (by show _ ≤ w.heap.size + 2; omega) _
  go_wp2_with fail
  exact bodyPost_ret (results_cell_row rfl _ _ (w.heap.size + 2) 26 _ (0, 0) _ rfl e2 Tryz.underlying26 rfl (by kernel_rfl)) rfl ⟨gd, c, rfl, R6, hg3, C5, b6⟩

end Go.Proofs.YtpgiibpalmhhlaaGreatDoor

namespace Go.Proofs.YtpgiibpalmhhlaaGreatDoor
open Go.RowKit
open Go.Lib hiding intOf
set_option linter.unusedVariables false
set_option linter.unusedSimpArgs false

theorem put_w (ad : Option Addr) (cap : Nat) (nx : Int) (L : List Rw) (r : Rw) (w : World) (hs : Srt L) (hr : Rs w ad L) (hl : L.length ≤ 1000000) (hcap : L.length ≤ cap) (hnil : ad = none → cap = 0) (hp : ∀ r ∈ L, r.p.length ≤ 4611686018427387903) (hsl : r.p.length ≤ 4611686018427387903) :
    Calls Tryz.prog 44 #[.agg #[.slice ad L.length cap, .int .i64 nx], .agg r.cs.toArray] w fun e w' => ∃ gd c, e = .returned (.agg #[.slice (some ⟨gd, 0, none⟩) (putL L r).length c, .int .i64 nx]) ∧ Rs w' (some ⟨gd, 0, none⟩) (putL L r) ∧ w.heap.size ≤ gd ∧ (putL L r).length ≤ c ∧ Below w.heap.size w w' :=
  put_core ad cap L.length nx r w (putL L r) fun W hb => lay_w ad cap nx L r W hs (hr.below hb) hl hcap hnil hp hsl

set_option maxHeartbeats 1000000 in
theorem clone_nil (c : Nat) (w : World) :
    Calls Tryz.prog 30 #[.slice none 0 c] w fun e w' => e = .returned (.slice none 0 0) ∧ w' = w := by
  have hq := fun W => Lib.run_eql_slice_nil (P := Tryz.prog) W 24 43 none 0 c 0 0 Tryz.underlying24
  go_enter Tryz.func30, Tryz.ntmps30
  go_wp2_with fail
  go_ret
  exact ⟨rfl, rfl⟩

set_option maxRecDepth 20000 in
set_option maxHeartbeats 1000000 in
theorem clone_some (a : Addr) (c : Nat) (L : List Rw) (w : World) (hr : Rs w (some a) L) (hl : L.length ≤ 1000000) :
    Calls Tryz.prog 30 #[.slice (some a) L.length c] w fun e w' => ∃ gd c', e = .returned (.slice (some ⟨gd, 0, none⟩) L.length c') ∧ Rs w' (some ⟨gd, 0, none⟩) L ∧ w.heap.size ≤ gd ∧ L.length ≤ c' ∧ Below w.heap.size w w' := by
  have hq := fun W => Lib.run_eql_slice_nil (P := Tryz.prog) W 24 43 (some a) L.length c 0 0 Tryz.underlying24
  have HR : Hid (Rs w (some a) L) := hr
  have O0 : Hid (Ow (w.alloc (.cells #[] 43)) w.heap.size (.slice (some ⟨w.heap.size, 0, none⟩) 0 0) []) := ⟨rfl, .inr ⟨w.heap.size, 0, #[], rfl, Nat.le_refl _, heap_alloc_new w _, Nat.le_refl _, by unfold maxLen; omega, rfl, rfl⟩⟩
  have hl2 : Hid (0 + L.length ≤ 3000000) := (by show _ ≤ _; omega)
  have hb := below_box w (.cells #[] 43)
  clear hr
  generalize hn : L.length = n at *
  have HN : Hid (L.length = n) := hn
  clear hn
  go_enter Tryz.func30, Tryz.ntmps30
  go_wp2_with (at_builtin; refine wpList_rows rfl _ _ rfl w.heap.size w.heap.size 0 0 [] rfl rfl O0.out (by rw [size_box]; omega) (some a) n c L rfl HN.out (HR.out.below hb) (fun h => by cases h) hl2.out ?_; intro g1 e1 v1 O1 b1; simp only [List.nil_append, Nat.zero_add] at O1 ⊢)
  go_ret
  have hge : w.heap.size ≤ g1 ∧ n ≤ e1 := by
    rcases O1.2 with ⟨q1, _⟩ | ⟨g', cp, cur, q1, q2, q3, q4, _⟩
    · cases q1
    · simp at q1
      have := HN.out
      omega
  exact ⟨g1, e1, rfl, (Ow.rs O1).2, hge.1, hge.2, hb.trans b1⟩

end Go.Proofs.YtpgiibpalmhhlaaGreatDoor

namespace Go.Proofs
open Go.Shelf
def Tryz.revR_ren : Go.Shelf.Ren := ⟨fun | 35 => 61 | n => n, fun | 22 => 24 | 23 => 43 | n => n, fun | n => n⟩
theorem Tryz.revR : Go.Proofs.SlLaysE0.n35 Tryz.prog Tryz.revR_ren := {
  mixed := by kernel_rfl
  f35 := ⟨"slices.Reverse[[]pannier/tree.Row,pannier/tree.Row]", of_decide_eq_true (by kernel_rfl), Tryz.func61.trans (congrArg some (by kernel_rfl))⟩
  t0 := Tryz.underlying0
  a0 := Tryz.isAgg0
  z0 := Tryz.sizeOf0
  v0 := Tryz.zeroValue0
  t3 := Tryz.underlying3
  a3 := Tryz.isAgg3
  z3 := Tryz.sizeOf3
  v3 := Tryz.zeroValue3
  t4 := Tryz.underlying4
  a4 := Tryz.isAgg4
  z4 := Tryz.sizeOf4
  v4 := Tryz.zeroValue4
  t22 := Tryz.underlying24
  a22 := Tryz.isAgg24
  z22 := Tryz.sizeOf24
  v22 := Tryz.zeroValue24 }
end Go.Proofs
namespace Go.Proofs.YtpgiibpalmhhlaaGreatDoor
open Go.RowKit
open Go.Lib hiding intOf
set_option linter.unusedVariables false
set_option linter.unusedSimpArgs false

instance : Inhabited Rw := ⟨zr⟩

/-- rows in a block from its beginning on, that may be written -/
def Hr (w : World) (g : Nat) (L : List Rw) : Prop := ∀ (j : Nat) (v : Value), (flat L)[j]? = some v → w.cell? ⟨g, j, none⟩ = some v ∧ w.frozen? ⟨g, j, none⟩ = false

theorem flat_at (L : List Rw) (t : Nat) (h : t < L.length * 13) : (flat L)[t]? = some ((L.toArray[t / 13]!).cs[t % 13]!) := by
  have h1 : t / 13 < L.length := by omega
  have h2 : t % 13 < 13 := Nat.mod_lt _ (by omega)
  have e1 : L.toArray[t / 13]! = L[t / 13] := by rw [getElem!_pos L.toArray (t / 13) (by simpa using h1)]; simp
  have e2 : t = (t / 13) * 13 + t % 13 := by omega
  rw [e1]
  conv => lhs; rw [e2]
  have h3 : t % 13 < (L[t / 13]).cs.length := by rw [Rw.cs_length]; exact h2
  refine flat_get L (t / 13) (t % 13) L[t / 13] _ (List.getElem?_eq_getElem h1) ?_
  rw [List.getElem?_eq_getElem h3]
  exact congrArg some (getElem!_pos (L[t / 13]).cs (t % 13) h3).symm

theorem Hr.holds {w : World} {g : Nat} {L : List Rw} (h : Hr w g L) : Go.Sort.HoldsK Rw.cs 13 w g 0 L.toArray := by
  intro j hj
  rw [Go.Sort.size_flatK] at hj
  rw [Nat.zero_add, Go.Sort.get_flatK _ _ _ _ hj]
  exact h j _ (flat_at L j (by simpa using hj))

theorem Hr.of {w : World} {g : Nat} {L : List Rw} (h : Go.Sort.HoldsK Rw.cs 13 w g 0 L.toArray) : Hr w g L := by
  intro j v hv
  have hj : j < L.length * 13 := by have := (List.getElem?_eq_some_iff.1 hv).1; rwa [flat_length] at this
  have := h j (by rw [Go.Sort.size_flatK]; simpa using hj)
  rw [Nat.zero_add, Go.Sort.get_flatK _ _ _ _ (by simpa using hj)] at this
  rw [flat_at L j hj] at hv
  cases hv
  exact this

theorem reverse_w (g cap : Nat) (L : List Rw) (w : World) (h : Hr w g L) (hl : L.length ≤ 1000000) :
    Calls Tryz.prog 61 #[.slice (some ⟨g, 0, none⟩) L.length cap] w fun e w' => e = .returned (.tuple #[]) ∧ Hr w' g L.reverse ∧ w.grownBy w' (some g) := by
  have := AnyQ.slices_Reverse Tryz.revR 13 Tryz.isAgg43 Tryz.sizeOf43 Rw.cs (fun _ => rfl) (fun r v hv => cs_one r v hv) g 0 cap L.toArray w h.holds (by simp; omega)
  have this2 : Calls Tryz.prog 61 #[.slice (some ⟨g, 0, none⟩) L.toArray.size cap] w fun e w' => e = .returned (.tuple #[]) ∧ ∃ n, w' = Go.Sort.putRowK Rw.cs 13 (Go.Sort.ahead w n) g 0 L.toArray.reverse := this
  rw [List.size_toArray, List.reverse_toArray] at this2
  refine this2.mono ?_
  rintro e w' ⟨rfl, n, rfl⟩
  refine ⟨rfl, Hr.of ?_, ?_⟩
  · exact Go.Sort.holdsK_putRowK Rw.cs 13 (Go.Sort.ahead w n) g 0 L.toArray L.reverse.toArray (Go.Sort.holdsK_ahead Rw.cs 13 w n g 0 L.toArray h.holds) (by simp)
  · refine ⟨rfl, rfl, rfl, ?_, fun k hk hne => ?_⟩
    · simp [Go.Sort.putRowK, Go.Sort.ahead]
    · show (Go.Sort.mapBlock _ g _).heap[k]? = _
      unfold Go.Sort.mapBlock
      have : g ≠ k := fun e => hne (by rw [e])
      simp [Go.Sort.ahead, Array.getElem?_modify, this]

end Go.Proofs.YtpgiibpalmhhlaaGreatDoor

