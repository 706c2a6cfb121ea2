/-
  Rows in order, and where a path stands in them; contracts: slices.BinarySearchFunc, find.
-/
import Derived.Test.YtojnniacmmcddaaDoorT0
import Derived.Deep.Cut
namespace Go.Proofs.YtojnniacmmcddaaDoor
open Go.RowKit
open Go.Lib hiding intOf
set_option linter.unusedVariables false
set_option linter.unusedSimpArgs false

theorem cmpL_lt_trans (a b c : List UInt8) (h1 : cmpL a b < 0) (h2 : cmpL b c < 0) : cmpL a c < 0 := by
  have h3 := cmpL_trans a b c (by omega) (by omega)
  by_cases h : cmpL a c = 0
  · have := (cmpL_zero a c).1 h
    subst this
    have := cmpL_swap a b
    omega
  · omega

/-- rows in the order of their paths -/
def Srt (L : List Rw) : Prop := L.Pairwise fun a b => cmpL a.p b.p < 0

/-- how many rows stand ahead of a path -/
def ix (L : List Rw) (s : List UInt8) : Nat := (L.takeWhile fun r => decide (cmpL r.p s < 0)).length
/-- does a row of that path stand there? -/
def fd (L : List Rw) (s : List UInt8) : Bool := match L[ix L s]? with | some r => decide (cmpL r.p s = 0) | none => false

theorem ix_le (L : List Rw) (s : List UInt8) : ix L s ≤ L.length := by
  unfold ix
  exact (List.takeWhile_sublist _).length_le

theorem ix_cons (r : Rw) (L : List Rw) (s : List UInt8) : ix (r :: L) s = if cmpL r.p s < 0 then ix L s + 1 else 0 := by
  unfold ix
  rw [List.takeWhile_cons]
  by_cases c : cmpL r.p s < 0
  · simp [c]
  · simp [c]

theorem ix_iff (L : List Rw) (s : List UInt8) (h : Srt L) (i : Nat) (r : Rw) (hi : L[i]? = some r) : cmpL r.p s < 0 ↔ i < ix L s := by
  induction L generalizing i with
  | nil => simp at hi
  | cons a L ih =>
    rw [ix_cons]
    obtain ⟨h1, h2⟩ := List.pairwise_cons.1 h
    cases i with
    | zero =>
      simp at hi; subst hi
      by_cases c : cmpL a.p s < 0
      · simp [c]
      · simp [c]
    | succ i =>
      have hi' : L[i]? = some r := by simpa using hi
      by_cases c : cmpL a.p s < 0
      · rw [if_pos c, ih h2 i hi']; omega
      · rw [if_neg c]
        constructor
        · intro hr
          have := h1 r (List.mem_of_getElem? hi')
          exact absurd (cmpL_lt_trans a.p r.p s this hr) c
        · intro hr; omega

set_option maxRecDepth 20000 in
set_option maxHeartbeats 1000000 in
theorem search_w (ad : Option Addr) (cap : Nat) (L : List Rw) (s : List UInt8) (w : World) (hs : Srt L) (hr : Rs w ad L) (hl : L.length ≤ 1000000) (hp : ∀ r ∈ L, r.p.length ≤ 4611686018427387903) (hsl : s.length ≤ 4611686018427387903) :
    Calls Tryd.prog 66 #[.slice ad L.length cap, .string (bs s), .func (.func 67) #[] #[]] w fun e w' => e = .returned (.tuple #[.int .i64 (ix L s : Int), .bool (fd L s)]) ∧ Below w.heap.size w w' := by
  have KK : Hid (∀ (W : World) (i : Nat) (r : Rw), L[i]? = some r → Calls Tryd.prog 67 #[.agg r.cs.toArray, .string (bs s)] W fun e w' => e = .returned (.int .i64 (cmpL r.p s)) ∧ Below W.heap.size W w') := fun W i r hi => key_w r s W (hp r (List.mem_of_getElem? hi)) hsl
  have KI : Hid (∀ (i : Nat) (r : Rw), L[i]? = some r → (cmpL r.p s < 0 ↔ i < ix L s)) := fun i r hi => ix_iff L s hs i r hi
  have HF : Hid (fd L s = match L[ix L s]? with | some r => decide (cmpL r.p s = 0) | none => false) := rfl
  have hix := ix_le L s
  have HR : Hid (Rs w ad L) := hr
  clear hs hp hsl hr
  generalize ix L s = X at *
  generalize fd L s = F at *
  generalize hLn : L.length = n at *
  have HL : Hid (L.length = n) := hLn
  clear hLn
  go_enter Tryd.func66, Tryd.ntmps66
  go_wp2_with fail
  go_loopw [9, 10] (fun x y wr => ∃ (i j : Nat), x = .int .i64 (i : Int) ∧ y = .int .i64 (j : Int) ∧ i ≤ X ∧ X ≤ j ∧ j ≤ n ∧ Below w.heap.size w wr) (fun x y _ => (intOf y).toNat - (intOf x).toNat)
  case atStart => exact ⟨0, n, rfl, rfl, by omega, hix, Nat.le_refl _, Below.refl _ _⟩
  case round =>
    obtain ⟨i, j, rfl, rfl, hi, hj, hjn, bb⟩ := hrel
    by_cases hij : i < j
    · have e1 : wrap64 ((i : Int) + (j : Int)) = (i : Int) + (j : Int) := by unfold wrap64; omega
      have e2 : IntKind.u64.wrap ((i : Int) + (j : Int)) = (i : Int) + (j : Int) := by rw [IntKind.wrap_u64]; omega
      go_upto_region 5 with fail
      obtain ⟨h, hh⟩ : ∃ h : Nat, ((i : Int) + (j : Int)) / 2 = (h : Int) := ⟨(i + j) / 2, by omega⟩
      have hlo : i ≤ h ∧ h < j := by omega
      rw [hh]
      clear hh e1 e2
      obtain ⟨r, hr⟩ : ∃ r, L[h]? = some r := ⟨_, List.getElem?_eq_getElem (by have := HL.out; omega)⟩
      obtain ⟨b, o, rfl, hb1, hb2⟩ := (HR.out.below bb).at hr
      have HB : Hid (wr.rangeAt b (o + h * 13) r.cs) := hb2
      have hq := KI.out h r hr
      have KK1 : Hid (∀ W, Calls Tryd.prog 67 #[.agg r.cs.toArray, .string (bs s)] W fun e w' => e = .returned (.int .i64 (cmpL r.p s)) ∧ Below W.heap.size W w') := fun W => KK.out W h r hr
      have h1 : (0 : Int) ≤ (h : Int) := by omega
      have h2 : (h : Int) < (n : Int) := by omega
      have hcs : Hid (r.cs.length = 13) := rfl
      clear hb2 hr
      generalize cmpL r.p s = z at *
      generalize r.cs = C at *
      have w1 : wrap64 ((h : Int) + 1) = (h : Int) + 1 := by unfold wrap64; omega
      by_cases hz : z < 0
      · have hX := hq.1 hz
        clear hq
        go_wp2_with (first
          | (refine wpList_load_mid rfl 40 _ rfl b (o + h * 13) rfl C _ HB.out Tryd.underlying40 rfl (by rw [hcs.out]; kernel_rfl) ?_)
          | (go_at_call 67; refine (KK1.out _).mono ?_; rintro e w2 ⟨rfl, b2⟩))
        go_roundw
        case rel => exact ⟨h + 1, j, by simp, rfl, by omega, hj, hjn, bb.trans (b2.mono bb.size)⟩
        case measure => simp [intOf]; omega
      · have hX : ¬ h < X := fun q => hz (hq.2 q)
        clear hq
        go_wp2_with (first
          | (refine wpList_load_mid rfl 40 _ rfl b (o + h * 13) rfl C _ HB.out Tryd.underlying40 rfl (by rw [hcs.out]; kernel_rfl) ?_)
          | (go_at_call 67; refine (KK1.out _).mono ?_; rintro e w2 ⟨rfl, b2⟩))
        go_roundw
        case rel => exact ⟨i, h, rfl, rfl, hi, by omega, by omega, bb.trans (b2.mono bb.size)⟩
        case measure => simp [intOf]; omega
    · obtain rfl : i = X := by omega
      by_cases hn : i < n
      · obtain ⟨r, hr⟩ : ∃ r, L[i]? = some r := ⟨_, List.getElem?_eq_getElem (by have := HL.out; omega)⟩
        obtain ⟨b, o, rfl, hb1, hb2⟩ := (HR.out.below bb).at hr
        have HB : Hid (wr.rangeAt b (o + i * 13) r.cs) := hb2
        have KK1 : Hid (∀ W, Calls Tryd.prog 67 #[.agg r.cs.toArray, .string (bs s)] W fun e w' => e = .returned (.int .i64 (cmpL r.p s)) ∧ Below W.heap.size W w') := fun W => KK.out W i r hr
        have h1 : (0 : Int) ≤ (i : Int) := by omega
        have h2 : (i : Int) < (n : Int) := by omega
        have HF2 : Hid (F = decide (cmpL r.p s = 0)) := (by show _ = _; rw [HF.out, hr])
        have c0 : wr.cell? ⟨b, o + i * 13, none⟩ = some (.string (bs r.p)) := hb2 0 _ rfl
        have c1 : wr.cell? ⟨b, o + i * 13 + 1, none⟩ = some (.int .i64 r.id) := hb2 1 _ rfl
        have c2 : wr.cell? ⟨b, o + i * 13 + 2, none⟩ = some (.int .i64 r.kind) := hb2 2 _ rfl
        have c3 : wr.cell? ⟨b, o + i * 13 + 3, none⟩ = some (.int .i64 r.mode) := hb2 3 _ rfl
        have c4 : wr.cell? ⟨b, o + i * 13 + 4, none⟩ = some (.int .i64 0) := hb2 4 _ rfl
        have c5 : wr.cell? ⟨b, o + i * 13 + 5, none⟩ = some (.int .i64 0) := hb2 5 _ rfl
        have c6 : wr.cell? ⟨b, o + i * 13 + 6, none⟩ = some (.int .i64 0) := hb2 6 _ rfl
        have c7 : wr.cell? ⟨b, o + i * 13 + 7, none⟩ = some (.string ⟨#[]⟩) := hb2 7 _ rfl
        have c8 : wr.cell? ⟨b, o + i * 13 + 8, none⟩ = some (.string ⟨#[]⟩) := hb2 8 _ rfl
        have c9 : wr.cell? ⟨b, o + i * 13 + 9, none⟩ = some (.string ⟨#[]⟩) := hb2 9 _ rfl
        have c10 : wr.cell? ⟨b, o + i * 13 + 10, none⟩ = some (.slice none 0 0) := hb2 10 _ rfl
        have c11 : wr.cell? ⟨b, o + i * 13 + 11, none⟩ = some (.int .i64 r.size) := hb2 11 _ rfl
        have c12 : wr.cell? ⟨b, o + i * 13 + 12, none⟩ = some (.bool r.made) := hb2 12 _ rfl
        unfold Rw.cs at KK1
        clear hb2 hr HF HB
        generalize cmpL r.p s = z at *
        generalize bs r.p = rp at *
        go_wp2_with (go_at_call 67; refine (KK1.out _).mono ?_; rintro e w2 ⟨rfl, b2⟩)
        go_ret2
        exact ⟨by rw [HF2.out]; rfl, bb.trans (b2.mono bb.size)⟩
      · have HF2 : Hid (F = false) := (by show _ = _; rw [HF.out, List.getElem?_eq_none (by have := HL.out; omega)])
        go_wp2_with fail
        go_ret2
        exact ⟨by rw [HF2.out]; rfl, bb⟩

set_option maxHeartbeats 1000000 in
theorem find_w (ad : Option Addr) (cap : Nat) (nx : Int) (L : List Rw) (s : List UInt8) (w : World) (hs : Srt L) (hr : Rs w ad L) (hl : L.length ≤ 1000000) (hp : ∀ r ∈ L, r.p.length ≤ 4611686018427387903) (hsl : s.length ≤ 4611686018427387903) :
    Calls Tryd.prog 51 #[.agg #[.slice ad L.length cap, .int .i64 nx], .string (bs s)] w fun e w' => e = .returned (.tuple #[.int .i64 (ix L s : Int), .bool (fd L s)]) ∧ Below w.heap.size w w' := by
  have KQ : Hid (∀ W, Below w.heap.size w W → Calls Tryd.prog 66 #[.slice ad L.length cap, .string (bs s), .func (.func 67) #[] #[]] W fun e w' => e = .returned (.tuple #[.int .i64 (ix L s : Int), .bool (fd L s)]) ∧ Below W.heap.size W w') := fun W hb => search_w ad cap L s W hs (hr.below hb) hl hp hsl
  clear hs hr hl hp hsl
  go_enter Tryd.func51, Tryd.ntmps51
  go_wp2_with (go_at_call 66; refine (KQ.out _ (below_box w _)).mono ?_; rintro e w1 ⟨rfl, b1⟩)
  go_ret2
  exact ⟨rfl, (below_box w _).trans (b1.mono (by rw [size_box]; omega))⟩

end Go.Proofs.YtojnniacmmcddaaDoor
