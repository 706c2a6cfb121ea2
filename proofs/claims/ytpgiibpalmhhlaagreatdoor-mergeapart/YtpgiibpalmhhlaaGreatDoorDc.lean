/-
  The document's things in memory; contracts: Find.
-/
import Derived.Test.YtpgiibpalmhhlaaGreatDoorDa
import Derived.Deep.MidRow
namespace Go.Proofs.YtpgiibpalmhhlaaGreatDoor
open Go.RowKit
open Go.Lib hiding intOf
set_option linter.unusedVariables false
set_option linter.unusedSimpArgs false

def Td.cs (r : Td) : List Value := [.string (bs r.p), .int .i64 r.k, .int .i64 r.m, .bool r.made, .int .i64 r.id]
theorem Td.cs_length (r : Td) : r.cs.length = 5 := rfl
def flatD (L : List Td) : List Value := L.flatMap Td.cs
theorem flatD_nil : flatD [] = [] := rfl
theorem flatD_cons (r : Td) (L : List Td) : flatD (r :: L) = r.cs ++ flatD L := rfl
theorem flatD_append (A B : List Td) : flatD (A ++ B) = flatD A ++ flatD B := by simp [flatD]
theorem flatD_length (L : List Td) : (flatD L).length = L.length * 5 := by
  induction L with
  | nil => rfl
  | cons r L ih => rw [flatD_cons, List.length_append, ih, Td.cs_length, List.length_cons]; omega
theorem flatD_get (L : List Td) (i j : Nat) (r : Td) (v : Value) (h : L[i]? = some r) (hv : r.cs[j]? = some v) : (flatD L)[i * 5 + j]? = some v := by
  induction L generalizing i with
  | nil => simp at h
  | cons a L ih =>
    have hj : j < 5 := by have := (List.getElem?_eq_some_iff.1 hv).1; rwa [Td.cs_length] at this
    cases i with
    | zero =>
      simp at h; subst h
      rw [flatD_cons, List.getElem?_append_left (by rw [Td.cs_length]; omega), Nat.zero_mul, Nat.zero_add]
      exact hv
    | succ i =>
      rw [flatD_cons, List.getElem?_append_right (by rw [Td.cs_length]; omega), Td.cs_length]
      rw [show (i + 1) * 5 + j - 5 = i * 5 + j by omega]
      exact ih i (by simpa using h)
theorem csD_one (r : Td) : ∀ v ∈ r.cs, v.oneCell' = true := by
  intro v hv
  simp only [Td.cs, List.mem_cons, List.not_mem_nil, or_false] at hv
  rcases hv with rfl | rfl | rfl | rfl | rfl <;> rfl
theorem flatD_one (L : List Td) : ∀ v ∈ flatD L, v.oneCell' = true := by
  intro v hv
  obtain ⟨r, _, hr⟩ := List.mem_flatMap.1 hv
  exact csD_one r v hr

/-- things at an address -/
def Ds (w : World) (ad : Option Addr) (L : List Td) : Prop := L = [] ∨ ∃ b o, ad = some ⟨b, o, none⟩ ∧ b < w.heap.size ∧ w.rangeAt b o (flatD L)
theorem Ds.below {w w' : World} {ad : Option Addr} {L : List Td} (h : Ds w ad L) (hb : Below w.heap.size w w') : Ds w' ad L := by
  rcases h with h | ⟨b, o, h1, h2, h3⟩
  · exact .inl h
  · exact .inr ⟨b, o, h1, Nat.lt_of_lt_of_le h2 hb.size, range_below h3 hb h2⟩
theorem Ds.at {w : World} {ad : Option Addr} {L : List Td} (h : Ds w ad L) {i : Nat} {r : Td} (hi : L[i]? = some r) : ∃ b o, ad = some ⟨b, o, none⟩ ∧ b < w.heap.size ∧ w.rangeAt b (o + i * 5) r.cs := by
  rcases h with h | ⟨b, o, h1, h2, h3⟩
  · subst h; simp at hi
  · refine ⟨b, o, h1, h2, fun j v hv => ?_⟩
    rw [Nat.add_assoc]
    exact h3 _ _ (flatD_get L i j r v hi hv)

/-- the document's tree at hand -/
def Dt (w : World) (v : Value) (L : List Td) (nx : Int) : Prop := ∃ ad cap, v = .agg #[.slice ad L.length cap, .int .i64 nx] ∧ Ds w ad L ∧ L.length ≤ cap ∧ (ad = none → cap = 0)
theorem Dt.below {w w' : World} {v : Value} {L : List Td} {nx : Int} (h : Dt w v L nx) (hb : Below w.heap.size w w') : Dt w' v L nx := by
  obtain ⟨ad, cap, h1, h2, h3, h4⟩ := h
  exact ⟨ad, cap, h1, h2.below hb, h3, h4⟩
theorem Dt.nil (w : World) : Dt w (.agg #[.slice none 0 0, .int .i64 0]) [] 0 := ⟨none, 0, rfl, .inl rfl, Nat.le_refl _, fun _ => rfl⟩

theorem dx_iff {W : List Td} {s : List UInt8} {i : Nat} {x : Td} (hi : W[i]? = some x) (hle : i ≤ dx W s) : x.p = s ↔ i = dx W s := by
  obtain ⟨hl, e⟩ := List.getElem?_eq_some_iff.1 hi
  constructor
  · intro hp
    by_cases c : i < dx W s
    · have := List.not_of_lt_findIdx (xs := W) (p := fun x : Td => decide (x.p = s)) c
      simp only [e, hp, decide_true] at this
      cases this
    · omega
  · intro c
    have hw : dx W s < W.length := by omega
    have := of_decide_eq_true (List.findIdx_getElem (xs := W) (p := fun x : Td => decide (x.p = s)) (w := hw))
    have e2 : W[dx W s] = x := by subst c; exact e
    rw [← e2]; exact this

set_option maxRecDepth 20000 in
set_option maxHeartbeats 1000000 in
theorem find_d (ad : Option Addr) (cap : Nat) (nx : Int) (L : List Td) (s : List UInt8) (w : World) (hr : Ds w ad L) (hl : L.length ≤ 1000000) :
    Calls Tryz.prog 13 #[.agg #[.slice ad L.length cap, .int .i64 nx], .string (bs s)] w fun e w' => e = .returned (.int .i64 (dz L s)) ∧ Below w.heap.size w w' := by
  have HR : Hid (Ds w ad L) := hr
  have HI : Hid (∀ (i : Nat) (x : Td), L[i]? = some x → i ≤ dx L s → (x.p = s ↔ i = dx L s)) := fun i x h1 h2 => dx_iff h1 h2
  have hX := dx_le L s
  have HZ : Hid (dz L s = if dx L s < L.length then (dx L s : Int) else -1) := by
    show _ = _
    unfold dz fdD
    by_cases c : dx L s < L.length
    · rw [if_pos (decide_eq_true c), if_pos c]
    · rw [if_neg (by simpa using c), if_neg c]
  clear hr
  have hbox := heap_alloc_new w (.cells #[.slice ad L.length cap, .int .i64 nx] 29)
  have bB := below_box w (.cells #[.slice ad L.length cap, .int .i64 nx] 29)
  generalize dx L s = X at *
  generalize dz L s = Z at *
  generalize hLn : L.length = n at *
  have HL : Hid (L.length = n) := hLn
  clear hLn
  go_enter Tryz.func13, Tryz.ntmps13
  go_wp2_with fail
  go_loopw [5] (fun x wr => ∃ (i : Nat), x = .int .i64 (i : Int) ∧ i ≤ X ∧ Below w.heap.size w wr ∧ wr.heap[w.heap.size]? = some (.cells #[.slice ad n cap, .int .i64 nx] 29 (0, 0))) (fun x _ => n - (intOf x).toNat)
  case atStart => exact ⟨0, rfl, by omega, bB, hbox⟩
  case round =>
    obtain ⟨i, rfl, hi, bb, hc⟩ := hrel
    have mT := cells_of hc
    by_cases hin : i < n
    · obtain ⟨x, hx⟩ : ∃ x, L[i]? = some x := ⟨_, List.getElem?_eq_getElem (by have := HL.out; omega)⟩
      obtain ⟨b, o, rfl, hb1, hb2⟩ := (HR.out.below bb).at hx
      have c0 : wr.cell? ⟨b, o + i * 5, none⟩ = some (.string (bs x.p)) := hb2 0 _ rfl
      have hq := HI.out i x hx hi
      have h1 : (0 : Int) ≤ (i : Int) := by omega
      have h2 : (i : Int) < (n : Int) := by omega
      clear hb2 hx
      by_cases e : x.p = s
      · have eX := hq.1 e
        have HZ2 : Hid (Z = (i : Int)) := by show _ = _; rw [HZ.out, ← eX, if_pos hin]
        clear hq hi eX
        rw [e] at c0
        have heq : ((bs s).toList == (bs s).toList) = true := by simp
        generalize bs s = S at *
        go_wp2_with fail
        go_ret
        exact ⟨by rw [HZ2.out]; rfl, bb⟩
      · have hX2 : i ≠ X := fun q => e (hq.2 q)
        have hne : ((bs x.p).toList == (bs s).toList) = false := by rw [bs_toList, bs_toList]; simpa using e
        clear hq
        generalize bs x.p = P at *
        generalize bs s = S at *
        go_wp2_with fail
        go_roundw
        case rel => exact ⟨i + 1, by simp, by omega, bb, hc⟩
        case measure => simp [intOf]; omega
    · have HZ2 : Hid (Z = -1) := by show _ = _; rw [HZ.out, if_neg (by omega)]
      go_wp2_with fail
      go_ret
      exact ⟨by rw [HZ2.out]; rfl, bb⟩

end Go.Proofs.YtpgiibpalmhhlaaGreatDoor
