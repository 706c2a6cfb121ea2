/-
  Records of one's own as arguments of Encode; bytes of one's own as arguments of Decode.
-/
import Derived.Test.YtebnekkdkifgjabDoorHead
namespace Go.Proofs.YtebnekkdkifgjabDoor
open Go.RowKit
set_option linter.unusedVariables false
set_option linter.unusedSimpArgs false

/-! ### Encode -/

def AllOk (rs : List Rec) : Prop := ∀ r ∈ rs, chk r.1 r.2 = 0

theorem recs_len (K V : Nat → ByteArray) (n : Nat) : (recs K V n).length = n := by simp [recs]

theorem errTo_iff (K V : Nat → ByteArray) : ∀ n, errTo K V n = 0 ↔ AllOk (recs K V n)
  | 0 => by simp [errTo, AllOk, recs]
  | n + 1 => by
    have ih := errTo_iff K V n
    have e : recs K V (n + 1) = recs K V n ++ [(K n, V n)] := by simp [recs, List.range_succ]
    rw [e]
    by_cases h : errTo K V n = 0
    · have h' := ih.1 h
      simp only [errTo, if_pos h]
      constructor
      · intro hc r hr
        rcases List.mem_append.1 hr with hr | hr
        · exact h' r hr
        · simp at hr; subst hr; exact hc
      · intro ha
        exact ha (K n, V n) (by simp)
    · simp only [errTo, if_neg h]
      constructor
      · intro hc; exact absurd hc h
      · intro ha
        exact absurd (ih.2 fun r hr => ha r (by simp [hr])) h

theorem recs_of (rs : List Rec) : recs (kOf rs) (vOf rs) rs.length = rs := by
  apply List.ext_getElem?
  intro i
  by_cases h : i < rs.length
  · simp [recs, h, kOf, vOf, List.getD]
  · simp [recs, h]

theorem enc_recs (b off n cap : Nat) (K V : Nat → ByteArray) (w : World) (hR : n = 0 ∨ RecsAt w b off K V n) (hn : n ≤ 64) (hS : ∀ i, i < n → (K i).size ≤ 100000 ∧ (V i).size ≤ 100000) (ht : Vs w) :
    Calls Tryd.prog 5 #[.slice (some ⟨b, off, none⟩) n cap] w fun e w' => (∃ v z, e = .returned (.tuple #[v, .int .i64 z]) ∧ (z = 0 ↔ AllOk (recs K V n)) ∧ (AllOk (recs K V n) → w'.ownsRow w.heap.size 5 1 v (encR (recs K V n)).length (Lib.byteCells (encR (recs K V n))))) ∧ Below w.heap.size w w' := by
  rcases hR with rfl | hR
  · refine (enc_none _ cap w).mono fun e w' ⟨he, hw⟩ => ?_
    subst hw
    exact ⟨⟨_, 0, he, ⟨fun _ => by simp [AllOk, recs], fun _ => rfl⟩, fun _ => World.ownsRow_nil _ _ _ _⟩, Below.refl _ _⟩
  · refine (enc_w b off n cap K V w hR hn hS ht).mono fun e w' ⟨he, hb⟩ => ⟨?_, hb⟩
    rcases he with ⟨h0, v, he, ho⟩ | ⟨h0, he⟩
    · rw [encL_recs] at ho
      exact ⟨v, 0, he, ⟨fun _ => (errTo_iff K V n).1 h0, fun _ => rfl⟩, fun _ => ho⟩
    · exact ⟨_, _, he, errTo_iff K V n, fun ha => absurd ((errTo_iff K V n).2 ha) h0⟩

theorem enc_nil (cap : Nat) (w : World) :
    Calls Tryd.prog 5 #[.slice none 0 cap] w fun e w' => (∃ v z, e = .returned (.tuple #[v, .int .i64 z]) ∧ (z = 0 ↔ AllOk []) ∧ (AllOk [] → w'.ownsRow w.heap.size 5 1 v (encR []).length (Lib.byteCells (encR [])))) ∧ Below w.heap.size w w' := by
  refine (enc_none none cap w).mono fun e w' ⟨he, hw⟩ => ?_
  subst hw
  exact ⟨⟨_, 0, he, ⟨fun _ => by simp [AllOk], fun _ => rfl⟩, fun _ => World.ownsRow_nil _ _ _ _⟩, Below.refl _ _⟩

theorem enc_at0 (a : Addr) (cap : Nat) (w : World) :
    Calls Tryd.prog 5 #[.slice (some a) 0 cap] w fun e w' => (∃ v z, e = .returned (.tuple #[v, .int .i64 z]) ∧ (z = 0 ↔ AllOk []) ∧ (AllOk [] → w'.ownsRow w.heap.size 5 1 v (encR []).length (Lib.byteCells (encR [])))) ∧ Below w.heap.size w w' := by
  refine (enc_none (some a) cap w).mono fun e w' ⟨he, hw⟩ => ?_
  subst hw
  exact ⟨⟨_, 0, he, ⟨fun _ => by simp [AllOk], fun _ => rfl⟩, fun _ => World.ownsRow_nil _ _ _ _⟩, Below.refl _ _⟩

theorem enc_own {B : Nat} {w : World} {v : Value} {rs : List Rec} (h : w.ownsRow B 29 2 v rs.length (recCells rs)) (hn : rs.length ≤ 64) (hS : ∀ r ∈ rs, r.1.size ≤ 100000 ∧ r.2.size ≤ 100000) (ht : Vs w) :
    Calls Tryd.prog 5 #[v] w fun e w' => (∃ x z, e = .returned (.tuple #[x, .int .i64 z]) ∧ (z = 0 ↔ AllOk rs) ∧ (AllOk rs → w'.ownsRow w.heap.size 5 1 x (encR rs).length (Lib.byteCells (encR rs)))) ∧ Below w.heap.size w w' := by
  by_cases h0 : rs.length = 0
  · obtain rfl := List.eq_nil_of_length_eq_zero h0
    obtain ⟨ad, cap, rfl, _, _⟩ := own_slice h
    cases ad with
    | none => exact enc_nil cap w
    | some a => exact enc_at0 a cap w
  · obtain ⟨g, cap, rfl, hR, _, _, _, _⟩ := own_recsAt h (by omega)
    have := enc_recs g 0 rs.length cap (kOf rs) (vOf rs) w (.inr hR) hn (fun i hi => by
      have hm : rs.getD i (⟨#[]⟩, ⟨#[]⟩) ∈ rs := by
        rw [List.getD, List.getElem?_eq_getElem hi]
        exact List.getElem_mem hi
      exact hS _ hm) ht
    rwa [recs_of] at this

/-! ### Decode, string -/

theorem dec_own {B : Nat} {w : World} {v : Value} {bs : List UInt8} (h : w.ownsRow B 5 1 v bs.length (Lib.byteCells bs)) (hl : bs.length < 4294967281) (ht : Vs w) :
    Calls Tryd.prog 7 #[v] w fun e w' => ∃ x, e = .returned (.tuple #[x, .int .i64 (dec bs.length [] bs).2]) ∧ w'.ownsRow w.heap.size 29 2 x (dec bs.length [] bs).1.length (recCells (dec bs.length [] bs).1) ∧ Below w.heap.size w w' := by
  by_cases h0 : bs.length = 0
  · obtain rfl := List.eq_nil_of_length_eq_zero h0
    obtain ⟨ad, cap, rfl, _, _⟩ := own_slice h
    refine (decode_none ad cap w).mono fun e w' ⟨he, hw⟩ => ?_
    subst hw
    exact ⟨_, he, World.ownsRow_nil _ _ _ _, Below.refl _ _⟩
  · obtain ⟨g, cap, rfl, hB, h1, h2, _, _⟩ := own_bytesAt h (by omega)
    exact decode_w g 0 cap bs w hB h1 h2 hl ht

theorem conv_own {B : Nat} {w : World} {v : Value} {bs : List UInt8} (h : w.ownsRow B 5 1 v bs.length (Lib.byteCells bs)) : (convert 24 9 v).run Tryd.prog w = .ok (.string ⟨bs.toArray⟩) w := by
  by_cases h0 : bs.length = 0
  · obtain rfl := List.eq_nil_of_length_eq_zero h0
    obtain ⟨ad, cap, rfl, _, _⟩ := own_slice h
    exact conv_none w ad cap
  · obtain ⟨g, cap, rfl, hB, h1, h2, _, _⟩ := own_bytesAt h (by omega)
    exact conv_str w g 0 cap bs hB

end Go.Proofs.YtebnekkdkifgjabDoor
