/-
  Plain: a map of the last values; strings in memory.
-/
import Derived.Test.YtebnekkdkifgjabDoorRowsl
import Derived.Test.YtebnekkdkifgjabDoorKinds
import Derived.Maps.StringElems
import Derived.Maps.Views
import Derived.Sort.KeysCollected
namespace Go.Proofs.YtebnekkdkifgjabDoor
open Go.RowKit
set_option linter.unusedVariables false
set_option linter.unusedSimpArgs false

/-- strings lie at a place -/
def StrsAt (w : World) (b off : Nat) (S : Nat → ByteArray) (n : Nat) : Prop := ∀ i, i < n → w.cell? ⟨b, off + i, none⟩ = some (.string (S i))

theorem StrsAt.below {w w' : World} {b off n : Nat} {S : Nat → ByteArray} (h : StrsAt w b off S n) (hb : Below w.heap.size w w') : StrsAt w' b off S n := fun i hi => (hb.cell (Lib.lt_of_cell (h i hi))).trans (h i hi)

/-- the last value of a key -/
def lastR (rs : List Rec) (k : ByteArray) : ByteArray × Bool := lastOf (kOf rs) (vOf rs) k rs.length

theorem lastOf_congr {K V K' V' : Nat → ByteArray} {key : ByteArray} : ∀ {n : Nat}, (∀ i, i < n → K i = K' i ∧ V i = V' i) → lastOf K V key n = lastOf K' V' key n
  | 0, _ => rfl
  | n + 1, h => by
    have h1 := h n (by omega)
    have ih := lastOf_congr (key := key) (n := n) (fun i hi => h i (by omega))
    simp only [lastOf, h1.1, h1.2, ih]

theorem lastR_snoc (rs : List Rec) (k v x : ByteArray) : lastR (rs ++ [(k, v)]) x = if k = x then (v, true) else lastR rs x := by
  unfold lastR
  rw [List.length_append]
  show lastOf (kOf (rs ++ [(k, v)])) (vOf (rs ++ [(k, v)])) x (rs.length + 1) = _
  have e1 : kOf (rs ++ [(k, v)]) rs.length = k := by simp [kOf, List.getD]
  have e2 : vOf (rs ++ [(k, v)]) rs.length = v := by simp [vOf, List.getD]
  have e3 : lastOf (kOf (rs ++ [(k, v)])) (vOf (rs ++ [(k, v)])) x rs.length = lastOf (kOf rs) (vOf rs) x rs.length := by
    apply lastOf_congr
    intro i hi
    simp [kOf, vOf, List.getD, List.getElem?_append_left hi]
  rw [lastOf, e1, e2, e3]

/-- the map holds just the last values -/
def MapOk (D : DataW Unit) (rs : List Rec) : Prop := ∀ x : List UInt8, Maps.has D (.string x) = true → ∃ k v : ByteArray, k.data.toList = x ∧ lastR rs k = (v, true) ∧ v.size ≤ 100000 ∧ ∀ zd, D.atKey (.string x) zd = .lit (.string v.data.toList)

theorem data_inj {a b : ByteArray} (h : a.data.toList = b.data.toList) : a = b := by
  cases a; cases b
  congr 1
  exact Array.ext' h

theorem mapOk_nil : MapOk (.map []) [] := by
  intro x h
  simp [Maps.has] at h

theorem key_lit (x : List UInt8) : WideAt.IsKeyLit (.string x) := trivial

theorem MapOk.put {D : DataW Unit} {rs : List Rec} (h : MapOk D rs) (hD : Maps.IsMap D) (k v : ByteArray) (hvs : v.size ≤ 100000) : MapOk (D.put (.string k.data.toList) (.lit (.string v.data.toList))) (rs ++ [(k, v)]) := by
  intro x hx
  by_cases c : x = k.data.toList
  · subst c
    refine ⟨k, v, rfl, by rw [lastR_snoc, if_pos rfl], hvs, fun zd => ?_⟩
    exact Maps.atKey_put_same hD (key_lit _) _ zd
  · have hne : (Lit.string x) ≠ .string k.data.toList := fun e => c (by injection e)
    rw [Maps.has_put_other hne] at hx
    obtain ⟨k', v', h1, h2, h4, h3⟩ := h x hx
    refine ⟨k', v', h1, ?_, h4, fun zd => ?_⟩
    · rw [lastR_snoc, if_neg (fun e => c (by rw [← h1, e])), h2]
    · rw [Maps.atKey_put_other hne, h3]

theorem key9 : Go.Maps.Keyed Tryd.prog 9 := Go.Maps.string_keyed Tryd.underlying9

theorem keyOf9 (s : ByteArray) (h : s.size ≤ maxLen) : keyOf Tryd.prog 9 (.string s) = some (.string s.data.toList) := by
  simp [keyOf, Tryd.underlying9, mapKey, h]

theorem elem9 (s : ByteArray) (h : s.size ≤ maxLen) : plainElem (H := Unit) Tryd.prog 9 (.string s) = some (.lit (.string s.data.toList), []) := plainElem_string Tryd.underlying9 h

theorem keyOf9_inv {key : Value} {kl : Lit} (h : keyOf Tryd.prog 9 key = some kl) : ∃ s : ByteArray, key = .string s := by
  cases key <;> simp [keyOf, Tryd.underlying9, mapKey] at h
  exact ⟨_, rfl⟩

theorem keyOf9_lit {s : ByteArray} {kl : Lit} (h : keyOf Tryd.prog 9 (.string s) = some kl) : kl = .string s.data.toList := by
  simp [keyOf, Tryd.underlying9, mapKey] at h
  exact h.2.symm

/-- Number's two answers -/
def nz (s : ByteArray) : Int := match nval s with | some v => v | none => 0
def ne (s : ByteArray) : Int := match nval s with | some _ => 0 | none => 70

theorem number_p (s : ByteArray) (hl : s.size ≤ 281474976710656) (w : World) (ht : Vs w) :
    Calls Tryd.prog 9 #[.string s] w fun e w' => e = .returned (.tuple #[.int .i64 (nz s), .int .i64 (ne s)]) ∧ Below w.heap.size w w' := by
  refine (number_w s hl w ht).mono fun e w' ⟨he, hb⟩ => ⟨?_, hb⟩
  rw [he]
  unfold nz ne
  cases nval s <;> rfl

/-- Get over records of one's own -/
theorem get_own {B : Nat} {w : World} {v : Value} {rs : List Rec} (h : w.ownsRow B 29 2 v rs.length (recCells rs)) (hn : rs.length ≤ 64) (key x : ByteArray) (hk : lastR rs key = (x, true)) :
    Calls Tryd.prog 8 #[v, .string key] w fun e w' => e = .returned (.tuple #[.string x, .bool true]) ∧ w = w' := by
  have h0 : 0 < rs.length := by
    cases rs with
    | nil => simp [lastR, lastOf] at hk
    | cons _ _ => simp
  obtain ⟨g, cap, rfl, hR, _, _, _, _⟩ := own_recsAt h h0
  have q := get_w g 0 rs.length cap _ _ key w hR (by omega)
  have e : lastOf (kOf rs) (vOf rs) key rs.length = (x, true) := hk
  rw [e] at q
  exact q

end Go.Proofs.YtebnekkdkifgjabDoor
