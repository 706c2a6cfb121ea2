/-
  A row of strings of one's own that ends within its block; append to it.
-/
import Derived.Test.YtmeaiplinkodiabDoorFnb
import Derived.Deep.AppendSrc
import Derived.Deep.Upon
namespace Go.Proofs.YtmeaiplinkodiabDoor
open Go.RowKit
open Go.Lib hiding intOf
set_option linter.unusedVariables false
set_option linter.unusedSimpArgs false

/-- strings at the beginning of a block of one's own, of which so many cells may be written -/
def Aw (w : World) (B : Nat) (ad : Option Addr) (c : Nat) (ps : List (List UInt8)) : Prop :=
  (ad = none ∧ ps = [] ∧ c = 0) ∨ ∃ g, ad = some ⟨g, 0, none⟩ ∧ B ≤ g ∧ g < w.heap.size ∧ ps.length ≤ c ∧ c ≤ 9223372036854775807 ∧
    (∀ i, i < c → (w.cell? ⟨g, i, none⟩).isSome = true ∧ w.frozen? ⟨g, i, none⟩ = false) ∧ ∀ i x, ps[i]? = some x → w.cell? ⟨g, i, none⟩ = some (.string (bs x))

theorem Aw.sl {w : World} {B c : Nat} {ad : Option Addr} {ps : List (List UInt8)} (h : Aw w B ad c ps) : Sl w ad ps := by
  rcases h with ⟨_, h, _⟩ | ⟨g, h1, _, h3, _, _, _, h7⟩
  · exact .inl h
  · exact .inr ⟨g, 0, h1, h3, fun i x hx => by rw [Nat.zero_add]; exact h7 i x hx⟩

theorem Aw.le {w : World} {B c : Nat} {ad : Option Addr} {ps : List (List UInt8)} (h : Aw w B ad c ps) : ps.length ≤ c ∧ c ≤ 9223372036854775807 := by
  rcases h with ⟨_, h, h0⟩ | ⟨g, _, _, _, h4, h5, _⟩
  · subst h h0; simp
  · exact ⟨h4, h5⟩

theorem Aw.take {w : World} {B c : Nat} {ad : Option Addr} {ps : List (List UInt8)} (h : Aw w B ad c ps) (k : Nat) : Aw w B ad c (ps.take k) := by
  rcases h with ⟨h1, h2, h3⟩ | ⟨g, h1, h2, h3, h4, h5, h6, h7⟩
  · exact .inl ⟨h1, by rw [h2]; simp, h3⟩
  · refine .inr ⟨g, h1, h2, h3, by rw [List.length_take]; omega, h5, h6, fun i x hx => h7 i x ?_⟩
    rw [List.getElem?_take] at hx
    split at hx
    · exact hx
    · simp at hx

theorem Aw.below {w w' : World} {B c : Nat} {ad : Option Addr} {ps : List (List UInt8)} (h : Aw w B ad c ps) (hb : Below w.heap.size w w') : Aw w' B ad c ps := by
  rcases h with h | ⟨g, h1, h2, h3, h4, h5, h6, h7⟩
  · exact .inl h
  · refine .inr ⟨g, h1, h2, Nat.lt_of_lt_of_le h3 hb.size, h4, h5, fun i hi => ?_, fun i x hx => (hb.cell (p := ⟨g, i, none⟩) h3).trans (h7 i x hx)⟩
    rw [hb.cell (p := ⟨g, i, none⟩) h3, hb.frozen (p := ⟨g, i, none⟩) h3]
    exact h6 i hi

theorem wpList_append_run {P : Program} {w w' : World} {ops : Array Oper} {rest : List Oper} {o : Oper} {a : Act} {Q : Exit → Act → World → Prop} (hgd : o.guard = none) (s x : Operand) (t tx : TypeId)
    (ho : o.op = Op.call { callee := Callee.builtin Builtin.append, args := #[s, x], argTypes := #[t, tx] }) (sv xv v' : Value) (hs : a.eval s = sv) (hx : a.eval x = xv)
    (hrun : (Builtin.append_ #[t, tx] o.type #[sv, xv]).run P w = .ok v' w') (hK : wpList P ops Q rest (a.put o.dst v') w') : wpList P ops Q (o :: rest) a w := by
  refine wpList_plain hgd fun K hK' => ?_
  unfold Oper.wp
  simp [execOp, ho, resolve, invoke, builtin, hs, hx, hrun, Result.andThen]
  exact hK' _ _ hK

theorem add_at (b off j : Nat) : (⟨b, off, none⟩ : Addr).add j = ⟨b, off + j, none⟩ := by
  unfold Addr.add
  by_cases h : j = 0
  · subst h; rfl
  · simp [h]

theorem strs_one (ps : List (List UInt8)) : ∀ u ∈ strs ps, u.oneCell' = true := by
  intro u hu
  obtain ⟨x, _, rfl⟩ := List.mem_map.1 hu
  rfl

theorem strs_back {ps : List (List UInt8)} {j : Nat} {u : Value} (h : (strs ps)[j]? = some u) : ∃ x, ps[j]? = some x ∧ u = .string (bs x) := by
  unfold strs at h
  rw [List.getElem?_map] at h
  obtain ⟨x, hx, rfl⟩ := Option.map_eq_some_iff.1 h
  exact ⟨x, hx, rfl⟩

theorem Sl.src {w : World} {ad : Option Addr} {ps : List (List UInt8)} (h : Sl w ad ps) (c : Nat) (hn : ad = none → c = c) : Src Tryd.prog 1 24 (.slice ad ps.length c) ps.length (strs ps) w := by
  rcases h with rfl | ⟨b, o, rfl, h2, h3⟩
  · cases ad with
    | none => exact Src.ofNil w Tryd.underlying24 c
    | some a => exact Src.ofSlice w Tryd.underlying24 a 0 c [] rfl (fun j u hj => by simp at hj) (fun u hu => by simp at hu)
  · exact Src.ofSlice w Tryd.underlying24 ⟨b, o, none⟩ ps.length c (strs ps) (by rw [strs_length]; omega) (fun j u hj => by
      obtain ⟨x, hx, rfl⟩ := strs_back hj
      rw [add_at]; exact h3 j x hx) (strs_one ps)

theorem cap_le (w : World) (n c : Nat) (e : TypeId) (hn : n ≤ 100000) : n ≤ grownCap w n c e ∧ grownCap w n c e ≤ 9223372036854775807 :=
  ⟨grownCap_ge w n c e, grownCap_le_maxLen w n c e (by unfold maxLen; omega)⟩

/-- a new row of strings, with room behind them -/
theorem Aw.fresh (w : World) (ps : List (List UInt8)) (cap : Nat) (h1 : ps.length ≤ cap) (h2 : cap ≤ 9223372036854775807) :
    Aw (w.alloc (.cells ((strs ps).toArray ++ Builtin.zeroCells (Value.string ⟨#[]⟩).cells (cap - ps.length)) 9)) w.heap.size (some ⟨w.heap.size, 0, none⟩) cap ps := by
  have hsz : ((strs ps).toArray ++ Builtin.zeroCells (Value.string ⟨#[]⟩).cells (cap - ps.length)).size = cap := by
    rw [Array.size_append, size_zeroCells]
    simp [strs_length, Value.cells]
    omega
  refine .inr ⟨w.heap.size, rfl, Nat.le_refl _, by simp, h1, h2, fun i hi => ⟨?_, ?_⟩, fun i x hx => ?_⟩
  · have : i < ((strs ps).toArray ++ Builtin.zeroCells (Value.string ⟨#[]⟩).cells (cap - ps.length)).size := by rw [hsz]; exact hi
    simp only [World.cell?_alloc_new]
    rw [Array.getElem?_eq_getElem this]
    rfl
  · simp
  · have hl : i < ps.length := (List.getElem?_eq_some_iff.1 hx).1
    simp only [World.cell?_alloc_new]
    rw [Array.getElem?_append_left (by simpa [strs_length] using hl)]
    simpa using strs_get ps i x hx

end Go.Proofs.YtmeaiplinkodiabDoor
