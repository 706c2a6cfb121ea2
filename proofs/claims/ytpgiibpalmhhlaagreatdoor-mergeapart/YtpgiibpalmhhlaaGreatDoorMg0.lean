/-
  A map of contents: what it holds, as keys and sizes; what is put, what is struck; the same put once more changes nothing.
-/
import Derived.Test.YtpgiibpalmhhlaaGreatDoorU0
namespace Go.Proofs.YtpgiibpalmhhlaaGreatDoor
open Go.RowKit
open Go.Lib hiding intOf
open Go.ChangeMaps Go.MapKept Go.WideShapes
open Go.WideElems (rd rg pl rd_key rd_val rg_of other_key)
set_option linter.unusedVariables false
set_option linter.unusedSimpArgs false

def cv (z : Int) : Value := .agg #[.slice none 0 0, .int .i64 z]
def dv (z : Int) : DataW Unit := .agg [.lit (.int .i64 z)]
/-- how a content is read -/
def RC : Value → Option (DataW Unit × List MemPlace)
  | .agg ⟨[.slice none 0 0, .int .i64 z]⟩ => some (dv z, [])
  | _ => none
theorem RC_mk (z : Int) : RC (cv z) = some (dv z, []) := rfl
theorem RC_inv {v : Value} {y : DataW Unit × List MemPlace} (h : RC v = some y) : ∃ z, v = cv z ∧ y = (dv z, []) := by
  unfold RC at h
  split at h
  · next z => cases h; exact ⟨z, rfl, rfl⟩
  · cases h
theorem dv_inj {a b : Int} (h : dv a = dv b) : a = b := by unfold dv at h; simpa using h
theorem zero39 (w : World) : (zeroValue 39).run Tryz.prog w = .ok (cv 0) w := by kernel_rfl

/-- put of a key -/
def kput (K : List (Int × Int)) (k z : Int) : List (Int × Int) := if k ∈ K.map Prod.fst then K.map fun p => if p.1 = k then (k, z) else p else K ++ [(k, z)]
theorem kput_keys (K : List (Int × Int)) (k z : Int) : (kput K k z).map Prod.fst = if k ∈ K.map Prod.fst then K.map Prod.fst else K.map Prod.fst ++ [k] := by
  unfold kput
  by_cases h : k ∈ K.map Prod.fst
  · rw [if_pos h, if_pos h, List.map_map]
    refine List.map_congr_left fun p _ => ?_
    show (if p.1 = k then (k, z) else p).1 = p.1
    split
    · next e => exact e.symm
    · rfl
  · rw [if_neg h, if_neg h, List.map_append]; rfl
theorem kput_mem {K : List (Int × Int)} (hn : (K.map Prod.fst).Nodup) (k z : Int) (p : Int × Int) : p ∈ kput K k z ↔ p = (k, z) ∨ (p ∈ K ∧ p.1 ≠ k) := by
  unfold kput
  by_cases h : k ∈ K.map Prod.fst
  · rw [if_pos h, List.mem_map]
    constructor
    · rintro ⟨q, hq, rfl⟩
      split
      · exact .inl rfl
      · next e => exact .inr ⟨hq, e⟩
    · rintro (rfl | ⟨hp, hne⟩)
      · obtain ⟨q, hq, e⟩ := List.mem_map.1 h
        exact ⟨q, hq, by rw [if_pos e]⟩
      · exact ⟨p, hp, by rw [if_neg hne]⟩
  · rw [if_neg h, List.mem_append, List.mem_singleton]
    constructor
    · rintro (hp | rfl)
      · exact .inr ⟨hp, fun e => h (List.mem_map.2 ⟨p, hp, e⟩)⟩
      · exact .inl rfl
    · rintro (rfl | ⟨hp, _⟩)
      · exact .inr rfl
      · exact .inl hp

/-- a map of contents holds these keys and sizes -/
structure Cm0 (D : DataW Unit) (K : List (Int × Int)) : Prop where
  tidy : Maps.Tidy D
  keys : ∀ k : Int, Maps.has D (.int .i64 k) = decide (k ∈ K.map Prod.fst)
  vals : ∀ p ∈ K, ∀ zd, D.atKey (.int .i64 p.1) zd = dv p.2
  size : Maps.size D = K.length
  nd : (K.map Prod.fst).Nodup
def Cm (w : World) (g n : Nat) (K : List (Int × Int)) : Prop := ∃ D : DataW Unit, w.ownsMap Tryz.prog 3 RC g n D ∧ Cm0 D K
theorem Cm.made (w : World) : Cm (w.alloc (.map #[] 0)) w.heap.size 0 [] :=
  ⟨.map [], World.ownsMap_made w _ _ _, Maps.tidy_empty, (fun k => by simp [Maps.has]), (fun p hp => nomatch hp), rfl, List.nodup_nil⟩
theorem Cm.kept {w w' : World} {g n : Nat} {K : List (Int × Int)} (h : Cm w g n K) {row : Option Nat} (hg : w.grownBy w' row) (hne : some g ≠ row) : Cm w' g n K := by
  obtain ⟨D, h1, h2⟩ := h
  exact ⟨D, h1.kept hg hne, h2⟩
theorem Cm.lt {w : World} {g n : Nat} {K : List (Int × Int)} (h : Cm w g n K) : g < w.heap.size := by
  obtain ⟨D, h1, _⟩ := h
  exact h1.lt
theorem Cm.below {w w' : World} {g n : Nat} {K : List (Int × Int)} (h : Cm w g n K) (hb : Below w.heap.size w w') : Cm w' g n K := h.kept (row := none) (grown_below hb) (by simp)

theorem lit_ne {a b : Int} (h : a ≠ b) : (Lit.int .i64 a) ≠ .int .i64 b := fun e => h (by injection e)

theorem Cm.put {w : World} {g n : Nat} {K : List (Int × Int)} (h : Cm w g n K) (k z : Int) (hk : (Lit.int .i64 k).wf = true) (hn : n < maxLen) :
    ∃ w', (Instr.mapUpdate 51 (.map (some g)) (.int .i64 k) (cv z)).run Tryz.prog w = .ok () w' ∧ Cm w' g (n + 1) (kput K k z) ∧ w.grownBy w' (some g) := by
  obtain ⟨D, h1, h2⟩ := h
  obtain ⟨w', r1, r2, r3⟩ := h1.update key3 Tryz.underlying51 hn (key_of3 k hk) (val := cv z) (d := dv z) (ps := []) (RC_mk z)
  have hkl : WideAt.IsKeyLit (.int .i64 k) := trivial
  refine ⟨w', r1, ⟨_, r2, h2.tidy.put hkl _, fun y => ?_, fun p hp zd => ?_, ?_, ?_⟩, r3⟩
  · rw [kput_keys]
    by_cases e : y = k
    · subst e
      rw [Maps.has_put_same h2.tidy.isMap hkl]
      by_cases hm : y ∈ K.map Prod.fst
      · rw [if_pos hm, decide_eq_true hm]
      · rw [if_neg hm]; simp
    · rw [Maps.has_put_other (lit_ne e), h2.keys y]
      by_cases hm : k ∈ K.map Prod.fst
      · rw [if_pos hm]
      · rw [if_neg hm]; simp [e]
  · rcases (kput_mem h2.nd k z p).1 hp with rfl | ⟨hp, hne⟩
    · exact Maps.atKey_put_same h2.tidy.isMap hkl _ _
    · rw [Maps.atKey_put_other (lit_ne hne)]; exact h2.vals p hp zd
  · rw [Maps.size_put h2.tidy, h2.keys k, h2.size]
    have := congrArg List.length (kput_keys K k z)
    rw [List.length_map] at this
    rw [this]
    by_cases hm : k ∈ K.map Prod.fst
    · rw [if_pos hm, if_pos (decide_eq_true hm), List.length_map]
    · rw [if_neg hm, if_neg (by simpa using hm), List.length_append, List.length_map]; rfl
  · rw [kput_keys]
    split
    · exact h2.nd
    · next hm => exact List.nodup_append.2 ⟨h2.nd, List.pairwise_singleton _ _, fun a ha b hb => by rw [List.mem_singleton] at hb; subst hb; exact fun e => hm (e ▸ ha)⟩

theorem Cm.strike {w : World} {g n : Nat} {K : List (Int × Int)} (h : Cm w g n K) (k : Int) (hk : (Lit.int .i64 k).wf = true) (ty : TypeId) :
    ∃ w', (Builtin.delete_ #[51, 3] ty #[.map (some g), .int .i64 k]).run Tryz.prog w = .ok (.tuple #[]) w' ∧ Cm w' g n (K.filter fun p => !decide (p.1 = k)) ∧ w.grownBy w' (some g) := by
  obtain ⟨D, h1, h2⟩ := h
  obtain ⟨w', r1, r2, r3⟩ := h1.drop key3 Tryz.underlying51 (key_of3 k hk) ty
  have hmem : ∀ y, y ∈ (K.filter fun p => !decide (p.1 = k)).map Prod.fst ↔ (y ∈ K.map Prod.fst ∧ y ≠ k) := by
    intro y
    rw [List.mem_map, List.mem_map]
    constructor
    · rintro ⟨p, hp, rfl⟩
      have := List.mem_filter.1 hp
      exact ⟨⟨p, this.1, rfl⟩, by simpa using this.2⟩
    · rintro ⟨⟨p, hp, rfl⟩, hne⟩
      exact ⟨p, List.mem_filter.2 ⟨hp, by simpa using hne⟩, rfl⟩
  have hnd : ((K.filter fun p => !decide (p.1 = k)).map Prod.fst).Nodup := h2.nd.sublist (List.filter_sublist.map _)
  refine ⟨w', r1, ⟨_, r2, h2.tidy.del _, fun y => ?_, fun p hp zd => ?_, ?_, hnd⟩, r3.grown⟩
  · by_cases e : y = k
    · subst e
      rw [Maps.has_del_same]
      exact (decide_eq_false (fun h => ((hmem y).1 h).2 rfl)).symm
    · rw [Maps.has_del_other (lit_ne e), h2.keys y]
      exact decide_eq_decide.2 ⟨fun h => (hmem y).2 ⟨h, e⟩, fun h => ((hmem y).1 h).1⟩
  · have := List.mem_filter.1 hp
    rw [Maps.atKey_del_other (lit_ne (by simpa using this.2))]
    exact h2.vals p this.1 zd
  · have hs := Maps.size_del (k := .int .i64 k) h2.tidy
    rw [h2.keys k, h2.size] at hs
    have key : (K.filter fun p => !decide (p.1 = k)).length + (if k ∈ K.map Prod.fst then 1 else 0) = K.length := by
      have hn := h2.nd
      clear hs hnd hmem h2 r1 r2 h1
      induction K with
      | nil => simp
      | cons p K ih =>
        rw [List.map_cons] at hn
        obtain ⟨a1, a2⟩ := List.nodup_cons.1 hn
        have ih := ih a2
        by_cases e : p.1 = k
        · have hnot : k ∉ K.map Prod.fst := by rw [← e]; exact a1
          rw [if_neg hnot] at ih
          rw [List.filter_cons, if_neg (by simpa using e), List.map_cons, if_pos (by rw [e]; exact List.mem_cons_self ..), List.length_cons]
          omega
        · rw [List.filter_cons, if_pos (by simpa using e), List.length_cons, List.length_cons, List.map_cons]
          have : (k ∈ p.1 :: K.map Prod.fst) ↔ k ∈ K.map Prod.fst := by rw [List.mem_cons]; exact ⟨fun h => h.resolve_left fun q => e q.symm, .inr⟩
          simp only [this]
          omega
    by_cases hm : k ∈ K.map Prod.fst
    · rw [if_pos hm] at key; rw [if_pos (decide_eq_true hm)] at hs; omega
    · rw [if_neg hm] at key; rw [if_neg (by simpa using hm)] at hs; omega

theorem Cm.look {w : World} {g n : Nat} {K : List (Int × Int)} (h : Cm w g n K) (k z : Int) (hk : (Lit.int .i64 k).wf = true) (hp : (k, z) ∈ K) :
    (Instr.lookup 51 (.map (some g)) (.int .i64 k) false).run Tryz.prog w = .ok (cv z) w := by
  obtain ⟨D, ⟨es, clock, hb, F, hs, rfl⟩, h2⟩ := h
  rcases Maps.fit_look false key3 Tryz.underlying51 (zero39 w) hb F (key_of3 k hk) with ⟨hrun, _, hat⟩ | ⟨e0, y, _, _, hrun, hRv, hat, _⟩
  · have a := h2.vals (k, z) hp .nil
    rw [hat .nil] at a
    cases a
  · obtain ⟨z', e1, e2⟩ := RC_inv hRv
    have a := h2.vals (k, z) hp .nil
    rw [hat .nil, e2] at a
    rw [hrun, e1, dv_inj a]; rfl

theorem Cm.len {w : World} {g n : Nat} {K : List (Int × Int)} (h : Cm w g n K) (ty : TypeId) : (Builtin.len_ #[51] ty #[.map (some g)]).run Tryz.prog w = .ok (.int .i64 (K.length : Int)) w := by
  obtain ⟨D, h1, h2⟩ := h
  rw [h1.len Tryz.underlying51 ty, h2.size]

theorem modify_same {es : Array MapEntry} {j : Nat} {e0 : MapEntry} (h : es[j]? = some e0) (f : MapEntry → MapEntry) (hf : f e0 = e0) : es.modify j f = es := by
  apply Array.ext_getElem?
  intro i
  rw [Array.getElem?_modify]
  by_cases c : j = i
  · subst c; rw [if_pos rfl, h]; simp [hf]
  · rw [if_neg c]
theorem setBlock_same {w : World} {b : Nat} {o : Obj} (h : w.heap[b]? = some o) : setBlock w b o = w := by
  have hlt : b < w.heap.size := (Array.getElem?_eq_some_iff.1 h).1
  have hv : w.heap[b] = o := (Array.getElem?_eq_some_iff.1 h).2
  unfold setBlock
  have : w.heap.setIfInBounds b o = w.heap := by
    apply Array.ext_getElem?
    intro i
    rw [Array.getElem?_setIfInBounds]
    by_cases c : b = i
    · subst c; rw [if_pos rfl, if_pos hlt, h]
    · rw [if_neg c]
  rw [this]

/-- the same put once more, on the way of a range -/
theorem ranges_same {w : World} {b r n : Nat} {D : DataW Unit} {left : Lit → Bool} {cnt : Nat} (h : w.ranges Tryz.prog 3 RC b r n D left cnt) (k z : Int) (hk : (Lit.int .i64 k).wf = true) (hat : ∀ zd, D.atKey (.int .i64 k) zd = dv z) :
    (Instr.mapUpdate 51 (.map (some b)) (.int .i64 k) (cv z)).run Tryz.prog w = .ok () w := by
  obtain ⟨es, clock, since, seen, c0, hb, F, hs, rfl, _⟩ := h
  have hkey := key_of3 k hk
  have K : Maps.Keyed Tryz.prog 3 := key3
  have hat2 := Maps.fit_look false K Tryz.underlying51 (zero39 w) hb F hkey
  rcases K.find w hkey es.toList F.keys with ⟨h1, h2⟩ | ⟨j, e0, h1, h2, h3⟩
  · rcases hat2 with ⟨_, _, h4⟩ | ⟨e1, _, h5, h6, _⟩
    · have a := h4 .nil
      rw [hat .nil] at a
      cases a
    · exact absurd h6 (h2 e1 h5)
  · have hj : es[j]? = some e0 := by simpa using h2
    have hval : e0.val = cv z := by
      rcases hat2 with ⟨_, h4, _⟩ | ⟨e1, y, h5, h6, _, h7, h8, _⟩
      · exact absurd h3 (h4 e0 (List.mem_of_getElem? h2))
      · have hst := (stamped_iff es clock).1 F.stamped
        have : e1 = e0 := entry_eq_of_key hst.2.2 h5 (List.mem_of_getElem? h2) (by rw [h6, h3])
        subst this
        obtain ⟨z', e2, e3⟩ := RC_inv h7
        have a := h8 .nil
        rw [hat .nil, e3] at a
        rw [e2, dv_inj a]
    have hsame : es.modify j (fun e' => { e' with key := .int .i64 k, val := cv z }) = es := modify_same hj _ (by rw [← hval, ← h3])
    have hsb := setBlock_same hb
    rw [← hsame] at hsb
    have hrun : (Instr.mapUpdate 51 (.map (some b)) (.int .i64 k) (cv z)).run Tryz.prog w = .ok () (setBlock w b (.map (es.modify j (fun e' => { e' with key := .int .i64 k, val := cv z })) clock)) := by
      simp [Instr.mapUpdate, run_underlying Tryz.underlying51, MapKept.run_getObj_map hb, K.check w false hkey, h1, hj, h3, K.stays w hkey, MapKept.run_setObj_map _ hb, Result.andThen, setBlock]
    rw [hrun, hsb]

end Go.Proofs.YtpgiibpalmhhlaaGreatDoor
