/-
  The law WholeStore returns true for every number of blocks and every script; no condition.
-/
import Derived.Test.YtpjfhfbjdcgbjacRows
import Derived.Test.YtpjfhfbjdcgbjacCnt
import Derived.Lib.AppendZeros
import Derived.Maps.RangeWalk
import Derived.Maps.OwnSet
import Derived.Maps.Views
import Derived.Lib.SlBytesConst
import Derived.Deep.Slices
import Derived.Deep.DeepCutAuto
import Derived.Deep.RegionHeld3
import Derived.ProofKit
import Derived.OpenShut
import Derived.ShutString
import Derived.ChangeOld
import Derived.Below
namespace Go.Proofs.Ytpjfhfbjdcgbjac.wholeStore
open Go.ChangeShapes Go.WideShapes Go.ChangeAt Go.RowKit
set_option linter.unusedVariables false
set_option linter.unusedSimpArgs false


/-- where the steps lie -/
def Scr (w : World) (at_ : Option Addr) (n : Nat) (Z : Nat → Nat → Int) : Prop := ∀ r, r < n → ∃ b off, at_ = some ⟨b, off, none⟩ ∧ w.cell? ⟨b, off + r * 3, none⟩ = some (.int .i64 (Z r 0)) ∧ w.cell? ⟨b, off + r * 3 + 1, none⟩ = some (.int .i64 (Z r 1)) ∧ w.cell? ⟨b, off + r * 3 + 2, none⟩ = some (.int .i64 (Z r 2)) ∧ ∀ q, -9223372036854775808 ≤ Z r q ∧ Z r q ≤ 9223372036854775807

/-- a store with contents behind so many steps -/
structure St (w wr : World) (p S F B n j : Nat) (v : Value) (xs : List Cn) (ss : List Slot) (fr : List Nat) : Prop where
  below : Below w.heap.size w wr
  row : Cs wr B v xs
  ar : Ar wr p S F ss fr
  inv : Inv ss fr (xs.map Cn.ct)
  size : ∀ x ∈ xs, x.L.length ≤ 300 * j
  num : xs.length ≤ j
  len : ss.length = n

theorem St.more {w wr : World} {p S F B n j : Nat} {v : Value} {xs : List Cn} {ss : List Slot} {fr : List Nat} (h : St w wr p S F B n j v xs ss fr) : St w wr p S F B n (j + 1) v xs ss fr :=
  ⟨h.below, h.row, h.ar, h.inv, fun x hx => by have := h.size x hx; omega, by have := h.num; omega, h.len⟩

/-- a new one -/
theorem St.push {w wr w' : World} {p S F B n j : Nat} {v v' : Value} {xs : List Cn} {ss : List Slot} {fr : List Nat} (h : St w wr p S F B n j v xs ss fr) (hc : Cs w' B v' (xs ++ [⟨none, 0, [], []⟩])) (hb : Below B wr w') (hB : w.heap.size ≤ B) (hp : p < B) (hS : S < B) (hF : F < B) : St w w' p S F B n (j + 1) v' (xs ++ [⟨none, 0, [], []⟩]) ss fr := by
  refine ⟨h.below.trans (hb.mono hB), hc, h.ar.moved (hb.block p hp) (hb.block S hS) (hb.block F hF), ?_, ?_, by have := h.num; simp; omega, h.len⟩
  · rw [List.map_append]
    exact h.inv.begin.perm (List.perm_append_singleton _ _).symm
  · intro x hx
    rcases List.mem_append.1 hx with hx | hx
    · have := h.size x hx; omega
    · simp at hx; subst hx; simp

/-- the contents with one of them ahead -/
theorem ahead {xs : List Cn} {i : Nat} {x : Cn} (hi : xs[i]? = some x) : (xs.map Cn.ct).Perm (x.ct :: (xs.eraseIdx i).map Cn.ct) := by
  have hk := (List.getElem?_eq_some_iff.1 hi).1
  have he := (List.getElem?_eq_some_iff.1 hi).2
  rw [List.eraseIdx_eq_take_drop_succ]
  have : xs = xs.take i ++ x :: xs.drop (i + 1) := by rw [← he, ← List.drop_eq_getElem_cons hk, List.take_append_drop]
  conv => lhs; rw [this]
  rw [List.map_append, List.map_append, List.map_cons]
  exact List.perm_middle

theorem ahead_set {xs : List Cn} {i : Nat} {x : Cn} (hi : xs[i]? = some x) (y : Cn) : (y.ct :: (xs.eraseIdx i).map Cn.ct).Perm ((xs.set i y).map Cn.ct) := by
  have hk := (List.getElem?_eq_some_iff.1 hi).1
  have h1 : (xs.set i y)[i]? = some y := by simp [hk]
  have := ahead h1
  rw [List.eraseIdx_set_eq] at this
  exact this.symm

theorem St.bound {w wr : World} {p S F B n j : Nat} {v : Value} {xs : List Cn} {ss : List Slot} {fr : List Nat} (h : St w wr p S F B n j v xs ss fr) (hj : j ≤ 60) {x : Cn} (hx : x ∈ xs) : x.L.length ≤ 18000 ∧ x.ids.length ≤ 18000 ∧ ∀ s ∈ ss, s.holds + x.ids.length < 1073741824 := by
  have h0 := h.size x hx
  have hli := (h.inv.lies x.ct (List.mem_map.2 ⟨x, hx, rfl⟩)).len
  simp only [Cn.ct] at hli
  unfold need at hli
  refine ⟨by omega, by omega, fun s hs => ?_⟩
  have h1 := h.inv.most s hs
  have h2 := Inv.lens_le (fr := fr) 18000 h.inv.lies (by
    intro c hc
    obtain ⟨y, hy, rfl⟩ := List.mem_map.1 hc
    have := h.size y hy
    simp only [Cn.ct]; omega)
  rw [List.length_map] at h2
  have h3 := h.num
  have : xs.length * (18000 + 1) ≤ 60 * 18001 := Nat.mul_le_mul (by omega) (by omega)
  omega

theorem bel1 (w : World) (M : Obj) : Below w.heap.size w (w.alloc M).drew := (below_box w M).drew
theorem bel2 (w : World) (M Z : Obj) : Below w.heap.size w ((w.alloc M).alloc Z).drew := ((below_box w M).alloc (by rw [World.size_alloc]; omega) _).drew
theorem fA (w : World) (M : Obj) : (w.alloc M).drew.heap[w.heap.size]? = some M := heap_alloc_new w M
theorem fB (w : World) (M Z : Obj) : ((w.alloc M).alloc Z).drew.heap[w.heap.size]? = some M := heap_alloc Z (heap_alloc_new w M)
theorem fC (w : World) (M Z : Obj) : ((w.alloc Z).alloc M).drew.heap[w.heap.size + 1]? = some M := heap_alloc2_new w Z M
theorem fB2 {p S F : Nat} {w w6 : World} {M : Obj} {x y : Value} (hp : p < w.heap.size) (hS : S < w.heap.size) (hF : F < w.heap.size) (K : Keeps p S F ((w.alloc M).alloc (.cells #[x, y] 29)).drew w6) : w6.heap[w.heap.size + 1]? = some (.cells #[x, y] 29 (0, 0)) :=
  (K.block _ (by show w.heap.size + 1 < ((w.alloc M).alloc _).heap.size; rw [World.size_alloc, World.size_alloc]; omega) (by omega) (by omega) (by omega)).trans (heap_alloc2_new w M _)
theorem fC2 {p S F : Nat} {w w6 : World} {M : Obj} {x y : Value} (hp : p < w.heap.size) (hS : S < w.heap.size) (hF : F < w.heap.size) (K : Keeps p S F ((w.alloc (.cells #[x, y] 29)).alloc M).drew w6) : w6.heap[w.heap.size]? = some (.cells #[x, y] 29 (0, 0)) :=
  (K.block _ (by show w.heap.size < ((w.alloc _).alloc _).heap.size; rw [World.size_alloc, World.size_alloc]; omega) (by omega) (by omega) (by omega)).trans (heap_alloc _ (heap_alloc_new w _))

theorem cell_keeps {w w' : World} {p S F : Nat} (hk : Keeps p S F w w') {a : Addr} {v : Value} (h : w.cell? a = some v) (h1 : a.block ≠ p) (h2 : a.block ≠ S) (h3 : a.block ≠ F) : w'.cell? a = some v := by
  rw [← h]
  exact World.cell?_of_block (hk.block _ (World.block_lt_of_cell? w _ h) h1 h2 h3)

/-- a content in its variable -/
structure Bx (w wx : World) (p S F g : Nat) (v z : Value) (ids : List Int) (ss : List Slot) (fr : List Nat) : Prop where
  box : wx.heap[g]? = some (.cells #[v, z] 29 (0, 0))
  own : Own wx w.heap.size v ids
  ar : Ar wx p S F ss fr
  kp : Keeps p S F w wx

theorem endA {p S F : Nat} {w W w6 : World} {ss : List Slot} {fr : List Nat} {v z : Value} {ids : List Int} (hb : Below w.heap.size w W) (A : Ar w6 p S F ss fr) (K : Keeps p S F W w6) (O : Own w6 W.heap.size v ids) : Bx w (w6.alloc (.cells #[v, z] 29)) p S F w6.heap.size v z ids ss fr :=
  ⟨heap_alloc_new _ _, (O.base hb.size).grow (below_box _ _), A.alloc _, ((Keeps.ofBelow hb).trans K).alloc _⟩
theorem endB {p S F g : Nat} {w W w6 : World} {ss : List Slot} {fr : List Nat} {v z x y : Value} {ids : List Int} (hp : p < w.heap.size) (hS : S < w.heap.size) (hF : F < w.heap.size) (hb : Below w.heap.size w W) (A : Ar w6 p S F ss fr) (K : Keeps p S F W w6) (O : Own w6 W.heap.size v ids) (hg : w.heap.size ≤ g) (h : w6.heap[g]? = some (.cells #[x, y] 29 (0, 0))) :
    Bx w ((w6.setCell ⟨g, 0, none⟩ v).setCell ⟨g, 1, none⟩ z) p S F g v z ids ss fr := by
  obtain ⟨y1, y2⟩ := two_set h v z
  refine ⟨y1, (O.base hb.size).moved fun q _ _ ht => y2 q ?_, A.moved (y2 p (by omega)) (y2 S (by omega)) (y2 F (by omega)), keeps_new (keeps_new ((Keeps.ofBelow hb).trans K) hg _) hg _⟩
  rintro rfl
  have := ht _ _ _ h
  cases this

theorem bx_end {p S F g : Nat} {w w6 : World} {ss : List Slot} {fr : List Nat} {v z x y : Value} {ids : List Int} (hp : p < w.heap.size) (hS : S < w.heap.size) (hF : F < w.heap.size) (A : Ar w6 p S F ss fr) (K : Keeps p S F w w6) (O : Own w6 w.heap.size v ids) (h : w6.heap[g]? = some (.cells #[x, y] 29 (0, 0))) (hg : w.heap.size ≤ g) :
    Bx w ((w6.setCell ⟨g, 0, none⟩ v).setCell ⟨g, 1, none⟩ z) p S F g v z ids ss fr := by
  obtain ⟨y1, y2⟩ := two_set h v z
  refine ⟨y1, O.moved fun q _ _ ht => y2 q ?_, A.moved (y2 p (by omega)) (y2 S (by omega)) (y2 F (by omega)), keeps_new (keeps_new K hg _) hg _⟩
  rintro rfl
  have := ht _ _ _ h
  cases this

theorem bx_new {p S F : Nat} {w w6 : World} {ss : List Slot} {fr : List Nat} {v z : Value} {ids : List Int} (A : Ar w6 p S F ss fr) (K : Keeps p S F w w6) (O : Own w6 w.heap.size v ids) : Bx w (w6.alloc (.cells #[v, z] 29)) p S F w6.heap.size v z ids ss fr :=
  ⟨heap_alloc_new _ _, O.grow (below_box _ _), A.alloc _, K.alloc _⟩

theorem holdF_length : ∀ (ids : List Int) (ss : List Slot), (holdF ss ids).length = ss.length
  | [], ss => rfl
  | z :: r, ss => by rw [holdF, holdF_length r]; unfold hold1; split <;> simp

/-- one more content -/
theorem St.add {w w5 w7 w' : World} {p S F B n j : Nat} {v v' : Value} {xs : List Cn} {y : Cn} {ss ss' : List Slot} {fr fr' : List Nat} (h : St w w5 p S F B n j v xs ss fr) (K : Keeps p S F w5 w7) (A : Ar w7 p S F ss' fr') (hc : Cs w' B v' (xs ++ [y])) (hb : Below B w7 w') (I : Inv ss' fr' (y.ct :: xs.map Cn.ct)) (hl : ss'.length = ss.length) (hy : y.L.length ≤ 300 * (j + 1)) (hB : w.heap.size ≤ B) (hp : p < B) (hS : S < B) (hF : F < B) (hp' : w.heap.size ≤ p) (hS' : w.heap.size ≤ S) (hF' : w.heap.size ≤ F) : St w w' p S F B n (j + 1) v' (xs ++ [y]) ss' fr' := by
  refine ⟨(h.below.trans (K.below h.below.size hp' hS' hF')).trans (hb.mono hB), hc, A.moved (hb.block p hp) (hb.block S hS) (hb.block F hF), ?_, ?_, by have := h.num; simp; omega, by rw [hl]; exact h.len⟩
  · rw [List.map_append]
    exact I.perm (List.perm_append_singleton _ _).symm
  · intro x hx
    rcases List.mem_append.1 hx with hx | hx
    · have := h.size x hx; omega
    · simp at hx; subst hx; exact hy

theorem make38 (w : World) : (Instr.makeMap 38 none).run Try.prog w = .ok (.map (some w.heap.size)) (w.alloc (.map #[] 0)) := rfl

theorem key3 : Go.Maps.Keyed Try.prog 3 := Go.Maps.int_keyed Try.underlying3
theorem key_of3 (x : Int) (h : (Lit.int .i64 x).wf = true) : keyOf Try.prog 3 (.int .i64 x) = some (.int .i64 x) := by
  simp [keyOf, Try.underlying3, mapKey, h]
theorem wf_nat (n : Nat) (h : n ≤ 9223372036854775807) : (Lit.int .i64 (n : Int)).wf = true := by
  have e1 : IntKind.i64.min = -9223372036854775808 := by decide
  have e2 : IntKind.i64.max = 9223372036854775807 := by decide
  simp [Lit.wf, e1, e2]
  omega

theorem tot_small {w wr : World} {p S F B n j : Nat} {v : Value} {xs : List Cn} {ss : List Slot} {fr : List Nat} (h : St w wr p S F B n j v xs ss fr) (hj : j ≤ 60) (z : Int) : tot (xs.map Cn.ct) z ≤ 1200000 := by
  have h1 := tot_lens (xs.map Cn.ct) z
  have h2 := Inv.lens_le (fr := fr) 18000 h.inv.lies (by
    intro c hc
    obtain ⟨y, hy, rfl⟩ := List.mem_map.1 hc
    have := h.size y hy
    simp only [Cn.ct]; omega)
  rw [List.length_map] at h2
  have h3 := h.num
  have : xs.length * (18000 + 1) ≤ 60 * 18001 := Nat.mul_le_mul (by omega) (by omega)
  omega

theorem owns_moved {P : Program} {k : TypeId} {R : Value → Option (DataW Unit × List MemPlace)} {w w' : World} {b n : Nat} {D : DataW Unit} (h : w.ownsMap P k R b n D) (h1 : w'.heap[b]? = w.heap[b]?) : w'.ownsMap P k R b n D := by
  obtain ⟨es, clock, hb, q⟩ := h
  exact ⟨es, clock, h1.trans hb, q⟩

theorem tot_pos : ∀ (cs : List Ct) (z : Int), 0 < tot cs z → ∃ c ∈ cs, z ∈ c.1
  | [], z, h => by simp [tot] at h
  | c :: r, z, h => by
    by_cases e : z ∈ c.1
    · exact ⟨c, by simp, e⟩
    · have h0 : c.1.count z = 0 := List.count_eq_zero.2 e
      simp only [tot, h0, Nat.zero_add] at h
      obtain ⟨d, h1, h2⟩ := tot_pos r z h
      exact ⟨d, by simp [h1], h2⟩

theorem _root_.Go.Proofs.Ytpjfhfbjdcgbjac.Inv.holds_tot {ss : List Slot} {fr : List Nat} {cs : List Ct} (h : Inv ss fr cs) (z : Int) (hz : 0 < tot cs z) : holdsOf ss z = tot cs z := by
  obtain ⟨c, hc, hm⟩ := tot_pos cs z hz
  obtain ⟨i, s, e, hs, _⟩ := (h.lies c hc).held z hm
  subst e
  rw [holdsOf_nat ss i s hs, h.acc i s hs]

theorem zeros_src {W : World} {G nn : Nat} (h : W.heap[G]? = some (.cells (cellsOf (zeros nn)).toArray 5 (0, 0))) : Src W (some ⟨G, 0, none⟩) (zeros nn) := src_row _ [] h

theorem St.kept {w w5 wx : World} {p S F B n j : Nat} {v : Value} {xs : List Cn} {ss ss' : List Slot} {fr fr' : List Nat} (h : St w w5 p S F B n j v xs ss fr) (K : Keeps p S F w5 wx) (A : Ar wx p S F ss' fr') (I : Inv ss' fr' (xs.map Cn.ct)) (hl : ss'.length = ss.length) (hp : p < B) (hS : S < B) (hF : F < B) (hp' : w.heap.size ≤ p) (hS' : w.heap.size ≤ S) (hF' : w.heap.size ≤ F) : St w wx p S F B n j v xs ss' fr' :=
  ⟨h.below.trans (K.below h.below.size hp' hS' hF'), h.row.keeps K hp hS hF, A, I, h.size, h.num, by rw [hl]; exact h.len⟩

/-- one content is another one now -/
theorem St.set {w w5 wx : World} {p S F B n j : Nat} {gr k cv : Nat} {xs : List Cn} {ss ss' : List Slot} {fr fr' : List Nat} (h : St w w5 p S F B n j (.slice (some ⟨gr, 0, none⟩) k cv) xs ss fr) {i g : Nat} {x y : Cn} {z : Value} (hi : xs[i]? = some x)
    (hb : Bx w5 wx p S F g y.val z y.ids ss' fr') (hI : Inv ss' fr' (y.ct :: (xs.eraseIdx i).map Cn.ct)) (hl : ss'.length = ss.length) (hs : y.L.length ≤ 300 * (j + 1)) (hB5 : B ≤ w5.heap.size) (hB : w.heap.size ≤ B) (hp : p < B) (hS : S < B) (hF : F < B) (hp' : w.heap.size ≤ p) (hS' : w.heap.size ≤ S) (hF' : w.heap.size ≤ F) :
    St w ((wx.setCell ⟨gr, i * 2, none⟩ y.val).setCell ⟨gr, i * 2 + 1, none⟩ (.int .i64 (y.L.length : Int))) p S F B n (j + 1) (.slice (some ⟨gr, 0, none⟩) k cv) (xs.set i y) ss' fr' := by
  have hc := h.row.keeps hb.kp hp hS hF
  obtain ⟨_, e, hgB, _⟩ := hc.get hi
  simp at e
  subst e
  obtain ⟨c1, c2, c3⟩ := hc.set hi (hb.own.base hB5)
  have b1 := h.below.trans (hb.kp.below h.below.size hp' hS' hF')
  refine ⟨(b1.setCell (p := ⟨gr, i * 2, none⟩) (by show w.heap.size ≤ gr; omega) _).setCell (p := ⟨gr, i * 2 + 1, none⟩) (by show w.heap.size ≤ gr; omega) _, c1, hb.ar.moved (c2 p (by omega)) (c2 S (by omega)) (c2 F (by omega)), hI.perm (ahead_set hi y), ?_, by have := h.num; rw [List.length_set]; omega, by rw [hl]; exact h.len⟩
  intro q hq
  rcases List.mem_or_eq_of_mem_set hq with hq | rfl
  · have := h.size q hq; omega
  · exact hs

set_option maxRecDepth 100000 in
set_option maxHeartbeats 16000000 in
theorem walk_yes (n : Nat) (at_ : Option Addr) (N capt : Nat) (Z : Nat → Nat → Int) (w : World) (hn : n ≤ 100) (hN : N ≤ 60) (hT : Hid (Scr w at_ N Z)) :
    Calls Try.prog 3 #[.int .i64 (n : Int), .slice at_ N capt] w fun e w' => e = .returned (.bool true) ∧ Below w.heap.size w w' := by
  have hn0 : decide ((n : Int) < 0) = false := decide_eq_false (by omega)
  have hn1 : decide ((100 : Int) < (n : Int)) = false := decide_eq_false (by omega)
  have hN1 : decide ((60 : Int) < (N : Int)) = false := decide_eq_false (by omega)
  have hn2 : decide (100 < n) = false := decide_eq_false (by omega)
  have hN2 : decide (60 < N) = false := decide_eq_false (by omega)
  go_enter Try.func3, Try.ntmps3
  go_wp2_with fail
  refine (new_yes 2 w (by decide)).mono ?_
  rintro e w1 ⟨p, S, F, rfl, A1, B1, gp, gS, gF⟩
  obtain ⟨lp, lS, lF⟩ := A1.lt
  have kc := Lib.run_convert_bytes_const (P := Try.prog) w1 32 5 #[.int .u8 120] 1 1 Try.underlying32 Try.underlying5
  have I1 : Inv (blank 2) (down 2) [([], [])] := (blank_inv 2 _ A1.good).begin
  have bx1 := below_box w1 (.cells #[.int .u8 120] 5 (1, 2))
  have hcan : canCode (blank 2) (down 2) [] ([] : List Int).length ([120] : List Int).length = 0 := I1.can 1 (by decide) (by decide +kernel)
  have q := app_inv (A1.grow bx1) I1 none 0 0 (own_nil _ _) (some ⟨w1.heap.size, 0, none⟩) [120] 1 (by decide) (by decide) (src_mark_at w1 [120] 5 (1, 2) _ rfl) (fun _ ad e => by cases e; exact ⟨by simp; omega, by simp; omega, by simp; omega⟩) hcan
  simp only [List.length_nil, List.nil_append, Int.natCast_zero, List.length_cons, Nat.zero_add] at q
  have b1 : Below w.heap.size w (w1.alloc (.cells #[.int .u8 120] 5 (1, 2))) := B1.trans (bx1.mono B1.size)
  clear hcan I1
  go_wp2_with fail
  refine q.mono ?_
  rintro e w2 ⟨a2, c2, ids2, ss2, fr2, rfl, O2, A2, K2, I2, _, _⟩
  clear q kc
  obtain ⟨z, rfl⟩ : ∃ z, ids2 = [z] := by
    have hl := (I2.lies (ids2, [120]) (by simp)).len
    simp [need] at hl
    match ids2, hl with
    | [z], _ => exact ⟨z, rfl⟩
  obtain ⟨_, u1, _, u3, _⟩ := O2.use
  obtain ⟨bz, oz, rfl, hz⟩ := u1 (by simp)
  have hz0 := hz 0 z rfl
  rw [Nat.add_zero] at hz0
  have hH : holdsOf ss2 z = 1 := by
    obtain ⟨i, s, e, hs, _⟩ := (I2.lies ([z], [120]) (by simp)).held z (by simp)
    subst e
    rw [holdsOf_nat ss2 i s hs, I2.acc i s hs]
    simp [tot]
  have b2 : Below w.heap.size w w2 := b1.trans (K2.below b1.size (by omega) (by omega) (by omega))
  have g3 := heap_alloc_new w2 (.cells #[.slice (some ⟨bz, oz, none⟩) 1 c2, .int .i64 1] 29)
  have bx3 := below_box w2 (.cells #[.slice (some ⟨bz, oz, none⟩) 1 c2, .int .i64 1] 29)
  have hz3 := cell_below bx3 hz0
  have q := holds_any (A2.grow bx3) z
  rw [hH] at q
  have b3 := b2.trans (bx3.mono b2.size)
  obtain ⟨k0, k1, k2, k3⟩ := two_cells g3
  clear hH hz0 hz u1 u3 O2 A2 K2 I2 A1 b1 b2 bx1 bx3
  go_wp2_with fail
  generalize w2.alloc (.cells #[.slice (some ⟨bz, oz, none⟩) 1 c2, .int .i64 1] 29) = w3 at *
  refine q.mono ?_
  rintro e w' ⟨rfl, rfl⟩
  clear q k0 k1 k2 k3 hz3 g3
  go_wp2_with fail
  clear gp gS gF lp lS lF
  refine (new_yes n w3 (by omega)).mono ?_
  rintro e w4 ⟨p, S, F, rfl, A4, B4, gp, gS, gF⟩
  obtain ⟨lp, lS, lF⟩ := A4.lt
  have b4 : Below w.heap.size w w4 := b3.trans (B4.mono b3.size)
  have s4 := b3.size
  have T4 : Hid (St w w4 p S F w4.heap.size n 0 (.slice none 0 0) [] (blank n) (down n)) := ⟨b4, cs_nil _ _, A4, blank_inv n _ A4.good, fun x h => by simp at h, by simp, blank_length n⟩
  clear b3 B4 A4 b4 B1
  go_wp2_with fail
  go_loopw [9, 71] (fun s9 x wr => ∃ (j k : Nat) (av : Option Addr) (cv : Nat) (xs : List Cn) (ss : List Slot) (fr : List Nat), j ≤ N ∧ x = .int .i64 (j : Int) ∧ s9 = .slice av k cv ∧ k ≤ j ∧ Hid (w4.heap.size ≤ wr.heap.size) ∧ Hid (St w wr p S F w4.heap.size n j (.slice av k cv) xs ss fr)) (fun _ x _ => N - (intOf x).toNat)
  case atStart => exact ⟨0, 0, none, 0, [], blank n, down n, by omega, rfl, rfl, by omega, Nat.le_refl _, T4.out⟩
  case round =>
    clear T4
    obtain ⟨j, k, av, cv, xs, ss, fr, hj, rfl, rfl, hkj, HZ, H⟩ := hrel
    by_cases hlt : j < N
    · obtain ⟨bs, os, ead, c0, c1, c2, hzb⟩ := hT.out j hlt
      have c0 := cell_below H.out.below c0
      have c1 := cell_below H.out.below c1
      have c2 := cell_below H.out.below c2
      subst ead
      have z0 := hzb 0
      have z1 := hzb 1
      have z2 := hzb 2
      have hsz := HZ.out
      have hwb := H.out.below.size
      generalize Z j 0 = o0 at *
      generalize Z j 1 = o1 at *
      generalize Z j 2 = o2 at *
      clear hzb
      have bx := below_box wr (.cells #[.int .i64 o0, .int .i64 o1, .int .i64 o2] 35)
      have g5 := heap_alloc_new wr (.cells #[.int .i64 o0, .int .i64 o1, .int .i64 o2] 35)
      have H5 : Hid (St w (wr.alloc (.cells #[.int .i64 o0, .int .i64 o1, .int .i64 o2] 35)) p S F w4.heap.size n j (.slice av k cv) xs ss fr) := ⟨H.out.below.trans (bx.mono H.out.below.size), H.out.row.grow bx, H.out.ar.grow bx, H.out.inv, H.out.size, H.out.num, H.out.len⟩
      have s5 : wr.heap.size + 1 ≤ (wr.alloc (.cells #[.int .i64 o0, .int .i64 o1, .int .i64 o2] 35)).heap.size := by simp
      go_upto_region 14 with fail
      generalize wr.alloc (.cells #[.int .i64 o0, .int .i64 o1, .int .i64 o2] 35) = w5 at *
      have d0 : w5.cell? ⟨wr.heap.size, 0, none⟩ = some (.int .i64 o0) := by simp [World.cell?, g5]
      have d1 : w5.cell? ⟨wr.heap.size, 1, none⟩ = some (.int .i64 o1) := by simp [World.cell?, g5]
      have d2 : w5.cell? ⟨wr.heap.size, 2, none⟩ = some (.int .i64 o2) := by simp [World.cell?, g5]
      clear c0 c1 c2 bx H HZ
      have hB5 : w4.heap.size ≤ w5.heap.size := by omega
      have C5 := H5.out.row
      by_cases hk0 : k = 0
      · have hkb : ((k : Int) == 0) = true := by simp; omega
        have HK0 : Hid (k = 0) := hk0
        clear hk0
        go_wp2_with (at_builtin; refine wpList_pushC (W := w5) rfl _ _ rfl w4.heap.size k cv av xs ⟨none, 0, [], []⟩ 0 rfl rfl C5 (own_nil _ _) hB5 rfl (by omega) ?_)
        intro g9 c9 w9 C9 mv9 b9
        have HT9 : Hid (St w w9 p S F w4.heap.size n (j + 1) (.slice (some ⟨g9, 0, none⟩) (k + 1) c9) (xs ++ [⟨none, 0, [], []⟩]) ss fr) := H5.out.push C9 b9 (by omega) (by omega) (by omega) (by omega)
        have hz9 : Hid (w4.heap.size ≤ w9.heap.size) := by have := b9.size; show _ ≤ _; omega
        clear C9 mv9 b9 C5 H5
        go_wp2
        go_roundw
        case rel => exact ⟨j + 1, k + 1, _, c9, _, ss, fr, by omega, by go_num, by first | rfl | (congr 1), by omega, hz9.out, HT9.out⟩
        case measure => simp [intOf]; omega
      · have hkb : ((k : Int) == 0) = false := by simp; omega
        by_cases h3 : Int.tmod o0 4 = 3
        · have h3b : (Int.tmod o0 4 == 3) = true := by simp [h3]
          clear h3
          go_wp2_with (at_builtin; refine wpList_pushC (W := w5) rfl _ _ rfl w4.heap.size k cv av xs ⟨none, 0, [], []⟩ 0 rfl rfl C5 (own_nil _ _) hB5 rfl (by omega) ?_)
          intro g9 c9 w9 C9 mv9 b9
          have HT9 : Hid (St w w9 p S F w4.heap.size n (j + 1) (.slice (some ⟨g9, 0, none⟩) (k + 1) c9) (xs ++ [⟨none, 0, [], []⟩]) ss fr) := H5.out.push C9 b9 (by omega) (by omega) (by omega) (by omega)
          have hz9 : Hid (w4.heap.size ≤ w9.heap.size) := by have := b9.size; show _ ≤ _; omega
          clear C9 mv9 b9 C5 H5
          go_wp2
          go_roundw
          case rel => exact ⟨j + 1, k + 1, _, c9, _, ss, fr, by omega, by go_num, by first | rfl | (congr 1), by omega, hz9.out, HT9.out⟩
          case measure => simp [intOf]; omega
        · have h3b : (Int.tmod o0 4 == 3) = false := by simp [h3]
          go_upto_region 16 with fail
          have hk1 : (1 : Int) ≤ (k : Int) := by omega
          have hk9 : (k : Int) ≤ 60 := by omega
          have hk2 : ¬ (k : Int) = 0 := by omega
          go_cut [12] (fun s12 wx => ∃ i : Nat, i < k ∧ s12 = .int .i64 (i : Int) ∧ w5 = wx)
          case first =>
            by_cases hm : (0 : Int) < o1
            · obtain ⟨m, rfl⟩ : ∃ m : Nat, o1 = (m : Int) := ⟨o1.toNat, by omega⟩
              have hmod : Int.tmod (m : Int) (k : Int) = ((m % k : Nat) : Int) := by rw [Int.tmod_eq_emod_of_nonneg (by omega)]; simp
              have hlt2 : m % k < k := Nat.mod_lt _ (by omega)
              go_wp2_with fail
              all_goals go_meet
              all_goals exact ⟨m % k, hlt2, by first | rfl | (congr 1), rfl⟩
            · go_wp2_with fail
              all_goals go_meet
              all_goals exact ⟨0, by omega, by first | rfl | simp, rfl⟩
          case rest =>
            obtain ⟨i, hik, rfl, rfl⟩ := hcut
            rename_i KK hgo
            refine hgo _ _ ?_
            clear hgo
            refine wp_seq_k (fun K2 hK2 => ?_)
            go_cut [9] (fun s9 wx => ∃ (k' : Nat) (av' : Option Addr) (cv' : Nat) (xs' : List Cn) (ss' : List Slot) (fr' : List Nat), s9 = .slice av' k' cv' ∧ k' ≤ j + 1 ∧ Hid (w4.heap.size ≤ wx.heap.size) ∧ Hid (St w wx p S F w4.heap.size n (j + 1) (.slice av' k' cv') xs' ss' fr'))
            case first =>
              clear hK2
              have hlen := C5.len.1
              obtain ⟨x, hx⟩ : ∃ x, xs[i]? = some x := ⟨xs[i]'(by omega), List.getElem?_eq_getElem _⟩
              have hbd := H5.out.bound (by omega) (List.mem_of_getElem? hx)
              have hxs := H5.out.size x (List.mem_of_getElem? hx)
              obtain ⟨gr, eav, hgB, hgl, c0, c1', fz⟩ := C5.get hx
              have hI0 := H5.out.inv.perm (ahead hx)
              have hox := C5.own x (List.mem_of_getElem? hx)
              obtain ⟨xa, xc, xi, xL⟩ := x
              simp only [Cn.val, Cn.ct] at *
              subst eav
              obtain ⟨lp5, lS5, lF5⟩ := H5.out.ar.lt
              have HX : Hid (xs[i]? = some ⟨xa, xc, xi, xL⟩) := hx
              have HI : Hid (Inv ss fr ((xi, xL) :: (xs.eraseIdx i).map Cn.ct)) := hI0
              have HBd : Hid _ := hbd
              have HXs : Hid (xL.length ≤ 300 * j) := hxs
              have HO : Hid (Own w5 w4.heap.size (.slice xa xi.length xc) xi) := hox
              have hw5 : wr.heap.size < w5.heap.size := by omega
              have HLn : Hid (k = xs.length) := hlen
              have HC : Hid (Cs w5 w4.heap.size (.slice (some ⟨gr, 0, none⟩) k cv) xs) := C5
              clear hx hI0 hbd hox hlen C5 hxs
              by_cases h0 : Int.tmod o0 4 = 0
              · have h0b : (Int.tmod o0 4 == 0) = true := by simp [h0]
                clear h0 h3
                obtain ⟨m, hm⟩ : ∃ m : Nat, xL.length = m := ⟨_, rfl⟩
                obtain ⟨nn, hnn, hnn2⟩ : ∃ nn : Nat, nn ≤ 300 ∧ (¬ 0 < o2 ∧ nn = 0 ∨ 300 < o2 ∧ nn = 300 ∨ o2 = 300 ∧ nn = 300 ∨ 0 < o2 ∧ o2 < 300 ∧ o2 = (nn : Int)) := by
                  by_cases q1 : 0 < o2
                  · by_cases q2 : 300 < o2
                    · exact ⟨300, by omega, .inr (.inl ⟨q2, rfl⟩)⟩
                    · by_cases q3 : o2 = 300
                      · exact ⟨300, by omega, .inr (.inr (.inl ⟨q3, rfl⟩))⟩
                      · exact ⟨o2.toNat, by omega, .inr (.inr (.inr ⟨q1, by omega, by omega⟩))⟩
                  · exact ⟨0, by omega, .inl ⟨q1, rfl⟩⟩
                have hV : (if (0 : Int) < (if (300 : Int) < o2 then 300 else o2) then (if (300 : Int) < o2 then 300 else o2) else 0) = (nn : Int) := by
                  rcases hnn2 with ⟨q1, rfl⟩ | ⟨q1, rfl⟩ | ⟨rfl, rfl⟩ | ⟨q1, q2, q3⟩
                  · rw [if_neg (by split <;> omega)]; rfl
                  · rw [if_pos q1, if_pos (by omega)]; rfl
                  · rfl
                  · have e : (if (300 : Int) < o2 then 300 else o2) = o2 := if_neg (by omega)
                    rw [e, if_pos q1]; exact q3
                have HV : Hid _ := hV
                have hmk := make30 nn (by omega)
                have zl : (zeros nn).length = nn := zeros_length nn
                rw [hm] at c1'
                have HM : Hid (xL.length = m) := hm
                clear hnn2 hm hV
                by_cases hcan : canCode ss fr xi m nn = 0
                · obtain ⟨m2, hm2⟩ : ∃ m2 : Nat, (xL ++ zeros nn).length = m2 := ⟨_, rfl⟩
                  have HM2 : Hid ((xL ++ zeros nn).length = m2) := hm2
                  have HQ : Hid (∀ (W : World) (G : Nat), Below w5.heap.size w5 W → W.heap[G]? = some (.cells (cellsOf (zeros nn)).toArray 5 (0, 0)) → w5.heap.size ≤ G → Calls Try.prog 5 #[.pointer (some ⟨p, 0, none⟩), .agg #[.slice xa xi.length xc, .int .i64 (m : Int)], .slice (some ⟨G, 0, none⟩) nn nn] W fun e w' => ∃ (a' : Option Addr) (c' : Nat) (ids3 : List Int) (ss3 : List Slot) (fr3 : List Nat), e = .returned (.tuple #[.agg #[.slice a' ids3.length c', .int .i64 (m2 : Int)], .int .i64 0]) ∧ Own w' W.heap.size (.slice a' ids3.length c') ids3 ∧ Ar w' p S F ss3 fr3 ∧ Keeps p S F W w' ∧ Hid (Inv ss3 fr3 ((ids3, xL ++ zeros nn) :: (xs.eraseIdx i).map Cn.ct) ∧ ss3.length = ss.length)) := by
                    intro W G hb hG hGl
                    have q := app_inv2 (H5.out.ar.grow hb) HI.out xa xc w4.heap.size (HO.out.grow hb) (some ⟨G, 0, none⟩) (zeros nn) nn (by omega) (by omega) (zeros_src hG) (fun _ ad e => by cases e; exact ⟨by simp; omega, by simp; omega, by simp; omega⟩) (by rw [HM.out, zl]; exact hcan)
                    rw [HM.out, zl, hm2] at q
                    refine q.mono ?_
                    rintro e w' ⟨a', c', ids3, ss3, fr3, h1, h2, h3, h4, h5, _, h7, _⟩
                    exact ⟨a', c', ids3, ss3, fr3, h1, h2, h3, h4, h5, h7⟩
                  clear hm2 zl
                  have HS : Hid (∀ W, Keeps p S F w5 W → W.cell? ⟨gr, i * 2, none⟩ = some (.slice xa xi.length xc) ∧ W.cell? ⟨gr, i * 2 + 1, none⟩ = some (.int .i64 (m : Int)) ∧ W.cell? ⟨wr.heap.size, 2, none⟩ = some (.int .i64 o2)) := fun W K => ⟨cell_keeps K c0 (by simp; omega) (by simp; omega) (by simp; omega), cell_keeps K c1' (by simp; omega) (by simp; omega) (by simp; omega), cell_keeps K d2 (by simp; omega) (by simp; omega) (by simp; omega)⟩
                  go_upto_region 19 with fail
                  go_cut [13, 14] (fun s13 s14 wx => s14 = .int .i64 0 ∧ ∃ (g : Nat) (a' : Option Addr) (c' : Nat) (ids3 : List Int) (ss3 : List Slot) (fr3 : List Nat), s13 = .pointer (some ⟨g, 0, none⟩) ∧ Hid (Bx w5 wx p S F g (.slice a' ids3.length c') (.int .i64 (m2 : Int)) ids3 ss3 fr3) ∧ Hid (Inv ss3 fr3 ((ids3, xL ++ zeros nn) :: (xs.eraseIdx i).map Cn.ct) ∧ ss3.length = ss.length))
                  case first =>
                    have hV := HV.out
                    obtain ⟨v7, hV7⟩ : ∃ v7, (if (300 : Int) < o2 then 300 else o2) = v7 := ⟨_, rfl⟩
                    rw [hV7] at hV
                    have hV8 : (if (0 : Int) < v7 then v7 else 0) = (nn : Int) := hV
                    clear hV
                    have h0 : (fun W => W.cell? ⟨gr, i * 2, none⟩ = some (.slice xa xi.length xc) ∧ W.cell? ⟨gr, i * 2 + 1, none⟩ = some (.int .i64 (m : Int)) ∧ W.cell? ⟨wr.heap.size, 2, none⟩ = some (.int .i64 o2)) w5.drew := HS.out _ (Keeps.refl p S F w5).drew
                    refine wp_region_held_drew (S := (fun W => W.cell? ⟨gr, i * 2, none⟩ = some (.slice xa xi.length xc) ∧ W.cell? ⟨gr, i * 2 + 1, none⟩ = some (.int .i64 (m : Int)) ∧ W.cell? ⟨wr.heap.size, 2, none⟩ = some (.int .i64 o2))) (by kernel_rfl) h0 (fun hHeld => ?_)
                    refine wpAnyH_take (i := 0) (oi := { dst := some 100, op := Op.move (Operand.tmp 5), type := 23, pos := "top02.go:31", after := #[], guard := none }) (v := ?_) rfl (by kernel_rfl) (by kernel_rfl) (by kernel_rfl) (fun _ _ _ h => h) (Or.inl ⟨by rfl, ?_⟩) (by assumption) ?_
                    rotate_left 1
                    · (intro W hSw; obtain ⟨_, _, _⟩ := hSw; go_simp; try with_reducible rfl)
                    try simp only [Act.put, List.setIfInBounds_toArray, List.set_cons_zero, List.set_cons_succ]
                    refine wpAnyH_take (i := 1) (oi := { dst := some 101, op := Op.move (Operand.tmp 9), type := 34, pos := "top02.go:31", after := #[], guard := none }) (v := ?_) rfl (by kernel_rfl) (by kernel_rfl) (by kernel_rfl) (fun _ _ _ h => h) (Or.inl ⟨by rfl, ?_⟩) (by assumption) ?_
                    rotate_left 1
                    · (intro W hSw; obtain ⟨_, _, _⟩ := hSw; go_simp; try with_reducible rfl)
                    try simp only [Act.put, List.setIfInBounds_toArray, List.set_cons_zero, List.set_cons_succ]
                    refine wpAnyH_take (i := 2) (oi := { dst := some 102, op := Op.move (Operand.tmp 12), type := 3, pos := "top02.go:31", after := #[], guard := none }) (v := ?_) rfl (by kernel_rfl) (by kernel_rfl) (by kernel_rfl) (fun _ _ _ h => h) (Or.inl ⟨by rfl, ?_⟩) (by assumption) ?_
                    rotate_left 1
                    · (intro W hSw; obtain ⟨_, _, _⟩ := hSw; go_simp; try with_reducible rfl)
                    try simp only [Act.put, List.setIfInBounds_toArray, List.set_cons_zero, List.set_cons_succ]
                    refine wpAnyH_take (i := 3) (oi := { dst := some 103, op := Op.indexAddr 34 (Operand.tmp 101) (Operand.tmp 102), type := 0, pos := "top02.go:31", after := #[{ on := 1, ground := Ground.data }, { on := 2, ground := Ground.data }], guard := none }) (v := ?_) rfl (by kernel_rfl) (by kernel_rfl) (by kernel_rfl) (fun _ _ _ h => h) (Or.inl ⟨by rfl, ?_⟩) (by assumption) ?_
                    rotate_left 1
                    · (intro W hSw; obtain ⟨_, _, _⟩ := hSw; go_simp; try with_reducible rfl)
                    try simp only [Act.put, List.setIfInBounds_toArray, List.set_cons_zero, List.set_cons_succ]
                    refine wpAnyH_take (i := 4) (oi := { dst := some 104, op := Op.load 29 (Operand.tmp 103), type := 29, pos := "top02.go:31", after := #[{ on := 3, ground := Ground.data }], guard := none }) (v := ?_) rfl (by kernel_rfl) (by kernel_rfl) (by kernel_rfl) (fun _ _ _ h => h) (Or.inl ⟨by rfl, ?_⟩) (by assumption) ?_
                    rotate_left 1
                    · (intro W hSw; obtain ⟨_, _, _⟩ := hSw; go_simp; try with_reducible rfl)
                    try simp only [Act.put, List.setIfInBounds_toArray, List.set_cons_zero, List.set_cons_succ]
                    refine wpAnyH_take (i := 5) (oi := { dst := some 105, op := Op.indexAddr 35 (Operand.tmp 11) (Operand.const (Value.int IntKind.i64 2)), type := 0, pos := "top02.go:31", after := #[], guard := none }) (v := ?_) rfl (by kernel_rfl) (by kernel_rfl) (by kernel_rfl) (fun _ _ _ h => h) (Or.inl ⟨by rfl, ?_⟩) (by assumption) ?_
                    rotate_left 1
                    · (intro W hSw; obtain ⟨_, _, _⟩ := hSw; go_simp; try with_reducible rfl)
                    try simp only [Act.put, List.setIfInBounds_toArray, List.set_cons_zero, List.set_cons_succ]
                    refine wpAnyH_take (i := 6) (oi := { dst := some 106, op := Op.load 3 (Operand.tmp 105), type := 3, pos := "top02.go:31", after := #[{ on := 5, ground := Ground.data }], guard := none }) (v := ?_) rfl (by kernel_rfl) (by kernel_rfl) (by kernel_rfl) (fun _ _ _ h => h) (Or.inl ⟨by rfl, ?_⟩) (by assumption) ?_
                    rotate_left 1
                    · (intro W hSw; obtain ⟨_, _, _⟩ := hSw; go_simp; try with_reducible rfl)
                    try simp only [Act.put, List.setIfInBounds_toArray, List.set_cons_zero, List.set_cons_succ]
                    refine wpAnyH_take (i := 7) (oi := { dst := some 107, op := Op.call { callee := Callee.builtin Builtin.min, args := #[Operand.tmp 106, Operand.const (Value.int IntKind.i64 300)], argTypes := #[3, 3] }, type := 3, pos := "top02.go:31", after := #[{ on := 6, ground := Ground.data }], guard := none }) (v := .int .i64 v7) rfl (by kernel_rfl) (by kernel_rfl) (by kernel_rfl) (fun _ _ _ h => h) (Or.inl ⟨by rfl, ?_⟩) (by assumption) ?_
                    · (intro W hSw; obtain ⟨_, _, _⟩ := hSw; go_simp; (try simp only [hV7]); (try with_reducible rfl))
                    try simp only [Act.put, List.setIfInBounds_toArray, List.set_cons_zero, List.set_cons_succ]
                    refine wpAnyH_take (i := 8) (oi := { dst := some 108, op := Op.call { callee := Callee.builtin Builtin.max, args := #[Operand.const (Value.int IntKind.i64 0), Operand.tmp 107], argTypes := #[3, 3] }, type := 3, pos := "top02.go:31", after := #[{ on := 7, ground := Ground.data }], guard := none }) (v := .int .i64 (nn : Int)) rfl (by kernel_rfl) (by kernel_rfl) (by kernel_rfl) (fun _ _ _ h => h) (Or.inl ⟨by rfl, ?_⟩) (by assumption) ?_
                    · (intro W hSw; obtain ⟨_, _, _⟩ := hSw; go_simp; (try simp only [hV8]); (try with_reducible rfl))
                    try simp only [Act.put, List.setIfInBounds_toArray, List.set_cons_zero, List.set_cons_succ]
                    refine wpAnyH_ready (rs := [9, 14]) (by kernel_rfl) (by simp) ?_
                    refine AllReadyH.cons (o := { dst := some 109, op := Op.makeSlice 32 (Operand.tmp 108) (Operand.tmp 108), type := 32, pos := "top02.go:31", after := #[{ on := 8, ground := Ground.data }, { on := 8, ground := Ground.data }], guard := none }) rfl (fun K hK => ?_) (AllReadyH.cons (o := { dst := some 13, op := Op.alloc 29, type := 0, pos := "top02.go:31", after := #[], guard := none }) rfl (fun K hK => ?_) AllReadyH.nil)
                    · go_simp
                      have k_1 := (Keeps.refl p S F w5).drew.alloc (.cells (cellsOf (zeros nn)).toArray 5)
                      have bl_1 := (Below.refl w5.heap.size w5).drew.alloc (Below.refl w5.heap.size w5).drew.size (.cells (cellsOf (zeros nn)).toArray 5)
                      have z_1 : (w5.drew.alloc (.cells (cellsOf (zeros nn)).toArray 5)).heap[w5.heap.size]? = some (.cells (cellsOf (zeros nn)).toArray 5) := heap_alloc_new w5.drew _
                      refine hK.out _ _ (HS.out _ k_1) (fun hHeld => ?_)
                      clear hK K
                      try simp only [Act.put, List.setIfInBounds_toArray, List.set_cons_zero, List.set_cons_succ]
                      refine wpAnyH_ready (rs := [10, 14]) (by kernel_rfl) (by simp) ?_
                      refine AllReadyH.cons (o := { dst := some 110, op := Op.call { callee := Callee.value (Operand.func 5), args := #[Operand.tmp 100, Operand.tmp 104, Operand.tmp 109], argTypes := #[23, 29, 32] }, type := 30, pos := "top02.go:31", after := #[{ on := 0, ground := Ground.data }, { on := 4, ground := Ground.data }, { on := 9, ground := Ground.data }], guard := none }) rfl (fun K hK => ?_) (AllReadyH.cons (o := { dst := some 13, op := Op.alloc 29, type := 0, pos := "top02.go:31", after := #[], guard := none }) rfl (fun K hK => ?_) AllReadyH.nil)
                      · go_simp
                        go_at_call 5
                        refine (HQ.out _ _ bl_1 z_1 (by first | omega | (simp; done) | (simp; omega))).mono ?_
                        rintro e w6 ⟨a6, c6, ids6, ss6, fr6, rfl, O6, A6, K6, I6⟩
                        have k_2 := k_1.trans K6
                        have O_2 := O6.base bl_1.size
                        have sz6 := k_2.size
                        go_wp2_with fail
                        refine hK.out _ _ (HS.out _ k_2) (fun hHeld => ?_)
                        clear hK K
                        try simp only [Act.put, List.setIfInBounds_toArray, List.set_cons_zero, List.set_cons_succ]
                        have HA6 : Hid _ := A6
                        have HK6 : Hid _ := k_2
                        have HO6 : Hid (Own w6 w5.heap.size (.slice a6 ids6.length c6) ids6) := O_2
                        clear A6 k_2 O_2 O6 K6
                        refine wpAnyH_take (i := 11) (oi := { dst := some 99, op := Op.move (Operand.tmp 110), type := 30, pos := "top02.go:31", after := #[{ on := 10, ground := Ground.data }], guard := none }) (v := ?_) rfl (by kernel_rfl) (by kernel_rfl) (by kernel_rfl) (fun _ _ _ h => h) (Or.inl ⟨by rfl, ?_⟩) (by assumption) ?_
                        rotate_left 1
                        · (intro W hSw; obtain ⟨_, _, _⟩ := hSw; go_simp; try with_reducible rfl)
                        try simp only [Act.put, List.setIfInBounds_toArray, List.set_cons_zero, List.set_cons_succ]
                        refine wpAnyH_take (i := 12) (oi := { dst := some 111, op := Op.extract (Operand.tmp 99) 0, type := 29, pos := "top02.go:31", after := #[{ on := 11, ground := Ground.data }], guard := none }) (v := ?_) rfl (by kernel_rfl) (by kernel_rfl) (by kernel_rfl) (fun _ _ _ h => h) (Or.inl ⟨by rfl, ?_⟩) (by assumption) ?_
                        rotate_left 1
                        · (intro W hSw; obtain ⟨_, _, _⟩ := hSw; go_simp; try with_reducible rfl)
                        try simp only [Act.put, List.setIfInBounds_toArray, List.set_cons_zero, List.set_cons_succ]
                        refine wpAnyH_take (i := 13) (oi := { dst := some 112, op := Op.extract (Operand.tmp 99) 1, type := 24, pos := "top02.go:31", after := #[{ on := 11, ground := Ground.data }, { on := 15, ground := Ground.gcOnly Departure.lateStores }], guard := none }) (v := ?_) rfl (by kernel_rfl) (by kernel_rfl) (by kernel_rfl) (fun _ _ _ h => h) (Or.inl ⟨by rfl, ?_⟩) (by assumption) ?_
                        rotate_left 1
                        · (intro W hSw; obtain ⟨_, _, _⟩ := hSw; go_simp; try with_reducible rfl)
                        try simp only [Act.put, List.setIfInBounds_toArray, List.set_cons_zero, List.set_cons_succ]
                        refine wpAnyH_ready (rs := [14]) (by kernel_rfl) (by simp) ?_
                        refine AllReadyH.cons (o := { dst := some 13, op := Op.alloc 29, type := 0, pos := "top02.go:31", after := #[], guard := none }) rfl (fun K hK => ?_) AllReadyH.nil
                        · go_simp
                          have k_3 := HK6.out.alloc (.cells #[.slice none 0 0, .int .i64 0] 29)
                          have x_3 := heap_alloc_new (w6) (.cells #[.slice none 0 0, .int .i64 0] 29)
                          have A_3 := Ar.alloc HA6.out (.cells #[.slice none 0 0, .int .i64 0] 29)
                          have O_3 := Own.grow HO6.out (below_box w6 (.cells #[.slice none 0 0, .int .i64 0] 29))
                          refine hK.out _ _ (HS.out _ k_3) (fun hHeld => ?_)
                          clear hK K
                          try simp only [Act.put, List.setIfInBounds_toArray, List.set_cons_zero, List.set_cons_succ]
                          refine wpAnyH_ready (rs := [15]) (by kernel_rfl) (by simp) ?_
                          refine AllReadyH.cons (o := { dst := none, op := Op.store 29 (Operand.tmp 13) (Operand.tmp 111), type := 0, pos := "top02.go:31", after := #[{ on := 14, ground := Ground.data }, { on := 12, ground := Ground.data }, { on := 10, ground := Ground.chain }, { on := 0, ground := Ground.phase }, { on := 1, ground := Ground.phase }, { on := 2, ground := Ground.phase }, { on := 3, ground := Ground.phase }, { on := 4, ground := Ground.phase }, { on := 5, ground := Ground.phase }, { on := 6, ground := Ground.phase }, { on := 7, ground := Ground.phase }, { on := 8, ground := Ground.phase }, { on := 9, ground := Ground.phase }, { on := 10, ground := Ground.phase }, { on := 11, ground := Ground.phase }, { on := 12, ground := Ground.phase }, { on := 13, ground := Ground.textOnly Departure.lateStores }, { on := 14, ground := Ground.phase }], guard := none }) rfl (fun K hK => ?_) AllReadyH.nil
                          · obtain ⟨y0, y1, y2, y3⟩ := two_cells x_3
                            have E_4 := bx_new HA6.out HK6.out HO6.out (z := .int .i64 (m2 : Int))
                            go_simp
                            refine hK.out _ _ (HS.out _ E_4.kp) (fun hHeld => ?_)
                            clear hK K
                            try simp only [Act.put, List.setIfInBounds_toArray, List.set_cons_zero, List.set_cons_succ]
                            refine wpAnyH_take (i := 16) (oi := { dst := some 14, op := Op.assign (Operand.tmp 112), type := 24, pos := "top02.go:31", after := #[{ on := 13, ground := Ground.data }, { on := 15, ground := Ground.chain }, { on := 0, ground := Ground.phase }, { on := 1, ground := Ground.phase }, { on := 2, ground := Ground.phase }, { on := 3, ground := Ground.phase }, { on := 4, ground := Ground.phase }, { on := 5, ground := Ground.phase }, { on := 6, ground := Ground.phase }, { on := 7, ground := Ground.phase }, { on := 8, ground := Ground.phase }, { on := 9, ground := Ground.phase }, { on := 10, ground := Ground.phase }, { on := 11, ground := Ground.phase }, { on := 12, ground := Ground.phase }, { on := 13, ground := Ground.phase }, { on := 14, ground := Ground.phase }, { on := 15, ground := Ground.phase }], guard := none }) (v := ?_) rfl (by kernel_rfl) (by kernel_rfl) (by kernel_rfl) (fun _ _ _ h => h) (Or.inl ⟨by rfl, ?_⟩) (by assumption) ?_
                            rotate_left 1
                            · (intro W hSw; obtain ⟨_, _, _⟩ := hSw; go_simp; try with_reducible rfl)
                            try simp only [Act.put, List.setIfInBounds_toArray, List.set_cons_zero, List.set_cons_succ]
                            refine wpAnyH_done (by kernel_rfl) ?_ _
                            go_wp2_with fail
                            go_meet
                            exact ⟨rfl, _, _, _, _, _, _, rfl, E_4, I6⟩
                      · go_simp
                        have k_5 := k_1.alloc (.cells #[.slice none 0 0, .int .i64 0] 29)
                        have x_5 : ((w5.drew.alloc (.cells (cellsOf (zeros nn)).toArray 5)).alloc (.cells #[.slice none 0 0, .int .i64 0] 29)).heap[w5.heap.size + 1]? = some (.cells #[.slice none 0 0, .int .i64 0] 29) := heap_alloc2_new w5.drew _ _
                        have bl_5 := bl_1.alloc bl_1.size (.cells #[.slice none 0 0, .int .i64 0] 29)
                        have z_5 := heap_alloc (.cells #[.slice none 0 0, .int .i64 0] 29) z_1
                        refine hK.out _ _ (HS.out _ k_5) (fun hHeld => ?_)
                        clear hK K
                        try simp only [Act.put, List.setIfInBounds_toArray, List.set_cons_zero, List.set_cons_succ]
                        refine wpAnyH_ready (rs := [10]) (by kernel_rfl) (by simp) ?_
                        refine AllReadyH.cons (o := { dst := some 110, op := Op.call { callee := Callee.value (Operand.func 5), args := #[Operand.tmp 100, Operand.tmp 104, Operand.tmp 109], argTypes := #[23, 29, 32] }, type := 30, pos := "top02.go:31", after := #[{ on := 0, ground := Ground.data }, { on := 4, ground := Ground.data }, { on := 9, ground := Ground.data }], guard := none }) rfl (fun K hK => ?_) AllReadyH.nil
                        · go_simp
                          go_at_call 5
                          refine (HQ.out _ _ bl_5 z_5 (by first | omega | (simp; done) | (simp; omega))).mono ?_
                          rintro e w6 ⟨a6, c6, ids6, ss6, fr6, rfl, O6, A6, K6, I6⟩
                          have k_6 := k_5.trans K6
                          have x_6 := (K6.block _ (lt_of_heap x_5) (by first | omega | (simp; done) | (simp; omega)) (by first | omega | (simp; done) | (simp; omega)) (by first | omega | (simp; done) | (simp; omega))).trans x_5
                          have O_6 := O6.base bl_5.size
                          have sz6 := k_6.size
                          go_wp2_with fail
                          refine hK.out _ _ (HS.out _ k_6) (fun hHeld => ?_)
                          clear hK K
                          try simp only [Act.put, List.setIfInBounds_toArray, List.set_cons_zero, List.set_cons_succ]
                          have HA6 : Hid _ := A6
                          have HK6 : Hid _ := k_6
                          have HO6 : Hid (Own w6 w5.heap.size (.slice a6 ids6.length c6) ids6) := O_6
                          clear A6 k_6 O_6 O6 K6
                          refine wpAnyH_take (i := 11) (oi := { dst := some 99, op := Op.move (Operand.tmp 110), type := 30, pos := "top02.go:31", after := #[{ on := 10, ground := Ground.data }], guard := none }) (v := ?_) rfl (by kernel_rfl) (by kernel_rfl) (by kernel_rfl) (fun _ _ _ h => h) (Or.inl ⟨by rfl, ?_⟩) (by assumption) ?_
                          rotate_left 1
                          · (intro W hSw; obtain ⟨_, _, _⟩ := hSw; go_simp; try with_reducible rfl)
                          try simp only [Act.put, List.setIfInBounds_toArray, List.set_cons_zero, List.set_cons_succ]
                          refine wpAnyH_take (i := 12) (oi := { dst := some 111, op := Op.extract (Operand.tmp 99) 0, type := 29, pos := "top02.go:31", after := #[{ on := 11, ground := Ground.data }], guard := none }) (v := ?_) rfl (by kernel_rfl) (by kernel_rfl) (by kernel_rfl) (fun _ _ _ h => h) (Or.inl ⟨by rfl, ?_⟩) (by assumption) ?_
                          rotate_left 1
                          · (intro W hSw; obtain ⟨_, _, _⟩ := hSw; go_simp; try with_reducible rfl)
                          try simp only [Act.put, List.setIfInBounds_toArray, List.set_cons_zero, List.set_cons_succ]
                          refine wpAnyH_take (i := 13) (oi := { dst := some 112, op := Op.extract (Operand.tmp 99) 1, type := 24, pos := "top02.go:31", after := #[{ on := 11, ground := Ground.data }, { on := 15, ground := Ground.gcOnly Departure.lateStores }], guard := none }) (v := ?_) rfl (by kernel_rfl) (by kernel_rfl) (by kernel_rfl) (fun _ _ _ h => h) (Or.inl ⟨by rfl, ?_⟩) (by assumption) ?_
                          rotate_left 1
                          · (intro W hSw; obtain ⟨_, _, _⟩ := hSw; go_simp; try with_reducible rfl)
                          try simp only [Act.put, List.setIfInBounds_toArray, List.set_cons_zero, List.set_cons_succ]
                          refine wpAnyH_ready (rs := [15]) (by kernel_rfl) (by simp) ?_
                          refine AllReadyH.cons (o := { dst := none, op := Op.store 29 (Operand.tmp 13) (Operand.tmp 111), type := 0, pos := "top02.go:31", after := #[{ on := 14, ground := Ground.data }, { on := 12, ground := Ground.data }, { on := 10, ground := Ground.chain }, { on := 0, ground := Ground.phase }, { on := 1, ground := Ground.phase }, { on := 2, ground := Ground.phase }, { on := 3, ground := Ground.phase }, { on := 4, ground := Ground.phase }, { on := 5, ground := Ground.phase }, { on := 6, ground := Ground.phase }, { on := 7, ground := Ground.phase }, { on := 8, ground := Ground.phase }, { on := 9, ground := Ground.phase }, { on := 10, ground := Ground.phase }, { on := 11, ground := Ground.phase }, { on := 12, ground := Ground.phase }, { on := 13, ground := Ground.textOnly Departure.lateStores }, { on := 14, ground := Ground.phase }], guard := none }) rfl (fun K hK => ?_) AllReadyH.nil
                          · obtain ⟨y0, y1, y2, y3⟩ := two_cells x_6
                            have E_7 := bx_end lp5 lS5 lF5 HA6.out HK6.out HO6.out x_6 (by first | omega | (simp; done) | (simp; omega)) (v := .slice a6 ids6.length c6) (z := .int .i64 (m2 : Int))
                            go_simp
                            refine hK.out _ _ (HS.out _ E_7.kp) (fun hHeld => ?_)
                            clear hK K
                            try simp only [Act.put, List.setIfInBounds_toArray, List.set_cons_zero, List.set_cons_succ]
                            refine wpAnyH_take (i := 16) (oi := { dst := some 14, op := Op.assign (Operand.tmp 112), type := 24, pos := "top02.go:31", after := #[{ on := 13, ground := Ground.data }, { on := 15, ground := Ground.chain }, { on := 0, ground := Ground.phase }, { on := 1, ground := Ground.phase }, { on := 2, ground := Ground.phase }, { on := 3, ground := Ground.phase }, { on := 4, ground := Ground.phase }, { on := 5, ground := Ground.phase }, { on := 6, ground := Ground.phase }, { on := 7, ground := Ground.phase }, { on := 8, ground := Ground.phase }, { on := 9, ground := Ground.phase }, { on := 10, ground := Ground.phase }, { on := 11, ground := Ground.phase }, { on := 12, ground := Ground.phase }, { on := 13, ground := Ground.phase }, { on := 14, ground := Ground.phase }, { on := 15, ground := Ground.phase }], guard := none }) (v := ?_) rfl (by kernel_rfl) (by kernel_rfl) (by kernel_rfl) (fun _ _ _ h => h) (Or.inl ⟨by rfl, ?_⟩) (by assumption) ?_
                            rotate_left 1
                            · (intro W hSw; obtain ⟨_, _, _⟩ := hSw; go_simp; try with_reducible rfl)
                            try simp only [Act.put, List.setIfInBounds_toArray, List.set_cons_zero, List.set_cons_succ]
                            refine wpAnyH_done (by kernel_rfl) ?_ _
                            go_wp2_with fail
                            go_meet
                            exact ⟨rfl, _, _, _, _, _, _, rfl, E_7, I6⟩
                    · go_simp
                      have k_8 := (Keeps.refl p S F w5).drew.alloc (.cells #[.slice none 0 0, .int .i64 0] 29)
                      have x_8 : (w5.drew.alloc (.cells #[.slice none 0 0, .int .i64 0] 29)).heap[w5.heap.size]? = some (.cells #[.slice none 0 0, .int .i64 0] 29) := heap_alloc_new w5.drew _
                      have bl_8 := (Below.refl w5.heap.size w5).drew.alloc (Below.refl w5.heap.size w5).drew.size (.cells #[.slice none 0 0, .int .i64 0] 29)
                      refine hK.out _ _ (HS.out _ k_8) (fun hHeld => ?_)
                      clear hK K
                      try simp only [Act.put, List.setIfInBounds_toArray, List.set_cons_zero, List.set_cons_succ]
                      refine wpAnyH_ready (rs := [9]) (by kernel_rfl) (by simp) ?_
                      refine AllReadyH.cons (o := { dst := some 109, op := Op.makeSlice 32 (Operand.tmp 108) (Operand.tmp 108), type := 32, pos := "top02.go:31", after := #[{ on := 8, ground := Ground.data }, { on := 8, ground := Ground.data }], guard := none }) rfl (fun K hK => ?_) AllReadyH.nil
                      · go_simp
                        have k_9 := k_8.alloc (.cells (cellsOf (zeros nn)).toArray 5)
                        have bl_9 := bl_8.alloc bl_8.size (.cells (cellsOf (zeros nn)).toArray 5)
                        have z_9 : ((w5.drew.alloc (.cells #[.slice none 0 0, .int .i64 0] 29)).alloc (.cells (cellsOf (zeros nn)).toArray 5)).heap[w5.heap.size + 1]? = some (.cells (cellsOf (zeros nn)).toArray 5) := heap_alloc2_new w5.drew _ _
                        have x_9 := heap_alloc (.cells (cellsOf (zeros nn)).toArray 5) x_8
                        refine hK.out _ _ (HS.out _ k_9) (fun hHeld => ?_)
                        clear hK K
                        try simp only [Act.put, List.setIfInBounds_toArray, List.set_cons_zero, List.set_cons_succ]
                        refine wpAnyH_ready (rs := [10]) (by kernel_rfl) (by simp) ?_
                        refine AllReadyH.cons (o := { dst := some 110, op := Op.call { callee := Callee.value (Operand.func 5), args := #[Operand.tmp 100, Operand.tmp 104, Operand.tmp 109], argTypes := #[23, 29, 32] }, type := 30, pos := "top02.go:31", after := #[{ on := 0, ground := Ground.data }, { on := 4, ground := Ground.data }, { on := 9, ground := Ground.data }], guard := none }) rfl (fun K hK => ?_) AllReadyH.nil
                        · go_simp
                          go_at_call 5
                          refine (HQ.out _ _ bl_9 z_9 (by first | omega | (simp; done) | (simp; omega))).mono ?_
                          rintro e w6 ⟨a6, c6, ids6, ss6, fr6, rfl, O6, A6, K6, I6⟩
                          have k_10 := k_9.trans K6
                          have x_10 := (K6.block _ (lt_of_heap x_9) (by first | omega | (simp; done) | (simp; omega)) (by first | omega | (simp; done) | (simp; omega)) (by first | omega | (simp; done) | (simp; omega))).trans x_9
                          have O_10 := O6.base bl_9.size
                          have sz6 := k_10.size
                          go_wp2_with fail
                          refine hK.out _ _ (HS.out _ k_10) (fun hHeld => ?_)
                          clear hK K
                          try simp only [Act.put, List.setIfInBounds_toArray, List.set_cons_zero, List.set_cons_succ]
                          have HA6 : Hid _ := A6
                          have HK6 : Hid _ := k_10
                          have HO6 : Hid (Own w6 w5.heap.size (.slice a6 ids6.length c6) ids6) := O_10
                          clear A6 k_10 O_10 O6 K6
                          refine wpAnyH_take (i := 11) (oi := { dst := some 99, op := Op.move (Operand.tmp 110), type := 30, pos := "top02.go:31", after := #[{ on := 10, ground := Ground.data }], guard := none }) (v := ?_) rfl (by kernel_rfl) (by kernel_rfl) (by kernel_rfl) (fun _ _ _ h => h) (Or.inl ⟨by rfl, ?_⟩) (by assumption) ?_
                          rotate_left 1
                          · (intro W hSw; obtain ⟨_, _, _⟩ := hSw; go_simp; try with_reducible rfl)
                          try simp only [Act.put, List.setIfInBounds_toArray, List.set_cons_zero, List.set_cons_succ]
                          refine wpAnyH_take (i := 12) (oi := { dst := some 111, op := Op.extract (Operand.tmp 99) 0, type := 29, pos := "top02.go:31", after := #[{ on := 11, ground := Ground.data }], guard := none }) (v := ?_) rfl (by kernel_rfl) (by kernel_rfl) (by kernel_rfl) (fun _ _ _ h => h) (Or.inl ⟨by rfl, ?_⟩) (by assumption) ?_
                          rotate_left 1
                          · (intro W hSw; obtain ⟨_, _, _⟩ := hSw; go_simp; try with_reducible rfl)
                          try simp only [Act.put, List.setIfInBounds_toArray, List.set_cons_zero, List.set_cons_succ]
                          refine wpAnyH_take (i := 13) (oi := { dst := some 112, op := Op.extract (Operand.tmp 99) 1, type := 24, pos := "top02.go:31", after := #[{ on := 11, ground := Ground.data }, { on := 15, ground := Ground.gcOnly Departure.lateStores }], guard := none }) (v := ?_) rfl (by kernel_rfl) (by kernel_rfl) (by kernel_rfl) (fun _ _ _ h => h) (Or.inl ⟨by rfl, ?_⟩) (by assumption) ?_
                          rotate_left 1
                          · (intro W hSw; obtain ⟨_, _, _⟩ := hSw; go_simp; try with_reducible rfl)
                          try simp only [Act.put, List.setIfInBounds_toArray, List.set_cons_zero, List.set_cons_succ]
                          refine wpAnyH_ready (rs := [15]) (by kernel_rfl) (by simp) ?_
                          refine AllReadyH.cons (o := { dst := none, op := Op.store 29 (Operand.tmp 13) (Operand.tmp 111), type := 0, pos := "top02.go:31", after := #[{ on := 14, ground := Ground.data }, { on := 12, ground := Ground.data }, { on := 10, ground := Ground.chain }, { on := 0, ground := Ground.phase }, { on := 1, ground := Ground.phase }, { on := 2, ground := Ground.phase }, { on := 3, ground := Ground.phase }, { on := 4, ground := Ground.phase }, { on := 5, ground := Ground.phase }, { on := 6, ground := Ground.phase }, { on := 7, ground := Ground.phase }, { on := 8, ground := Ground.phase }, { on := 9, ground := Ground.phase }, { on := 10, ground := Ground.phase }, { on := 11, ground := Ground.phase }, { on := 12, ground := Ground.phase }, { on := 13, ground := Ground.textOnly Departure.lateStores }, { on := 14, ground := Ground.phase }], guard := none }) rfl (fun K hK => ?_) AllReadyH.nil
                          · obtain ⟨y0, y1, y2, y3⟩ := two_cells x_10
                            have E_11 := bx_end lp5 lS5 lF5 HA6.out HK6.out HO6.out x_10 (by first | omega | (simp; done) | (simp; omega)) (v := .slice a6 ids6.length c6) (z := .int .i64 (m2 : Int))
                            go_simp
                            refine hK.out _ _ (HS.out _ E_11.kp) (fun hHeld => ?_)
                            clear hK K
                            try simp only [Act.put, List.setIfInBounds_toArray, List.set_cons_zero, List.set_cons_succ]
                            refine wpAnyH_take (i := 16) (oi := { dst := some 14, op := Op.assign (Operand.tmp 112), type := 24, pos := "top02.go:31", after := #[{ on := 13, ground := Ground.data }, { on := 15, ground := Ground.chain }, { on := 0, ground := Ground.phase }, { on := 1, ground := Ground.phase }, { on := 2, ground := Ground.phase }, { on := 3, ground := Ground.phase }, { on := 4, ground := Ground.phase }, { on := 5, ground := Ground.phase }, { on := 6, ground := Ground.phase }, { on := 7, ground := Ground.phase }, { on := 8, ground := Ground.phase }, { on := 9, ground := Ground.phase }, { on := 10, ground := Ground.phase }, { on := 11, ground := Ground.phase }, { on := 12, ground := Ground.phase }, { on := 13, ground := Ground.phase }, { on := 14, ground := Ground.phase }, { on := 15, ground := Ground.phase }], guard := none }) (v := ?_) rfl (by kernel_rfl) (by kernel_rfl) (by kernel_rfl) (fun _ _ _ h => h) (Or.inl ⟨by rfl, ?_⟩) (by assumption) ?_
                            rotate_left 1
                            · (intro W hSw; obtain ⟨_, _, _⟩ := hSw; go_simp; try with_reducible rfl)
                            try simp only [Act.put, List.setIfInBounds_toArray, List.set_cons_zero, List.set_cons_succ]
                            refine wpAnyH_done (by kernel_rfl) ?_ _
                            go_wp2_with fail
                            go_meet
                            exact ⟨rfl, _, _, _, _, _, _, rfl, E_11, I6⟩
                  case rest =>
                    obtain ⟨rfl, g, a', c', ids3, ss3, fr3, rfl, HB, HJ⟩ := hcut
                    have HSt : Hid (St w ((wc.setCell ⟨gr, i * 2, none⟩ (.slice a' ids3.length c')).setCell ⟨gr, i * 2 + 1, none⟩ (.int .i64 (m2 : Int))) p S F w4.heap.size n (j + 1) (.slice (some ⟨gr, 0, none⟩) k cv) (xs.set i ⟨a', c', ids3, xL ++ zeros nn⟩) ss3 fr3) := by
                      have q := H5.out.set (y := ⟨a', c', ids3, xL ++ zeros nn⟩) HX.out HB.out HJ.out.1 HJ.out.2 (by have := HXs.out; simp only [List.length_append, zeros_length]; omega) hB5 (by omega) (by omega) (by omega) (by omega) (by omega) (by omega) (by omega)
                      simp only [HM2.out] at q
                      exact q
                    obtain ⟨k0, k1, _, _⟩ := two_cells HB.out.box
                    obtain ⟨g', e', _, _, r0, r1, rz⟩ := (HC.out.keeps HB.out.kp (by omega) (by omega) (by omega)).get HX.out
                    simp at e'
                    subst e'
                    have rz0 := rz (i * 2)
                    have rz1 := rz (i * 2 + 1)
                    simp only [Cn.val] at r0 r1
                    have hsz6 : Hid (w4.heap.size ≤ ((wc.setCell ⟨gr, i * 2, none⟩ (.slice a' ids3.length c')).setCell ⟨gr, i * 2 + 1, none⟩ (.int .i64 (m2 : Int))).heap.size) := by show _ ≤ _; simp [World.setCell]; have := HB.out.kp.size; omega
                    clear rz HB HJ HS HQ c0 c1' fz
                    go_wp2_with fail
                    go_meet
                    exact ⟨k, _, cv, _, ss3, fr3, rfl, by omega, hsz6.out, HSt.out⟩
                · obtain ⟨cc, hcc⟩ : ∃ cc : Int, (canCode ss fr xi m nn : Int) = cc := ⟨_, rfl⟩
                  have hcb : (cc == 0) = false := by simp; omega
                  have HQ : Hid (∀ (W : World) (G : Nat), Below w5.heap.size w5 W → W.heap[G]? = some (.cells (cellsOf (zeros nn)).toArray 5 (0, 0)) → w5.heap.size ≤ G → Calls Try.prog 5 #[.pointer (some ⟨p, 0, none⟩), .agg #[.slice xa xi.length xc, .int .i64 (m : Int)], .slice (some ⟨G, 0, none⟩) nn nn] W fun e w' => ∃ (a' : Option Addr) (c' : Nat), e = .returned (.tuple #[.agg #[.slice a' xi.length c', .int .i64 (m : Int)], .int .i64 cc]) ∧ Own w' W.heap.size (.slice a' xi.length c') xi ∧ Ar w' p S F ss fr ∧ Keeps p S F W w') := by
                    intro W G hb hG hGl
                    have q := app_err (H5.out.ar.grow hb) HI.out (by have := HBd.out.1; omega) xa xc w4.heap.size (HO.out.grow hb) (some ⟨G, 0, none⟩) nn nn (by omega) (by rw [HM.out]; exact hcan)
                    rw [HM.out, hcc] at q
                    refine q.mono ?_
                    rintro e w' ⟨a', c', h1, h2, h3⟩
                    exact ⟨a', c', h1, h2, (H5.out.ar.grow hb).grow h3, Keeps.ofBelow h3⟩
                  clear hcc zl
                  have HS : Hid (∀ W, Keeps p S F w5 W → W.cell? ⟨gr, i * 2, none⟩ = some (.slice xa xi.length xc) ∧ W.cell? ⟨gr, i * 2 + 1, none⟩ = some (.int .i64 (m : Int)) ∧ W.cell? ⟨wr.heap.size, 2, none⟩ = some (.int .i64 o2)) := fun W K => ⟨cell_keeps K c0 (by simp; omega) (by simp; omega) (by simp; omega), cell_keeps K c1' (by simp; omega) (by simp; omega) (by simp; omega), cell_keeps K d2 (by simp; omega) (by simp; omega) (by simp; omega)⟩
                  go_upto_region 19 with fail
                  go_cut [13, 14] (fun s13 s14 wx => s14 = .int .i64 cc ∧ ∃ (g : Nat) (a' : Option Addr) (c' : Nat), s13 = .pointer (some ⟨g, 0, none⟩) ∧ Hid (Bx w5 wx p S F g (.slice a' xi.length c') (.int .i64 (m : Int)) xi ss fr))
                  case first =>
                    have hV := HV.out
                    obtain ⟨v7, hV7⟩ : ∃ v7, (if (300 : Int) < o2 then 300 else o2) = v7 := ⟨_, rfl⟩
                    rw [hV7] at hV
                    have hV8 : (if (0 : Int) < v7 then v7 else 0) = (nn : Int) := hV
                    clear hV
                    have h0 : (fun W => W.cell? ⟨gr, i * 2, none⟩ = some (.slice xa xi.length xc) ∧ W.cell? ⟨gr, i * 2 + 1, none⟩ = some (.int .i64 (m : Int)) ∧ W.cell? ⟨wr.heap.size, 2, none⟩ = some (.int .i64 o2)) w5.drew := HS.out _ (Keeps.refl p S F w5).drew
                    refine wp_region_held_drew (S := (fun W => W.cell? ⟨gr, i * 2, none⟩ = some (.slice xa xi.length xc) ∧ W.cell? ⟨gr, i * 2 + 1, none⟩ = some (.int .i64 (m : Int)) ∧ W.cell? ⟨wr.heap.size, 2, none⟩ = some (.int .i64 o2))) (by kernel_rfl) h0 (fun hHeld => ?_)
                    refine wpAnyH_take (i := 0) (oi := { dst := some 100, op := Op.move (Operand.tmp 5), type := 23, pos := "top02.go:31", after := #[], guard := none }) (v := ?_) rfl (by kernel_rfl) (by kernel_rfl) (by kernel_rfl) (fun _ _ _ h => h) (Or.inl ⟨by rfl, ?_⟩) (by assumption) ?_
                    rotate_left 1
                    · (intro W hSw; obtain ⟨_, _, _⟩ := hSw; go_simp; try with_reducible rfl)
                    try simp only [Act.put, List.setIfInBounds_toArray, List.set_cons_zero, List.set_cons_succ]
                    refine wpAnyH_take (i := 1) (oi := { dst := some 101, op := Op.move (Operand.tmp 9), type := 34, pos := "top02.go:31", after := #[], guard := none }) (v := ?_) rfl (by kernel_rfl) (by kernel_rfl) (by kernel_rfl) (fun _ _ _ h => h) (Or.inl ⟨by rfl, ?_⟩) (by assumption) ?_
                    rotate_left 1
                    · (intro W hSw; obtain ⟨_, _, _⟩ := hSw; go_simp; try with_reducible rfl)
                    try simp only [Act.put, List.setIfInBounds_toArray, List.set_cons_zero, List.set_cons_succ]
                    refine wpAnyH_take (i := 2) (oi := { dst := some 102, op := Op.move (Operand.tmp 12), type := 3, pos := "top02.go:31", after := #[], guard := none }) (v := ?_) rfl (by kernel_rfl) (by kernel_rfl) (by kernel_rfl) (fun _ _ _ h => h) (Or.inl ⟨by rfl, ?_⟩) (by assumption) ?_
                    rotate_left 1
                    · (intro W hSw; obtain ⟨_, _, _⟩ := hSw; go_simp; try with_reducible rfl)
                    try simp only [Act.put, List.setIfInBounds_toArray, List.set_cons_zero, List.set_cons_succ]
                    refine wpAnyH_take (i := 3) (oi := { dst := some 103, op := Op.indexAddr 34 (Operand.tmp 101) (Operand.tmp 102), type := 0, pos := "top02.go:31", after := #[{ on := 1, ground := Ground.data }, { on := 2, ground := Ground.data }], guard := none }) (v := ?_) rfl (by kernel_rfl) (by kernel_rfl) (by kernel_rfl) (fun _ _ _ h => h) (Or.inl ⟨by rfl, ?_⟩) (by assumption) ?_
                    rotate_left 1
                    · (intro W hSw; obtain ⟨_, _, _⟩ := hSw; go_simp; try with_reducible rfl)
                    try simp only [Act.put, List.setIfInBounds_toArray, List.set_cons_zero, List.set_cons_succ]
                    refine wpAnyH_take (i := 4) (oi := { dst := some 104, op := Op.load 29 (Operand.tmp 103), type := 29, pos := "top02.go:31", after := #[{ on := 3, ground := Ground.data }], guard := none }) (v := ?_) rfl (by kernel_rfl) (by kernel_rfl) (by kernel_rfl) (fun _ _ _ h => h) (Or.inl ⟨by rfl, ?_⟩) (by assumption) ?_
                    rotate_left 1
                    · (intro W hSw; obtain ⟨_, _, _⟩ := hSw; go_simp; try with_reducible rfl)
                    try simp only [Act.put, List.setIfInBounds_toArray, List.set_cons_zero, List.set_cons_succ]
                    refine wpAnyH_take (i := 5) (oi := { dst := some 105, op := Op.indexAddr 35 (Operand.tmp 11) (Operand.const (Value.int IntKind.i64 2)), type := 0, pos := "top02.go:31", after := #[], guard := none }) (v := ?_) rfl (by kernel_rfl) (by kernel_rfl) (by kernel_rfl) (fun _ _ _ h => h) (Or.inl ⟨by rfl, ?_⟩) (by assumption) ?_
                    rotate_left 1
                    · (intro W hSw; obtain ⟨_, _, _⟩ := hSw; go_simp; try with_reducible rfl)
                    try simp only [Act.put, List.setIfInBounds_toArray, List.set_cons_zero, List.set_cons_succ]
                    refine wpAnyH_take (i := 6) (oi := { dst := some 106, op := Op.load 3 (Operand.tmp 105), type := 3, pos := "top02.go:31", after := #[{ on := 5, ground := Ground.data }], guard := none }) (v := ?_) rfl (by kernel_rfl) (by kernel_rfl) (by kernel_rfl) (fun _ _ _ h => h) (Or.inl ⟨by rfl, ?_⟩) (by assumption) ?_
                    rotate_left 1
                    · (intro W hSw; obtain ⟨_, _, _⟩ := hSw; go_simp; try with_reducible rfl)
                    try simp only [Act.put, List.setIfInBounds_toArray, List.set_cons_zero, List.set_cons_succ]
                    refine wpAnyH_take (i := 7) (oi := { dst := some 107, op := Op.call { callee := Callee.builtin Builtin.min, args := #[Operand.tmp 106, Operand.const (Value.int IntKind.i64 300)], argTypes := #[3, 3] }, type := 3, pos := "top02.go:31", after := #[{ on := 6, ground := Ground.data }], guard := none }) (v := .int .i64 v7) rfl (by kernel_rfl) (by kernel_rfl) (by kernel_rfl) (fun _ _ _ h => h) (Or.inl ⟨by rfl, ?_⟩) (by assumption) ?_
                    · (intro W hSw; obtain ⟨_, _, _⟩ := hSw; go_simp; (try simp only [hV7]); (try with_reducible rfl))
                    try simp only [Act.put, List.setIfInBounds_toArray, List.set_cons_zero, List.set_cons_succ]
                    refine wpAnyH_take (i := 8) (oi := { dst := some 108, op := Op.call { callee := Callee.builtin Builtin.max, args := #[Operand.const (Value.int IntKind.i64 0), Operand.tmp 107], argTypes := #[3, 3] }, type := 3, pos := "top02.go:31", after := #[{ on := 7, ground := Ground.data }], guard := none }) (v := .int .i64 (nn : Int)) rfl (by kernel_rfl) (by kernel_rfl) (by kernel_rfl) (fun _ _ _ h => h) (Or.inl ⟨by rfl, ?_⟩) (by assumption) ?_
                    · (intro W hSw; obtain ⟨_, _, _⟩ := hSw; go_simp; (try simp only [hV8]); (try with_reducible rfl))
                    try simp only [Act.put, List.setIfInBounds_toArray, List.set_cons_zero, List.set_cons_succ]
                    refine wpAnyH_ready (rs := [9, 14]) (by kernel_rfl) (by simp) ?_
                    refine AllReadyH.cons (o := { dst := some 109, op := Op.makeSlice 32 (Operand.tmp 108) (Operand.tmp 108), type := 32, pos := "top02.go:31", after := #[{ on := 8, ground := Ground.data }, { on := 8, ground := Ground.data }], guard := none }) rfl (fun K hK => ?_) (AllReadyH.cons (o := { dst := some 13, op := Op.alloc 29, type := 0, pos := "top02.go:31", after := #[], guard := none }) rfl (fun K hK => ?_) AllReadyH.nil)
                    · go_simp
                      have k_1 := (Keeps.refl p S F w5).drew.alloc (.cells (cellsOf (zeros nn)).toArray 5)
                      have bl_1 := (Below.refl w5.heap.size w5).drew.alloc (Below.refl w5.heap.size w5).drew.size (.cells (cellsOf (zeros nn)).toArray 5)
                      have z_1 : (w5.drew.alloc (.cells (cellsOf (zeros nn)).toArray 5)).heap[w5.heap.size]? = some (.cells (cellsOf (zeros nn)).toArray 5) := heap_alloc_new w5.drew _
                      refine hK.out _ _ (HS.out _ k_1) (fun hHeld => ?_)
                      clear hK K
                      try simp only [Act.put, List.setIfInBounds_toArray, List.set_cons_zero, List.set_cons_succ]
                      refine wpAnyH_ready (rs := [10, 14]) (by kernel_rfl) (by simp) ?_
                      refine AllReadyH.cons (o := { dst := some 110, op := Op.call { callee := Callee.value (Operand.func 5), args := #[Operand.tmp 100, Operand.tmp 104, Operand.tmp 109], argTypes := #[23, 29, 32] }, type := 30, pos := "top02.go:31", after := #[{ on := 0, ground := Ground.data }, { on := 4, ground := Ground.data }, { on := 9, ground := Ground.data }], guard := none }) rfl (fun K hK => ?_) (AllReadyH.cons (o := { dst := some 13, op := Op.alloc 29, type := 0, pos := "top02.go:31", after := #[], guard := none }) rfl (fun K hK => ?_) AllReadyH.nil)
                      · go_simp
                        go_at_call 5
                        refine (HQ.out _ _ bl_1 z_1 (by first | omega | (simp; done) | (simp; omega))).mono ?_
                        rintro e w6 ⟨a6, c6, rfl, O6, A6, K6⟩
                        have k_2 := k_1.trans K6
                        have O_2 := O6.base bl_1.size
                        have sz6 := k_2.size
                        go_wp2_with fail
                        refine hK.out _ _ (HS.out _ k_2) (fun hHeld => ?_)
                        clear hK K
                        try simp only [Act.put, List.setIfInBounds_toArray, List.set_cons_zero, List.set_cons_succ]
                        have HA6 : Hid _ := A6
                        have HK6 : Hid _ := k_2
                        have HO6 : Hid (Own w6 w5.heap.size (.slice a6 xi.length c6) xi) := O_2
                        clear A6 k_2 O_2 O6 K6
                        refine wpAnyH_take (i := 11) (oi := { dst := some 99, op := Op.move (Operand.tmp 110), type := 30, pos := "top02.go:31", after := #[{ on := 10, ground := Ground.data }], guard := none }) (v := ?_) rfl (by kernel_rfl) (by kernel_rfl) (by kernel_rfl) (fun _ _ _ h => h) (Or.inl ⟨by rfl, ?_⟩) (by assumption) ?_
                        rotate_left 1
                        · (intro W hSw; obtain ⟨_, _, _⟩ := hSw; go_simp; try with_reducible rfl)
                        try simp only [Act.put, List.setIfInBounds_toArray, List.set_cons_zero, List.set_cons_succ]
                        refine wpAnyH_take (i := 12) (oi := { dst := some 111, op := Op.extract (Operand.tmp 99) 0, type := 29, pos := "top02.go:31", after := #[{ on := 11, ground := Ground.data }], guard := none }) (v := ?_) rfl (by kernel_rfl) (by kernel_rfl) (by kernel_rfl) (fun _ _ _ h => h) (Or.inl ⟨by rfl, ?_⟩) (by assumption) ?_
                        rotate_left 1
                        · (intro W hSw; obtain ⟨_, _, _⟩ := hSw; go_simp; try with_reducible rfl)
                        try simp only [Act.put, List.setIfInBounds_toArray, List.set_cons_zero, List.set_cons_succ]
                        refine wpAnyH_take (i := 13) (oi := { dst := some 112, op := Op.extract (Operand.tmp 99) 1, type := 24, pos := "top02.go:31", after := #[{ on := 11, ground := Ground.data }, { on := 15, ground := Ground.gcOnly Departure.lateStores }], guard := none }) (v := ?_) rfl (by kernel_rfl) (by kernel_rfl) (by kernel_rfl) (fun _ _ _ h => h) (Or.inl ⟨by rfl, ?_⟩) (by assumption) ?_
                        rotate_left 1
                        · (intro W hSw; obtain ⟨_, _, _⟩ := hSw; go_simp; try with_reducible rfl)
                        try simp only [Act.put, List.setIfInBounds_toArray, List.set_cons_zero, List.set_cons_succ]
                        refine wpAnyH_ready (rs := [14]) (by kernel_rfl) (by simp) ?_
                        refine AllReadyH.cons (o := { dst := some 13, op := Op.alloc 29, type := 0, pos := "top02.go:31", after := #[], guard := none }) rfl (fun K hK => ?_) AllReadyH.nil
                        · go_simp
                          have k_3 := HK6.out.alloc (.cells #[.slice none 0 0, .int .i64 0] 29)
                          have x_3 := heap_alloc_new (w6) (.cells #[.slice none 0 0, .int .i64 0] 29)
                          have A_3 := Ar.alloc HA6.out (.cells #[.slice none 0 0, .int .i64 0] 29)
                          have O_3 := Own.grow HO6.out (below_box w6 (.cells #[.slice none 0 0, .int .i64 0] 29))
                          refine hK.out _ _ (HS.out _ k_3) (fun hHeld => ?_)
                          clear hK K
                          try simp only [Act.put, List.setIfInBounds_toArray, List.set_cons_zero, List.set_cons_succ]
                          refine wpAnyH_ready (rs := [15]) (by kernel_rfl) (by simp) ?_
                          refine AllReadyH.cons (o := { dst := none, op := Op.store 29 (Operand.tmp 13) (Operand.tmp 111), type := 0, pos := "top02.go:31", after := #[{ on := 14, ground := Ground.data }, { on := 12, ground := Ground.data }, { on := 10, ground := Ground.chain }, { on := 0, ground := Ground.phase }, { on := 1, ground := Ground.phase }, { on := 2, ground := Ground.phase }, { on := 3, ground := Ground.phase }, { on := 4, ground := Ground.phase }, { on := 5, ground := Ground.phase }, { on := 6, ground := Ground.phase }, { on := 7, ground := Ground.phase }, { on := 8, ground := Ground.phase }, { on := 9, ground := Ground.phase }, { on := 10, ground := Ground.phase }, { on := 11, ground := Ground.phase }, { on := 12, ground := Ground.phase }, { on := 13, ground := Ground.textOnly Departure.lateStores }, { on := 14, ground := Ground.phase }], guard := none }) rfl (fun K hK => ?_) AllReadyH.nil
                          · obtain ⟨y0, y1, y2, y3⟩ := two_cells x_3
                            have E_4 := bx_new HA6.out HK6.out HO6.out (z := .int .i64 (m : Int))
                            go_simp
                            refine hK.out _ _ (HS.out _ E_4.kp) (fun hHeld => ?_)
                            clear hK K
                            try simp only [Act.put, List.setIfInBounds_toArray, List.set_cons_zero, List.set_cons_succ]
                            refine wpAnyH_take (i := 16) (oi := { dst := some 14, op := Op.assign (Operand.tmp 112), type := 24, pos := "top02.go:31", after := #[{ on := 13, ground := Ground.data }, { on := 15, ground := Ground.chain }, { on := 0, ground := Ground.phase }, { on := 1, ground := Ground.phase }, { on := 2, ground := Ground.phase }, { on := 3, ground := Ground.phase }, { on := 4, ground := Ground.phase }, { on := 5, ground := Ground.phase }, { on := 6, ground := Ground.phase }, { on := 7, ground := Ground.phase }, { on := 8, ground := Ground.phase }, { on := 9, ground := Ground.phase }, { on := 10, ground := Ground.phase }, { on := 11, ground := Ground.phase }, { on := 12, ground := Ground.phase }, { on := 13, ground := Ground.phase }, { on := 14, ground := Ground.phase }, { on := 15, ground := Ground.phase }], guard := none }) (v := ?_) rfl (by kernel_rfl) (by kernel_rfl) (by kernel_rfl) (fun _ _ _ h => h) (Or.inl ⟨by rfl, ?_⟩) (by assumption) ?_
                            rotate_left 1
                            · (intro W hSw; obtain ⟨_, _, _⟩ := hSw; go_simp; try with_reducible rfl)
                            try simp only [Act.put, List.setIfInBounds_toArray, List.set_cons_zero, List.set_cons_succ]
                            refine wpAnyH_done (by kernel_rfl) ?_ _
                            go_wp2_with fail
                            go_meet
                            exact ⟨rfl, _, _, _, rfl, E_4⟩
                      · go_simp
                        have k_5 := k_1.alloc (.cells #[.slice none 0 0, .int .i64 0] 29)
                        have x_5 : ((w5.drew.alloc (.cells (cellsOf (zeros nn)).toArray 5)).alloc (.cells #[.slice none 0 0, .int .i64 0] 29)).heap[w5.heap.size + 1]? = some (.cells #[.slice none 0 0, .int .i64 0] 29) := heap_alloc2_new w5.drew _ _
                        have bl_5 := bl_1.alloc bl_1.size (.cells #[.slice none 0 0, .int .i64 0] 29)
                        have z_5 := heap_alloc (.cells #[.slice none 0 0, .int .i64 0] 29) z_1
                        refine hK.out _ _ (HS.out _ k_5) (fun hHeld => ?_)
                        clear hK K
                        try simp only [Act.put, List.setIfInBounds_toArray, List.set_cons_zero, List.set_cons_succ]
                        refine wpAnyH_ready (rs := [10]) (by kernel_rfl) (by simp) ?_
                        refine AllReadyH.cons (o := { dst := some 110, op := Op.call { callee := Callee.value (Operand.func 5), args := #[Operand.tmp 100, Operand.tmp 104, Operand.tmp 109], argTypes := #[23, 29, 32] }, type := 30, pos := "top02.go:31", after := #[{ on := 0, ground := Ground.data }, { on := 4, ground := Ground.data }, { on := 9, ground := Ground.data }], guard := none }) rfl (fun K hK => ?_) AllReadyH.nil
                        · go_simp
                          go_at_call 5
                          refine (HQ.out _ _ bl_5 z_5 (by first | omega | (simp; done) | (simp; omega))).mono ?_
                          rintro e w6 ⟨a6, c6, rfl, O6, A6, K6⟩
                          have k_6 := k_5.trans K6
                          have x_6 := (K6.block _ (lt_of_heap x_5) (by first | omega | (simp; done) | (simp; omega)) (by first | omega | (simp; done) | (simp; omega)) (by first | omega | (simp; done) | (simp; omega))).trans x_5
                          have O_6 := O6.base bl_5.size
                          have sz6 := k_6.size
                          go_wp2_with fail
                          refine hK.out _ _ (HS.out _ k_6) (fun hHeld => ?_)
                          clear hK K
                          try simp only [Act.put, List.setIfInBounds_toArray, List.set_cons_zero, List.set_cons_succ]
                          have HA6 : Hid _ := A6
                          have HK6 : Hid _ := k_6
                          have HO6 : Hid (Own w6 w5.heap.size (.slice a6 xi.length c6) xi) := O_6
                          clear A6 k_6 O_6 O6 K6
                          refine wpAnyH_take (i := 11) (oi := { dst := some 99, op := Op.move (Operand.tmp 110), type := 30, pos := "top02.go:31", after := #[{ on := 10, ground := Ground.data }], guard := none }) (v := ?_) rfl (by kernel_rfl) (by kernel_rfl) (by kernel_rfl) (fun _ _ _ h => h) (Or.inl ⟨by rfl, ?_⟩) (by assumption) ?_
                          rotate_left 1
                          · (intro W hSw; obtain ⟨_, _, _⟩ := hSw; go_simp; try with_reducible rfl)
                          try simp only [Act.put, List.setIfInBounds_toArray, List.set_cons_zero, List.set_cons_succ]
                          refine wpAnyH_take (i := 12) (oi := { dst := some 111, op := Op.extract (Operand.tmp 99) 0, type := 29, pos := "top02.go:31", after := #[{ on := 11, ground := Ground.data }], guard := none }) (v := ?_) rfl (by kernel_rfl) (by kernel_rfl) (by kernel_rfl) (fun _ _ _ h => h) (Or.inl ⟨by rfl, ?_⟩) (by assumption) ?_
                          rotate_left 1
                          · (intro W hSw; obtain ⟨_, _, _⟩ := hSw; go_simp; try with_reducible rfl)
                          try simp only [Act.put, List.setIfInBounds_toArray, List.set_cons_zero, List.set_cons_succ]
                          refine wpAnyH_take (i := 13) (oi := { dst := some 112, op := Op.extract (Operand.tmp 99) 1, type := 24, pos := "top02.go:31", after := #[{ on := 11, ground := Ground.data }, { on := 15, ground := Ground.gcOnly Departure.lateStores }], guard := none }) (v := ?_) rfl (by kernel_rfl) (by kernel_rfl) (by kernel_rfl) (fun _ _ _ h => h) (Or.inl ⟨by rfl, ?_⟩) (by assumption) ?_
                          rotate_left 1
                          · (intro W hSw; obtain ⟨_, _, _⟩ := hSw; go_simp; try with_reducible rfl)
                          try simp only [Act.put, List.setIfInBounds_toArray, List.set_cons_zero, List.set_cons_succ]
                          refine wpAnyH_ready (rs := [15]) (by kernel_rfl) (by simp) ?_
                          refine AllReadyH.cons (o := { dst := none, op := Op.store 29 (Operand.tmp 13) (Operand.tmp 111), type := 0, pos := "top02.go:31", after := #[{ on := 14, ground := Ground.data }, { on := 12, ground := Ground.data }, { on := 10, ground := Ground.chain }, { on := 0, ground := Ground.phase }, { on := 1, ground := Ground.phase }, { on := 2, ground := Ground.phase }, { on := 3, ground := Ground.phase }, { on := 4, ground := Ground.phase }, { on := 5, ground := Ground.phase }, { on := 6, ground := Ground.phase }, { on := 7, ground := Ground.phase }, { on := 8, ground := Ground.phase }, { on := 9, ground := Ground.phase }, { on := 10, ground := Ground.phase }, { on := 11, ground := Ground.phase }, { on := 12, ground := Ground.phase }, { on := 13, ground := Ground.textOnly Departure.lateStores }, { on := 14, ground := Ground.phase }], guard := none }) rfl (fun K hK => ?_) AllReadyH.nil
                          · obtain ⟨y0, y1, y2, y3⟩ := two_cells x_6
                            have E_7 := bx_end lp5 lS5 lF5 HA6.out HK6.out HO6.out x_6 (by first | omega | (simp; done) | (simp; omega)) (v := .slice a6 xi.length c6) (z := .int .i64 (m : Int))
                            go_simp
                            refine hK.out _ _ (HS.out _ E_7.kp) (fun hHeld => ?_)
                            clear hK K
                            try simp only [Act.put, List.setIfInBounds_toArray, List.set_cons_zero, List.set_cons_succ]
                            refine wpAnyH_take (i := 16) (oi := { dst := some 14, op := Op.assign (Operand.tmp 112), type := 24, pos := "top02.go:31", after := #[{ on := 13, ground := Ground.data }, { on := 15, ground := Ground.chain }, { on := 0, ground := Ground.phase }, { on := 1, ground := Ground.phase }, { on := 2, ground := Ground.phase }, { on := 3, ground := Ground.phase }, { on := 4, ground := Ground.phase }, { on := 5, ground := Ground.phase }, { on := 6, ground := Ground.phase }, { on := 7, ground := Ground.phase }, { on := 8, ground := Ground.phase }, { on := 9, ground := Ground.phase }, { on := 10, ground := Ground.phase }, { on := 11, ground := Ground.phase }, { on := 12, ground := Ground.phase }, { on := 13, ground := Ground.phase }, { on := 14, ground := Ground.phase }, { on := 15, ground := Ground.phase }], guard := none }) (v := ?_) rfl (by kernel_rfl) (by kernel_rfl) (by kernel_rfl) (fun _ _ _ h => h) (Or.inl ⟨by rfl, ?_⟩) (by assumption) ?_
                            rotate_left 1
                            · (intro W hSw; obtain ⟨_, _, _⟩ := hSw; go_simp; try with_reducible rfl)
                            try simp only [Act.put, List.setIfInBounds_toArray, List.set_cons_zero, List.set_cons_succ]
                            refine wpAnyH_done (by kernel_rfl) ?_ _
                            go_wp2_with fail
                            go_meet
                            exact ⟨rfl, _, _, _, rfl, E_7⟩
                    · go_simp
                      have k_8 := (Keeps.refl p S F w5).drew.alloc (.cells #[.slice none 0 0, .int .i64 0] 29)
                      have x_8 : (w5.drew.alloc (.cells #[.slice none 0 0, .int .i64 0] 29)).heap[w5.heap.size]? = some (.cells #[.slice none 0 0, .int .i64 0] 29) := heap_alloc_new w5.drew _
                      have bl_8 := (Below.refl w5.heap.size w5).drew.alloc (Below.refl w5.heap.size w5).drew.size (.cells #[.slice none 0 0, .int .i64 0] 29)
                      refine hK.out _ _ (HS.out _ k_8) (fun hHeld => ?_)
                      clear hK K
                      try simp only [Act.put, List.setIfInBounds_toArray, List.set_cons_zero, List.set_cons_succ]
                      refine wpAnyH_ready (rs := [9]) (by kernel_rfl) (by simp) ?_
                      refine AllReadyH.cons (o := { dst := some 109, op := Op.makeSlice 32 (Operand.tmp 108) (Operand.tmp 108), type := 32, pos := "top02.go:31", after := #[{ on := 8, ground := Ground.data }, { on := 8, ground := Ground.data }], guard := none }) rfl (fun K hK => ?_) AllReadyH.nil
                      · go_simp
                        have k_9 := k_8.alloc (.cells (cellsOf (zeros nn)).toArray 5)
                        have bl_9 := bl_8.alloc bl_8.size (.cells (cellsOf (zeros nn)).toArray 5)
                        have z_9 : ((w5.drew.alloc (.cells #[.slice none 0 0, .int .i64 0] 29)).alloc (.cells (cellsOf (zeros nn)).toArray 5)).heap[w5.heap.size + 1]? = some (.cells (cellsOf (zeros nn)).toArray 5) := heap_alloc2_new w5.drew _ _
                        have x_9 := heap_alloc (.cells (cellsOf (zeros nn)).toArray 5) x_8
                        refine hK.out _ _ (HS.out _ k_9) (fun hHeld => ?_)
                        clear hK K
                        try simp only [Act.put, List.setIfInBounds_toArray, List.set_cons_zero, List.set_cons_succ]
                        refine wpAnyH_ready (rs := [10]) (by kernel_rfl) (by simp) ?_
                        refine AllReadyH.cons (o := { dst := some 110, op := Op.call { callee := Callee.value (Operand.func 5), args := #[Operand.tmp 100, Operand.tmp 104, Operand.tmp 109], argTypes := #[23, 29, 32] }, type := 30, pos := "top02.go:31", after := #[{ on := 0, ground := Ground.data }, { on := 4, ground := Ground.data }, { on := 9, ground := Ground.data }], guard := none }) rfl (fun K hK => ?_) AllReadyH.nil
                        · go_simp
                          go_at_call 5
                          refine (HQ.out _ _ bl_9 z_9 (by first | omega | (simp; done) | (simp; omega))).mono ?_
                          rintro e w6 ⟨a6, c6, rfl, O6, A6, K6⟩
                          have k_10 := k_9.trans K6
                          have x_10 := (K6.block _ (lt_of_heap x_9) (by first | omega | (simp; done) | (simp; omega)) (by first | omega | (simp; done) | (simp; omega)) (by first | omega | (simp; done) | (simp; omega))).trans x_9
                          have O_10 := O6.base bl_9.size
                          have sz6 := k_10.size
                          go_wp2_with fail
                          refine hK.out _ _ (HS.out _ k_10) (fun hHeld => ?_)
                          clear hK K
                          try simp only [Act.put, List.setIfInBounds_toArray, List.set_cons_zero, List.set_cons_succ]
                          have HA6 : Hid _ := A6
                          have HK6 : Hid _ := k_10
                          have HO6 : Hid (Own w6 w5.heap.size (.slice a6 xi.length c6) xi) := O_10
                          clear A6 k_10 O_10 O6 K6
                          refine wpAnyH_take (i := 11) (oi := { dst := some 99, op := Op.move (Operand.tmp 110), type := 30, pos := "top02.go:31", after := #[{ on := 10, ground := Ground.data }], guard := none }) (v := ?_) rfl (by kernel_rfl) (by kernel_rfl) (by kernel_rfl) (fun _ _ _ h => h) (Or.inl ⟨by rfl, ?_⟩) (by assumption) ?_
                          rotate_left 1
                          · (intro W hSw; obtain ⟨_, _, _⟩ := hSw; go_simp; try with_reducible rfl)
                          try simp only [Act.put, List.setIfInBounds_toArray, List.set_cons_zero, List.set_cons_succ]
                          refine wpAnyH_take (i := 12) (oi := { dst := some 111, op := Op.extract (Operand.tmp 99) 0, type := 29, pos := "top02.go:31", after := #[{ on := 11, ground := Ground.data }], guard := none }) (v := ?_) rfl (by kernel_rfl) (by kernel_rfl) (by kernel_rfl) (fun _ _ _ h => h) (Or.inl ⟨by rfl, ?_⟩) (by assumption) ?_
                          rotate_left 1
                          · (intro W hSw; obtain ⟨_, _, _⟩ := hSw; go_simp; try with_reducible rfl)
                          try simp only [Act.put, List.setIfInBounds_toArray, List.set_cons_zero, List.set_cons_succ]
                          refine wpAnyH_take (i := 13) (oi := { dst := some 112, op := Op.extract (Operand.tmp 99) 1, type := 24, pos := "top02.go:31", after := #[{ on := 11, ground := Ground.data }, { on := 15, ground := Ground.gcOnly Departure.lateStores }], guard := none }) (v := ?_) rfl (by kernel_rfl) (by kernel_rfl) (by kernel_rfl) (fun _ _ _ h => h) (Or.inl ⟨by rfl, ?_⟩) (by assumption) ?_
                          rotate_left 1
                          · (intro W hSw; obtain ⟨_, _, _⟩ := hSw; go_simp; try with_reducible rfl)
                          try simp only [Act.put, List.setIfInBounds_toArray, List.set_cons_zero, List.set_cons_succ]
                          refine wpAnyH_ready (rs := [15]) (by kernel_rfl) (by simp) ?_
                          refine AllReadyH.cons (o := { dst := none, op := Op.store 29 (Operand.tmp 13) (Operand.tmp 111), type := 0, pos := "top02.go:31", after := #[{ on := 14, ground := Ground.data }, { on := 12, ground := Ground.data }, { on := 10, ground := Ground.chain }, { on := 0, ground := Ground.phase }, { on := 1, ground := Ground.phase }, { on := 2, ground := Ground.phase }, { on := 3, ground := Ground.phase }, { on := 4, ground := Ground.phase }, { on := 5, ground := Ground.phase }, { on := 6, ground := Ground.phase }, { on := 7, ground := Ground.phase }, { on := 8, ground := Ground.phase }, { on := 9, ground := Ground.phase }, { on := 10, ground := Ground.phase }, { on := 11, ground := Ground.phase }, { on := 12, ground := Ground.phase }, { on := 13, ground := Ground.textOnly Departure.lateStores }, { on := 14, ground := Ground.phase }], guard := none }) rfl (fun K hK => ?_) AllReadyH.nil
                          · obtain ⟨y0, y1, y2, y3⟩ := two_cells x_10
                            have E_11 := bx_end lp5 lS5 lF5 HA6.out HK6.out HO6.out x_10 (by first | omega | (simp; done) | (simp; omega)) (v := .slice a6 xi.length c6) (z := .int .i64 (m : Int))
                            go_simp
                            refine hK.out _ _ (HS.out _ E_11.kp) (fun hHeld => ?_)
                            clear hK K
                            try simp only [Act.put, List.setIfInBounds_toArray, List.set_cons_zero, List.set_cons_succ]
                            refine wpAnyH_take (i := 16) (oi := { dst := some 14, op := Op.assign (Operand.tmp 112), type := 24, pos := "top02.go:31", after := #[{ on := 13, ground := Ground.data }, { on := 15, ground := Ground.chain }, { on := 0, ground := Ground.phase }, { on := 1, ground := Ground.phase }, { on := 2, ground := Ground.phase }, { on := 3, ground := Ground.phase }, { on := 4, ground := Ground.phase }, { on := 5, ground := Ground.phase }, { on := 6, ground := Ground.phase }, { on := 7, ground := Ground.phase }, { on := 8, ground := Ground.phase }, { on := 9, ground := Ground.phase }, { on := 10, ground := Ground.phase }, { on := 11, ground := Ground.phase }, { on := 12, ground := Ground.phase }, { on := 13, ground := Ground.phase }, { on := 14, ground := Ground.phase }, { on := 15, ground := Ground.phase }], guard := none }) (v := ?_) rfl (by kernel_rfl) (by kernel_rfl) (by kernel_rfl) (fun _ _ _ h => h) (Or.inl ⟨by rfl, ?_⟩) (by assumption) ?_
                            rotate_left 1
                            · (intro W hSw; obtain ⟨_, _, _⟩ := hSw; go_simp; try with_reducible rfl)
                            try simp only [Act.put, List.setIfInBounds_toArray, List.set_cons_zero, List.set_cons_succ]
                            refine wpAnyH_done (by kernel_rfl) ?_ _
                            go_wp2_with fail
                            go_meet
                            exact ⟨rfl, _, _, _, rfl, E_11⟩
                  case rest =>
                    obtain ⟨rfl, g, a', c', rfl, HB⟩ := hcut
                    have HSt : Hid (St w wc p S F w4.heap.size n (j + 1) (.slice (some ⟨gr, 0, none⟩) k cv) xs ss fr) := (H5.out.kept HB.out.kp HB.out.ar H5.out.inv rfl (by omega) (by omega) (by omega) (by omega) (by omega) (by omega)).more
                    have hsz6 : Hid (w4.heap.size ≤ wc.heap.size) := by have := HB.out.kp.size; show _ ≤ _; omega
                    clear HB HS HQ c0 c1' fz
                    go_wp2_with fail
                    go_meet
                    exact ⟨k, _, cv, _, ss, fr, rfl, by omega, hsz6.out, HSt.out⟩
              · have h0b : (Int.tmod o0 4 == 0) = false := by simp [h0]
                by_cases h1 : Int.tmod o0 4 = 1
                · have h1b : (Int.tmod o0 4 == 1) = true := by simp [h1]
                  clear h0 h1 h3
                  obtain ⟨_, u1, u2, u3, _⟩ := HO.out.use
                  obtain ⟨hb1, hb2, hb3⟩ := HBd.out
                  have q := share_ok H5.out.ar xa xc xi (xL.length : Int) u1 (by omega) u2 (fun b off e => by have := u3 b off e; exact ⟨by omega, by omega, by omega⟩) (HI.out.lies (xi, xL) (by simp)).held hb3
                  obtain ⟨m, hm⟩ : ∃ m : Nat, xL.length = m := ⟨_, rfl⟩
                  rw [hm] at q c1'
                  have HM : Hid (xL.length = m) := hm
                  clear u1 u2 u3 hb1 hb2 hb3 hm
                  go_wp2_with fail
                  refine q.mono ?_
                  rintro e w6 ⟨a6, c6, rfl, O6, A6, K6⟩
                  have HJ : Hid (Inv (holdF ss xi) fr ((xi, xL) :: (xi, xL) :: (xs.eraseIdx i).map Cn.ct)) := HI.out.share A6.good
                  have B6 := bx_new (z := .int .i64 (m : Int)) A6 K6 O6
                  have hlH : Hid ((holdF ss xi).length = ss.length) := holdF_length xi ss
                  clear q c0 c1' fz O6 A6 K6
                  generalize hv7 : w6.alloc (.cells #[.slice a6 xi.length c6, .int .i64 (m : Int)] 29) = w7 at *
                  obtain ⟨k0, k1, _, _⟩ := two_cells B6.box
                  have C7 := HC.out.keeps B6.kp (by omega) (by omega) (by omega)
                  have O7 : Own w7 w4.heap.size (.slice a6 xi.length c6) xi := B6.own.base hB5
                  have s7 := B6.kp.size
                  have hB7 : w4.heap.size ≤ w7.heap.size := by omega
                  have HB : Hid (Bx w5 w7 p S F w6.heap.size (.slice a6 xi.length c6) (.int .i64 (m : Int)) xi (holdF ss xi) fr) := B6
                  have HMi : Hid (((⟨a6, c6, xi, xL⟩ : Cn).L.length : Int) = (m : Int)) := by show (xL.length : Int) = _; rw [HM.out]
                  clear B6 s7
                  go_wp2_with (at_builtin; refine wpList_pushC (W := w7) rfl _ _ rfl w4.heap.size k cv _ xs ⟨a6, c6, xi, xL⟩ m HMi.out rfl C7 O7 hB7 rfl (by omega) ?_)
                  intro g9 c9 w9 C9 mv9 b9
                  have HSt : Hid (St w w9 p S F w4.heap.size n (j + 1) (.slice (some ⟨g9, 0, none⟩) (k + 1) c9) (xs ++ [⟨a6, c6, xi, xL⟩]) (holdF ss xi) fr) := H5.out.add HB.out.kp HB.out.ar C9 b9 (HJ.out.perm (List.Perm.cons _ (ahead HX.out).symm)) hlH.out (by have := HXs.out; simp only; omega) (by omega) (by omega) (by omega) (by omega) (by omega) (by omega) (by omega)
                  have hsz6 : Hid (w4.heap.size ≤ w9.heap.size) := by have := b9.size; show _ ≤ _; omega
                  clear C9 mv9 b9 C7 O7 HB HJ k0 k1 hv7
                  go_wp2_with fail
                  go_meet
                  exact ⟨k + 1, _, c9, _, _, fr, rfl, by omega, hsz6.out, HSt.out⟩
                · by_cases h2 : Int.tmod o0 4 = 2
                  · have h1b : (Int.tmod o0 4 == 1) = false := by simp [h1]
                    have h2b : (Int.tmod o0 4 == 2) = true := by simp [h2]
                    clear h0 h1 h2 h3
                    obtain ⟨hb1, hb2, hb3⟩ := HBd.out
                    have q := drop_inv H5.out.ar HI.out (by omega) xa xc w4.heap.size HO.out (by omega) (by omega) (by omega) (xL.length : Int)
                    obtain ⟨m, hm⟩ : ∃ m : Nat, xL.length = m := ⟨_, rfl⟩
                    rw [hm] at q c1'
                    clear hm hb1 hb2 hb3
                    go_wp2_with fail
                    refine q.mono ?_
                    rintro e w6 ⟨ss6, fr6, rfl, A6, K6, I6, l6, _⟩
                    clear q
                    have C6 := HC.out.keeps K6 (by omega) (by omega) (by omega)
                    obtain ⟨w9, hrun, C9, ot9, mv9, b9⟩ := (C6.moved (W' := w6.drew) fun _ _ _ => rfl).erase hik 34
                    have HSt : Hid (St w w9 p S F w4.heap.size n (j + 1) (.slice (some ⟨gr, 0, none⟩) (k - 1) cv) (xs.eraseIdx i) ss6 fr6) := by
                      have b6 := H5.out.below.trans (K6.below H5.out.below.size (by omega) (by omega) (by omega))
                      refine ⟨b6.drew.trans (b9.mono (by omega)), C9, A6.moved (ot9 p (by omega)) (ot9 S (by omega)) (ot9 F (by omega)), I6, fun y hy => ?_, ?_, by rw [l6]; exact H5.out.len⟩
                      · have := H5.out.size y (List.mem_of_mem_eraseIdx hy); omega
                      · have h1 := H5.out.num
                        have h2 := List.length_eraseIdx_le xs i
                        omega
                    have hsz6 : Hid (w4.heap.size ≤ w9.heap.size) := by have h1 : w6.heap.size ≤ w9.heap.size := b9.size; have h2 := K6.size; show _ ≤ _; omega
                    have hhi := fun W => run_high2 W (some ⟨gr, 0, none⟩) k cv i (by have := C6.len; omega)
                    have hlo : ∀ W, (Instr.sliceAt 34 (.slice (some ⟨gr, 0, none⟩) k cv) (some (.int .i64 ((i : Int) + 1))) none none).run Try.prog W = .ok (.slice (lowAt2 (some ⟨gr, 0, none⟩) cv (i + 1)) (k - (i + 1)) (cv - (i + 1))) W := fun W => by have := run_low2 W (some ⟨gr, 0, none⟩) k cv (i + 1) (by omega); simpa using this
                    have hi0 : (0 : Int) ≤ (i : Int) := by omega
                    have hi60 : (i : Int) ≤ 60 := by omega
                    have hwr : IntKind.i64.wrap ((i : Int) + 1) = (i : Int) + 1 := by rw [IntKind.wrap_i64]; omega
                    generalize lowAt2 (some ⟨gr, 0, none⟩) cv (i + 1) = lo at *
                    generalize k - (i + 1) = kk at *
                    generalize cv - (i + 1) = cc at *
                    clear C6 C9 ot9 mv9 b9 I6 l6 A6 K6 c0 c1' fz
                    go_wp2_with fail
                    go_region_held3 (fun W => True) (trivial) ((refine Lib.wp_append_run _ (.tmp 147) (.tmp 151) 34 34 rfl _ _ rfl rfl _ _ hrun ?_))
                    go_wp2_with fail
                    go_meet
                    exact ⟨k - 1, _, cv, _, ss6, fr6, rfl, by omega, hsz6.out, HSt.out⟩
                  · have h1b : (Int.tmod o0 4 == 1) = false := by simp [h1]
                    have h2b : (Int.tmod o0 4 == 2) = false := by simp [h2]
                    clear h0 h1 h2 h3
                    have HSt : Hid (St w w5 p S F w4.heap.size n (j + 1) (.slice (some ⟨gr, 0, none⟩) k cv) xs ss fr) := H5.out.more
                    have hsz6 : Hid (w4.heap.size ≤ w5.heap.size) := hB5
                    clear c0 c1' fz
                    go_wp2_with fail
                    go_meet
                    exact ⟨k, _, cv, _, ss, fr, rfl, by omega, hsz6.out, HSt.out⟩
            case rest =>
              obtain ⟨k', av', cv', xs', ss', fr', rfl, hk', HZ', H'⟩ := hcut
              refine hK2 _ _ ?_
              clear hK2 H5 C5 d0 d1 d2 g5 s5 hkb h3b h3 hk1 hk9 hk2 hk0 hik hB5 z0 z1 z2
              have hsz' := HZ'.out
              have hlen' := H'.out.row.len
              have HLn : Hid (k' = xs'.length) := hlen'.1
              clear hlen'
              have mm := make38
              have m0 := World.ownsMap_made (H := Unit) wc Try.prog 3 (plainElem Try.prog 3)
              have M0 : Hid ((wc.alloc (.map #[] 0)).ownsMap Try.prog 3 (plainElem (H := Unit) Try.prog 3) wc.heap.size 0 (.map [])) := m0
              have B0 : Hid (Below wc.heap.size wc (wc.alloc (.map #[] 0))) := below_box wc _
              clear m0
              go_wp2_with fail
              generalize wc.alloc (.map #[] 0) = wm at *
              go_loopw [156] (fun x W => ∃ (q cnt : Nat) (D : DataW Unit), q ≤ k' ∧ x = .int .i64 (q : Int) ∧ cnt ≤ q * 20000 ∧ Hid (CntIs D (tot ((xs'.take q).map Cn.ct)) ∧ Maps.size D = live n (tot ((xs'.take q).map Cn.ct))) ∧ Hid (W.ownsMap Try.prog 3 (plainElem (H := Unit) Try.prog 3) wc.heap.size cnt D) ∧ Hid (Below wc.heap.size wc W)) (fun x _ => k' - (intOf x).toNat)
              case atStart => exact ⟨0, 0, .map [], by omega, rfl, by omega, ⟨by simpa [tot] using CntIs.nil.congr (fun z => rfl), by simp [live, Maps.size, tot]⟩, M0.out, B0.out⟩
              case round =>
                clear M0 B0
                obtain ⟨q, cnt, D, hq, rfl, hcnt, HD, HM, HB⟩ := hrel
                by_cases hlq : q < k'
                · obtain ⟨x, hx⟩ : ∃ x, xs'[q]? = some x := ⟨xs'[q]'(by have := HLn.out; omega), List.getElem?_eq_getElem _⟩
                  obtain ⟨gr, eav, hgB, hgl, c0, c1', fz⟩ := (H'.out.row.grow HB.out).get hx
                  have hoc := H'.out.row.own x (List.mem_of_getElem? hx)
                  have hli := H'.out.inv.lies x.ct (List.mem_map.2 ⟨x, List.mem_of_getElem? hx, rfl⟩)
                  have hbd := H'.out.bound (by omega) (List.mem_of_getElem? hx)
                  have hstep : ∀ z, tot ((xs'.take (q + 1)).map Cn.ct) z = tot ((xs'.take q).map Cn.ct) z + x.ids.count z := by
                    intro z
                    have hq' := (List.getElem?_eq_some_iff.1 hx).1
                    have he := (List.getElem?_eq_some_iff.1 hx).2
                    rw [List.take_succ_eq_append_getElem hq', he, List.map_append, tot_append]
                    simp [tot, Cn.ct]
                  obtain ⟨xa, xc, xi, xL⟩ := x
                  simp only [Cn.val, Cn.ct] at *
                  subst eav
                  have HSt : Hid (∀ z, tot ((xs'.take (q + 1)).map Cn.ct) z = tot ((xs'.take q).map Cn.ct) z + xi.count z) := hstep
                  have HHe : Hid (∀ z ∈ xi, ∃ i : Nat, z = (i : Int) ∧ i < n) := by
                    intro z hz
                    obtain ⟨i, s, e, hs, _⟩ := hli.held z hz
                    have := lt_of_some hs
                    have := H'.out.len
                    exact ⟨i, e, by omega⟩
                  have hxl : xi.length ≤ 18000 := hbd.2.1
                  have HO : Hid (Own wc w4.heap.size (.slice xa xi.length xc) xi) := hoc
                  have HTl : Hid (∀ z, tot ((xs'.take q).map Cn.ct) z ≤ 1200000) := fun z => by
                    have h1 := tot_small H'.out (by omega) z
                    have h2 : tot (xs'.map Cn.ct) z = tot ((xs'.take q).map Cn.ct) z + tot ((xs'.drop q).map Cn.ct) z := by rw [← tot_append, ← List.map_append, List.take_append_drop]
                    omega
                  clear hstep hli hbd hoc hx
                  have bx := below_box wr (.cells #[.slice xa xi.length xc, .int .i64 (xL.length : Int)] 29)
                  have g6 := heap_alloc_new wr (.cells #[.slice xa xi.length xc, .int .i64 (xL.length : Int)] 29)
                  have M6 : Hid ((wr.alloc (.cells #[.slice xa xi.length xc, .int .i64 (xL.length : Int)] 29)).ownsMap Try.prog 3 (plainElem (H := Unit) Try.prog 3) wc.heap.size cnt D) := HM.out.alloc _
                  have B6 : Hid (Below wr.heap.size wr (wr.alloc (.cells #[.slice xa xi.length xc, .int .i64 (xL.length : Int)] 29))) := bx
                  obtain ⟨k0, k1, _, _⟩ := two_cells g6
                  generalize xL.length = lx at *
                  go_wp2_with fail
                  have HB6 : Hid (Below wc.heap.size wc (wr.alloc (.cells #[.slice xa xi.length xc, .int .i64 (lx : Int)] 29))) := HB.out.trans (B6.out.mono HB.out.size)
                  generalize wr.alloc (.cells #[.slice xa xi.length xc, .int .i64 (lx : Int)] 29) = w6 at *
                  clear k0 k1 g6 bx c0 c1' fz B6 HM HB
                  go_loopw [163] (fun y W => ∃ (r cnt : Nat) (D : DataW Unit), r ≤ xi.length ∧ y = .int .i64 (r : Int) ∧ cnt ≤ q * 20000 + r ∧ Hid (CntIs D (fun z => tot ((xs'.take q).map Cn.ct) z + (xi.take r).count z) ∧ Maps.size D = live n (fun z => tot ((xs'.take q).map Cn.ct) z + (xi.take r).count z)) ∧ Hid (W.ownsMap Try.prog 3 (plainElem (H := Unit) Try.prog 3) wc.heap.size cnt D) ∧ Hid (Below wc.heap.size wc W)) (fun y _ => xi.length - (intOf y).toNat)
                  case atStart => exact ⟨0, cnt, D, by omega, rfl, by omega, ⟨HD.out.1.congr (fun z => by simp), by simpa using HD.out.2⟩, M6.out, HB6.out⟩
                  case round =>
                    clear M6 HB6 HD hcnt
                    rename_i wr
                    obtain ⟨r, cnt, D, hr, rfl, hcnt, HD, HM, HB⟩ := hrel
                    by_cases hlr : r < xi.length
                    · obtain ⟨_, u1, _, _, _⟩ := (HO.out.grow HB.out).use
                      obtain ⟨bi, oi, ea, hcell⟩ := u1 (by omega)
                      obtain ⟨i, hzi, hin⟩ := HHe.out _ (List.getElem_mem hlr)
                      have hck := hcell r (i : Int) (by rw [List.getElem?_eq_getElem hlr, hzi])
                      have HT : Hid (xi.take (r + 1) = xi.take r ++ [(i : Int)]) := by show _ = _; rw [List.take_succ_eq_append_getElem hlr, hzi]
                      have hwf : (Lit.int .i64 (i : Int)).wf = true := wf_nat i (by omega)
                      obtain ⟨c, hrun, hat, hwc⟩ := HM.out.lookup_int key3 Try.underlying38 Try.underlying3 (by rfl) (key_of3 (i : Int) hwf)
                      have hcv : c = ((tot ((xs'.take q).map Cn.ct) (i : Int) + (xi.take r).count (i : Int) : Nat) : Int) := by
                        have h1 := HD.out.1.at_ (i : Int)
                        rw [hat] at h1
                        simpa using h1
                      have hcl : (xi.take r).count (i : Int) ≤ 18000 := Nat.le_trans List.count_le_length (by rw [List.length_take]; omega)
                      have htl := HTl.out (i : Int)
                      have HCV : Hid _ := hcv
                      have hc0 : 0 ≤ c := by omega
                      have hc1 : c ≤ 2000000 := by omega
                      have hwf2 : (Lit.int .i64 (c + 1)).wf = true := by
                        obtain ⟨cn, rfl⟩ : ∃ cn : Nat, c = (cn : Int) := ⟨c.toNat, by omega⟩
                        exact wf_nat (cn + 1) (by omega)
                      have HWF : Hid _ := hwf
                      have HWF2 : Hid _ := hwf2
                      subst ea
                      clear hcell u1 hat hwc hcv hcl htl hzi hwf hwf2
                      go_wp2_with (at_mapUpdate; refine wpList_mapUpdate_own _ rfl _ _ _ 38 rfl 3 3 key3 Try.underlying38 _ wc.heap.size cnt D rfl HM.out ?d1 _ _ (.int .i64 (i : Int)) rfl rfl (key_of3 (i : Int) HWF.out) (.lit (.int .i64 (c + 1))) [] (plainElem_int Try.underlying3 HWF2.out) ?_)
                      case d1 => unfold maxLen; omega
                      · intro w7 m7 g7
                        have HB7 : Hid (Below wc.heap.size wc w7) := HB.out.grown g7 HB.out.size fun q hq => by cases hq; exact Nat.le_refl _
                        have hfe : (plus1 (fun z => tot ((xs'.take q).map Cn.ct) z + (xi.take r).count z) (i : Int)) = fun z => tot ((xs'.take q).map Cn.ct) z + (xi.take (r + 1)).count z := by
                          funext z
                          rw [HT.out, List.count_append, List.count_singleton]
                          simp [plus1, Nat.add_assoc]
                        have HD7 : Hid (CntIs (D.put (.int .i64 (i : Int)) (.lit (.int .i64 (c + 1)))) (fun z => tot ((xs'.take q).map Cn.ct) z + (xi.take (r + 1)).count z) ∧ Maps.size (D.put (.int .i64 (i : Int)) (.lit (.int .i64 (c + 1)))) = live n (fun z => tot ((xs'.take q).map Cn.ct) z + (xi.take (r + 1)).count z)) := by
                          have p1 := HD.out.1.put (i : Int)
                          have p2 := HD.out.1.size i n hin HD.out.2
                          rw [hfe] at p1 p2
                          rw [HCV.out]
                          exact ⟨p1, p2⟩
                        have HM7 : Hid _ := m7
                        clear m7 g7 hfe HB HM HD HT HCV hrun hck
                        go_wp2
                        go_roundw
                        case rel => exact ⟨r + 1, cnt + 1, _, by omega, by go_num, by omega, HD7.out, HM7.out, HB7.out⟩
                        case measure => simp [intOf]; omega
                    · obtain rfl : r = xi.length := by omega
                      have HDq : Hid (CntIs D (tot ((xs'.take (q + 1)).map Cn.ct)) ∧ Maps.size D = live n (tot ((xs'.take (q + 1)).map Cn.ct))) := by
                        have e : (fun z => tot ((xs'.take q).map Cn.ct) z + (xi.take xi.length).count z) = tot ((xs'.take (q + 1)).map Cn.ct) := by
                          funext z; rw [List.take_length, HSt.out z]
                        have := HD.out
                        rw [e] at this
                        exact this
                      clear HD HSt
                      go_wp2
                      go_roundw
                      case rel => exact ⟨q + 1, cnt, D, by omega, by go_num, by omega, HDq.out, HM.out, HB.out⟩
                      case measure => simp [intOf]; omega
                · obtain rfl : q = k' := by omega
                  have HDe : Hid (CntIs D (tot (xs'.map Cn.ct)) ∧ Maps.size D = live n (tot (xs'.map Cn.ct))) := by
                    have h1 := HD.out
                    rw [HLn.out, List.take_length] at h1
                    exact h1
                  have hltM := HM.out.lt
                  clear HD hlq
                  go_wp2_with (at_range; refine wpList_range_own _ rfl _ 38 rfl 3 3 key3 Try.underlying38 _ wc.heap.size cnt D rfl HM.out ?_)
                  intro w6 r6 g6 s6
                  have HB6 : Hid (Below wc.heap.size wc w6) := HB.out.grown g6 HB.out.size (fun k hk => by cases hk)
                  have HM6 : Hid (w6.ownsMap Try.prog 3 (plainElem (H := Unit) Try.prog 3) wc.heap.size cnt D) := owns_moved HM.out (g6.block _ hltM (fun e => by cases e))
                  have hrr : wc.heap.size ≠ wr.heap.size := by omega
                  have hrB : wc.heap.size ≤ wr.heap.size := HB.out.size
                  have R6 : Hid (w6.ranges Try.prog 3 (plainElem (H := Unit) Try.prog 3) wc.heap.size wr.heap.size cnt D (Maps.has D) (Maps.size D)) := r6
                  clear r6 g6 s6 HM HB hltM
                  generalize wr.heap.size = rr at *
                  go_wp2_with fail
                  go_loopw [22] (fun _ wz => ∃ (left : Lit → Bool) (c0 : Nat), Hid (wz.ranges Try.prog 3 (plainElem (H := Unit) Try.prog 3) wc.heap.size rr cnt D left c0) ∧ Hid (wz.ownsMap Try.prog 3 (plainElem (H := Unit) Try.prog 3) wc.heap.size cnt D) ∧ Hid (∀ kl, left kl = true → Maps.has D kl = true) ∧ Hid (Below wc.heap.size wc wz)) (fun _ wz => wz.rangeLeft wc.heap.size rr)
                  case atStart => exact ⟨_, _, R6.out, HM6.out, fun _ h => h, HB6.out⟩
                  case round =>
                    clear R6 HM6 HB6
                    rename_i wr
                    obtain ⟨left, c0, HR, HM, HL, HB⟩ := hrel
                    have HCnt : Hid (wr.rangeLeft wc.heap.size rr = c0) := HR.out.left_eq
                    go_wp2_with (at_next; refine wpList_next_ranges_ii _ rfl _ rfl 3 3 .i64 .i64 key3 Try.underlying3 Try.underlying3 wc.heap.size rr cnt D left c0 rfl HR.out ?hd ?hm)
                    case hd =>
                      intro h0 hl
                      have A6 := H'.out.ar.grow HB.out
                      have hlv := H'.out.inv.live
                      rw [H'.out.len, ← HDe.out.2] at hlv
                      have q1 := free_w A6
                      rw [show (fr'.length : Int) = (n : Int) - ((Maps.size D : Nat) : Int) by omega] at q1
                      have HSt : Hid (St w wr p S F w4.heap.size n (j + 1) (.slice av' q cv') xs' ss' fr') := ⟨H'.out.below.trans (HB.out.mono H'.out.below.size), H'.out.row.grow HB.out, A6, H'.out.inv, H'.out.size, H'.out.num, H'.out.len⟩
                      have hszl : (Maps.size D : Int) ≤ 100 := by omega
                      have hsz9 : Hid (w4.heap.size ≤ wr.heap.size) := by have := HB.out.size; show _ ≤ _; omega
                      clear HR HCnt hl A6 hlv
                      go_wp2_with fail
                      refine q1.mono ?_
                      rintro e w' ⟨rfl, rfl⟩
                      clear q1
                      have hlenm := HM.out.len Try.underlying38 3
                      generalize Maps.size D = sz at *
                      go_wp2
                      go_roundw
                      case rel => exact ⟨j + 1, q, av', cv', xs', ss', fr', by omega, by go_num, rfl, by omega, hsz9.out, HSt.out⟩
                      case measure => simp [intOf]; omega
                    case hm =>
                      intro x c w7 c1 hwx hwc hlk hat hrg hlt' hgr hszz hen
                      have hhas := HL.out _ hlk
                      rw [HDe.out.1.has] at hhas
                      have hpos : 0 < tot (xs'.map Cn.ct) x := by simpa using hhas
                      have hcx : c = (tot (xs'.map Cn.ct) x : Int) := by
                        have h1 := HDe.out.1.at_ x
                        rw [hat] at h1
                        simpa using h1
                      have HB7 : Hid (Below wc.heap.size wc w7) := HB.out.grown hgr HB.out.size (fun k hk => by cases hk; exact hrB)
                      have HM7 : Hid (w7.ownsMap Try.prog 3 (plainElem (H := Unit) Try.prog 3) wc.heap.size cnt D) := owns_moved HM.out (hgr.block _ HM.out.lt (fun e => hrr (by injection e)))
                      have q1 := holds_any (H'.out.ar.grow HB7.out) x
                      rw [H'.out.inv.holds_tot x hpos, ← hcx] at q1
                      have HR7 : Hid (w7.ranges Try.prog 3 (plainElem (H := Unit) Try.prog 3) wc.heap.size rr cnt D (fun z => left z && !z.sameKey (.int .i64 x)) c1) := hrg
                      have hl8 := HR7.out.left_eq
                      have HMs : Hid (w7.rangeLeft wc.heap.size rr < wr.rangeLeft wc.heap.size rr) := by show _ < _; rw [hl8, HCnt.out]; exact hlt'
                      clear hrg hgr hat hlk hhas hpos hcx hl8 HR HM HB HCnt hlt' hszz
                      go_wp2_with fail
                      refine q1.mono ?_
                      rintro e w' ⟨rfl, rfl⟩
                      clear q1 hen
                      go_wp2
                      go_roundw
                      case rel => exact ⟨_, c1, HR7.out, HM7.out, fun kl h => HL.out kl (by simp at h; exact h.1), HB7.out⟩
                      case measure => exact HMs.out
    · have bb := H.out.below
      go_wp2_with fail
      go_ret
      exact ⟨rfl, bb⟩


set_option maxRecDepth 100000 in
set_option maxHeartbeats 4000000 in
theorem walk_no (n : Int) (at_ : Option Addr) (N capt : Nat) (w : World) (h : n < 0 ∨ 100 < n ∨ 60 < N) (hNb : N ≤ 9223372036854775807) :
    Calls Try.prog 3 #[.int .i64 n, .slice at_ N capt] w fun e w' => e = .returned (.bool true) ∧ Below w.heap.size w w' := by
  by_cases c1 : n < 0
  · have d1 : decide (n < 0) = true := decide_eq_true c1
    go_enter Try.func3, Try.ntmps3
    go_wp2_with fail
    refine (new_yes 2 w (by decide)).mono ?_
    rintro e w1 ⟨p, S, F, rfl, A1, B1, gp, gS, gF⟩
    obtain ⟨lp, lS, lF⟩ := A1.lt
    have kc := Lib.run_convert_bytes_const (P := Try.prog) w1 32 5 #[.int .u8 120] 1 1 Try.underlying32 Try.underlying5
    have I1 : Inv (blank 2) (down 2) [([], [])] := (blank_inv 2 _ A1.good).begin
    have bx1 := below_box w1 (.cells #[.int .u8 120] 5 (1, 2))
    have hcan : canCode (blank 2) (down 2) [] ([] : List Int).length ([120] : List Int).length = 0 := I1.can 1 (by decide) (by decide +kernel)
    have q := app_inv (A1.grow bx1) I1 none 0 0 (own_nil _ _) (some ⟨w1.heap.size, 0, none⟩) [120] 1 (by decide) (by decide) (src_mark_at w1 [120] 5 (1, 2) _ rfl) (fun _ ad e => by cases e; exact ⟨by simp; omega, by simp; omega, by simp; omega⟩) hcan
    simp only [List.length_nil, List.nil_append, Int.natCast_zero, List.length_cons, Nat.zero_add] at q
    have b1 : Below w.heap.size w (w1.alloc (.cells #[.int .u8 120] 5 (1, 2))) := B1.trans (bx1.mono B1.size)
    clear hcan I1
    go_wp2_with fail
    refine q.mono ?_
    rintro e w2 ⟨a2, c2, ids2, ss2, fr2, rfl, O2, A2, K2, I2, _, _⟩
    clear q kc
    obtain ⟨z, rfl⟩ : ∃ z, ids2 = [z] := by
      have hl := (I2.lies (ids2, [120]) (by simp)).len
      simp [need] at hl
      match ids2, hl with
      | [z], _ => exact ⟨z, rfl⟩
    obtain ⟨_, u1, _, u3, _⟩ := O2.use
    obtain ⟨bz, oz, rfl, hz⟩ := u1 (by simp)
    have hz0 := hz 0 z rfl
    rw [Nat.add_zero] at hz0
    have hH : holdsOf ss2 z = 1 := by
      obtain ⟨i, s, e, hs, _⟩ := (I2.lies ([z], [120]) (by simp)).held z (by simp)
      subst e
      rw [holdsOf_nat ss2 i s hs, I2.acc i s hs]
      simp [tot]
    have b2 : Below w.heap.size w w2 := b1.trans (K2.below b1.size (by omega) (by omega) (by omega))
    have g3 := heap_alloc_new w2 (.cells #[.slice (some ⟨bz, oz, none⟩) 1 c2, .int .i64 1] 29)
    have bx3 := below_box w2 (.cells #[.slice (some ⟨bz, oz, none⟩) 1 c2, .int .i64 1] 29)
    have hz3 := cell_below bx3 hz0
    have q := holds_any (A2.grow bx3) z
    rw [hH] at q
    have b3 := b2.trans (bx3.mono b2.size)
    obtain ⟨k0, k1, k2, k3⟩ := two_cells g3
    clear hH hz0 hz u1 u3 O2 A2 K2 I2 A1 b1 b2 bx1 bx3
    go_wp2_with fail
    generalize w2.alloc (.cells #[.slice (some ⟨bz, oz, none⟩) 1 c2, .int .i64 1] 29) = w3 at *
    refine q.mono ?_
    rintro e w' ⟨rfl, rfl⟩
    clear q k0 k1 k2 k3 hz3 g3
    go_wp2_with fail
    go_ret
    exact ⟨rfl, b3⟩
  by_cases c2 : 100 < n
  · have d1 : decide (n < 0) = false := decide_eq_false c1
    have d2 : decide (100 < n) = true := decide_eq_true c2
    go_enter Try.func3, Try.ntmps3
    go_wp2_with fail
    refine (new_yes 2 w (by decide)).mono ?_
    rintro e w1 ⟨p, S, F, rfl, A1, B1, gp, gS, gF⟩
    obtain ⟨lp, lS, lF⟩ := A1.lt
    have kc := Lib.run_convert_bytes_const (P := Try.prog) w1 32 5 #[.int .u8 120] 1 1 Try.underlying32 Try.underlying5
    have I1 : Inv (blank 2) (down 2) [([], [])] := (blank_inv 2 _ A1.good).begin
    have bx1 := below_box w1 (.cells #[.int .u8 120] 5 (1, 2))
    have hcan : canCode (blank 2) (down 2) [] ([] : List Int).length ([120] : List Int).length = 0 := I1.can 1 (by decide) (by decide +kernel)
    have q := app_inv (A1.grow bx1) I1 none 0 0 (own_nil _ _) (some ⟨w1.heap.size, 0, none⟩) [120] 1 (by decide) (by decide) (src_mark_at w1 [120] 5 (1, 2) _ rfl) (fun _ ad e => by cases e; exact ⟨by simp; omega, by simp; omega, by simp; omega⟩) hcan
    simp only [List.length_nil, List.nil_append, Int.natCast_zero, List.length_cons, Nat.zero_add] at q
    have b1 : Below w.heap.size w (w1.alloc (.cells #[.int .u8 120] 5 (1, 2))) := B1.trans (bx1.mono B1.size)
    clear hcan I1
    go_wp2_with fail
    refine q.mono ?_
    rintro e w2 ⟨a2, c2, ids2, ss2, fr2, rfl, O2, A2, K2, I2, _, _⟩
    clear q kc
    obtain ⟨z, rfl⟩ : ∃ z, ids2 = [z] := by
      have hl := (I2.lies (ids2, [120]) (by simp)).len
      simp [need] at hl
      match ids2, hl with
      | [z], _ => exact ⟨z, rfl⟩
    obtain ⟨_, u1, _, u3, _⟩ := O2.use
    obtain ⟨bz, oz, rfl, hz⟩ := u1 (by simp)
    have hz0 := hz 0 z rfl
    rw [Nat.add_zero] at hz0
    have hH : holdsOf ss2 z = 1 := by
      obtain ⟨i, s, e, hs, _⟩ := (I2.lies ([z], [120]) (by simp)).held z (by simp)
      subst e
      rw [holdsOf_nat ss2 i s hs, I2.acc i s hs]
      simp [tot]
    have b2 : Below w.heap.size w w2 := b1.trans (K2.below b1.size (by omega) (by omega) (by omega))
    have g3 := heap_alloc_new w2 (.cells #[.slice (some ⟨bz, oz, none⟩) 1 c2, .int .i64 1] 29)
    have bx3 := below_box w2 (.cells #[.slice (some ⟨bz, oz, none⟩) 1 c2, .int .i64 1] 29)
    have hz3 := cell_below bx3 hz0
    have q := holds_any (A2.grow bx3) z
    rw [hH] at q
    have b3 := b2.trans (bx3.mono b2.size)
    obtain ⟨k0, k1, k2, k3⟩ := two_cells g3
    clear hH hz0 hz u1 u3 O2 A2 K2 I2 A1 b1 b2 bx1 bx3
    go_wp2_with fail
    generalize w2.alloc (.cells #[.slice (some ⟨bz, oz, none⟩) 1 c2, .int .i64 1] 29) = w3 at *
    refine q.mono ?_
    rintro e w' ⟨rfl, rfl⟩
    clear q k0 k1 k2 k3 hz3 g3
    go_wp2_with fail
    go_ret
    exact ⟨rfl, b3⟩
  have c3 : (60 : Int) < (N : Int) := by omega
  have d1 : decide (n < 0) = false := decide_eq_false c1
  have d2 : decide (100 < n) = false := decide_eq_false c2
  have d3 : decide ((60 : Int) < (N : Int)) = true := decide_eq_true c3
  go_enter Try.func3, Try.ntmps3
  go_wp2_with fail
  refine (new_yes 2 w (by decide)).mono ?_
  rintro e w1 ⟨p, S, F, rfl, A1, B1, gp, gS, gF⟩
  obtain ⟨lp, lS, lF⟩ := A1.lt
  have kc := Lib.run_convert_bytes_const (P := Try.prog) w1 32 5 #[.int .u8 120] 1 1 Try.underlying32 Try.underlying5
  have I1 : Inv (blank 2) (down 2) [([], [])] := (blank_inv 2 _ A1.good).begin
  have bx1 := below_box w1 (.cells #[.int .u8 120] 5 (1, 2))
  have hcan : canCode (blank 2) (down 2) [] ([] : List Int).length ([120] : List Int).length = 0 := I1.can 1 (by decide) (by decide +kernel)
  have q := app_inv (A1.grow bx1) I1 none 0 0 (own_nil _ _) (some ⟨w1.heap.size, 0, none⟩) [120] 1 (by decide) (by decide) (src_mark_at w1 [120] 5 (1, 2) _ rfl) (fun _ ad e => by cases e; exact ⟨by simp; omega, by simp; omega, by simp; omega⟩) hcan
  simp only [List.length_nil, List.nil_append, Int.natCast_zero, List.length_cons, Nat.zero_add] at q
  have b1 : Below w.heap.size w (w1.alloc (.cells #[.int .u8 120] 5 (1, 2))) := B1.trans (bx1.mono B1.size)
  clear hcan I1
  go_wp2_with fail
  refine q.mono ?_
  rintro e w2 ⟨a2, c2, ids2, ss2, fr2, rfl, O2, A2, K2, I2, _, _⟩
  clear q kc
  obtain ⟨z, rfl⟩ : ∃ z, ids2 = [z] := by
    have hl := (I2.lies (ids2, [120]) (by simp)).len
    simp [need] at hl
    match ids2, hl with
    | [z], _ => exact ⟨z, rfl⟩
  obtain ⟨_, u1, _, u3, _⟩ := O2.use
  obtain ⟨bz, oz, rfl, hz⟩ := u1 (by simp)
  have hz0 := hz 0 z rfl
  rw [Nat.add_zero] at hz0
  have hH : holdsOf ss2 z = 1 := by
    obtain ⟨i, s, e, hs, _⟩ := (I2.lies ([z], [120]) (by simp)).held z (by simp)
    subst e
    rw [holdsOf_nat ss2 i s hs, I2.acc i s hs]
    simp [tot]
  have b2 : Below w.heap.size w w2 := b1.trans (K2.below b1.size (by omega) (by omega) (by omega))
  have g3 := heap_alloc_new w2 (.cells #[.slice (some ⟨bz, oz, none⟩) 1 c2, .int .i64 1] 29)
  have bx3 := below_box w2 (.cells #[.slice (some ⟨bz, oz, none⟩) 1 c2, .int .i64 1] 29)
  have hz3 := cell_below bx3 hz0
  have q := holds_any (A2.grow bx3) z
  rw [hH] at q
  have b3 := b2.trans (bx3.mono b2.size)
  obtain ⟨k0, k1, k2, k3⟩ := two_cells g3
  clear hH hz0 hz u1 u3 O2 A2 K2 I2 A1 b1 b2 bx1 bx3
  go_wp2_with fail
  generalize w2.alloc (.cells #[.slice (some ⟨bz, oz, none⟩) 1 c2, .int .i64 1] 29) = w3 at *
  refine q.mono ?_
  rintro e w' ⟨rfl, rfl⟩
  clear q k0 k1 k2 k3 hz3 g3
  go_wp2_with fail
  go_ret
  exact ⟨rfl, b3⟩


end Go.Proofs.Ytpjfhfbjdcgbjac.wholeStore
