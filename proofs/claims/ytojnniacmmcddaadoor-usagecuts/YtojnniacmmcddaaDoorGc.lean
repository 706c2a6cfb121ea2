/-
  Contracts: Get, Set; plain: how much a tree has.
-/
import Derived.Test.YtojnniacmmcddaaDoorM0
import Derived.Test.YtojnniacmmcddaaDoorX0
import Derived.Deep.DeepCutAuto
import Derived.Deep.CutBlock
import Derived.Test.YtojnniacmmcddaaDoorN0
namespace Go.Proofs.YtojnniacmmcddaaDoor
open Go.RowKit
open Go.Lib hiding intOf
set_option linter.unusedVariables false
set_option linter.unusedSimpArgs false

theorem Hr.far2 {w : World} {gd : Nat} {L : List Rw} (h : Hr w gd L) (g : Nat) (hne : gd ≠ g) (x y : Value) : Hr ((w.setCell ⟨g, 0, none⟩ x).setCell ⟨g, 1, none⟩ y) gd L := fun j v hv => by
  have := h j v hv
  refine ⟨?_, ?_⟩
  · rw [World.cell?_setCell_far _ _ _ _ (by show g ≠ gd; omega), World.cell?_setCell_far _ _ _ _ (by show g ≠ gd; omega)]; exact this.1
  · rw [World.frozen?_setCell, World.frozen?_setCell]; exact this.2

set_option maxRecDepth 20000 in
set_option maxHeartbeats 1000000 in
theorem clone_hr (a : Addr) (c : Nat) (L : List Rw) (w : World) (hr : Rs w (some a) L) (hl : L.length ≤ 1000000) :
    Calls Tryd.prog 50 #[.slice (some a) L.length c] w fun e w' => ∃ gd c', e = .returned (.slice (some ⟨gd, 0, none⟩) L.length c') ∧ Hr w' gd L ∧ w.heap.size ≤ gd ∧ L.length ≤ c' ∧ Below w.heap.size w w' := by
  have hq := fun W => Lib.run_eql_slice_nil (P := Tryd.prog) W 24 40 (some a) L.length c 0 0 Tryd.underlying24
  have HR : Hid (Rs w (some a) L) := hr
  have O0 : Hid (Ow (w.alloc (.cells #[] 40)) w.heap.size (.slice (some ⟨w.heap.size, 0, none⟩) 0 0) []) := ⟨rfl, .inr ⟨w.heap.size, 0, #[], rfl, Nat.le_refl _, heap_alloc_new w _, Nat.le_refl _, by unfold maxLen; omega, rfl, rfl⟩⟩
  have hl2 : Hid (0 + L.length ≤ 3000000) := (by show _ ≤ _; omega)
  have hb := below_box w (.cells #[] 40)
  clear hr
  generalize hn : L.length = n at *
  have HN : Hid (L.length = n) := hn
  clear hn
  go_enter Tryd.func50, Tryd.ntmps50
  go_wp2_with (at_builtin; refine wpList_rows rfl _ _ rfl w.heap.size w.heap.size 0 0 [] rfl rfl O0.out (by rw [size_box]; omega) (some a) n c L rfl HN.out (HR.out.below hb) (fun h => by cases h) hl2.out ?_; intro g1 e1 v1 O1 b1; simp only [List.nil_append, Nat.zero_add] at O1 ⊢)
  go_ret
  have hge : w.heap.size ≤ g1 ∧ n ≤ e1 := by
    rcases O1.2 with ⟨q1, _⟩ | ⟨g', cp, cur, q1, q2, q3, q4, _⟩
    · cases q1
    · simp at q1
      have := HN.out
      omega
  exact ⟨g1, e1, rfl, O1.hr, hge.1, hge.2, hb.trans b1⟩

set_option maxRecDepth 20000 in
set_option maxHeartbeats 4000000 in
theorem same_hr_core (ad : Option Addr) (cap n m : Nat) (nx : Int) (w : World) (M : List Rw)
    (KL : Hid (∀ W, Below w.heap.size w W → Calls Tryd.prog 50 #[.slice ad n cap] W fun e w' => ∃ gd c, e = .returned (.slice (some ⟨gd, 0, none⟩) m c) ∧ Hr w' gd M ∧ W.heap.size ≤ gd ∧ m ≤ c ∧ Below W.heap.size W w')) :
    Calls Tryd.prog 27 #[.agg #[.slice ad n cap, .int .i64 nx]] w fun e w' => ∃ gd c, e = .returned (.agg #[.slice (some ⟨gd, 0, none⟩) m c, .int .i64 nx]) ∧ Hr w' gd M ∧ w.heap.size ≤ gd ∧ m ≤ c ∧ Below w.heap.size w w' := by
  have H0 := Two.mk0 w #[.slice ad n cap, .int .i64 nx] #[.slice none 0 0, .int .i64 0] 26 26
  have HS : Hid (∀ W, Two w W #[.slice ad n cap, .int .i64 nx] #[.slice none 0 0, .int .i64 0] 26 26 → W.cell? ⟨w.heap.size, 0, none⟩ = some (.slice ad n cap) ∧ W.cell? ⟨w.heap.size, 1, none⟩ = some (.int .i64 nx)) := fun W h => ⟨cells_of h.1 0, cells_of h.1 1⟩
  have HK : Hid (∀ W p v, p.block = w.heap.size + 1 → (W.cell? ⟨w.heap.size, 0, none⟩ = some (.slice ad n cap) ∧ W.cell? ⟨w.heap.size, 1, none⟩ = some (.int .i64 nx)) → (fun W : World => W.cell? ⟨w.heap.size, 0, none⟩ = some (.slice ad n cap) ∧ W.cell? ⟨w.heap.size, 1, none⟩ = some (.int .i64 nx)) (World.setCell W p v)) := fun W p v hp h => ⟨by rw [World.cell?_setCell_far _ _ _ _ (by rw [hp]; show _ ≠ w.heap.size; omega)]; exact h.1, by rw [World.cell?_setCell_far _ _ _ _ (by rw [hp]; show _ ≠ w.heap.size; omega)]; exact h.2⟩
  go_enter Tryd.func27, Tryd.ntmps27
  go_wp2_with fail
  generalize (w.alloc _).alloc _ = w1 at *
  have L1 := H0.drew
  have h3 := HS.out _ L1
  have lt0 := H0.2.2.2
  go_region_held3 (fun W => W.cell? ⟨w.heap.size, 0, none⟩ = some (.slice ad n cap) ∧ W.cell? ⟨w.heap.size, 1, none⟩ = some (.int .i64 nx)) (first | assumption | exact h3 | exact HK.out _ _ _ rfl (HK.out _ _ _ rfl h5) | exact HK.out _ _ _ rfl h5) (
    (go_at_call 50; refine (KL.out _ L1.2.2.1).mono ?_; rintro e w5 ⟨gd, c, rfl, R5, G5, C5, b5⟩; have L5 := L1.next b5; have h5 := HS.out _ L5; have d3 := cells_of L5.2.1 0; have d4 := cells_of L5.2.1 1; have g3 := froz_of L5.2.1))
  have hg2 : gd ≠ w.heap.size + 1 := by
    have := L1.2.2.2
    omega
  have hg3 : w.heap.size ≤ gd := by
    have := L1.2.2.2
    omega
  have e2 := two_set L5.2.1 (.slice (some ⟨gd, 0, none⟩) m c) (.int .i64 nx)
  have R6 := R5.far2 (w.heap.size + 1) hg2 (.slice (some ⟨gd, 0, none⟩) m c) (.int .i64 nx)
  have b6 : Below w.heap.size w ((w5.setCell ⟨w.heap.size + 1, 0, none⟩ (.slice (some ⟨gd, 0, none⟩) m c)).setCell ⟨w.heap.size + 1, 1, none⟩ (.int .i64 nx)) := (L5.2.2.1.setCell (by show _ ≤ w.heap.size + 1; omega) _).setCell (by show _ ≤ w.heap.size + 1; omega) _
  go_wp2_with fail
  exact bodyPost_ret (results_cell_row rfl _ _ (w.heap.size + 1) 26 _ (0, 0) _ rfl e2 Tryd.underlying26 rfl (by kernel_rfl)) rfl ⟨gd, c, rfl, R6, hg3, C5, b6⟩

theorem same_hr (a : Addr) (cap : Nat) (nx : Int) (L : List Rw) (w : World) (hr : Rs w (some a) L) (hl : L.length ≤ 1000000) :
    Calls Tryd.prog 27 #[.agg #[.slice (some a) L.length cap, .int .i64 nx]] w fun e w' => ∃ gd c, e = .returned (.agg #[.slice (some ⟨gd, 0, none⟩) L.length c, .int .i64 nx]) ∧ Hr w' gd L ∧ w.heap.size ≤ gd ∧ L.length ≤ c ∧ Below w.heap.size w w' :=
  same_hr_core (some a) cap L.length L.length nx w L fun W hb => clone_hr a cap L W (hr.below hb) hl

/-- three boxes -/
structure C3 (w W : World) (T C D : Array Value) (a b c : TypeId) : Prop where
  one : W.heap[w.heap.size]? = some (.cells T a (0, 0))
  two : W.heap[w.heap.size + 1]? = some (.cells C b (0, 0))
  thr : W.heap[w.heap.size + 2]? = some (.cells D c (0, 0))
  bel : Below w.heap.size w W
  lt : w.heap.size + 3 ≤ W.heap.size

theorem C3.next {w W W' : World} {T C D : Array Value} {a b c : TypeId} (h : C3 w W T C D a b c) (k : Below W.heap.size W W') : C3 w W' T C D a b c := by
  have := h.lt
  exact ⟨by rw [k.block _ (by omega)]; exact h.one, by rw [k.block _ (by omega)]; exact h.two, by rw [k.block _ (by omega)]; exact h.thr, h.bel.trans (k.mono h.bel.size), Nat.le_trans h.lt k.size⟩
theorem C3.drew {w W : World} {T C D : Array Value} {a b c : TypeId} (h : C3 w W T C D a b c) : C3 w W.drew T C D a b c := ⟨h.one, h.two, h.thr, h.bel.drew, h.lt⟩
theorem C3.mk0 (w : World) (T C D : Array Value) (a b c : TypeId) : C3 w (((w.alloc (.cells T a)).alloc (.cells C b)).alloc (.cells D c)) T C D a b c := by
  have s1 := size_box w (.cells T a)
  have s2 := size_box (w.alloc (.cells T a)) (.cells C b)
  have s3 := size_box ((w.alloc (.cells T a)).alloc (.cells C b)) (.cells D c)
  refine ⟨?_, ?_, ?_, ?_, by omega⟩
  · rw [Below.heap_alloc _ _ _ (by omega), Below.heap_alloc _ _ _ (by omega)]; exact heap_alloc_new _ _
  · rw [Below.heap_alloc _ _ _ (by omega)]
    have := heap_alloc_new (w.alloc (.cells T a)) (.cells C b)
    rwa [s1] at this
  · have := heap_alloc_new ((w.alloc (.cells T a)).alloc (.cells C b)) (.cells D c)
    rwa [s2, s1] at this
  · exact ((below_box w _).alloc (by omega) _).alloc (by omega) _

/-- a number is set in one of them -/
theorem Hr.setSize {w : World} {g : Nat} {L : List Rw} (h : Hr w g L) (i : Nat) (r : Rw) (hi : L[i]? = some r) (z : Int) : Hr (w.setCell ⟨g, i * 13 + 11, none⟩ (.int .i64 z)) g (L.set i { r with size := z }) := by
  have hlt : i < L.length := (List.getElem?_eq_some_iff.1 hi).1
  have hold := h (i * 13 + 11) _ (flat_get L i 11 r _ hi rfl)
  intro j v hv
  have hj : j < L.length * 13 := by have := (List.getElem?_eq_some_iff.1 hv).1; rwa [flat_length, List.length_set] at this
  have hl2 : j / 13 < L.length := by omega
  by_cases e : j = i * 13 + 11
  · subst e
    have e2 : (L.set i { r with size := z })[i]? = some { r with size := z } := by simp [hlt]
    have e3 := flat_get (L.set i { r with size := z }) i 11 { r with size := z } _ e2 rfl
    rw [e3] at hv
    cases hv
    refine ⟨World.cell?_setCell_same _ _ _ hold.1, ?_⟩
    rw [World.frozen?_setCell]; exact hold.2
  · have hsame : (flat L)[j]? = some v := by
      have hjj : j = (j / 13) * 13 + j % 13 := by omega
      have hm : j % 13 < 13 := Nat.mod_lt _ (by omega)
      by_cases e1 : j / 13 = i
      · have e2 : (L.set i { r with size := z })[j / 13]? = some { r with size := z } := by rw [e1]; simp [hlt]
        have hc : ({ r with size := z } : Rw).cs[j % 13]? = r.cs[j % 13]? := by
          have : j % 13 ≠ 11 := fun q => e (by omega)
          match hq : j % 13, this with
          | 0, _ => rfl
          | 1, _ => rfl
          | 2, _ => rfl
          | 3, _ => rfl
          | 4, _ => rfl
          | 5, _ => rfl
          | 6, _ => rfl
          | 7, _ => rfl
          | 8, _ => rfl
          | 9, _ => rfl
          | 10, _ => rfl
          | 12, _ => rfl
          | n + 13, _ => omega
        have hlen : j % 13 < r.cs.length := by rw [Rw.cs_length]; exact hm
        have e3 := flat_get _ (j / 13) (j % 13) _ _ e2 (hc.trans (List.getElem?_eq_getElem hlen))
        have e4 := flat_get L (j / 13) (j % 13) r _ (by rw [e1]; exact hi) (List.getElem?_eq_getElem hlen)
        rw [← hjj] at e3 e4
        rw [e3] at hv
        rw [e4]; exact hv
      · have e2 : (L.set i { r with size := z })[j / 13]? = L[j / 13]? := by rw [List.getElem?_set_ne (fun q => e1 q.symm)]
        have hq := List.getElem?_eq_getElem hl2
        have hlen : j % 13 < (L[j / 13]).cs.length := by rw [Rw.cs_length]; exact hm
        have e3 := flat_get _ (j / 13) (j % 13) _ _ (e2.trans hq) (List.getElem?_eq_getElem hlen)
        have e4 := flat_get L (j / 13) (j % 13) _ _ hq (List.getElem?_eq_getElem hlen)
        rw [← hjj] at e3 e4
        rw [e3] at hv
        rw [e4]; exact hv
    have := h j v hsame
    refine ⟨?_, ?_⟩
    · rw [World.cell?_setCell_other _ _ _ _ (fun q => e (by injection q with _ q2; omega))]; exact this.1
    · rw [World.frozen?_setCell]; exact this.2


theorem Hr.setSame {w : World} {g : Nat} {L : List Rw} (h : Hr w g L) (k : Nat) (v : Value) (hk : (flat L)[k]? = some v) : Hr (w.setCell ⟨g, k, none⟩ v) g L := fun j u hu => by
  have := h j u hu
  refine ⟨?_, by rw [World.frozen?_setCell]; exact this.2⟩
  by_cases e : j = k
  · subst e
    rw [hk] at hu
    cases hu
    exact World.cell?_setCell_same _ _ _ (h j v hk).1
  · rw [World.cell?_setCell_other _ _ _ _ (fun q => e (by injection q with _ q2; omega))]; exact this.1

theorem C3.setFar {w W : World} {T C D : Array Value} {a b c : TypeId} (h : C3 w W T C D a b c) (p : Addr) (v : Value) (hp : w.heap.size + 3 ≤ p.block) : C3 w (W.setCell p v) T C D a b c := by
  have k : Below (w.heap.size + 3) W (W.setCell p v) := (Below.refl _ _).setCell hp _
  exact ⟨by rw [k.block _ (by omega)]; exact h.one, by rw [k.block _ (by omega)]; exact h.two, by rw [k.block _ (by omega)]; exact h.thr, h.bel.trans (k.mono (by omega)), Nat.le_trans h.lt k.size⟩

/-- Set, plain -/
def setF (id z : Int) (r : Rw) : Rw := if r.id = id ∧ r.kind = 1 then { r with size := z } else r
def setN (L : List Rw) (id z : Int) (i : Nat) : List Rw := (L.take i).map (setF id z) ++ L.drop i
theorem setN_zero (L : List Rw) (id z : Int) : setN L id z 0 = L := by simp [setN]
theorem setN_all (L : List Rw) (id z : Int) : setN L id z L.length = L.map (setF id z) := by simp [setN]
theorem setN_length (L : List Rw) (id z : Int) (i : Nat) : (setN L id z i).length = L.length := by
  unfold setN; rw [List.length_append, List.length_map, List.length_take, List.length_drop]; omega
theorem setN_get (L : List Rw) (id z : Int) (i : Nat) (r : Rw) (h : L[i]? = some r) : (setN L id z i)[i]? = some r := by
  have hlt := (List.getElem?_eq_some_iff.1 h).1
  unfold setN
  have hl : ((L.take i).map (setF id z)).length = i := by rw [List.length_map, List.length_take]; omega
  rw [List.getElem?_append_right (by omega), hl, Nat.sub_self, List.getElem?_drop, Nat.add_zero]
  exact h
theorem setN_succ (L : List Rw) (id z : Int) (i : Nat) (r : Rw) (h : L[i]? = some r) : (setN L id z i).set i (setF id z r) = setN L id z (i + 1) := by
  have hlt := (List.getElem?_eq_some_iff.1 h).1
  have he := (List.getElem?_eq_some_iff.1 h).2
  unfold setN
  have hl : ((L.take i).map (setF id z)).length = i := by rw [List.length_map, List.length_take]; omega
  rw [List.set_append_right _ _ (by omega), hl, Nat.sub_self, List.drop_eq_getElem_cons hlt, List.set_cons_zero, List.take_succ_eq_append_getElem hlt, List.map_append, he]
  simp
theorem setN_skip (L : List Rw) (id z : Int) (i : Nat) (r : Rw) (h : L[i]? = some r) (hf : setF id z r = r) : setN L id z (i + 1) = setN L id z i := by
  have hlt := (List.getElem?_eq_some_iff.1 h).1
  have he := (List.getElem?_eq_some_iff.1 h).2
  unfold setN
  rw [List.take_succ_eq_append_getElem hlt, List.map_append, he, List.map_cons, hf, List.drop_eq_getElem_cons hlt, he]
  simp

end Go.Proofs.YtojnniacmmcddaaDoor

namespace Go.Proofs.YtojnniacmmcddaaDoor
open Go.RowKit
open Go.Lib hiding intOf
set_option linter.unusedVariables false
set_option linter.unusedSimpArgs false

set_option maxHeartbeats 1000000 in
theorem cutf_w (r : Rw) (s : List UInt8) (g : Nat) (w : World) (hg : w.cell? ⟨g, 0, none⟩ = some (.string (bs s))) :
    Calls Tryd.prog 46 #[.agg r.cs.toArray, .pointer (some ⟨g, 0, none⟩)] w fun e w' => e = .returned (.bool (!und s r.p)) ∧ Below w.heap.size w w' := by
  have q := fun W => under_w s r.p W
  have hgl : g < w.heap.size := World.block_lt_of_cell? w _ hg
  have hg2 : (w.alloc (.cells #[.string (bs r.p), .int .i64 r.id, .int .i64 r.kind, .int .i64 r.mode, .int .i64 0, .int .i64 0, .int .i64 0, .string ⟨#[]⟩, .string ⟨#[]⟩, .string ⟨#[]⟩, .slice none 0 0, .int .i64 r.size, .bool r.made] 40)).cell? ⟨g, 0, none⟩ = some (.string (bs s)) := ((below_box w _).cell (p := ⟨g, 0, none⟩) hgl).trans hg
  unfold Rw.cs
  generalize und s r.p = z at *
  go_enter Tryd.func46, Tryd.ntmps46
  go_wp2_with (go_at_call 47; refine (q _).mono ?_; rintro e w1 ⟨rfl, hw⟩; rw [hw])
  go_ret
  exact ⟨rfl, below_box w _⟩

set_option maxRecDepth 20000 in
set_option maxHeartbeats 4000000 in
theorem pick_w (ad : Option Addr) (cap : Nat) (L : List Rw) (f : Rw → Bool) (gs : Nat) (w : World) (hr : Rs w ad L) (hl : L.length ≤ 1000000)
    (KF : Hid (∀ W (r : Rw), Below w.heap.size w W → Calls Tryd.prog 46 #[.agg r.cs.toArray, .pointer (some ⟨gs, 0, none⟩)] W fun e w' => e = .returned (.bool (f r)) ∧ Below W.heap.size W w')) :
    Calls Tryd.prog 34 #[.slice ad L.length cap, .func (.func 46) #[] #[.pointer (some ⟨gs, 0, none⟩)]] w fun e w' => ∃ v, e = .returned v ∧ Ow w' w.heap.size v (L.filter f) ∧ Below w.heap.size w w' := by
  have HR : Hid (Rs w ad L) := hr
  clear hr
  generalize hn : L.length = n at *
  have HN : Hid (L.length = n) := hn
  clear hn
  have O0 : Ow w w.heap.size (.slice none 0 0) ((L.take 0).filter f) := ⟨rfl, .inl ⟨rfl, rfl⟩⟩
  go_enter Tryd.func34, Tryd.ntmps34
  go_wp2_with fail
  go_loopw [5, 10] (fun x5 x10 wr => ∃ i : Nat, x10 = .int .i64 (i : Int) ∧ i ≤ n ∧ Hid (Ow wr w.heap.size x5 ((L.take i).filter f)) ∧ Hid (Below w.heap.size w wr)) (fun _ x10 _ => n - (intOf x10).toNat)
  case atStart => exact ⟨0, rfl, Nat.zero_le _, O0, Below.refl _ _⟩
  case round =>
    obtain ⟨i, rfl, hi, HO, Bw⟩ := hrel
    by_cases hlt : i < n
    · obtain ⟨r, hr⟩ : ∃ r, L[i]? = some r := ⟨_, List.getElem?_eq_getElem (by have := HN.out; omega)⟩
      have hT : L.take (i + 1) = L.take i ++ [r] := by rw [List.take_add_one, hr]; rfl
      have hfl : Hid (((L.take i).filter f).length ≤ 1000000) := (by
        show _ ≤ _
        have h1 := List.length_filter_le f (L.take i)
        rw [List.length_take] at h1
        omega)
      obtain ⟨b, o, rfl, hb1, hb2⟩ := (HR.out.below Bw.out).at hr
      have HB : Hid (wr.rangeAt b (o + i * 13) [.string (bs r.p), .int .i64 r.id, .int .i64 r.kind, .int .i64 r.mode, .int .i64 0, .int .i64 0, .int .i64 0, .string ⟨#[]⟩, .string ⟨#[]⟩, .string ⟨#[]⟩, .slice none 0 0, .int .i64 r.size, .bool r.made]) := hb2
      have hsi : Hid ((Tryd.prog.info? 40).map (·.size) = some ([.string (bs r.p), .int .i64 r.id, .int .i64 r.kind, .int .i64 r.mode, .int .i64 0, .int .i64 0, .int .i64 0, .string ⟨#[]⟩, .string ⟨#[]⟩, .string ⟨#[]⟩, .slice none 0 0, .int .i64 r.size, .bool r.made] : List Value).length) := (by show _ = _; kernel_rfl)
      have i1 : (0 : Int) ≤ (i : Int) := by omega
      have i2 : (i : Int) < (n : Int) := by omega
      have KF1 : Hid (∀ W, Below w.heap.size w W → Calls Tryd.prog 46 #[.agg #[.string (bs r.p), .int .i64 r.id, .int .i64 r.kind, .int .i64 r.mode, .int .i64 0, .int .i64 0, .int .i64 0, .string ⟨#[]⟩, .string ⟨#[]⟩, .string ⟨#[]⟩, .slice none 0 0, .int .i64 r.size, .bool r.made], .pointer (some ⟨gs, 0, none⟩)] W fun e w' => e = .returned (.bool (f r)) ∧ Below W.heap.size W w') := fun W hb => KF.out W r hb
      clear hb2 hr
      go_upto_region 5 with (refine wpList_load_mid rfl 40 _ rfl b (o + i * 13) rfl [.string (bs r.p), .int .i64 r.id, .int .i64 r.kind, .int .i64 r.mode, .int .i64 0, .int .i64 0, .int .i64 0, .string ⟨#[]⟩, .string ⟨#[]⟩, .string ⟨#[]⟩, .slice none 0 0, .int .i64 r.size, .bool r.made] _ HB.out Tryd.underlying40 rfl hsi.out ?_)
      have hk1 := below_box wr (.cells #[.string (bs r.p), .int .i64 r.id, .int .i64 r.kind, .int .i64 r.mode, .int .i64 0, .int .i64 0, .int .i64 0, .string ⟨#[]⟩, .string ⟨#[]⟩, .string ⟨#[]⟩, .slice none 0 0, .int .i64 r.size, .bool r.made] 40)
      have hq1 := heap_alloc_new wr (.cells #[.string (bs r.p), .int .i64 r.id, .int .i64 r.kind, .int .i64 r.mode, .int .i64 0, .int .i64 0, .int .i64 0, .string ⟨#[]⟩, .string ⟨#[]⟩, .string ⟨#[]⟩, .slice none 0 0, .int .i64 r.size, .bool r.made] 40)
      have hs1 := size_box wr (.cells #[.string (bs r.p), .int .i64 r.id, .int .i64 r.kind, .int .i64 r.mode, .int .i64 0, .int .i64 0, .int .i64 0, .string ⟨#[]⟩, .string ⟨#[]⟩, .string ⟨#[]⟩, .slice none 0 0, .int .i64 r.size, .bool r.made] 40)
      generalize wr.alloc _ = w1 at *
      have B1 : Hid (Below w.heap.size w w1) := Bw.out.trans (hk1.mono Bw.out.size)
      have O1 : Hid (Ow w1 w.heap.size u5 ((L.take i).filter f)) := HO.out.below hk1
      have m1 := cells_of hq1
      clear hk1 HB hsi HO Bw
      cases hf : f r with
      | true =>
        have HE : Hid ((L.take (i + 1)).filter f = (L.take i).filter f ++ [r]) := (by show _ = _; rw [hT, List.filter_append]; simp [hf])
        rw [hf] at KF1
        clear hT hf
        go_upto_region 6 with (go_at_call 46; refine (KF1.out _ B1.out).mono ?_; rintro e w2 ⟨rfl, k2⟩)
        have B2 : Hid (Below w.heap.size w w2) := B1.out.trans (k2.mono B1.out.size)
        have O2 : Hid (Ow w2 w.heap.size u5 ((L.take i).filter f)) := O1.out.below k2
        have q2 := (k2.block _ (by omega)).trans hq1
        have m2 := cells_of q2
        have hB2 : Hid (w.heap.size ≤ w2.heap.size) := B2.out.size
        clear m1 k2 hq1
        go_wp2_with (at_builtin; refine wpList_row2 rfl _ _ rfl w2 w.heap.size _ ((L.take i).filter f) r rfl rfl O2.out hB2.out rfl hfl.out ?_; intro g3 c3 w3 O3 b3)
        go_roundw
        case rel =>
          refine ⟨i + 1, by simp, hlt, ?_, B2.out.trans b3⟩
          show Ow _ _ _ _
          rw [HE.out]
          exact O3
        case measure => simp [intOf]; omega
      | false =>
        have HE : Hid ((L.take (i + 1)).filter f = (L.take i).filter f) := (by show _ = _; rw [hT, List.filter_append]; simp [hf])
        rw [hf] at KF1
        clear hT hf
        go_wp2_with (go_at_call 46; refine (KF1.out _ B1.out).mono ?_; rintro e w2 ⟨rfl, k2⟩)
        go_roundw
        case rel =>
          refine ⟨i + 1, by simp, hlt, ?_, B1.out.trans (k2.mono B1.out.size)⟩
          show Ow _ _ _ _
          rw [HE.out]
          exact O1.out.below k2
        case measure => simp [intOf]; omega
    · obtain rfl : i = n := by omega
      have e : L.take i = L := List.take_of_length_le (by rw [HN.out]; exact Nat.le_refl _)
      rw [e] at HO
      go_wp2_with fail
      go_ret
      exact ⟨_, rfl, HO.out, Bw.out⟩

end Go.Proofs.YtojnniacmmcddaaDoor

namespace Go.Proofs.YtojnniacmmcddaaDoor
open Go.RowKit
open Go.Lib hiding intOf
set_option linter.unusedVariables false
set_option linter.unusedSimpArgs false

set_option maxRecDepth 20000 in
set_option maxHeartbeats 4000000 in
theorem cut_miss (ad : Option Addr) (cap n : Nat) (nx : Int) (s : List UInt8) (q : Rw) (w : World) (hs : s ≠ [])
    (KA : Hid (∀ W, Below w.heap.size w W → Calls Tryd.prog 28 #[.agg #[.slice ad n cap, .int .i64 nx], .string (bs s)] W fun e w' => e = .returned (.tuple #[.agg #[.string (bs q.p), .int .i64 q.id, .int .i64 q.kind, .int .i64 q.mode, .int .i64 0, .int .i64 0, .int .i64 0, .string ⟨#[]⟩, .string ⟨#[]⟩, .string ⟨#[]⟩, .slice none 0 0, .int .i64 q.size, .bool q.made], .bool false]) ∧ Below W.heap.size W w')) :
    Calls Tryd.prog 22 #[.agg #[.slice ad n cap, .int .i64 nx], .string (bs s)] w fun e w' => e = .returned (.tuple #[.agg #[.slice none 0 0, .int .i64 0], .int .i64 4]) ∧ Below w.heap.size w w' := by
  have hE : s.isEmpty = false := by simpa using hs
  have H0 := C3.mk0 w #[.slice ad n cap, .int .i64 nx] #[.string (bs s)] #[.slice none 0 0, .int .i64 0] 26 9 26
  have ht := bs_toList s
  go_enter Tryd.func22, Tryd.ntmps22
  go_upto_region 2 with (first
    | (go_at_call 28; refine (KA.out _ H0.bel).mono ?_; rintro e w2 ⟨rfl, b2⟩; have H2 : Hid (C3 w w2 _ _ _ _ _ _) := H0.next b2; clear b2)
    | (refine wpList_store_row rfl 40 _ _ rfl w2.heap.size #[.string (bs q.p), .int .i64 q.id, .int .i64 q.kind, .int .i64 q.mode, .int .i64 0, .int .i64 0, .int .i64 0, .string ⟨#[]⟩, .string ⟨#[]⟩, .string ⟨#[]⟩, .slice none 0 0, .int .i64 q.size, .bool q.made] rfl rfl 40 _ (heap_alloc_new w2 _) (by kernel_rfl) rfl (by simp [Value.oneCell']) ?_))
  have b3 : Below w2.heap.size w2 ((w2.alloc (.cells #[.string ⟨#[]⟩, .int .i64 0, .int .i64 0, .int .i64 0, .int .i64 0, .int .i64 0, .int .i64 0, .string ⟨#[]⟩, .string ⟨#[]⟩, .string ⟨#[]⟩, .slice none 0 0, .int .i64 0, .bool false] 40)).setRow w2.heap.size #[.string (bs q.p), .int .i64 q.id, .int .i64 q.kind, .int .i64 q.mode, .int .i64 0, .int .i64 0, .int .i64 0, .string ⟨#[]⟩, .string ⟨#[]⟩, .string ⟨#[]⟩, .slice none 0 0, .int .i64 q.size, .bool q.made]) := below_setRow (below_box w2 _) (Nat.le_refl _) _
  generalize (w2.alloc _).setRow _ _ = w3 at *
  have H3 : Hid (C3 w w3 _ _ _ _ _ _) := H2.out.next b3
  clear H2 b3 H0
  have m1 := cells_of H3.out.one
  have m2 := cells_of H3.out.two
  have m3 := cells_of H3.out.thr
  have f3 := froz_of H3.out.thr
  go_wp2_with fail
  have e2 := two_set H3.out.thr (.slice none 0 0) (.int .i64 0)
  have hld := run_loadVar_row _ _ _ 26 _ _ _ e2 Tryd.underlying26 rfl (by kernel_rfl)
  exact bodyPost_ret (by rw [results_cell_tmp rfl]; simp [asAddr, hld]) rfl ⟨rfl, (H3.out.bel.setCell (by show _ ≤ w.heap.size + 2; omega) _).setCell (by show _ ≤ w.heap.size + 2; omega) _⟩

set_option maxRecDepth 20000 in
set_option maxHeartbeats 4000000 in
theorem cut_yes (ad : Option Addr) (cap n : Nat) (nx : Int) (s : List UInt8) (q : Rw) (w : World) (M : List Rw)
    (KA : Hid (∀ W, Below w.heap.size w W → Calls Tryd.prog 28 #[.agg #[.slice ad n cap, .int .i64 nx], .string (bs s)] W fun e w' => e = .returned (.tuple #[.agg #[.string (bs q.p), .int .i64 q.id, .int .i64 q.kind, .int .i64 q.mode, .int .i64 0, .int .i64 0, .int .i64 0, .string ⟨#[]⟩, .string ⟨#[]⟩, .string ⟨#[]⟩, .slice none 0 0, .int .i64 q.size, .bool q.made], .bool true]) ∧ Below W.heap.size W w'))
    (KK : Hid (∀ W gs, Below w.heap.size w W → W.cell? ⟨gs, 0, none⟩ = some (.string (bs s)) → Calls Tryd.prog 34 #[.slice ad n cap, .func (.func 46) #[] #[.pointer (some ⟨gs, 0, none⟩)]] W fun e w' => ∃ v, e = .returned v ∧ Ow w' W.heap.size v M ∧ Below W.heap.size W w')) :
    Calls Tryd.prog 22 #[.agg #[.slice ad n cap, .int .i64 nx], .string (bs s)] w fun e w' => ∃ ad2 cap2, e = .returned (.tuple #[.agg #[.slice ad2 M.length cap2, .int .i64 nx], .int .i64 0]) ∧ Rs w' ad2 M ∧ Below w.heap.size w w' := by
  have H0 := C3.mk0 w #[.slice ad n cap, .int .i64 nx] #[.string (bs s)] #[.slice none 0 0, .int .i64 0] 26 9 26
  have ht := bs_toList s
  go_enter Tryd.func22, Tryd.ntmps22
  go_upto_region 2 with (first
    | (go_at_call 28; refine (KA.out _ H0.bel).mono ?_; rintro e w2 ⟨rfl, b2⟩; have H2 : Hid (C3 w w2 _ _ _ _ _ _) := H0.next b2; clear b2)
    | (refine wpList_store_row rfl 40 _ _ rfl w2.heap.size #[.string (bs q.p), .int .i64 q.id, .int .i64 q.kind, .int .i64 q.mode, .int .i64 0, .int .i64 0, .int .i64 0, .string ⟨#[]⟩, .string ⟨#[]⟩, .string ⟨#[]⟩, .slice none 0 0, .int .i64 q.size, .bool q.made] rfl rfl 40 _ (heap_alloc_new w2 _) (by kernel_rfl) rfl (by simp [Value.oneCell']) ?_))
  have b3 : Below w2.heap.size w2 ((w2.alloc (.cells #[.string ⟨#[]⟩, .int .i64 0, .int .i64 0, .int .i64 0, .int .i64 0, .int .i64 0, .int .i64 0, .string ⟨#[]⟩, .string ⟨#[]⟩, .string ⟨#[]⟩, .slice none 0 0, .int .i64 0, .bool false] 40)).setRow w2.heap.size #[.string (bs q.p), .int .i64 q.id, .int .i64 q.kind, .int .i64 q.mode, .int .i64 0, .int .i64 0, .int .i64 0, .string ⟨#[]⟩, .string ⟨#[]⟩, .string ⟨#[]⟩, .slice none 0 0, .int .i64 q.size, .bool q.made]) := below_setRow (below_box w2 _) (Nat.le_refl _) _
  generalize (w2.alloc _).setRow _ _ = w3 at *
  have H3 : Hid (C3 w w3 _ _ _ _ _ _) := H2.out.next b3
  clear H2 b3 H0
  have m1 := cells_of H3.out.one
  have m2 := cells_of H3.out.two
  go_upto_region 4 with fail
  have K1 := KK.out _ (w.heap.size + 1) H3.out.bel (m2 0)
  have lt3 := H3.out.lt
  go_upto_region 5 with (go_at_call 34; refine K1.mono ?_; rintro e w4 ⟨v, rfl, O4, b4⟩; have H4 : Hid (C3 w w4 _ _ _ _ _ _) := H3.out.next b4)
  obtain ⟨ad2, c2, hv⟩ : ∃ ad2 c2, v = .slice ad2 M.length c2 := by
    rcases O4.2 with ⟨e1, e2⟩ | ⟨g, c, cur, e1, _⟩
    · exact ⟨none, 0, by rw [e1, ← e2]⟩
    · exact ⟨some ⟨g, 0, none⟩, c, e1⟩
  subst hv
  have R4 := (Ow.rs O4).2
  have hfar : M = [] ∨ ∃ gd, ad2 = some ⟨gd, 0, none⟩ ∧ w3.heap.size ≤ gd := by
    rcases O4.2 with ⟨e1, e2⟩ | ⟨g, c, cur, e1, e2, _⟩
    · exact .inl (List.length_eq_zero_iff.1 e2)
    · right
      simp at e1
      exact ⟨g, e1.1, e2⟩
  have HF : Hid (M = [] ∨ ∃ gd, ad2 = some ⟨gd, 0, none⟩ ∧ w3.heap.size ≤ gd) := hfar
  clear m1 m2 hfar
  have m1 := cells_of H4.out.one
  have m3 := cells_of H4.out.thr
  have f3 := froz_of H4.out.thr
  go_wp2_with fail
  have e2 := two_set H4.out.thr (.slice ad2 M.length c2) (.int .i64 nx)
  have R5 : Rs ((w4.setCell ⟨w.heap.size + 2, 0, none⟩ (.slice ad2 M.length c2)).setCell ⟨w.heap.size + 2, 1, none⟩ (.int .i64 nx)) ad2 M := by
    rcases HF.out with h | ⟨gd, h1, h2⟩
    · exact .inl h
    · exact R4.far h1 _ (by omega) _ _
  have hld := run_loadVar_row _ _ _ 26 _ _ _ e2 Tryd.underlying26 rfl (by kernel_rfl)
  exact bodyPost_ret (by rw [results_cell_tmp rfl]; simp [asAddr, hld]) rfl ⟨ad2, c2, rfl, R5, (H4.out.bel.setCell (by show _ ≤ w.heap.size + 2; omega) _).setCell (by show _ ≤ w.heap.size + 2; omega) _⟩

set_option maxRecDepth 20000 in
set_option maxHeartbeats 4000000 in
theorem cut_root (ad : Option Addr) (cap n : Nat) (nx : Int) (q : Rw) (w : World) (M : List Rw)
    (KA : Hid (∀ W, Below w.heap.size w W → Calls Tryd.prog 28 #[.agg #[.slice ad n cap, .int .i64 nx], .string ⟨#[]⟩] W fun e w' => e = .returned (.tuple #[.agg #[.string (bs q.p), .int .i64 q.id, .int .i64 q.kind, .int .i64 q.mode, .int .i64 0, .int .i64 0, .int .i64 0, .string ⟨#[]⟩, .string ⟨#[]⟩, .string ⟨#[]⟩, .slice none 0 0, .int .i64 q.size, .bool q.made], .bool false]) ∧ Below W.heap.size W w'))
    (KK : Hid (∀ W gs, Below w.heap.size w W → W.cell? ⟨gs, 0, none⟩ = some (.string ⟨#[]⟩) → Calls Tryd.prog 34 #[.slice ad n cap, .func (.func 46) #[] #[.pointer (some ⟨gs, 0, none⟩)]] W fun e w' => ∃ v, e = .returned v ∧ Ow w' W.heap.size v M ∧ Below W.heap.size W w')) :
    Calls Tryd.prog 22 #[.agg #[.slice ad n cap, .int .i64 nx], .string ⟨#[]⟩] w fun e w' => ∃ ad2 cap2, e = .returned (.tuple #[.agg #[.slice ad2 M.length cap2, .int .i64 nx], .int .i64 0]) ∧ Rs w' ad2 M ∧ Below w.heap.size w w' := by
  have H0 := C3.mk0 w #[.slice ad n cap, .int .i64 nx] #[.string ⟨#[]⟩] #[.slice none 0 0, .int .i64 0] 26 9 26
  go_enter Tryd.func22, Tryd.ntmps22
  go_upto_region 2 with (first
    | (go_at_call 28; refine (KA.out _ H0.bel).mono ?_; rintro e w2 ⟨rfl, b2⟩; have H2 : Hid (C3 w w2 _ _ _ _ _ _) := H0.next b2; clear b2)
    | (refine wpList_store_row rfl 40 _ _ rfl w2.heap.size #[.string (bs q.p), .int .i64 q.id, .int .i64 q.kind, .int .i64 q.mode, .int .i64 0, .int .i64 0, .int .i64 0, .string ⟨#[]⟩, .string ⟨#[]⟩, .string ⟨#[]⟩, .slice none 0 0, .int .i64 q.size, .bool q.made] rfl rfl 40 _ (heap_alloc_new w2 _) (by kernel_rfl) rfl (by simp [Value.oneCell']) ?_))
  have b3 : Below w2.heap.size w2 ((w2.alloc (.cells #[.string ⟨#[]⟩, .int .i64 0, .int .i64 0, .int .i64 0, .int .i64 0, .int .i64 0, .int .i64 0, .string ⟨#[]⟩, .string ⟨#[]⟩, .string ⟨#[]⟩, .slice none 0 0, .int .i64 0, .bool false] 40)).setRow w2.heap.size #[.string (bs q.p), .int .i64 q.id, .int .i64 q.kind, .int .i64 q.mode, .int .i64 0, .int .i64 0, .int .i64 0, .string ⟨#[]⟩, .string ⟨#[]⟩, .string ⟨#[]⟩, .slice none 0 0, .int .i64 q.size, .bool q.made]) := below_setRow (below_box w2 _) (Nat.le_refl _) _
  generalize (w2.alloc _).setRow _ _ = w3 at *
  have H3 : Hid (C3 w w3 _ _ _ _ _ _) := H2.out.next b3
  clear H2 b3 H0
  have m1 := cells_of H3.out.one
  have m2 := cells_of H3.out.two
  go_upto_region 4 with fail
  have K1 := KK.out _ (w.heap.size + 1) H3.out.bel (m2 0)
  have lt3 := H3.out.lt
  go_upto_region 5 with (go_at_call 34; refine K1.mono ?_; rintro e w4 ⟨v, rfl, O4, b4⟩; have H4 : Hid (C3 w w4 _ _ _ _ _ _) := H3.out.next b4)
  obtain ⟨ad2, c2, hv⟩ : ∃ ad2 c2, v = .slice ad2 M.length c2 := by
    rcases O4.2 with ⟨e1, e2⟩ | ⟨g, c, cur, e1, _⟩
    · exact ⟨none, 0, by rw [e1, ← e2]⟩
    · exact ⟨some ⟨g, 0, none⟩, c, e1⟩
  subst hv
  have R4 := (Ow.rs O4).2
  have hfar : M = [] ∨ ∃ gd, ad2 = some ⟨gd, 0, none⟩ ∧ w3.heap.size ≤ gd := by
    rcases O4.2 with ⟨e1, e2⟩ | ⟨g, c, cur, e1, e2, _⟩
    · exact .inl (List.length_eq_zero_iff.1 e2)
    · right
      simp at e1
      exact ⟨g, e1.1, e2⟩
  have HF : Hid (M = [] ∨ ∃ gd, ad2 = some ⟨gd, 0, none⟩ ∧ w3.heap.size ≤ gd) := hfar
  clear m1 m2 hfar
  have m1 := cells_of H4.out.one
  have m3 := cells_of H4.out.thr
  have f3 := froz_of H4.out.thr
  go_wp2_with fail
  have e2 := two_set H4.out.thr (.slice ad2 M.length c2) (.int .i64 nx)
  have R5 : Rs ((w4.setCell ⟨w.heap.size + 2, 0, none⟩ (.slice ad2 M.length c2)).setCell ⟨w.heap.size + 2, 1, none⟩ (.int .i64 nx)) ad2 M := by
    rcases HF.out with h | ⟨gd, h1, h2⟩
    · exact .inl h
    · exact R4.far h1 _ (by omega) _ _
  have hld := run_loadVar_row _ _ _ 26 _ _ _ e2 Tryd.underlying26 rfl (by kernel_rfl)
  exact bodyPost_ret (by rw [results_cell_tmp rfl]; simp [asAddr, hld]) rfl ⟨ad2, c2, rfl, R5, (H4.out.bel.setCell (by show _ ≤ w.heap.size + 2; omega) _).setCell (by show _ ≤ w.heap.size + 2; omega) _⟩

end Go.Proofs.YtojnniacmmcddaaDoor

namespace Go.Proofs.YtojnniacmmcddaaDoor
open Go.RowKit
open Go.Lib hiding intOf
set_option linter.unusedVariables false
set_option linter.unusedSimpArgs false

/-- rows that can be measured -/
theorem Sd.okr {L : List Rw} {nx : Int} (h : Sd L nx) (hn : nx ≤ 900000000000) : ∀ r ∈ L, Okr r := fun r hr => by
  have h1 := h.ok r hr
  have h2 := h.id r hr
  exact ⟨by omega, by omega, h1.2⟩

theorem Cp.prt {s : List UInt8} (h : Cp s) : prt s = parts s := by
  obtain ⟨ps, h1, h2, rfl⟩ := h
  rw [prt_jn ps h2, parts_good_jn ps h1 h2]

/-- a row of a number that is new among the rows behind it -/
theorem fold_new : ∀ (B : List Rw) (u v : Us) (k : Nat) (z : Int), v.b = u.b + k → v.n = u.n + 1 → u.d ≤ v.d → u.l ≤ v.l → (∀ i, i ∈ v.S ↔ i = z ∨ i ∈ u.S) → (∀ r ∈ B, r.id ≠ z) →
    (B.foldl stepU v).b = (B.foldl stepU u).b + k ∧ (B.foldl stepU v).n = (B.foldl stepU u).n + 1 ∧ (B.foldl stepU u).d ≤ (B.foldl stepU v).d ∧ (B.foldl stepU u).l ≤ (B.foldl stepU v).l
  | [], u, v, k, z, h1, h2, h3, h4, _, _ => ⟨h1, h2, h3, h4⟩
  | r :: B, u, v, k, z, h1, h2, h3, h4, h5, h6 => by
    have hz : r.id ≠ z := h6 r (by simp)
    have hm : r.id ∈ v.S ↔ r.id ∈ u.S := by rw [h5]; simp [hz]
    rw [List.foldl_cons, List.foldl_cons]
    unfold stepU
    by_cases c : r.p = []
    · rw [if_pos c, if_pos c]
      exact fold_new B u v k z h1 h2 h3 h4 h5 (fun q hq => h6 q (List.mem_cons_of_mem _ hq))
    · rw [if_neg c, if_neg c]
      by_cases d : r.id ∈ u.S
      · rw [if_pos d, if_pos (hm.2 d)]
        exact fold_new B _ _ k z h1 h2 (by show max _ _ ≤ max _ _; omega) (by show max _ _ ≤ max _ _; omega) h5 (fun q hq => h6 q (List.mem_cons_of_mem _ hq))
      · rw [if_neg d, if_neg (fun e => d (hm.1 e))]
        refine fold_new B _ _ k z (by show v.b + _ = u.b + _ + k; omega) (by show v.n + 1 = u.n + 1 + 1; omega) (by show max _ _ ≤ max _ _; omega) (by show max _ _ ≤ max _ _; omega) ?_ (fun q hq => h6 q (List.mem_cons_of_mem _ hq))
        intro i
        show i ∈ r.id :: v.S ↔ i = z ∨ i ∈ r.id :: u.S
        rw [List.mem_cons, List.mem_cons, h5]
        constructor
        · rintro (e | e | e)
          · exact .inr (.inl e)
          · exact .inl e
          · exact .inr (.inr e)
        · rintro (e | e | e)
          · exact .inr (.inl e)
          · exact .inl e
          · exact .inr (.inr e)

theorem ofU_S (L : List Rw) : ∀ i ∈ (ofU L).S, ∃ r ∈ L, r.id = i := by
  suffices H : ∀ (L : List Rw) (u : Us) (i : Int), i ∈ (L.foldl stepU u).S → i ∈ u.S ∨ ∃ r ∈ L, r.id = i by
    intro i hi
    rcases H L ⟨0, 0, 0, 0, []⟩ i hi with h | h
    · cases h
    · exact h
  intro L
  induction L with
  | nil => intro u i h; exact .inl h
  | cons r L ih =>
    intro u i h
    rw [List.foldl_cons] at h
    rcases ih _ i h with h | ⟨q, hq, e⟩
    · unfold stepU at h
      split at h
      · exact .inl h
      · split at h
        · exact .inl h
        · rcases List.mem_cons.1 h with e | e
          · exact .inr ⟨r, by simp, e.symm⟩
          · exact .inl e
    · exact .inr ⟨q, List.mem_cons_of_mem _ hq, e⟩

/-- with one row of a new number more -/
theorem ofU_ins (A B : List Rw) (r : Rw) (hp : r.p ≠ []) (h : ∀ q ∈ A ++ B, q.id ≠ r.id) : (ofU (A ++ [r] ++ B)).b = (ofU (A ++ B)).b + bytesN r ∧ (ofU (A ++ [r] ++ B)).n = (ofU (A ++ B)).n + 1 ∧ (ofU (A ++ B)).d ≤ (ofU (A ++ [r] ++ B)).d ∧ (ofU (A ++ B)).l ≤ (ofU (A ++ [r] ++ B)).l := by
  unfold ofU
  rw [List.append_assoc, List.foldl_append, List.foldl_append, List.foldl_append]
  have hS : r.id ∉ (ofU A).S := fun e => by
    obtain ⟨q, hq, e⟩ := ofU_S A _ e
    exact h q (List.mem_append.2 (.inl hq)) e
  unfold ofU at hS
  generalize A.foldl stepU ⟨0, 0, 0, 0, []⟩ = u at *
  have e : [r].foldl stepU u = ⟨u.b + bytesN r, u.n + 1, max u.d (prt r.p).length, max u.l r.p.length, r.id :: u.S⟩ := by
    show stepU u r = _
    unfold stepU
    rw [if_neg hp, if_neg hS]
  rw [e]
  exact fold_new B u _ (bytesN r) r.id rfl rfl (by show u.d ≤ max _ _; omega) (by show u.l ≤ max _ _; omega) (fun i => by show i ∈ r.id :: u.S ↔ _; rw [List.mem_cons]) (fun q hq => h q (List.mem_append.2 (.inr hq)))

/-- with many rows of new numbers more, at one place -/
theorem ofU_many : ∀ (N A B : List Rw), (∀ q ∈ N, q.p ≠ []) → (∀ q ∈ N, q.kind ≠ 1) → (N.Pairwise fun a b => a.id ≠ b.id) → (∀ q ∈ A ++ B, ∀ r ∈ N, q.id ≠ r.id) → (ofU (A ++ N ++ B)).b = (ofU (A ++ B)).b ∧ (ofU (A ++ B)).n ≤ (ofU (A ++ N ++ B)).n ∧ (ofU (A ++ B)).d ≤ (ofU (A ++ N ++ B)).d ∧ (ofU (A ++ B)).l ≤ (ofU (A ++ N ++ B)).l
  | [], A, B, _, _, _, _ => by simp
  | r :: N, A, B, h1, h2, h3, h4 => by
    obtain ⟨p1, p2⟩ := List.pairwise_cons.1 h3
    have k := ofU_many N (A ++ [r]) B (fun q hq => h1 q (List.mem_cons_of_mem _ hq)) (fun q hq => h2 q (List.mem_cons_of_mem _ hq)) p2 (by
      intro q hq s hs
      rcases List.mem_append.1 hq with hq | hq
      · rcases List.mem_append.1 hq with hq | hq
        · exact h4 q (List.mem_append.2 (.inl hq)) s (List.mem_cons_of_mem _ hs)
        · rw [List.mem_singleton.1 hq]; exact p1 s hs
      · exact h4 q (List.mem_append.2 (.inr hq)) s (List.mem_cons_of_mem _ hs))
    have m := ofU_ins A B r (h1 r (by simp)) (fun q hq => h4 q hq r (by simp))
    have hb : bytesN r = 0 := by unfold bytesN; rw [if_neg (h2 r (by simp))]
    have e : A ++ (r :: N) ++ B = A ++ [r] ++ N ++ B := by simp
    rw [e]
    exact ⟨by rw [k.1, m.1, hb, Nat.add_zero], by omega, by omega, by omega⟩

theorem mkAll_id {nx : Int} {M : List (List UInt8)} {i : Nat} {r : Rw} (h : (mkAll nx M)[i]? = some r) : r.id = nx + (i : Int) := by
  unfold mkAll at h
  rw [List.getElem?_mapIdx] at h
  cases hx : M.reverse[i]? with
  | none => rw [hx] at h; cases h
  | some x => rw [hx] at h; rw [← Option.some.inj h]

/-- the rows that are made -/
theorem ofU_wp {L : List Rw} {nx : Int} {s : List UInt8} (h : Sd L nx) (hs : Cp s) : (ofU (wpR L nx s)).b = (ofU L).b ∧ (ofU L).n ≤ (ofU (wpR L nx s)).n ∧ (ofU L).d ≤ (ofU (wpR L nx s)).d ∧ (ofU L).l ≤ (ofU (wpR L nx s)).l := by
  unfold wpR
  cases hg : (mdL L s).getLast? with
  | none => exact ⟨rfl, Nat.le_refl _, Nat.le_refl _, Nat.le_refl _⟩
  | some t =>
    have e := List.take_append_drop (ix L t) L
    have k := ofU_many (mkAll nx (mdL L s)) (L.take (ix L t)) (L.drop (ix L t)) (by
      intro q hq
      obtain ⟨i, x, hx, rfl⟩ := (mkAll_get _ _ _).1 hq
      exact (md_cp hs (List.mem_reverse.1 (List.mem_of_getElem? hx))).ne) (by
      intro q hq
      obtain ⟨i, x, hx, rfl⟩ := (mkAll_get _ _ _).1 hq
      show (4 : Int) ≠ 1
      omega) (by
      rw [List.pairwise_iff_getElem]
      intro i j hi hj hij
      rw [mkAll_id (List.getElem?_eq_getElem hi), mkAll_id (List.getElem?_eq_getElem hj)]
      omega) (by
      intro q hq r hr
      rw [e] at hq
      obtain ⟨i, x, hx, rfl⟩ := (mkAll_get _ _ _).1 hr
      have := h.id q hq
      show q.id ≠ nx + (i : Int)
      omega)
    rw [e] at k
    exact k

/-- a row that is laid where none stood -/
theorem ofU_put {L : List Rw} {r : Rw} (hf : fd L r.p = false) (hp : r.p ≠ []) (h : ∀ q ∈ L, q.id ≠ r.id) : (ofU (putL L r)).b = (ofU L).b + bytesN r ∧ (ofU (putL L r)).n = (ofU L).n + 1 ∧ (ofU L).d ≤ (ofU (putL L r)).d ∧ (ofU L).l ≤ (ofU (putL L r)).l := by
  have e : putL L r = L.take (ix L r.p) ++ [r] ++ L.drop (ix L r.p) := by unfold putL; rw [hf]; simp
  have e2 := List.take_append_drop (ix L r.p) L
  rw [e]
  have k := ofU_ins (L.take (ix L r.p)) (L.drop (ix L r.p)) r hp (fun q hq => h q (by rw [e2] at hq; exact hq))
  rw [e2] at k
  exact k

theorem fd_wp {L : List Rw} {nx : Int} {s : List UInt8} (h : Sd L nx) (hs : Cp s) (hf : fd L s = false) : fd (wpR L nx s) s = false := by
  cases hq : fd (wpR L nx s) s with
  | false => rfl
  | true =>
    exfalso
    obtain ⟨r, hr, e⟩ := fd_mem hq
    rcases wpR_mem.1 hr with hr | hr
    · exact not_there h.srt hf r hr e
    · obtain ⟨i, x, hx, rfl⟩ := (mkAll_get _ _ _).1 hr
      have hxm : x ∈ mdL L s := List.mem_reverse.1 (List.mem_of_getElem? hx)
      have h1 := (chain_le _ x (md_chain hxm)).1
      have h2 := up_len hs.ne
      have e3 : x.length = s.length := congrArg List.length e
      omega

/-- with a thing more a tree has no less -/
theorem grows {q : List Rw × Int} {x : Tg} (h : Sd q.1 q.2) (ht : x.t = []) (hf : fd q.1 (jn (cln x.p)) = false) :
    (ofU q.1).b ≤ (ofU (pStep q x).1).b ∧ (ofU q.1).n ≤ (ofU (pStep q x).1).n ∧ (ofU q.1).d ≤ (ofU (pStep q x).1).d ∧ (ofU q.1).l ≤ (ofU (pStep q x).1).l ∧ (ofU (pStep q x).1).b ≤ (ofU q.1).b + 1048576 := by
  have same : (ofU q.1).b ≤ (ofU q.1).b ∧ (ofU q.1).n ≤ (ofU q.1).n ∧ (ofU q.1).d ≤ (ofU q.1).d ∧ (ofU q.1).l ≤ (ofU q.1).l ∧ (ofU q.1).b ≤ (ofU q.1).b + 1048576 := by omega
  unfold pStep
  by_cases c0 : err x.p ≠ 0 ∨ x.z < 0 ∨ x.z > 1048576 ∨ x.p.length > 300
  · rw [if_pos c0]; exact same
  · rw [if_neg c0, if_neg (fun e => e ht)]
    have he : err x.p = 0 := Classical.byContradiction fun e => c0 (.inl e)
    have hcp := cln_cp he
    have hsl := cln_len x.p
    have key : ∀ kd sz : Int, 0 ≤ sz ∧ sz ≤ 1048576 → (ofU q.1).b ≤ (ofU (addP q.1 q.2 (jn (cln x.p)) kd 0 sz false).1).b ∧ (ofU q.1).n ≤ (ofU (addP q.1 q.2 (jn (cln x.p)) kd 0 sz false).1).n ∧ (ofU q.1).d ≤ (ofU (addP q.1 q.2 (jn (cln x.p)) kd 0 sz false).1).d ∧ (ofU q.1).l ≤ (ofU (addP q.1 q.2 (jn (cln x.p)) kd 0 sz false).1).l ∧ (ofU (addP q.1 q.2 (jn (cln x.p)) kd 0 sz false).1).b ≤ (ofU q.1).b + 1048576 := by
      intro kd sz hz
      unfold addP
      by_cases e0 : jn (cln x.p) = []
      · rw [if_pos e0]; exact same
      · have hc : Cp (jn (cln x.p)) := hcp.resolve_left e0
        rw [if_neg e0, hf, if_neg (by simp)]
        by_cases hcl : cls q.1 (jn (cln x.p)) = true
        · rw [if_pos hcl]; exact same
        · have hcl : cls q.1 (jn (cln x.p)) = false := by simpa using hcl
          rw [hcl, if_neg (by simp)]
          have hw := (h.wp hc (by omega) hcl).1
          have k1 := ofU_wp (nx := q.2) h hc
          have k2 := ofU_put (L := wpR q.1 q.2 (jn (cln x.p))) (r := ⟨jn (cln x.p), q.2 + ((mdL q.1 (jn (cln x.p))).length : Int), kd, 0, sz, false⟩) (fd_wp h hc hf) e0 (fun r hr => by
            have := hw.id r hr
            show r.id ≠ q.2 + ((mdL q.1 (jn (cln x.p))).length : Int)
            omega)
          have hb : bytesN ⟨jn (cln x.p), q.2 + ((mdL q.1 (jn (cln x.p))).length : Int), kd, 0, sz, false⟩ ≤ 1048576 := by
            unfold bytesN
            split
            · show sz.toNat ≤ _; omega
            · omega
          refine ⟨?_, ?_, ?_, ?_, ?_⟩ <;> simp only [] <;> omega
    split
    · exact key 1 x.z (by omega)
    · split
      · exact key x.k 0 (by omega)
      · exact same

end Go.Proofs.YtojnniacmmcddaaDoor

namespace Go.Proofs.YtojnniacmmcddaaDoor
open Go.RowKit
open Go.Lib hiding intOf
set_option linter.unusedVariables false
set_option linter.unusedSimpArgs false

theorem setF_p (id z : Int) (r : Rw) : (setF id z r).p = r.p := by unfold setF; split <;> rfl
theorem setF_id (id z : Int) (r : Rw) : (setF id z r).id = r.id := by unfold setF; split <;> rfl

theorem fold_set (id : Int) (old new : Nat) (z : Int) (hz : z.toNat = new) : ∀ (B : List Rw) (u v : Us), v.n = u.n → v.d = u.d → v.l = u.l → v.S = u.S → (id ∈ u.S → v.b + old = u.b + new) → (id ∉ u.S → v.b = u.b) → (∀ r ∈ B, r.id = id → r.kind = 1 ∧ r.size.toNat = old) →
    ((B.map (setF id z)).foldl stepU v).n = (B.foldl stepU u).n ∧ ((B.map (setF id z)).foldl stepU v).d = (B.foldl stepU u).d ∧ ((B.map (setF id z)).foldl stepU v).l = (B.foldl stepU u).l ∧ (id ∈ (B.foldl stepU u).S → ((B.map (setF id z)).foldl stepU v).b + old = (B.foldl stepU u).b + new)
  | [], u, v, h1, h2, h3, _, h5, _, _ => ⟨h1, h2, h3, h5⟩
  | r :: B, u, v, h1, h2, h3, h4, h5, h6, h7 => by
    rw [List.map_cons, List.foldl_cons, List.foldl_cons]
    have hB : ∀ q ∈ B, q.id = id → q.kind = 1 ∧ q.size.toNat = old := fun q hq => h7 q (List.mem_cons_of_mem _ hq)
    unfold stepU
    rw [setF_p, setF_id]
    by_cases c : r.p = []
    · rw [if_pos c, if_pos c]
      exact fold_set id old new z hz B u v h1 h2 h3 h4 h5 h6 hB
    · rw [if_neg c, if_neg c, h4]
      by_cases d : r.id ∈ u.S
      · rw [if_pos d, if_pos d]
        exact fold_set id old new z hz B _ _ h1 (by show max _ _ = max _ _; rw [h2]) (by show max _ _ = max _ _; rw [h3]) rfl h5 h6 hB
      · rw [if_neg d, if_neg d]
        refine fold_set id old new z hz B _ _ (by show v.n + 1 = u.n + 1; omega) (by show max _ _ = max _ _; rw [h2]) (by show max _ _ = max _ _; rw [h3]) rfl ?_ ?_ hB
        · intro hm
          show v.b + bytesN (setF id z r) + old = u.b + bytesN r + new
          by_cases e : r.id = id
          · have hk := h7 r (by simp) e
            have h0 := h6 (by rw [← e]; exact d)
            have b1 : bytesN r = old := by unfold bytesN; rw [if_pos hk.1]; exact hk.2
            have b2 : bytesN (setF id z r) = new := by unfold setF; rw [if_pos ⟨e, hk.1⟩]; unfold bytesN; rw [if_pos hk.1]; exact hz
            omega
          · have e2 : setF id z r = r := by unfold setF; rw [if_neg (fun h => e h.1)]
            rw [e2]
            rcases List.mem_cons.1 hm with h | h
            · exact absurd h.symm e
            · have := h5 h; omega
        · intro hm
          show v.b + bytesN (setF id z r) = u.b + bytesN r
          have e : r.id ≠ id := fun e => hm (by show id ∈ r.id :: u.S; rw [e]; simp)
          have e2 : setF id z r = r := by unfold setF; rw [if_neg (fun h => e h.1)]
          rw [e2, h6 (fun h => hm (List.mem_cons_of_mem _ h))]

theorem ofU_mem (L : List Rw) (r : Rw) (hr : r ∈ L) (hp : r.p ≠ []) : r.id ∈ (ofU L).S := by
  suffices H : ∀ (L : List Rw) (u : Us), (r ∈ L ∨ r.id ∈ u.S) → r.id ∈ (L.foldl stepU u).S from H L _ (.inl hr)
  intro L
  induction L with
  | nil => intro u h; exact h.resolve_left (by simp)
  | cons a L ih =>
    intro u h
    rw [List.foldl_cons]
    apply ih
    rcases h with h | h
    · rcases List.mem_cons.1 h with e | e
      · right
        subst e
        unfold stepU
        rw [if_neg hp]
        split
        · assumption
        · exact List.mem_cons_self
      · exact .inl e
    · right
      unfold stepU
      split
      · exact h
      · split
        · exact h
        · exact List.mem_cons_of_mem _ h

theorem Sd.alike {L : List Rw} {nx : Int} (h : Sd L nx) {r q : Rw} (hr : r ∈ L) (hk : r.kind = 1) (hq : q ∈ L) (e : q.id = r.id) : q.kind = 1 ∧ q.size = r.size := by
  rcases h.one q hq r hr e with e2 | ⟨k1, k2, k3⟩
  · rw [e2]; exact ⟨hk, rfl⟩
  · exact ⟨k1, k3⟩

/-- another content: so many bytes more -/
theorem ofU_set {L : List Rw} {nx z : Int} {r : Rw} (h : Sd L nx) (hr : r ∈ L) (hk : r.kind = 1) (hz : 0 ≤ z) :
    (ofU (L.map (setF r.id z))).n = (ofU L).n ∧ (ofU (L.map (setF r.id z))).d = (ofU L).d ∧ (ofU (L.map (setF r.id z))).l = (ofU L).l ∧ ((ofU (L.map (setF r.id z))).b : Int) - ((ofU L).b : Int) = z - r.size := by
  have k := fold_set r.id r.size.toNat z.toNat z rfl L ⟨0, 0, 0, 0, []⟩ ⟨0, 0, 0, 0, []⟩ rfl rfl rfl rfl (fun h => by cases h) (fun _ => rfl) (fun q hq e => by
    have := h.alike hr hk hq e
    exact ⟨this.1, by rw [this.2]⟩)
  have hm := ofU_mem L r hr (h.cp r hr).ne
  have hs := (h.ok r hr).2
  refine ⟨k.1, k.2.1, k.2.2.1, ?_⟩
  have := k.2.2.2 hm
  have e1 : (List.foldl stepU ⟨0, 0, 0, 0, []⟩ (L.map (setF r.id z))).b = (ofU (L.map (setF r.id z))).b := rfl
  have e2 : (List.foldl stepU ⟨0, 0, 0, 0, []⟩ L).b = (ofU L).b := rfl
  rw [e1, e2] at this
  omega

theorem fold_eq : ∀ (B : List Rw) (u v : Us), v.b = u.b → v.n = u.n → (∀ i, i ∈ v.S ↔ i ∈ u.S) → (B.foldl stepU v).b = (B.foldl stepU u).b ∧ (B.foldl stepU v).n = (B.foldl stepU u).n
  | [], u, v, h1, h2, _ => ⟨h1, h2⟩
  | r :: B, u, v, h1, h2, h3 => by
    rw [List.foldl_cons, List.foldl_cons]
    unfold stepU
    by_cases c : r.p = []
    · rw [if_pos c, if_pos c]; exact fold_eq B u v h1 h2 h3
    · rw [if_neg c, if_neg c]
      by_cases d : r.id ∈ u.S
      · rw [if_pos d, if_pos ((h3 _).2 d)]; exact fold_eq B _ _ h1 h2 h3
      · rw [if_neg d, if_neg (fun e => d ((h3 _).1 e))]
        exact fold_eq B _ _ (by show v.b + _ = u.b + _; omega) (by show v.n + 1 = u.n + 1; omega) (fun i => by show i ∈ r.id :: v.S ↔ i ∈ r.id :: u.S; rw [List.mem_cons, List.mem_cons, h3])

theorem fold_late (z : Int) (k : Nat) : ∀ (B : List Rw) (u v : Us), v.b = u.b + k → v.n = u.n + 1 → (∀ i, i ∈ v.S ↔ i = z ∨ i ∈ u.S) → z ∉ u.S → (∀ r ∈ B, r.id = z → bytesN r = k) → (∀ r ∈ B, r.p ≠ []) → (∃ r ∈ B, r.id = z) → (B.foldl stepU v).b = (B.foldl stepU u).b ∧ (B.foldl stepU v).n = (B.foldl stepU u).n
  | [], u, v, _, _, _, _, _, _, h => by obtain ⟨r, hr, _⟩ := h; cases hr
  | r :: B, u, v, h1, h2, h3, h4, h5, h6, h7 => by
    rw [List.foldl_cons, List.foldl_cons]
    have hp := h6 r (by simp)
    unfold stepU
    rw [if_neg hp, if_neg hp]
    by_cases e : r.id = z
    · rw [if_pos ((h3 _).2 (.inl e)), if_neg (by rw [e]; exact h4)]
      have hb := h5 r (by simp) e
      exact fold_eq B _ _ (by show v.b = u.b + bytesN r; omega) (by show v.n = u.n + 1; omega) (fun i => by show i ∈ v.S ↔ i ∈ r.id :: u.S; rw [h3, List.mem_cons, e])
    · obtain ⟨q, hq, hqz⟩ := h7
      have hq' : q ∈ B := by
        rcases List.mem_cons.1 hq with e2 | e2
        · exact absurd (by rw [← e2]; exact hqz) e
        · exact e2
      have hB5 : ∀ r ∈ B, r.id = z → bytesN r = k := fun q hq => h5 q (List.mem_cons_of_mem _ hq)
      have hB6 : ∀ r ∈ B, r.p ≠ [] := fun q hq => h6 q (List.mem_cons_of_mem _ hq)
      by_cases d : r.id ∈ u.S
      · rw [if_pos d, if_pos ((h3 _).2 (.inr d))]
        exact fold_late z k B _ _ h1 h2 h3 h4 hB5 hB6 ⟨q, hq', hqz⟩
      · rw [if_neg d, if_neg (fun x => ((h3 _).1 x).elim e d)]
        refine fold_late z k B _ _ (by show v.b + _ = u.b + _ + k; omega) (by show v.n + 1 = u.n + 1 + 1; omega) ?_ ?_ hB5 hB6 ⟨q, hq', hqz⟩
        · intro i
          show i ∈ r.id :: v.S ↔ i = z ∨ i ∈ r.id :: u.S
          rw [List.mem_cons, List.mem_cons, h3]
          constructor
          · rintro (x | x | x)
            · exact .inr (.inl x)
            · exact .inl x
            · exact .inr (.inr x)
          · rintro (x | x | x)
            · exact .inr (.inl x)
            · exact .inl x
            · exact .inr (.inr x)
        · intro x
          rcases List.mem_cons.1 x with x | x
          · exact e x.symm
          · exact h4 x

/-- one more name of a file -/
theorem ofU_dup {L : List Rw} {nx : Int} {r q : Rw} (h : Sd L nx) (hr : r ∈ L) (hk : r.kind = 1) (e1 : q.id = r.id) (e2 : q.kind = 1) (e3 : q.size = r.size) (e4 : q.p ≠ []) (hf : fd L q.p = false) :
    (ofU (putL L q)).b = (ofU L).b ∧ (ofU (putL L q)).n = (ofU L).n := by
  have e : putL L q = L.take (ix L q.p) ++ [q] ++ L.drop (ix L q.p) := by unfold putL; rw [hf]; simp
  have es := List.take_append_drop (ix L q.p) L
  have hb : ∀ x ∈ L, x.id = q.id → bytesN x = bytesN q := fun x hx ex => by
    have := h.alike hr hk hx (ex.trans e1)
    unfold bytesN
    rw [if_pos this.1, if_pos e2, this.2, e3]
  rw [e]
  have eL : ofU L = ofU (L.take (ix L q.p) ++ L.drop (ix L q.p)) := by rw [es]
  rw [eL]
  have hA : ∀ x ∈ L.take (ix L q.p), x ∈ L := fun x hx => List.mem_of_mem_take hx
  have hB : ∀ x ∈ L.drop (ix L q.p), x ∈ L := fun x hx => List.mem_of_mem_drop hx
  have hrr : r ∈ L.take (ix L q.p) ∨ r ∈ L.drop (ix L q.p) := List.mem_append.1 (by rw [es]; exact hr)
  generalize L.take (ix L q.p) = A at *
  generalize L.drop (ix L q.p) = B at *
  unfold ofU
  rw [List.append_assoc, List.foldl_append, List.foldl_append, List.foldl_append]
  have hS := ofU_mem A r
  have hS2 := ofU_S A
  unfold ofU at hS hS2
  generalize A.foldl stepU ⟨0, 0, 0, 0, []⟩ = u at *
  have es : [q].foldl stepU u = stepU u q := rfl
  rw [es]
  by_cases d : q.id ∈ u.S
  · have ex : stepU u q = ⟨u.b, u.n, max u.d (prt q.p).length, max u.l q.p.length, u.S⟩ := by unfold stepU; rw [if_neg e4, if_pos d]
    rw [ex]
    exact fold_eq B _ _ rfl rfl (fun i => Iff.rfl)
  · have ex : stepU u q = ⟨u.b + bytesN q, u.n + 1, max u.d (prt q.p).length, max u.l q.p.length, q.id :: u.S⟩ := by unfold stepU; rw [if_neg e4, if_neg d]
    rw [ex]
    refine fold_late q.id (bytesN q) B _ _ rfl rfl (fun i => by show i ∈ q.id :: u.S ↔ _; rw [List.mem_cons]) d (fun x hx ex => hb x (hB x hx) ex) (fun x hx => (h.cp x (hB x hx)).ne) ?_
    rcases hrr with x | x
    · exact absurd (by rw [e1]; exact hS x (h.cp r hr).ne) d
    · exact ⟨r, x, e1.symm⟩

/-- a name more, and no directory: what there is stays -/
theorem names_link {L : List Rw} {nx : Int} {s : List UInt8} {r : Rw} (h : Sd L nx) (hr : r ∈ L) (hs : s = [] ∨ Cp s) (hf : fd L s = false) (hc : (linkP L nx s r.p).2.2 = 0) (hl : (linkP L nx s r.p).1.length = L.length + 1) :
    (ofU (linkP L nx s r.p).1).b = (ofU L).b ∧ (ofU (linkP L nx s r.p).1).n = (ofU L).n := by
  have hat : atR L r.p = r := atR_of h.srt hr
  unfold linkP at hc hl ⊢
  by_cases e0 : s = []
  · rw [if_pos e0] at hc; exact absurd hc (by show (100 : Int) ≠ 0; omega)
  · rw [if_neg e0] at hc hl ⊢
    rw [fd_of h.srt hr, if_neg (by simp), hat] at hc hl ⊢
    by_cases c1 : r.kind ≠ 1
    · rw [if_pos c1] at hc; exact absurd hc (by show (130 : Int) ≠ 0; omega)
    · rw [if_neg c1] at hc hl ⊢
      have hk : r.kind = 1 := Classical.not_not.1 c1
      by_cases c2 : (atR L s).kind = 4
      · rw [if_pos c2] at hc; exact absurd hc (by show (130 : Int) ≠ 0; omega)
      · rw [if_neg c2] at hc hl ⊢
        by_cases c3 : cls L s = true
        · rw [if_pos c3] at hc; exact absurd hc (by show (130 : Int) ≠ 0; omega)
        · rw [if_neg c3] at hc hl ⊢
          have hcp : Cp s := hs.resolve_left e0
          have hfw := fd_wp (nx := nx) h hcp hf
          have hlen : (putL (wpR L nx s) { r with p := s }).length = (wpR L nx s).length + 1 := by
            unfold putL
            rw [show fd (wpR L nx s) ({ r with p := s } : Rw).p = false from hfw]
            have := ix_le (wpR L nx s) s
            simp only [List.length_append, List.length_take, List.length_drop, List.length_cons, List.length_nil]
            show min (ix (wpR L nx s) s) _ + (0 + 1) + (_ - (ix (wpR L nx s) s + 0)) = _
            omega
          have hl2 : (putL (wpR L nx s) { r with p := s }).length = L.length + 1 := hl
          rw [hlen, wpR_length] at hl2
          have hmd : mdL L s = [] := List.length_eq_zero_iff.1 (by omega)
          show (ofU (putL (wpR L nx s) { r with p := s })).b = _ ∧ (ofU (putL (wpR L nx s) { r with p := s })).n = _
          rw [wpR_nil hmd]
          exact ofU_dup h hr hk rfl hk rfl e0 hf

end Go.Proofs.YtojnniacmmcddaaDoor

namespace Go.Proofs.YtojnniacmmcddaaDoor
open Go.RowKit
open Go.Lib hiding intOf
set_option linter.unusedVariables false
set_option linter.unusedSimpArgs false

/-- rows that are left out -/
theorem fold_cut (f : Rw → Bool) (k : Int → Nat) : ∀ (B : List Rw) (u v : Us) (D : List Int), (∀ r ∈ B, bytesN r = k r.id) → u.n = v.n + D.length → u.b = v.b + (D.map k).sum → (∀ i, i ∈ u.S ↔ i ∈ v.S ∨ i ∈ D) → D.Nodup → (∀ i ∈ D, i ∉ v.S) → v.d ≤ u.d → v.l ≤ u.l →
    ((B.filter f).foldl stepU v).n ≤ (B.foldl stepU u).n ∧ ((B.filter f).foldl stepU v).b ≤ (B.foldl stepU u).b ∧ ((B.filter f).foldl stepU v).d ≤ (B.foldl stepU u).d ∧ ((B.filter f).foldl stepU v).l ≤ (B.foldl stepU u).l
  | [], u, v, D, _, h1, h2, _, _, _, h6, h7 => ⟨by show v.n ≤ u.n; omega, by show v.b ≤ u.b; omega, h6, h7⟩
  | r :: B, u, v, D, hk, h1, h2, h3, h4, h5, h6, h7 => by
    have hkB : ∀ q ∈ B, bytesN q = k q.id := fun q hq => hk q (List.mem_cons_of_mem _ hq)
    have hkr := hk r (by simp)
    rw [List.foldl_cons]
    by_cases hf : f r = true
    · rw [List.filter_cons_of_pos hf, List.foldl_cons]
      unfold stepU
      by_cases c : r.p = []
      · rw [if_pos c, if_pos c]
        exact fold_cut f k B u v D hkB h1 h2 h3 h4 h5 h6 h7
      · rw [if_neg c, if_neg c]
        by_cases dv : r.id ∈ v.S
        · rw [if_pos dv, if_pos ((h3 _).2 (.inl dv))]
          exact fold_cut f k B _ _ D hkB h1 h2 h3 h4 h5 (by show max _ _ ≤ max _ _; omega) (by show max _ _ ≤ max _ _; omega)
        · rw [if_neg dv]
          by_cases du : r.id ∈ u.S
          · rw [if_pos du]
            have hD : r.id ∈ D := ((h3 _).1 du).resolve_left dv
            have hp := List.perm_cons_erase hD
            have hl : D.length = (D.erase r.id).length + 1 := by rw [hp.length_eq, List.length_cons]
            have hs : (D.map k).sum = k r.id + ((D.erase r.id).map k).sum := by rw [(hp.map k).sum_nat, List.map_cons, List.sum_cons]
            refine fold_cut f k B _ _ (D.erase r.id) hkB (by show u.n = v.n + 1 + _; omega) (by show u.b = v.b + bytesN r + _; omega) ?_ (h4.erase _) ?_ (by show max _ _ ≤ max _ _; omega) (by show max _ _ ≤ max _ _; omega)
            · intro i
              show i ∈ u.S ↔ i ∈ r.id :: v.S ∨ i ∈ D.erase r.id
              rw [h3, List.mem_cons, h4.mem_erase_iff]
              by_cases e : i = r.id
              · subst e; simp [hD]
              · simp [e]
            · intro i hi hm
              have hi2 := (h4.mem_erase_iff).1 hi
              rcases List.mem_cons.1 hm with e | e
              · exact hi2.1 e
              · exact h5 i hi2.2 e
          · rw [if_neg du]
            refine fold_cut f k B _ _ D hkB (by show u.n + 1 = v.n + 1 + _; omega) (by show u.b + bytesN r = v.b + bytesN r + _; omega) ?_ h4 ?_ (by show max _ _ ≤ max _ _; omega) (by show max _ _ ≤ max _ _; omega)
            · intro i
              show i ∈ r.id :: u.S ↔ i ∈ r.id :: v.S ∨ i ∈ D
              rw [List.mem_cons, List.mem_cons, h3]
              exact or_assoc.symm
            · intro i hi hm
              rcases List.mem_cons.1 hm with e | e
              · exact du ((h3 _).2 (.inr (e ▸ hi)))
              · exact h5 i hi e
    · rw [List.filter_cons_of_neg hf]
      unfold stepU
      by_cases c : r.p = []
      · rw [if_pos c]
        exact fold_cut f k B u v D hkB h1 h2 h3 h4 h5 h6 h7
      · rw [if_neg c]
        by_cases du : r.id ∈ u.S
        · rw [if_pos du]
          exact fold_cut f k B _ _ D hkB h1 h2 h3 h4 h5 (by show v.d ≤ max _ _; omega) (by show v.l ≤ max _ _; omega)
        · rw [if_neg du]
          refine fold_cut f k B _ _ (r.id :: D) hkB (by show u.n + 1 = v.n + (r.id :: D).length; rw [List.length_cons]; omega) (by show u.b + bytesN r = v.b + ((r.id :: D).map k).sum; rw [List.map_cons, List.sum_cons]; omega) ?_ ?_ ?_ (by show v.d ≤ max _ _; omega) (by show v.l ≤ max _ _; omega)
          · intro i
            show i ∈ r.id :: u.S ↔ i ∈ v.S ∨ i ∈ r.id :: D
            rw [List.mem_cons, List.mem_cons, h3]
            constructor
            · rintro (x | x | x)
              · exact .inr (.inl x)
              · exact .inl x
              · exact .inr (.inr x)
            · rintro (x | x | x)
              · exact .inr (.inl x)
              · exact .inl x
              · exact .inr (.inr x)
          · exact List.nodup_cons.2 ⟨fun h => du ((h3 _).2 (.inr h)), h4⟩
          · intro i hi hm
            rcases List.mem_cons.1 hi with e | e
            · exact du ((h3 _).2 (.inl (e ▸ hm)))
            · exact h5 i e hm

/-- the bytes of a number -/
def kOf (L : List Rw) (i : Int) : Nat := match L.find? (fun r => decide (r.id = i)) with | some r => bytesN r | none => 0

theorem kOf_eq {L : List Rw} {nx : Int} (h : Sd L nx) {r : Rw} (hr : r ∈ L) : bytesN r = kOf L r.id := by
  unfold kOf
  cases hf : L.find? (fun q => decide (q.id = r.id)) with
  | none =>
    have := List.find?_eq_none.1 hf r hr
    simp at this
  | some q =>
    have hq := List.mem_of_find?_eq_some hf
    have he := List.find?_some hf
    have he : q.id = r.id := by simpa using he
    rcases h.one q hq r hr he with e | ⟨k1, k2, k3⟩
    · rw [e]
    · show bytesN r = bytesN q
      unfold bytesN
      rw [if_pos k1, if_pos k2, k3]

theorem ofU_filter {L : List Rw} {nx : Int} (h : Sd L nx) (f : Rw → Bool) : (ofU (L.filter f)).n ≤ (ofU L).n ∧ (ofU (L.filter f)).b ≤ (ofU L).b ∧ (ofU (L.filter f)).d ≤ (ofU L).d ∧ (ofU (L.filter f)).l ≤ (ofU L).l :=
  fold_cut f (kOf L) L ⟨0, 0, 0, 0, []⟩ ⟨0, 0, 0, 0, []⟩ [] (fun r hr => kOf_eq h hr) rfl rfl (fun i => by simp) List.nodup_nil (fun i hi => nomatch hi) (Nat.le_refl _) (Nat.le_refl _)

theorem ofU_many_n : ∀ (N A B : List Rw), (∀ q ∈ N, q.p ≠ []) → (N.Pairwise fun a b => a.id ≠ b.id) → (∀ q ∈ A ++ B, ∀ r ∈ N, q.id ≠ r.id) → (ofU (A ++ N ++ B)).n = (ofU (A ++ B)).n + N.length
  | [], A, B, _, _, _ => by simp
  | r :: N, A, B, h1, h3, h4 => by
    obtain ⟨p1, p2⟩ := List.pairwise_cons.1 h3
    have k := ofU_many_n N (A ++ [r]) B (fun q hq => h1 q (List.mem_cons_of_mem _ hq)) p2 (by
      intro q hq s hs
      rcases List.mem_append.1 hq with hq | hq
      · rcases List.mem_append.1 hq with hq | hq
        · exact h4 q (List.mem_append.2 (.inl hq)) s (List.mem_cons_of_mem _ hs)
        · rw [List.mem_singleton.1 hq]; exact p1 s hs
      · exact h4 q (List.mem_append.2 (.inr hq)) s (List.mem_cons_of_mem _ hs))
    have m := ofU_ins A B r (h1 r (by simp)) (fun q hq => h4 q hq r (by simp))
    have e : A ++ (r :: N) ++ B = A ++ [r] ++ N ++ B := by simp
    rw [e, k, m.2.1, List.length_cons]
    omega

theorem ofU_wp_n {L : List Rw} {nx : Int} {s : List UInt8} (h : Sd L nx) (hs : Cp s) : (ofU (wpR L nx s)).n = (ofU L).n + (mdL L s).length := by
  unfold wpR
  cases hg : (mdL L s).getLast? with
  | none => rw [List.getLast?_eq_none_iff.1 hg]; rfl
  | some t =>
    have e := List.take_append_drop (ix L t) L
    have k := ofU_many_n (mkAll nx (mdL L s)) (L.take (ix L t)) (L.drop (ix L t)) (by
      intro q hq
      obtain ⟨i, x, hx, rfl⟩ := (mkAll_get _ _ _).1 hq
      exact (md_cp hs (List.mem_reverse.1 (List.mem_of_getElem? hx))).ne) (by
      rw [List.pairwise_iff_getElem]
      intro i j hi hj hij
      rw [mkAll_id (List.getElem?_eq_getElem hi), mkAll_id (List.getElem?_eq_getElem hj)]
      omega) (by
      intro q hq r hr
      rw [e] at hq
      obtain ⟨i, x, hx, rfl⟩ := (mkAll_get _ _ _).1 hr
      have := h.id q hq
      show q.id ≠ nx + (i : Int)
      omega)
    rw [e, mkAll_length] at k
    exact k

/-- without a row that is no directory -/
theorem Sd.without {L : List Rw} {nx : Int} {s : List UInt8} (h : Sd L nx) (hk : ∀ q ∈ L, q.p = s → q.kind ≠ 4) : Sd (L.filter fun q => decide (q.p ≠ s)) nx := by
  have hm : ∀ q, q ∈ (L.filter fun q => decide (q.p ≠ s)) ↔ q ∈ L ∧ q.p ≠ s := fun q => by rw [List.mem_filter]; simp
  refine ⟨h.srt.sublist List.filter_sublist, fun r hr => h.cp r ((hm r).1 hr).1, ?_, fun r hr => h.id r ((hm r).1 hr).1, fun r hr q hq => h.one r ((hm r).1 hr).1 q ((hm q).1 hq).1, fun r hr => h.ok r ((hm r).1 hr).1, h.nn⟩
  intro r hr
  rcases h.up r ((hm r).1 hr).1 with e | ⟨q, hq, e, k⟩
  · exact .inl e
  · exact .inr ⟨q, (hm q).2 ⟨hq, fun e2 => hk q hq e2 k⟩, e, k⟩

theorem ix_le_all {L : List Rw} {s : List UInt8} (h : Srt L) {i : Nat} (hlo : ∀ r ∈ L.take i, cmpL r.p s < 0) (hhi : ∀ r ∈ L.drop i, ¬ cmpL r.p s < 0) (hi : i ≤ L.length) : ix L s = i := by
  by_cases c : ix L s < i
  · exfalso
    have hlt : ix L s < L.length := by omega
    have hq : L[ix L s]? = some L[ix L s] := List.getElem?_eq_getElem hlt
    have h1 := hlo L[ix L s] (List.mem_iff_getElem?.2 ⟨ix L s, by rw [List.getElem?_take, if_pos c]; exact hq⟩)
    have := (ix_iff L s h _ _ hq).1 h1
    omega
  · by_cases c2 : i < ix L s
    · exfalso
      have := ix_le L s
      have hlt : i < L.length := by omega
      have hq : L[i]? = some L[i] := List.getElem?_eq_getElem hlt
      have h1 := (ix_iff L s h _ _ hq).2 c2
      refine hhi L[i] (List.mem_iff_getElem?.2 ⟨0, by rw [List.getElem?_drop, Nat.add_zero]; exact hq⟩) h1
    · omega

theorem put_without {L : List Rw} {q : Rw} (h : Srt L) (hf : fd L q.p = true) : putL L q = putL (L.filter fun x => decide (x.p ≠ q.p)) q ∧ (putL L q).length = L.length := by
  obtain ⟨r, hr1, hr2⟩ := fd_some hf
  obtain ⟨hlt, he⟩ := List.getElem?_eq_some_iff.1 hr1
  have hsp : L = L.take (ix L q.p) ++ [r] ++ L.drop (ix L q.p + 1) := by
    rw [← he]
    conv => lhs; rw [← List.take_append_drop (ix L q.p) L, List.drop_eq_getElem_cons hlt]
    simp
  have hA : ∀ x ∈ L.take (ix L q.p), cmpL x.p q.p < 0 := fun x hx => take_lt h hx
  have hB : ∀ x ∈ L.drop (ix L q.p + 1), cmpL q.p x.p < 0 := fun x hx => drop_gt (r0 := q) h (by rw [hf]; exact hx)
  have hfl : (L.filter fun x => decide (x.p ≠ q.p)) = L.take (ix L q.p) ++ L.drop (ix L q.p + 1) := by
    conv => lhs; rw [hsp]
    rw [List.filter_append, List.filter_append]
    have e1 : (L.take (ix L q.p)).filter (fun x => decide (x.p ≠ q.p)) = L.take (ix L q.p) := List.filter_eq_self.2 fun x hx => decide_eq_true (fun e => by have := hA x hx; rw [e] at this; exact cmpL_irrefl _ this)
    have e2 : (L.drop (ix L q.p + 1)).filter (fun x => decide (x.p ≠ q.p)) = L.drop (ix L q.p + 1) := List.filter_eq_self.2 fun x hx => decide_eq_true (fun e => by have := hB x hx; rw [e] at this; exact cmpL_irrefl _ this)
    have e3 : [r].filter (fun x => decide (x.p ≠ q.p)) = [] := by simp [hr2]
    rw [e1, e2, e3, List.append_nil]
  have hput : putL L q = L.take (ix L q.p) ++ [q] ++ L.drop (ix L q.p + 1) := by unfold putL; rw [hf]; rfl
  have hlA : (L.take (ix L q.p)).length = ix L q.p := by rw [List.length_take]; omega
  have hs2 : Srt (L.filter fun x => decide (x.p ≠ q.p)) := h.sublist List.filter_sublist
  have hf2 : fd (L.filter fun x => decide (x.p ≠ q.p)) q.p = false := by
    cases hx : fd (L.filter fun x => decide (x.p ≠ q.p)) q.p with
    | false => rfl
    | true =>
      obtain ⟨x, hx1, hx2⟩ := fd_mem hx
      have := (List.mem_filter.1 hx1).2
      simp [hx2] at this
  have hix : ix (L.filter fun x => decide (x.p ≠ q.p)) q.p = ix L q.p := by
    refine ix_le_all hs2 ?_ ?_ ?_
    · rw [hfl, List.take_left' hlA]; exact hA
    · rw [hfl, List.drop_left' hlA]
      intro x hx hc
      exact cmpL_irrefl _ (cmpL_lt_trans _ _ _ hc (hB x hx))
    · rw [hfl, List.length_append, hlA]; omega
  constructor
  · rw [hput]
    unfold putL
    rw [hf2, hix, hfl, List.take_left' hlA]
    simp only [Bool.false_eq_true, if_false, Nat.add_zero]
    rw [List.drop_left' hlA]
  · rw [hput, List.length_append, List.length_append, hlA, List.length_drop]
    simp
    omega

/-- one more name: no byte more, and no thing more but what is made -/
theorem cuts_link {L : List Rw} {nx : Int} {s : List UInt8} {r : Rw} (h : Sd L nx) (hr : r ∈ L) (hs : s = [] ∨ Cp s) (hsl : s.length ≤ 1000) (hc : (linkP L nx s r.p).2.2 = 0) :
    (ofU (linkP L nx s r.p).1).b ≤ (ofU L).b ∧ L.length ≤ (linkP L nx s r.p).1.length ∧ (ofU (linkP L nx s r.p).1).n + L.length ≤ (ofU L).n + (linkP L nx s r.p).1.length := by
  have hat : atR L r.p = r := atR_of h.srt hr
  unfold linkP at hc ⊢
  by_cases e0 : s = []
  · rw [if_pos e0] at hc; exact absurd hc (by show (100 : Int) ≠ 0; omega)
  · rw [if_neg e0] at hc ⊢
    rw [fd_of h.srt hr, if_neg (by simp), hat] at hc ⊢
    by_cases c1 : r.kind ≠ 1
    · rw [if_pos c1] at hc; exact absurd hc (by show (130 : Int) ≠ 0; omega)
    · rw [if_neg c1] at hc ⊢
      have hk : r.kind = 1 := Classical.not_not.1 c1
      by_cases c2 : (atR L s).kind = 4
      · rw [if_pos c2] at hc; exact absurd hc (by show (130 : Int) ≠ 0; omega)
      · rw [if_neg c2] at hc ⊢
        by_cases c3 : cls L s = true
        · rw [if_pos c3] at hc; exact absurd hc (by show (130 : Int) ≠ 0; omega)
        · rw [if_neg c3] at hc ⊢
          have hcl : cls L s = false := by simpa using c3
          have hcp : Cp s := hs.resolve_left e0
          show (ofU (putL (wpR L nx s) { r with p := s })).b ≤ _ ∧ L.length ≤ (putL (wpR L nx s) { r with p := s }).length ∧ (ofU (putL (wpR L nx s) { r with p := s })).n + L.length ≤ (ofU L).n + (putL (wpR L nx s) { r with p := s }).length
          by_cases hf : fd L s = true
          · have hmd := (h.there hf).1
            rw [wpR_nil hmd]
            obtain ⟨e1, e2⟩ := put_without (q := { r with p := s }) h.srt hf
            rw [e2]
            by_cases hrp : r.p = s
            · have er : ({ r with p := s } : Rw) = r := by rw [← hrp]
              have hL : putL L { r with p := s } = L := by
                rw [er]
                obtain ⟨x, hx1, hx2⟩ := fd_some (L := L) (s := r.p) (fd_of h.srt hr)
                have hxr : x = r := h.srt.uniq (List.mem_of_getElem? hx1) hr hx2
                subst hxr
                obtain ⟨hlt, he⟩ := List.getElem?_eq_some_iff.1 hx1
                unfold putL
                rw [fd_of h.srt hr]
                conv => rhs; rw [← List.take_append_drop (ix L x.p) L, List.drop_eq_getElem_cons hlt, he]
                simp
              rw [hL]
              omega
            · have hw := h.without (s := s) (fun q hq e k => c2 (by
                have : atR L s = q := by rw [← e]; exact atR_of h.srt hq
                rw [this]; exact k))
              have hr2 : r ∈ (L.filter fun q => decide (q.p ≠ s)) := List.mem_filter.2 ⟨hr, decide_eq_true hrp⟩
              have hf2 : fd (L.filter fun q => decide (q.p ≠ s)) s = false := by
                cases hx : fd (L.filter fun q => decide (q.p ≠ s)) s with
                | false => rfl
                | true =>
                  obtain ⟨x, hx1, hx2⟩ := fd_mem hx
                  have := (List.mem_filter.1 hx1).2
                  simp [hx2] at this
              have d := ofU_dup (q := { r with p := s }) hw hr2 hk rfl hk rfl e0 hf2
              have fl := ofU_filter h (fun q => decide (q.p ≠ s))
              rw [e1]
              have d1 : (ofU (putL (L.filter fun x => decide (x.p ≠ s)) { r with p := s })).b = (ofU (L.filter fun q => decide (q.p ≠ s))).b := d.1
              have d2 : (ofU (putL (L.filter fun x => decide (x.p ≠ s)) { r with p := s })).n = (ofU (L.filter fun q => decide (q.p ≠ s))).n := d.2
              refine ⟨?_, Nat.le_refl _, ?_⟩
              · show (ofU (putL (L.filter fun x => decide (x.p ≠ s)) { r with p := s })).b ≤ _
                rw [d1]; exact fl.2.1
              · show (ofU (putL (L.filter fun x => decide (x.p ≠ s)) { r with p := s })).n + _ ≤ _
                rw [d2]
                have := fl.1
                omega
          · have hf : fd L s = false := by simpa using hf
            have hfw := fd_wp (nx := nx) h hcp hf
            have hw := (h.wp hcp hsl hcl).1
            have d := ofU_dup (q := { r with p := s }) hw (mem_link h hr) hk rfl hk rfl e0 hfw
            have k1 := ofU_wp (nx := nx) h hcp
            have k2 := ofU_wp_n (nx := nx) h hcp
            have hlen : (putL (wpR L nx s) { r with p := s }).length = (wpR L nx s).length + 1 := by
              unfold putL
              rw [show fd (wpR L nx s) ({ r with p := s } : Rw).p = false from hfw]
              have := ix_le (wpR L nx s) s
              simp only [List.length_append, List.length_take, List.length_drop, List.length_cons, List.length_nil]
              show min (ix (wpR L nx s) s) _ + (0 + 1) + (_ - (ix (wpR L nx s) s + 0)) = _
              omega
            rw [d.1, d.2, hlen, wpR_length, k1.1, k2]
            omega

theorem ofU_root (L : List Rw) : L.filter (fun r => !und [] r.p) = [] := by
  rw [List.filter_eq_nil_iff]
  intro r _
  simp [und, Lib.hasPrefix]

end Go.Proofs.YtojnniacmmcddaaDoor

