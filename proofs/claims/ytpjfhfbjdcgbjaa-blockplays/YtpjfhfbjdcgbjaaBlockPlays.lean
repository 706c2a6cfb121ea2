/-
  The law BlockPlays returns true for every number of blocks and every script; no condition.
-/
import Derived.Test.YtpjfhfbjdcgbjaaRows
import Derived.Test.YtpjfhfbjdcgbjaaBm
import Derived.Deep.Slices
import Derived.ProofKit
import Derived.OpenShut
import Derived.ShutString
import Derived.ChangeOld
import Derived.Below
namespace Go.Proofs.Ytpjfhfbjdcgbjaa.blockPlays
open Go.ChangeShapes Go.WideShapes Go.ChangeAt Go.RowKit
set_option linter.unusedVariables false
set_option linter.unusedSimpArgs false


theorem lit_i64 {z : Int} (h : (Lit.int .i64 z).wf = true) : -9223372036854775808 ≤ z ∧ z ≤ 9223372036854775807 := bounds_i64 h

theorem list6 {α : Type} {l : List α} (h : l.length = 6) : ∃ a b c d e f, l = [a, b, c, d, e, f] := by
  match l, h with
  | [a, b, c, d, e, f], _ => exact ⟨a, b, c, d, e, f, rfl⟩

set_option maxRecDepth 100000 in
set_option maxHeartbeats 2000000 in
theorem open_op {H : Type} {enc : TypeId × Value → H} {W : World} {cs : List Value} {x : DataW H × List MemPlace} {fuel : Nat} (hl : cs.length = 6) (hf : DataW.trod enc Try.prog W 0 (fun _ => true) true fuel 32 cs = some x) :
    ∃ y : Opd, cs = y.cells ∧ y.ok W := by
  obtain ⟨c0, c1, c2, c3, c4, c5, rfl⟩ := list6 hl
  obtain ⟨xs, n, _, hx, _, hlen, hfs⟩ := DataW.trod_struct Try.underlying32 hf
  obtain ⟨y0, y1, y2, y3, y4, y5, rfl⟩ := list6 (show xs.length = 6 from hlen)
  have k3 : Try.prog.cellsOf 3 = 1 := by kernel_rfl
  have k30 : Try.prog.cellsOf 30 = 1 := by kernel_rfl
  have g0 := hfs 0 _ rfl
  simp only [Value.cells, k3, List.drop_succ_cons, List.drop_zero, List.take_succ_cons, List.take_zero, List.getElem?_cons_zero, List.getElem?_cons_succ] at g0
  obtain ⟨z0, e0, r0, b0⟩ := DataW.trod_int Try.underlying3 g0
  obtain rfl : c0 = _ := List.head_eq_of_cons_eq e0
  have g1 := hfs 1 _ rfl
  simp only [Value.cells, k3, List.drop_succ_cons, List.drop_zero, List.take_succ_cons, List.take_zero, List.getElem?_cons_zero, List.getElem?_cons_succ] at g1
  obtain ⟨z1, e1, r1, b1⟩ := DataW.trod_int Try.underlying3 g1
  obtain rfl : c1 = _ := List.head_eq_of_cons_eq e1
  have g2 := hfs 2 _ rfl
  simp only [Value.cells, k3, List.drop_succ_cons, List.drop_zero, List.take_succ_cons, List.take_zero, List.getElem?_cons_zero, List.getElem?_cons_succ] at g2
  obtain ⟨z2, e2, r2, b2⟩ := DataW.trod_int Try.underlying3 g2
  obtain rfl : c2 = _ := List.head_eq_of_cons_eq e2
  have g3 := hfs 3 _ rfl
  simp only [Value.cells, k3, List.drop_succ_cons, List.drop_zero, List.take_succ_cons, List.take_zero, List.getElem?_cons_zero, List.getElem?_cons_succ] at g3
  obtain ⟨z3, e3, r3, b3⟩ := DataW.trod_int Try.underlying3 g3
  obtain rfl : c3 = _ := List.head_eq_of_cons_eq e3
  have g4 := hfs 4 _ rfl
  simp only [Value.cells, k3, List.drop_succ_cons, List.drop_zero, List.take_succ_cons, List.take_zero, List.getElem?_cons_zero, List.getElem?_cons_succ] at g4
  obtain ⟨z4, e4, r4, b4⟩ := DataW.trod_int Try.underlying3 g4
  obtain rfl : c4 = _ := List.head_eq_of_cons_eq e4
  have g5 := hfs 5 _ rfl
  simp only [Value.cells, k3, k30, List.drop_succ_cons, List.drop_zero, List.take_succ_cons, List.take_zero, List.getElem?_cons_zero, List.getElem?_cons_succ] at g5
  obtain ⟨a4, l4, n4, zs, ec, hrow⟩ : ∃ a l c zs, c5 = .slice a l c ∧ IsRow .u8 W a l c zs := by
    rcases open_ints Try.underlying30 Try.underlying5 (by kernel_rfl) g5 with ⟨hcs, _⟩ | ⟨x, l, c, zs, hcs, _, hl, hm, hz, _, hcell, hwz⟩
    · exact ⟨none, 0, 0, [], List.head_eq_of_cons_eq hcs, .inl ⟨rfl, rfl, rfl, rfl⟩⟩
    · exact ⟨some x, l, c, zs, List.head_eq_of_cons_eq hcs, .inr ⟨_, rfl, hl, hm, by simpa using hz, hcell, hwz⟩⟩
  subst ec
  obtain ⟨hs, hln, hcap, hmax⟩ := row_src hrow
  refine ⟨⟨z0, z1, z2, z3, z4, a4, l4, n4, zs.take l4⟩, rfl, lit_i64 b0, lit_i64 b1, lit_i64 b2, lit_i64 b3, lit_i64 b4, hs, hln, hcap, hmax, fun ad e h0 => ?_⟩
  have h0' : 0 < (zs.take l4).length := by rw [hln]; exact h0
  obtain ⟨ad', e1, e2⟩ := hs h0'
  simp only at e
  rw [e1] at e
  injection e with e
  subst e
  have h9 := e2 0 _ (List.getElem?_eq_getElem (by rw [cellsOf_length]; exact h0'))
  have := World.block_lt_of_cell? _ _ h9
  simpa [Addr.add] using this

set_option maxRecDepth 100000 in
theorem open_ops {H : Type} {enc : TypeId × Value → H} {W : World} {ad : Option Addr} {n cap : Nat} {d : DataW H} {p : List MemPlace} (h : DataW.Trod enc Try.prog W 0 (fun _ => true) true 22 (.slice ad n cap) d p) :
    ∃ X, (X.length = n ∧ n ≤ cap ∧ cap ≤ 9223372036854775807 ∧ Scr W ad X ∧ ∀ x ∈ X, x.ok W) := by
  obtain ⟨fuel, hf⟩ := h
  have hc : Try.prog.cellsOf 32 = 6 := by kernel_rfl
  rcases Go.Deep.open_slice Try.underlying22 hf with ⟨hcs, _⟩ | ⟨a, len, cp, m, n', D, Pl, hcs, hb, hl, hm, hmm, _, hel⟩
  · simp [Value.cells] at hcs
    obtain ⟨rfl, rfl, rfl⟩ := hcs
    exact ⟨[], rfl, Nat.le_refl _, by omega, .inl rfl, (fun x hx => nomatch hx)⟩
  · simp [Value.cells] at hcs
    obtain ⟨rfl, rfl, rfl⟩ := hcs
    simp at hmm
    subst hmm
    unfold maxLen at hm
    have each : ∀ i, i < m → ∃ y : Opd, y.ok W ∧ ∀ j v, y.cells[j]? = some v → W.cell? (a.add (i * 6 + j)) = some v := by
      intro i hi
      obtain ⟨cs', h1, h2⟩ := hel i hi
      rw [hc] at h1
      obtain ⟨_, hlen, hcell⟩ := World.cells?_some h1
      obtain ⟨y, rfl, ho⟩ := open_op hlen h2
      refine ⟨y, ho, fun j v hv => ?_⟩
      have hj : j < 6 := by have := (List.getElem?_eq_some_iff.1 hv).1; exact this
      have := hcell j hj
      rw [hv] at this
      rw [← this]
      congr 1
      by_cases hi0 : i * 6 = 0
      · by_cases hj0 : j = 0
        · simp [Addr.add, hi0, hj0]
        · simp [Addr.add, hi0, hj0]
      · by_cases hj0 : j = 0
        · simp [Addr.add, hi0, hj0]
        · simp [Addr.add, hi0, hj0, Nat.add_assoc]
    have inh : Inhabited Opd := ⟨⟨0, 0, 0, 0, 0, none, 0, 0, []⟩⟩
    obtain ⟨Y, hY⟩ := Go.Deep.choose_lt each
    refine ⟨(List.range n).map Y, by simp, hl, hm, ?_, ?_⟩
    · by_cases h0 : n = 0
      · subst h0; exact .inl (by simp)
      · obtain ⟨b, off, spot⟩ := a
        have hc0 := (hY 0 (by omega)).2 0 _ rfl
        have hspot : spot = none := by simpa [Addr.add] using World.cell?_spot hc0
        subst hspot
        have hblt : b < W.heap.size := by
          have := World.block_lt_of_cell? _ _ hc0
          simpa [Addr.add] using this
        refine .inr ⟨b, off, rfl, hblt, fun i x hx j v hv => ?_⟩
        rw [List.getElem?_map] at hx
        obtain ⟨k, hk, rfl⟩ := Option.map_eq_some_iff.1 hx
        obtain ⟨hk1, hk2⟩ := List.getElem?_eq_some_iff.1 hk
        simp at hk1 hk2
        subst hk2
        have h9 := (hY i (by omega)).2 j v hv
        have e9 : (⟨b, off, none⟩ : Addr).add (i * 6 + j) = ⟨b, off + (i * 6 + j), none⟩ := by unfold Addr.add; split <;> simp_all
        rw [e9] at h9
        rw [Nat.add_assoc]
        exact h9
    · intro x hx
      obtain ⟨i, hi, rfl⟩ := List.mem_map.1 hx
      rw [List.mem_range] at hi
      exact (hY i (by omega)).1

theorem walk (z : Int) (ad : Option Addr) (N cap : Nat) (X : List Opd) (w : World) (hz : (Lit.int .i64 z).wf = true) (h : X.length = N ∧ N ≤ cap ∧ cap ≤ 9223372036854775807 ∧ Scr w ad X ∧ ∀ x ∈ X, x.ok w) :
    Calls Try.prog 3 #[.int .i64 z, .slice ad N cap] w fun e w' => e = .returned (.bool true) ∧ Below w.heap.size w w' :=
  plays_w z ad N cap X w (lit_i64 hz) h.2.2.2.1 h.1 h.2.2.2.2 h.2.1 h.2.2.1

theorem own : ownKnob Try.prog.godebug = none := by kernel_rfl
theorem laidOut : laidOutB Try.prog = true := by kernel_rfl
set_option maxRecDepth 100000 in
theorem lifted (os : Os) (started : os.Started) (H : Type) (enc : TypeId × Value → H) :
    ReturnsInHanded {} Try.checked os 3 .any (Rows.blockPlaysSpec.pre6 enc Try.prog Try.f3 Rows.blockPlaysRow.domain false) (Rows.blockPlaysSpec.post enc Try.prog Try.f3 false true false false) := by
  refine returnsInHanded_of_change (C := Try.checked) own started (by kernel_rfl) Try.func3
    (ChangeSpec.witness6 (enc := enc) (C := Try.checked) false ⟨#[], #[.int .i64 0, .slice none 0 0], []⟩ 8 (by kernel_rfl) (by kernel_rfl) (by kernel_rfl) (by kernel_rfl)) ?_
  intro W base args ds gs before hval0 hW hcnd _
  have hval : ∀ (j : Nat) t v, Try.f3.params[j]? = some t → args[j]? = some v → Value.okWide Try.prog W .any base t v := hval0
  have hW' := hW
  obtain ⟨p, q, hA0, hV, rfl, hfz, hnd⟩ := hW
  have hA : DataW.TrodAll enc Try.prog W 0 (fun _ => true) true Try.f3.params.toList args.toList ds p := hA0
  rw [Try.params3] at hA hval
  obtain ⟨v0, vs0, d0, ds0, p0, q0, hargs, rfl, rfl, h0, r0⟩ := trodAll_cons hA
  obtain ⟨v1, vs1, d1, ds1, p1, q1, rfl, rfl, rfl, h1, r1⟩ := trodAll_cons r0
  obtain ⟨rfl, rfl, rfl⟩ := trodAll_nil r1
  obtain rfl : args = #[v0, v1] := by cases args; simp_all
  obtain ⟨rfl, rfl⟩ := trodVars_none hV
  obtain ⟨a0, rfl, rfl, rfl, w0⟩ := open_int Try.underlying3 (hval 0 3 v0 rfl rfl) h0
  obtain ⟨a1, len1, cap1, rfl⟩ := okWide_slice Try.underlying22 (hval 1 22 v1 rfl rfl)
  have k1 := h1
  have lt1 : ∀ x ∈ p1, x.block < W.heap.size := by obtain ⟨m, hm⟩ := k1; exact DataW.trod_lt m _ _ _ hm
  obtain ⟨X1, w1⟩ := open_ops h1
  clear hA0 hval0
  refine (walk a0 a1 len1 cap1 X1 W w0 w1).mono fun e W' ⟨he, bel⟩ => ?_
  subst he
  exact ⟨_, rfl, _, _, _, [], _, [], hW', trodAll_mk1 (shut_bool Try.underlying4 _), (trodAll_cons_mk (shut_int Try.underlying3 w0) (trodAll_cons_mk (Below.trod laidOut (by kernel_rfl) (of_decide_eq_true (by kernel_rfl)) k1 bel lt1) trodAll_mk0)), rfl, bel.frame _, fun h => by cases h⟩

theorem over : Rows.blockPlaysRow.holds Try.pinned (OpenSpec.ofChange Rows.blockPlaysSpec) :=
  OpenClaim.holds_of_wide 3 Try.f3 rfl rfl rfl rfl rfl rfl rfl ⟨rfl, rfl, rfl, rfl, rfl⟩ rfl rfl rfl rfl rfl (by kernel_rfl) Try.func3 (by kernel_rfl)
    (of_decide_eq_true (by kernel_rfl)) (by unfold Func.isWrapper; first | (rw [if_pos (by decide +kernel)]; kernel_rfl) | (rw [if_neg (by decide +kernel)]; exact ⟨rfl, rfl⟩))
    (fun os started H enc _ => lifted os started H enc)

end Go.Proofs.Ytpjfhfbjdcgbjaa.blockPlays
namespace Go.Proofs.Ytpjfhfbjdcgbjaa
theorem blockPlays_holds : Rows.BlockPlaysSaid := blockPlays.over
#print axioms blockPlays_holds
end Go.Proofs.Ytpjfhfbjdcgbjaa
