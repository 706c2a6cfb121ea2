/-
  The card of the law PathOrder holds: it returns true for every input, the variables of the library that it lists being as the program text lays them.
-/
import Derived.Test.YtmeaiplinkodiaaDoorLaid
import Derived.Test.YtmeaiplinkodiaaDoorCards
import Derived.Test.YtmeaiplinkodiaaDoorTie
import Derived.Test.YtmeaiplinkodiaaDoorCmpq
import Derived.Deep.DeepCutAuto
namespace Go.Proofs.YtmeaiplinkodiaaDoor.pathOrder
open Go.ChangeShapes Go.WideShapes Go.RowKit
set_option linter.unusedVariables false
set_option linter.unusedSimpArgs false

def okO (l : List UInt8) : Bool := err l = 0 && l.length ≤ 1000

theorem okO_good (l : List UInt8) (h : okO l = true) : err l = 0 ∧ l.length ≤ 1000 ∧ (∀ p ∈ cln l, Good p) ∧ (jn (cln l)).length ≤ 1000 := by
  unfold okO at h
  simp at h
  obtain ⟨h0, h1⟩ := h
  refine ⟨h0, h1, ?_, ?_⟩
  · unfold cln; rw [if_pos h0]; exact parts_good l h0
  · unfold cln; rw [if_pos h0]; have := jn_parts_length l; omega

/-- the row behind i rounds -/
def arr (L : List (List UInt8)) (i : Nat) : List Value := (L.take i).map (fun l => .string (bs (jn (cln l)))) ++ (L.drop i).map fun _ => .string ⟨#[]⟩

theorem arr_length (L : List (List UInt8)) (i : Nat) : (arr L i).length = L.length := by simp [arr]; omega
theorem arr_at (L : List (List UInt8)) (i : Nat) (h : i < L.length) : (arr L i)[i]? = some (.string ⟨#[]⟩) := by
  unfold arr
  rw [List.getElem?_append_right (by simp; omega)]
  have : i - ((L.take i).map (fun l => Value.string (bs (jn (cln l))))).length = 0 := by simp; omega
  rw [this, List.getElem?_map, List.getElem?_drop]
  simp [h]
theorem arr_next (L : List (List UInt8)) (i : Nat) (h : i < L.length) : (arr L i).set i (.string (bs (jn (cln L[i])))) = arr L (i + 1) := by
  unfold arr
  have e : ((L.take i).map (fun l => Value.string (bs (jn (cln l))))).length = i := by simp; omega
  rw [List.set_append_right _ _ (by omega), e, Nat.sub_self, List.drop_eq_getElem_cons h, List.map_cons, List.set_cons_zero, List.take_succ_eq_append_getElem h, List.map_append, List.append_assoc]
  rfl

/-- the two rows -/
structure Rw (L : List (List UInt8)) (A i : Nat) (w : World) : Prop where
  a : w.heap[A]? = some (.cells (arr L i).toArray 36 (0, 0))
  s : w.heap[A + 1]? = some (.cells (L.map fun l => Value.string (bs l)).toArray 9 (0, 0))

theorem Rw.lt {L : List (List UInt8)} {A i : Nat} {w : World} (h : Rw L A i w) : A + 1 < w.heap.size := (Array.getElem?_eq_some_iff.1 h.s).1
theorem Rw.below {L : List (List UInt8)} {A i : Nat} {w w' : World} (h : Rw L A i w) (hb : Below w.heap.size w w') : Rw L A i w' :=
  ⟨(hb.block A (by have := h.lt; omega)).trans h.a, (hb.block (A + 1) h.lt).trans h.s⟩
theorem Rw.cell {L : List (List UInt8)} {A i : Nat} {w : World} (h : Rw L A i w) (k : Nat) (v : Value) (hk : (arr L i)[k]? = some v) : w.cell? ⟨A, k, none⟩ = some v := by
  simp [World.cell?, h.a, hk]
theorem Rw.frozen {L : List (List UInt8)} {A i : Nat} {w : World} (h : Rw L A i w) (k : Nat) : w.frozen? ⟨A, k, none⟩ = false := by
  simp [World.frozen?, h.a]
theorem Rw.src {L : List (List UInt8)} {A i : Nat} {w : World} (h : Rw L A i w) (k : Nat) (x : List UInt8) (hk : L[k]? = some x) : w.cell? ⟨A + 1, k, none⟩ = some (.string (bs x)) := by
  simp [World.cell?, h.s, hk]
theorem Rw.next {L : List (List UInt8)} {A i : Nat} {w : World} (h : Rw L A i w) (x : List UInt8) (hx : L[i]? = some x) : Rw L A (i + 1) (w.setCell ⟨A, i, none⟩ (.string (bs (jn (cln x))))) := by
  have hi : i < L.length := (List.getElem?_eq_some_iff.1 hx).1
  have hx' : L[i] = x := by rw [List.getElem?_eq_getElem hi] at hx; exact Option.some.inj hx
  constructor
  · rw [setCell_eq_setRow w A i _ _ _ _ h.a, setRow_heap _ _ _ _ _ _ h.a]
    rw [← arr_next L i hi, hx']
    simp
  · rw [Below.heap_setCell _ _ _ _ (by simp)]; exact h.s
theorem Rw.start (w0 : World) (l0 l1 l2 : List UInt8) : Rw [l0, l1, l2] w0.heap.size 0 ((w0.alloc (.cells #[.string ⟨#[]⟩, .string ⟨#[]⟩, .string ⟨#[]⟩] 36)).alloc (.cells #[.string (bs l0), .string (bs l1), .string (bs l2)] 9)) := by
  constructor
  · rw [Below.heap_alloc _ _ _ (by simp)]
    exact heap_alloc_new w0 _
  · have := heap_alloc_new (w0.alloc (.cells #[.string ⟨#[]⟩, .string ⟨#[]⟩, .string ⟨#[]⟩] 36)) (.cells #[.string (bs l0), .string (bs l1), .string (bs l2)] 9)
    rw [show (w0.alloc (.cells #[.string ⟨#[]⟩, .string ⟨#[]⟩, .string ⟨#[]⟩] 36)).heap.size = w0.heap.size + 1 by simp] at this
    exact this

/-- what the law wants of three clean paths -/
structure Fin3 (a b c : List UInt8) : Prop where
  qc : ∀ W, Calls Tryd.prog 18 #[.string (bs b), .string (bs a)] W fun e w' => e = .returned (.int .i64 (- cmpL a b)) ∧ Below W.heap.size W w'
  ql : ∀ W, Calls Tryd.prog 19 #[.string (bs a), .string (bs b)] W fun e w' => e = .returned (.bool (decide (cmpL a b < 0))) ∧ Below W.heap.size W w'
  q3 : Hid (∀ x y, (x = a ∨ x = b ∨ x = c) → (y = a ∨ y = b ∨ y = c) → ∀ W, Calls Tryd.prog 18 #[.string (bs x), .string (bs y)] W fun e w' => e = .returned (.int .i64 (cmpL x y)) ∧ ∃ n, w' = W.drewN n)
  p1 : cmpL a b = 0 ↔ a = b
  p2 : cmpL a b ≤ 0 → cmpL b c ≤ 0 → cmpL a c ≤ 0
  p3 : und a c = true → cmpL a b < 0 → cmpL b c < 0 → und a b = true

theorem fin3 (l0 l1 l2 : List UInt8) (h0 : okO l0 = true) (h1 : okO l1 = true) (h2 : okO l2 = true) : Fin3 (jn (cln l0)) (jn (cln l1)) (jn (cln l2)) := by
  obtain ⟨-, -, g0, j0⟩ := okO_good l0 h0
  obtain ⟨-, -, g1, j1⟩ := okO_good l1 h1
  obtain ⟨-, -, g2, j2⟩ := okO_good l2 h2
  refine ⟨fun W => ?_, fun W => ?_, hid (fun x y hx hy W => ?_), cmpL_zero _ _, cmpL_trans _ _ _, und_mid _ _ _⟩
  · have := compare_w (jn (cln l1)) (jn (cln l0)) (by omega) (by omega) W
    rwa [cmpL_swap] at this
  · have := less_w (jn (cln l0)) (jn (cln l1)) (by omega) (by omega) W
    rwa [less_jn _ _ g0 g1] at this
  · exact compare_ql x y (by rcases hx with h | h | h <;> rw [h] <;> omega) (by rcases hy with h | h | h <;> rw [h] <;> omega) W

set_option maxHeartbeats 8000000 in
theorem walk_x (l0 l1 l2 : List UInt8) (w : World) (hm : Ml w) (hl : ∀ x ∈ [l0, l1, l2], x.length ≤ 9223372036854775807) :
    Calls Tryd.prog 4 #[.string (bs l0), .string (bs l1), .string (bs l2)] w fun e w' => e = .returned (.bool true) ∧ Below w.heap.size w w' := by
  have q0 := cleans_w w hm
  have KQ : Hid (∀ l W, l ∈ [l0, l1, l2] → Below w.heap.size w W → Calls Tryd.prog 10 #[.string (bs l)] W fun e w' => ∃ ad c, e = .returned (.tuple #[.slice ad (cln l).length c, .int .i64 (err l)]) ∧ (cln l).length ≤ c ∧ c ≤ 9223372036854775807 ∧ Hid (Sl w' ad (cln l)) ∧ Below W.heap.size W w') := fun l W hx hb => clean_sl l (hl l hx) W (hm.below hb)
  have KJ : Hid (∀ l W ad c, okO l = true → Sl W ad (cln l) → (cln l).length ≤ c → Calls Tryd.prog 15 #[.slice ad (cln l).length c] W fun e w' => e = .returned (.string (bs (jn (cln l)))) ∧ Below W.heap.size W w') := hid (fun l W ad c ho hs hc => by
    obtain ⟨h1, h2, h3, h4⟩ := okO_good l ho
    have hcl : 2 * (cln l).length ≤ (jn (cln l)).length + 1 := jn_len_count _ fun p hp => (h3 p hp).1
    exact join_w ad c _ W hs hc (by omega) (by omega))
  have HF : Hid (okO l0 = true → okO l1 = true → okO l2 = true → Fin3 (jn (cln l0)) (jn (cln l1)) (jn (cln l2))) := hid (fun h0 h1 h2 => fin3 l0 l1 l2 h0 h1 h2)
  have HR0 : Hid (∀ w0 : World, Rw [l0, l1, l2] w0.heap.size 0 ((w0.alloc (.cells #[.string ⟨#[]⟩, .string ⟨#[]⟩, .string ⟨#[]⟩] 36)).alloc (.cells #[.string (bs l0), .string (bs l1), .string (bs l2)] 9))) := hid (fun w0 => Rw.start w0 l0 l1 l2)
  clear hm hl
  go_enter Tryd.func4, Tryd.ntmps4
  go_wp2_with (first
    | (go_at_call 9; refine q0.mono ?_; rintro e w0 ⟨rfl, b00⟩))
  have R0 := hid (HR0.out w0)
  have b01 := (b00.alloc b00.size (.cells #[.string ⟨#[]⟩, .string ⟨#[]⟩, .string ⟨#[]⟩] 36)).alloc (by have := b00.size; simp; omega) (.cells #[.string (bs l0), .string (bs l1), .string (bs l2)] 9)
  have hA : w.heap.size ≤ w0.heap.size := b00.size
  generalize (w0.alloc (.cells #[.string ⟨#[]⟩, .string ⟨#[]⟩, .string ⟨#[]⟩] 36)).alloc (.cells #[.string (bs l0), .string (bs l1), .string (bs l2)] 9) = W1 at *
  generalize w0.heap.size = A at *
  clear q0 HR0 b00
  go_loopg [23] 3 (fun g u wr => ∃ i : Nat, i + g = 3 ∧ u = .int .i64 i ∧ Hid (Rw [l0, l1, l2] A i wr) ∧ Hid (∀ k x, k < i → [l0, l1, l2][k]? = some x → okO x = true) ∧ Below w.heap.size w wr)
  case atStart => exact ⟨0, rfl, rfl, R0, hid (fun k x hk _ => absurd hk (Nat.not_lt_zero k)), b01⟩
  case round =>
    obtain ⟨i, hi, rfl, HR, HO, bb⟩ := hrel
    clear R0 b01
    by_cases hlt : i < 3
    · obtain ⟨x, hx⟩ : ∃ x, [l0, l1, l2][i]? = some x := ⟨_, List.getElem?_eq_getElem (by simpa using hlt)⟩
      have k1 := HR.out.src i x hx
      have KX := KQ.out x wr (List.mem_of_getElem? hx) bb
      have z1 := bs_size x
      have HC : Hid (∀ W, Below wr.heap.size wr W → W.cell? ⟨A, i, none⟩ = some (.string ⟨#[]⟩) ∧ W.frozen? ⟨A, i, none⟩ = false) := hid (fun W hb => ⟨(HR.out.below hb).cell i _ (arr_at _ i (by simpa using hlt)), (HR.out.below hb).frozen i⟩)
      have HNX : Hid (∀ W, Below wr.heap.size wr W → Rw [l0, l1, l2] A (i + 1) (W.setCell ⟨A, i, none⟩ (.string (bs (jn (cln x)))))) := hid (fun W hb => (HR.out.below hb).next x hx)
      have HX := hid hx
      clear hx
      by_cases hok : okO x = true
      · obtain ⟨e0, e1, -, e3⟩ := okO_good x hok
        rw [e0] at KX
        have HO2 : Hid (∀ k y, k < i + 1 → [l0, l1, l2][k]? = some y → okO y = true) := hid (fun k y hk hy => by
          by_cases e : k = i
          · rw [e, HX.out] at hy; rw [← Option.some.inj hy]; exact hok
          · exact HO.out k y (by omega) hy)
        have KJx := fun W ad c => KJ.out x W ad c hok
        clear hok e0
        generalize (cln x).length = N at *
        generalize cln x = ps at *
        generalize jn ps = J at *
        go_wp2_with (first
          | (go_at_call 15; refine (KJx _ _ _ hs4.out hc4).mono ?_; rintro e w5 ⟨rfl, b5⟩; have b45 := b4.trans (b5.mono b4.size); have hcA := (HC.out w5 b45).1; have hfA := (HC.out w5 b45).2; have hNX := hid (HNX.out w5 b45); have b05 := bb.trans (b45.mono bb.size))
          | (go_at_call 10; refine KX.mono ?_; rintro e w4 ⟨ad4, c4, rfl, hc4, hm4, hs4, b4⟩))
        have b06 := b05.setCell (p := ⟨A, i, none⟩) hA (.string (bs J))
        go_roundg (3 - (i + 1))
        case rel => exact ⟨i + 1, by omega, by simp, hNX, HO2, b06⟩
        case measure => omega
      · by_cases e0 : err x = 0
        · have e1 : 1000 < x.length := by
            unfold okO at hok
            simp [e0] at hok
            omega
          rw [e0] at KX
          clear hok e0 HC HNX
          generalize (cln x).length = N at *
          generalize cln x = ps at *
          go_wp2_with (first
            | (go_at_call 10; refine KX.mono ?_; rintro e w4 ⟨ad4, c4, rfl, hc4, hm4, hs4, b4⟩; have b04 := bb.trans (b4.mono bb.size)))
          go_ret
          exact ⟨rfl, b04⟩
        · clear hok HC HNX
          generalize err x = z at *
          generalize (cln x).length = N at *
          generalize cln x = ps at *
          go_wp2_with (first
            | (go_at_call 10; refine KX.mono ?_; rintro e w4 ⟨ad4, c4, rfl, hc4, hm4, hs4, b4⟩; have b04 := bb.trans (b4.mono bb.size)))
          go_ret
          exact ⟨rfl, b04⟩
    · obtain rfl : i = 3 := by omega
      have F := HF.out (HO.out 0 l0 (by omega) rfl) (HO.out 1 l1 (by omega) rfl) (HO.out 2 l2 (by omega) rfl)
      have HCell : Hid (∀ W, Below wr.heap.size wr W → W.cell? ⟨A, 0, none⟩ = some (.string (bs (jn (cln l0)))) ∧ W.cell? ⟨A, 1, none⟩ = some (.string (bs (jn (cln l1)))) ∧ W.cell? ⟨A, 2, none⟩ = some (.string (bs (jn (cln l2))))) := hid (fun W hb => ⟨(HR.out.below hb).cell 0 _ rfl, (HR.out.below hb).cell 1 _ rfl, (HR.out.below hb).cell 2 _ rfl⟩)
      clear HF HR HO KQ KJ
      generalize jn (cln l0) = L0 at *
      generalize jn (cln l1) = L1 at *
      generalize jn (cln l2) = L2 at *
      obtain ⟨d0, d1, d2⟩ := HCell.out wr (Below.refl _ _)
      obtain ⟨qc, ql, q3, p1, p2, p3⟩ := F
      go_wp2_with fail
      go_quiet ((go_at_call 18; exact Calls.quiet_of (q3.out _ _ (by simp) (by simp) _)))
      have b7 := bb.drewN' nq
      have HC7 : Hid (∀ W, Below (wr.drewN nq).heap.size (wr.drewN nq) W → W.cell? ⟨A, 0, none⟩ = some (.string (bs L0)) ∧ W.cell? ⟨A, 1, none⟩ = some (.string (bs L1)) ∧ W.cell? ⟨A, 2, none⟩ = some (.string (bs L2))) := hid (fun W hb => HCell.out W (((Below.refl wr.heap.size wr).drewN' nq).trans hb))
      clear d0 d1 d2 HCell q3 bb
      generalize wr.drewN nq = w7 at *
      obtain ⟨d0, d1, d2⟩ := HC7.out w7 (Below.refl _ _)
      have qU : ∀ s W, Calls Tryd.prog 20 #[.string (bs L0), .string (bs s)] W fun e w' => e = .returned (.bool (und L0 s)) ∧ w' = W := fun s W => under_w L0 s W
      have t0 := bs_toList L0
      have t1 := bs_toList L1
      have t2 := bs_toList L2
      by_cases e01 : L0 = L1
      · subst e01
        have hz : cmpL L0 L0 = 0 := cmpL_self _
        rw [hz] at qc ql ⊢
        clear p1 p2 p3 hz
        generalize cmpL L0 L2 = y at *
        rcases Bool.eq_false_or_eq_true (und L0 L2) with hu2 | hu2
        · by_cases hy : y ≤ 0
          · have hy2 : ¬ 0 < y := by omega
            have hy3 : decide (0 < y) = false := decide_eq_false hy2
            go_wp2_with (first
              | (go_at_call 20; refine (qU _ _).mono ?_; rintro e w' ⟨rfl, hw⟩; rw [hw])
              | (go_at_call 18; refine (qc _).mono ?_; rintro e w9 ⟨rfl, b9⟩; obtain ⟨f0, f1, f2⟩ := HC7.out w9 (b8.trans (b9.mono b8.size)); have b09 := b08.trans (b9.mono b08.size))
              | (go_at_call 19; refine (ql _).mono ?_; rintro e w8 ⟨rfl, b8⟩; obtain ⟨c0, c1, c2⟩ := HC7.out w8 b8; have b08 := b7.trans (b8.mono b7.size)))
            go_ret
            exact ⟨by first | rfl | simp, b09⟩
          · have hy3 : decide (y ≤ 0) = false := decide_eq_false hy
            go_wp2_with (first
              | (go_at_call 20; refine (qU _ _).mono ?_; rintro e w' ⟨rfl, hw⟩; rw [hw])
              | (go_at_call 18; refine (qc _).mono ?_; rintro e w9 ⟨rfl, b9⟩; obtain ⟨f0, f1, f2⟩ := HC7.out w9 (b8.trans (b9.mono b8.size)); have b09 := b08.trans (b9.mono b08.size))
              | (go_at_call 19; refine (ql _).mono ?_; rintro e w8 ⟨rfl, b8⟩; obtain ⟨c0, c1, c2⟩ := HC7.out w8 b8; have b08 := b7.trans (b8.mono b7.size)))
            go_ret
            exact ⟨by first | rfl | simp, b09⟩
        · by_cases hy : y ≤ 0
          · have hy2 : ¬ 0 < y := by omega
            have hy3 : decide (0 < y) = false := decide_eq_false hy2
            go_wp2_with (first
              | (go_at_call 20; refine (qU _ _).mono ?_; rintro e w' ⟨rfl, hw⟩; rw [hw])
              | (go_at_call 18; refine (qc _).mono ?_; rintro e w9 ⟨rfl, b9⟩; obtain ⟨f0, f1, f2⟩ := HC7.out w9 (b8.trans (b9.mono b8.size)); have b09 := b08.trans (b9.mono b08.size))
              | (go_at_call 19; refine (ql _).mono ?_; rintro e w8 ⟨rfl, b8⟩; obtain ⟨c0, c1, c2⟩ := HC7.out w8 b8; have b08 := b7.trans (b8.mono b7.size)))
            go_ret
            exact ⟨by first | rfl | simp, b09⟩
          · have hy3 : decide (y ≤ 0) = false := decide_eq_false hy
            go_wp2_with (first
              | (go_at_call 20; refine (qU _ _).mono ?_; rintro e w' ⟨rfl, hw⟩; rw [hw])
              | (go_at_call 18; refine (qc _).mono ?_; rintro e w9 ⟨rfl, b9⟩; obtain ⟨f0, f1, f2⟩ := HC7.out w9 (b8.trans (b9.mono b8.size)); have b09 := b08.trans (b9.mono b08.size))
              | (go_at_call 19; refine (ql _).mono ?_; rintro e w8 ⟨rfl, b8⟩; obtain ⟨c0, c1, c2⟩ := HC7.out w8 b8; have b08 := b7.trans (b8.mono b7.size)))
            go_ret
            exact ⟨by first | rfl | simp, b09⟩
      · have e01b : (L0 == L1) = false := beq_eq_false_iff_ne.2 e01
        have hx0 : ¬ cmpL L0 L1 = 0 := fun h => e01 (p1.1 h)
        clear p1
        generalize cmpL L0 L1 = x at *
        generalize cmpL L1 L2 = y at *
        generalize cmpL L0 L2 = z at *
        have hx0b : (x == 0) = false := beq_eq_false_iff_ne.2 hx0
        by_cases hx : x < 0
        · have x1 : decide (x < 0) = true := decide_eq_true hx
          have x2 : ¬ 0 < x := by omega
          have x2b : decide (0 < x) = false := decide_eq_false x2
          have x3 : ¬ -x < 0 := by omega
          have x3b : decide (-x < 0) = false := decide_eq_false x3
          have x4 : x ≤ 0 := by omega
          rw [x1] at ql
          by_cases hy : y ≤ 0
          · have hz := p2 x4 hy
            have hz2 : ¬ 0 < z := by omega
            have hz3 : decide (0 < z) = false := decide_eq_false hz2
            by_cases hy1 : y < 0
            · rcases Bool.eq_false_or_eq_true (und L0 L2) with hu2 | hu2
              · have hu1 := p3 hu2 hx hy1
                clear p2 p3
                go_wp2_with (first
                  | (go_at_call 20; refine (qU _ _).mono ?_; rintro e w' ⟨rfl, hw⟩; rw [hw])
                  | (go_at_call 18; refine (qc _).mono ?_; rintro e w9 ⟨rfl, b9⟩; obtain ⟨f0, f1, f2⟩ := HC7.out w9 (b8.trans (b9.mono b8.size)); have b09 := b08.trans (b9.mono b08.size))
                  | (go_at_call 19; refine (ql _).mono ?_; rintro e w8 ⟨rfl, b8⟩; obtain ⟨c0, c1, c2⟩ := HC7.out w8 b8; have b08 := b7.trans (b8.mono b7.size)))
                go_ret
                exact ⟨by first | rfl | simp, b09⟩
              · clear p2 p3
                go_wp2_with (first
                  | (go_at_call 20; refine (qU _ _).mono ?_; rintro e w' ⟨rfl, hw⟩; rw [hw])
                  | (go_at_call 18; refine (qc _).mono ?_; rintro e w9 ⟨rfl, b9⟩; obtain ⟨f0, f1, f2⟩ := HC7.out w9 (b8.trans (b9.mono b8.size)); have b09 := b08.trans (b9.mono b08.size))
                  | (go_at_call 19; refine (ql _).mono ?_; rintro e w8 ⟨rfl, b8⟩; obtain ⟨c0, c1, c2⟩ := HC7.out w8 b8; have b08 := b7.trans (b8.mono b7.size)))
                go_ret
                exact ⟨by first | rfl | simp, b09⟩
            · have hy1b : decide (y < 0) = false := decide_eq_false hy1
              clear p2 p3
              rcases Bool.eq_false_or_eq_true (und L0 L2) with hu2 | hu2
              · skip
                go_wp2_with (first
                  | (go_at_call 20; refine (qU _ _).mono ?_; rintro e w' ⟨rfl, hw⟩; rw [hw])
                  | (go_at_call 18; refine (qc _).mono ?_; rintro e w9 ⟨rfl, b9⟩; obtain ⟨f0, f1, f2⟩ := HC7.out w9 (b8.trans (b9.mono b8.size)); have b09 := b08.trans (b9.mono b08.size))
                  | (go_at_call 19; refine (ql _).mono ?_; rintro e w8 ⟨rfl, b8⟩; obtain ⟨c0, c1, c2⟩ := HC7.out w8 b8; have b08 := b7.trans (b8.mono b7.size)))
                go_ret
                exact ⟨by first | rfl | simp, b09⟩
              · skip
                go_wp2_with (first
                  | (go_at_call 20; refine (qU _ _).mono ?_; rintro e w' ⟨rfl, hw⟩; rw [hw])
                  | (go_at_call 18; refine (qc _).mono ?_; rintro e w9 ⟨rfl, b9⟩; obtain ⟨f0, f1, f2⟩ := HC7.out w9 (b8.trans (b9.mono b8.size)); have b09 := b08.trans (b9.mono b08.size))
                  | (go_at_call 19; refine (ql _).mono ?_; rintro e w8 ⟨rfl, b8⟩; obtain ⟨c0, c1, c2⟩ := HC7.out w8 b8; have b08 := b7.trans (b8.mono b7.size)))
                go_ret
                exact ⟨by first | rfl | simp, b09⟩
          · have hyb : decide (y ≤ 0) = false := decide_eq_false hy
            have hy1 : ¬ y < 0 := by omega
            have hy1b : decide (y < 0) = false := decide_eq_false hy1
            clear p2 p3
            rcases Bool.eq_false_or_eq_true (und L0 L2) with hu2 | hu2
            · skip
              go_wp2_with (first
                | (go_at_call 20; refine (qU _ _).mono ?_; rintro e w' ⟨rfl, hw⟩; rw [hw])
                | (go_at_call 18; refine (qc _).mono ?_; rintro e w9 ⟨rfl, b9⟩; obtain ⟨f0, f1, f2⟩ := HC7.out w9 (b8.trans (b9.mono b8.size)); have b09 := b08.trans (b9.mono b08.size))
                | (go_at_call 19; refine (ql _).mono ?_; rintro e w8 ⟨rfl, b8⟩; obtain ⟨c0, c1, c2⟩ := HC7.out w8 b8; have b08 := b7.trans (b8.mono b7.size)))
              go_ret
              exact ⟨by first | rfl | simp, b09⟩
            · skip
              go_wp2_with (first
                | (go_at_call 20; refine (qU _ _).mono ?_; rintro e w' ⟨rfl, hw⟩; rw [hw])
                | (go_at_call 18; refine (qc _).mono ?_; rintro e w9 ⟨rfl, b9⟩; obtain ⟨f0, f1, f2⟩ := HC7.out w9 (b8.trans (b9.mono b8.size)); have b09 := b08.trans (b9.mono b08.size))
                | (go_at_call 19; refine (ql _).mono ?_; rintro e w8 ⟨rfl, b8⟩; obtain ⟨c0, c1, c2⟩ := HC7.out w8 b8; have b08 := b7.trans (b8.mono b7.size)))
              go_ret
              exact ⟨by first | rfl | simp, b09⟩
        · have x1 : decide (x < 0) = false := decide_eq_false hx
          have x2 : 0 < x := by omega
          have x2b : decide (0 < x) = true := decide_eq_true x2
          have x3 : -x < 0 := by omega
          have x3b : decide (-x < 0) = true := decide_eq_true x3
          have x4 : ¬ x ≤ 0 := by omega
          have x4b : decide (x ≤ 0) = false := decide_eq_false x4
          rw [x1] at ql
          clear p2 p3
          rcases Bool.eq_false_or_eq_true (und L0 L2) with hu2 | hu2
          · skip
            go_wp2_with (first
              | (go_at_call 20; refine (qU _ _).mono ?_; rintro e w' ⟨rfl, hw⟩; rw [hw])
              | (go_at_call 18; refine (qc _).mono ?_; rintro e w9 ⟨rfl, b9⟩; obtain ⟨f0, f1, f2⟩ := HC7.out w9 (b8.trans (b9.mono b8.size)); have b09 := b08.trans (b9.mono b08.size))
              | (go_at_call 19; refine (ql _).mono ?_; rintro e w8 ⟨rfl, b8⟩; obtain ⟨c0, c1, c2⟩ := HC7.out w8 b8; have b08 := b7.trans (b8.mono b7.size)))
            go_ret
            exact ⟨by first | rfl | simp, b09⟩
          · skip
            go_wp2_with (first
              | (go_at_call 20; refine (qU _ _).mono ?_; rintro e w' ⟨rfl, hw⟩; rw [hw])
              | (go_at_call 18; refine (qc _).mono ?_; rintro e w9 ⟨rfl, b9⟩; obtain ⟨f0, f1, f2⟩ := HC7.out w9 (b8.trans (b9.mono b8.size)); have b09 := b08.trans (b9.mono b08.size))
              | (go_at_call 19; refine (ql _).mono ?_; rintro e w8 ⟨rfl, b8⟩; obtain ⟨c0, c1, c2⟩ := HC7.out w8 b8; have b08 := b7.trans (b8.mono b7.size)))
            go_ret
            exact ⟨by first | rfl | simp, b09⟩

theorem walk (s t u : ByteArray) (w : World) (hm : Ml w) (hs : s.size ≤ maxLen) (ht : t.size ≤ maxLen) (hu : u.size ≤ maxLen) :
    Calls Tryd.prog 4 #[.string s, .string t, .string u] w fun e w' => e = .returned (.bool true) ∧ Below w.heap.size w w' := by
  rw [bs_of s] at hs ⊢
  rw [bs_of t] at ht ⊢
  rw [bs_of u] at hu ⊢
  rw [bs_size] at hs ht hu
  unfold maxLen at hs ht hu
  exact walk_x _ _ _ w hm (fun x hx => by
    simp at hx
    rcases hx with h | h | h <;> subst h <;> assumption)

set_option maxRecDepth 100000 in
theorem lifted (os : Os) (started : os.Started) (H : Type) (enc : TypeId × Value → H) :
    ReturnsInHanded {} Tryd.checked os 4 .any (fun w args => (Rows.pathOrderSpec.pre enc Tryd.prog Tryd.f4 [] false w args ∧ laidMetH Tryd.prog two w) ∧ sizedMet enc Tryd.prog Tryd.f4 (OpenSpec.ofChange Rows.pathOrderSpec) false w args)
      (Rows.pathOrderSpec.post enc Tryd.prog Tryd.f4 false true false false) := by
  refine handed_shaped (C := Tryd.checked) (X := fun w _ => laidMetH Tryd.prog two w) (fun _ _ _ hh h => h.of_heap hh) own started (by kernel_rfl) Tryd.func4
    (ChangeSpec.witness_at (enc := enc) (C := Tryd.checked) (os := os) (X := fun w _ => laidMetH Tryd.prog two w) false
      (start os)
      #[.string ⟨#[]⟩, .string ⟨#[]⟩, .string ⟨#[]⟩] 8 rfl (by kernel_rfl) (by kernel_rfl) (by kernel_rfl) (by kernel_rfl) (by kernel_rfl) (laidMet_of_run' 8 (by kernel_rfl) (by kernel_rfl))) ?_
  intro W base args ds gs before hval0 hW hsz hsh
  have hval : ∀ (j : Nat) t v, Tryd.f4.params[j]? = some t → args[j]? = some v → Value.okWide Tryd.prog W .any base t v := hval0
  have hW' := hW
  obtain ⟨p, q, hA0, hV0, rfl, hfz, hnd⟩ := hW
  have hA : DataW.TrodAll enc Tryd.prog W 0 (fun _ => true) true Tryd.f4.params.toList args.toList ds p := hA0
  have hV : DataW.TrodVars enc Tryd.prog W (fun _ => true) [] gs q := hV0
  rw [Tryd.params4] at hA hval
  obtain ⟨v0, vs0, d0, ds0, p0, q0, hargs, rfl, rfl, h0, r0⟩ := trodAll_cons hA
  obtain ⟨v1, vs1, d1, ds1, p1, q1, rfl, rfl, rfl, h1, r1⟩ := trodAll_cons r0
  obtain ⟨v2, vs2, d2, ds2, p2, q2, rfl, rfl, rfl, h2, r2⟩ := trodAll_cons r1
  obtain ⟨rfl, rfl, rfl⟩ := trodAll_nil r2
  obtain rfl : args = #[v0, v1, v2] := by cases args; simp_all
  obtain ⟨rfl, rfl⟩ : gs = [] ∧ q = [] := by
    cases gs with
    | nil => exact ⟨rfl, hV⟩
    | cons g r => exact absurd hV (by intro h; cases h)
  obtain ⟨s0, rfl, rfl, rfl, m0⟩ := Go.ChangeMaps.open_string Tryd.underlying9 (hval 0 9 v0 rfl rfl) h0
  obtain ⟨s1, rfl, rfl, rfl, m1⟩ := Go.ChangeMaps.open_string Tryd.underlying9 (hval 1 9 v1 rfl rfl) h1
  obtain ⟨s2, rfl, rfl, rfl, m2⟩ := Go.ChangeMaps.open_string Tryd.underlying9 (hval 2 9 v2 rfl rfl) h2
  clear hA0 hval0
  refine (walk s0 s1 s2 W (shaped hsh) m0 m1 m2).mono fun e W' ⟨he, st⟩ => ?_
  subst he
  exact ⟨_, rfl, _, _, _, [], _, [], hW', trodAll_mk1 (shut_bool Tryd.underlying4 _), (trodAll_cons_mk (Go.ChangeMaps.shut_string Tryd.underlying9 m0) (trodAll_cons_mk (Go.ChangeMaps.shut_string Tryd.underlying9 m1) (trodAll_cons_mk (Go.ChangeMaps.shut_string Tryd.underlying9 m2) trodAll_mk0))), rfl, st.frame _, fun h => by cases h⟩

theorem over : Rows.PathOrderSaid :=
  OpenClaim.holds_of_wide 4 Tryd.f4 rfl rfl rfl rfl rfl rfl rfl ⟨rfl, rfl, rfl, rfl, rfl⟩ rfl rfl rfl rfl rfl (by kernel_rfl) Tryd.func4 (by kernel_rfl)
    (of_decide_eq_true (by kernel_rfl)) (by unfold Func.isWrapper; rw [if_neg (of_decide_eq_false (by kernel_rfl))]; exact ⟨rfl, rfl⟩)
    (fun os started H enc _ => lifted os started H enc)

theorem carded : Rows.PathOrderCardSaid :=
  Claim7.holds_tied_plain_at .later [] _ _ _ _
    over (fun _ h => by cases h) (by kernel_rfl) (fun _ h => by cases h) pathOrder_row_tie rfl ⟨rfl, rfl⟩ (by kernel_rfl) rfl
    (fun f fn hf hfn => by
      obtain rfl : f = 4 := Option.some.inj ((show Tryd.prog.funcNamed Tryd.f4.name = some 4 by kernel_rfl).symm.trans hf) |>.symm
      obtain rfl : fn = Tryd.f4 := (Option.some.inj (Tryd.func4.symm.trans hfn)).symm
      refine ⟨by kernel_rfl, fun j t ht => ?_⟩
      have hall : ∀ t ∈ Tryd.f4.params, Tryd.prog.wantsStandIn t = false := by
        rw [Tryd.params4]
        intro t ht
        simp at ht
        subst ht; kernel_rfl
      exact hall t (Array.mem_of_getElem? ht))
    (by kernel_rfl)

end Go.Proofs.YtmeaiplinkodiaaDoor.pathOrder
namespace Go.Proofs.YtmeaiplinkodiaaDoor
theorem pathOrder_holds : Rows.PathOrderCardSaid := pathOrder.carded
#print axioms pathOrder_holds
end Go.Proofs.YtmeaiplinkodiaaDoor
