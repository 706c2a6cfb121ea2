/-
  Contract: withParents where directories are made; its first half.
-/
import Derived.Test.YtojnniacmmcddaaDoorP1
import Derived.Deep.CutBlock
import Derived.Deep.DeepCutAuto
namespace Go.Proofs.YtojnniacmmcddaaDoor
open Go.RowKit
open Go.Lib hiding intOf
set_option linter.unusedVariables false
set_option linter.unusedSimpArgs false

theorem Ow.below {W W' : World} {B : Nat} {v : Value} {L : List Rw} (h : Ow W B v L) (b : Below W.heap.size W W') : Ow W' B v L := by
  refine ⟨h.1, ?_⟩
  rcases h.2 with ⟨e1, e2⟩ | ⟨g, cap, cur, e1, e2, e3, e4, e5, e6, e7⟩
  · exact .inl ⟨e1, e2⟩
  · exact .inr ⟨g, cap, cur, e1, e2, by rw [b.block g (Array.getElem?_eq_some_iff.1 e3).1]; exact e3, e4, e5, e6, e7⟩

theorem Two.nextB {w W W' : World} {C D : Array Value} {t u : TypeId} (h : Two w W C D t u) (b : Below (w.heap.size + 2) W W') : Two w W' C D t u :=
  ⟨by rw [b.block _ (by omega)]; exact h.1, by rw [b.block _ (by omega)]; exact h.2.1, h.2.2.1.trans (b.mono (by omega)), Nat.le_trans h.2.2.2 b.size⟩

/-- the rows of the directories that are made, the nearest first -/
def mds (E : Nat → List UInt8) (i : Nat) : List Rw := (List.range i).map fun k => mkR (E k)
theorem mds_succ (E : Nat → List UInt8) (i : Nat) : mds E (i + 1) = mds E i ++ [mkR (E i)] := by
  unfold mds; rw [List.range_succ, List.map_append]; rfl
theorem mds_length (E : Nat → List UInt8) (i : Nat) : (mds E i).length = i := by unfold mds; simp

/-- rows that may be written: what they are when they are numbered -/
def numb (nx : Int) (L : List Rw) (i : Nat) : List Rw := L.mapIdx fun k r => if k < i then { r with id := nx + (k : Int) } else r
theorem numb_zero (nx : Int) (L : List Rw) : numb nx L 0 = L := by
  unfold numb
  apply List.ext_getElem?
  intro k
  rw [List.getElem?_mapIdx]
  simp
theorem numb_length (nx : Int) (L : List Rw) (i : Nat) : (numb nx L i).length = L.length := by unfold numb; simp
theorem numb_get (nx : Int) (L : List Rw) (i : Nat) (r : Rw) (h : L[i]? = some r) : (numb nx L i)[i]? = some r := by
  unfold numb
  rw [List.getElem?_mapIdx, h]
  simp
theorem numb_succ (nx : Int) (L : List Rw) (i : Nat) (r : Rw) (h : L[i]? = some r) : (numb nx L i).set i { r with id := nx + (i : Int) } = numb nx L (i + 1) := by
  apply List.ext_getElem?
  intro k
  unfold numb
  rw [List.getElem?_set, List.getElem?_mapIdx, List.getElem?_mapIdx]
  have hlt := (List.getElem?_eq_some_iff.1 h).1
  by_cases e : i = k
  · subst e
    rw [if_pos rfl, h]
    simp [hlt]
  · rw [if_neg e]
    cases hk : L[k]? with
    | none => rfl
    | some q =>
      by_cases c : k < i
      · simp [c, Nat.lt_succ_of_lt c]
      · have : ¬ k < i + 1 := by omega
        simp [c, this]

theorem Hr.rs {w : World} {g : Nat} {L : List Rw} (h : Hr w g L) (hg : g < w.heap.size) : Rs w (some ⟨g, 0, none⟩) L :=
  .inr ⟨g, 0, rfl, hg, fun j v hv => by rw [Nat.zero_add]; exact (h j v hv).1⟩

theorem Hr.below {w w' : World} {g : Nat} {L : List Rw} (h : Hr w g L) (b : Below w.heap.size w w') (hg : g < w.heap.size) : Hr w' g L := fun j v hv => by
  have := h j v hv
  refine ⟨by rw [b.cell (p := ⟨g, j, none⟩) hg]; exact this.1, ?_⟩
  have e := b.block g hg
  have h2 := this.2
  unfold World.frozen? at h2 ⊢
  simp only [e]
  exact h2

theorem wpList_row2 {W' : World} {ops : Array Oper} {rest : List Oper} {o : Oper} {a : Act} {Q : Exit → Act → World → Prop} (hgd : o.guard = none) (s x : Operand)
    (ho : o.op = .call { callee := .builtin .append, args := #[s, x], argTypes := #[24, 24] })
    (W : World) (B : Nat) (v : Value) (L : List Rw) (r : Rw) (hW : W' = W.alloc (.cells r.cs.toArray 40)) (hs : a.eval s = v) (hown : Ow W B v L) (hB : B ≤ W.heap.size) (hx : a.eval x = .slice (some ⟨W.heap.size, 0, none⟩) 1 1) (hl : L.length ≤ 1000000)
    (h : ∀ g' c' w', Ow w' B (.slice (some ⟨g', 0, none⟩) (L.length + 1) c') (L ++ [r]) → Below B W w' → wpList Tryd.prog ops Q rest (a.put o.dst (.slice (some ⟨g', 0, none⟩) (L.length + 1) c')) w') : wpList Tryd.prog ops Q (o :: rest) a W' := by
  subst hW
  exact wpList_row1 hgd s x ho B v L r hs hown hB hx hl h

theorem wrap_nx {nx : Int} {i m : Nat} (h : 0 ≤ nx ∧ nx ≤ 1000000000000) (h3 : i ≤ m) (h4 : m ≤ 1000) : wrap64 (nx + (i : Int)) = nx + (i : Int) := by unfold wrap64; omega
theorem wrapk_nx {nx : Int} {m : Nat} (h : 0 ≤ nx ∧ nx ≤ 1000000000000) (h4 : m ≤ 1000) : IntKind.i64.wrap (nx + (m : Int)) = nx + (m : Int) := by rw [IntKind.wrap_i64]; omega
theorem wrap_i1 {i m : Nat} (h3 : i ≤ m) (h4 : m ≤ 1000) : wrap64 ((i : Int) + 1) = (i : Int) + 1 := by unfold wrap64; omega

def strLen : Value → Nat
  | .string b => b.size
  | _ => 0

set_option maxRecDepth 20000 in
set_option maxHeartbeats 4000000 in
theorem wp_core (ad : Option Addr) (cap n m : Nat) (nx : Int) (s : List UInt8) (E : Nat → List UInt8) (X : Nat → Nat) (w : World) (K : List Rw) (hn : n ≤ 1000000) (hcap : n ≤ cap) (hm : 0 < m) (hm2 : m ≤ 1000) (hnx : 0 ≤ nx ∧ nx ≤ 1000000000000)
    (KU0 : Hid (∀ W, Calls Tryd.prog 15 #[.string (bs s)] W fun e w' => e = .returned (.tuple #[.string (bs (E 0)), .bool true]) ∧ w' = W))
    (KU : Hid (∀ i, i < m → ∀ W, Calls Tryd.prog 15 #[.string (bs (E i))] W fun e w' => e = .returned (.tuple #[.string (bs (E (i + 1))), .bool true]) ∧ w' = W))
    (KQ : Hid (∀ i, i < m → ∀ W, Below w.heap.size w W → Calls Tryd.prog 51 #[.agg #[.slice ad n cap, .int .i64 nx], .string (bs (E i))] W fun e w' => e = .returned (.tuple #[.int .i64 (X i : Int), .bool false]) ∧ Below W.heap.size W w'))
    (hE : Hid (∀ i, i < m → (E i).isEmpty = false)) (hX : Hid (∀ i, i < m → X i ≤ n)) (hD : Hid (∀ i, i < m → (E (i + 1)).length < (E i).length))
    (KZ : Hid (E m = [] ∨ ((E m).isEmpty = false ∧ X m < n ∧ (∀ W, Below w.heap.size w W → Calls Tryd.prog 51 #[.agg #[.slice ad n cap, .int .i64 nx], .string (bs (E m))] W fun e w' => e = .returned (.tuple #[.int .i64 (X m : Int), .bool true]) ∧ Below W.heap.size W w') ∧ ∃ (r : Rw) (b o : Nat), r.kind = 4 ∧ ad = some ⟨b, o, none⟩ ∧ (∀ W, Below w.heap.size w W → W.rangeAt b (o + X m * 13) r.cs))))
    (KC : Hid (∀ W g gr cr, Below w.heap.size w W → W.cell? ⟨g, 0, none⟩ = some (.slice ad (X (m - 1)) cap) → W.cell? ⟨g, 1, none⟩ = some (.slice (some ⟨gr, 0, none⟩) m cr) → W.cell? ⟨g, 2, none⟩ = some (.slice (lowAt ad cap (X (m - 1))) (n - X (m - 1)) (cap - X (m - 1))) → Rs W (some ⟨gr, 0, none⟩) (numb nx (mds E m).reverse m) →
      Calls Tryd.prog 53 #[.slice (some ⟨g, 0, none⟩) 3 3] W fun e w' => ∃ gd c, e = .returned (.slice (some ⟨gd, 0, none⟩) K.length c) ∧ Rs w' (some ⟨gd, 0, none⟩) K ∧ W.heap.size ≤ gd ∧ K.length ≤ c ∧ Below W.heap.size W w')) :
    Calls Tryd.prog 30 #[.agg #[.slice ad n cap, .int .i64 nx], .string (bs s)] w fun e w' => ∃ gd c, e = .returned (.tuple #[.agg #[.slice (some ⟨gd, 0, none⟩) K.length c, .int .i64 (nx + (m : Int))], .int .i64 0]) ∧ Rs w' (some ⟨gd, 0, none⟩) K ∧ w.heap.size ≤ gd ∧ K.length ≤ c ∧ Below w.heap.size w w' := by
  have H0 := Two.mk0 w #[.slice ad n cap, .int .i64 nx] #[.slice none 0 0, .int .i64 0] 26 26
  have O0 : Ow ((w.alloc (.cells #[.slice ad n cap, .int .i64 nx] 26)).alloc (.cells #[.slice none 0 0, .int .i64 0] 26)) (w.heap.size + 2) (.slice none 0 0) (mds E 0) := ⟨rfl, .inl ⟨rfl, rfl⟩⟩
  go_enter Tryd.func30, Tryd.ntmps30
  go_upto_block 0 with (go_at_call 15; refine (KU0.out _).mono ?_; rintro e w' ⟨rfl, hw⟩; rw [hw])
  generalize (w.alloc _).alloc _ = w0 at *
  go_cut [6, 7] (fun s6 s7 wx => ∃ g c, s6 = .slice (some ⟨g, 0, none⟩) m c ∧ s7 = .int .i64 (X (m - 1) : Int) ∧ Hid (Two w wx #[.slice ad n cap, .int .i64 nx] #[.slice none 0 0, .int .i64 0] 26 26) ∧ Hid (Ow wx (w.heap.size + 2) (.slice (some ⟨g, 0, none⟩) m c) (mds E m)))
  case first =>
    go_wp2_with fail
    go_loopw [6, 7, 8] (fun x6 x7 x8 wr => ∃ (i : Nat) (z : Int), i ≤ m ∧ x8 = .string (bs (E i)) ∧ x7 = .int .i64 z ∧ (0 < i → z = (X (i - 1) : Int)) ∧ Hid (Two w wr #[.slice ad n cap, .int .i64 nx] #[.slice none 0 0, .int .i64 0] 26 26) ∧ Hid (Ow wr (w.heap.size + 2) x6 (mds E i))) (fun _ _ x8 _ => strLen x8)
    case atStart => exact ⟨0, 0, Nat.zero_le _, rfl, rfl, fun h => by omega, H0, O0⟩
    case round =>
      obtain ⟨i, z, hi, rfl, rfl, hz, H1, O1⟩ := hrel
      have ht := bs_toList (E i)
      by_cases hlt : i < m
      · have hE1 := hE.out i hlt
        have KU1 : Hid (∀ W, Calls Tryd.prog 15 #[.string (bs (E i))] W fun e w' => e = .returned (.tuple #[.string (bs (E (i + 1))), .bool true]) ∧ w' = W) := KU.out i hlt
        have KQ1 : Hid (∀ W, Below w.heap.size w W → Calls Tryd.prog 51 #[.agg #[.slice ad n cap, .int .i64 nx], .string (bs (E i))] W fun e w' => e = .returned (.tuple #[.int .i64 (X i : Int), .bool false]) ∧ Below W.heap.size W w') := KQ.out i hlt
        have hml : Hid ((mds E i).length ≤ 1000000) := (by show _ ≤ _; rw [mds_length]; omega)
        have hD1 := hD.out i hlt
        have hC := cells_of H1.out.1
        go_upto_region 11 with (go_at_call 51; refine (KQ1.out _ H1.out.2.2.1).mono ?_; rintro e w2 ⟨rfl, b2⟩)
        have H2 : Hid (Two w w2 _ _ _ _) := H1.out.next b2
        have O2 : Hid (Ow w2 _ _ _) := O1.out.below b2
        clear hC b2
        have hB2 : Hid (w.heap.size + 2 ≤ w2.heap.size) := H2.out.2.2.2
        go_wp2_with (first
          | (at_builtin; refine wpList_row2 rfl _ _ rfl w2 (w.heap.size + 2) _ (mds E i) (mkR (E i)) rfl rfl O2.out hB2.out rfl hml.out ?_; intro g3 c3 w3 O3 b3)
          | (go_at_call 15; refine (KU1.out _).mono ?_; rintro e w' ⟨rfl, hw⟩; rw [hw]))
        go_roundw
        case rel =>
          refine ⟨i + 1, (X i : Int), hlt, rfl, rfl, fun _ => rfl, H2.out.nextB b3, ?_⟩
          show Ow _ _ _ _
          rw [mds_succ]
          exact O3
        case measure => show (bs (E (i + 1))).size < (bs (E i)).size; rw [bs_size, bs_size]; exact hD1
      · obtain rfl : i = m := by omega
        have hz1 := hz hm
        rw [hz1]
        have hform : ∃ g c, u6 = .slice (some ⟨g, 0, none⟩) i c := by
          rcases O1.out.2 with ⟨e1, e2⟩ | ⟨g, c, cur, e1, _⟩
          · rw [mds_length] at e2; omega
          · rw [mds_length] at e1; exact ⟨g, c, e1⟩
        obtain ⟨g, c, rfl⟩ := hform
        rcases KZ.out with h0 | ⟨h0, hXn, KE, r, b, o, hk, rfl, hB⟩
        · rw [h0] at ht ⊢
          clear KU KQ hE hX hD KZ KU0 KC
          go_wp2_with fail
          go_meet
          case rel => exact ⟨g, c, rfl, rfl, H1, O1⟩
        · have KE1 : Hid (∀ W, Below w.heap.size w W → Calls Tryd.prog 51 #[.agg #[.slice (some ⟨b, o, none⟩) n cap, .int .i64 nx], .string (bs (E i))] W fun e w' => e = .returned (.tuple #[.int .i64 (X i : Int), .bool true]) ∧ Below W.heap.size W w') := KE
          have HB : Hid (∀ W, Below w.heap.size w W → W.rangeAt b (o + X i * 13) r.cs) := hB
          have KD : Hid (∀ W, Calls Tryd.prog 29 #[.agg r.cs.toArray] W fun e w' => e = .returned (.bool true) ∧ Below W.heap.size W w') := fun W => by
            have := isDir_w r W
            rwa [decide_eq_true hk] at this
          unfold Rw.cs at KD
          have h1 : (0 : Int) ≤ (X i : Int) := by omega
          have h2 : (X i : Int) < (n : Int) := by omega
          clear KU KQ hE hX hD KZ KU0 KC KE hB hk hXn
          have hC := cells_of H1.out.1
          go_upto_region 7 with (go_at_call 51; refine (KE1.out _ H1.out.2.2.1).mono ?_; rintro e w2 ⟨rfl, b2⟩)
          have H2 : Hid (Two w w2 _ _ _ _) := H1.out.next b2
          have O2 : Hid (Ow w2 _ _ _) := O1.out.below b2
          have c2 := cells_of H2.out.1
          have hR := HB.out _ H2.out.2.2.1
          have x0 : w2.cell? ⟨b, o + X i * 13, none⟩ = some (.string (bs r.p)) := hR 0 _ rfl
          have x1 : w2.cell? ⟨b, o + X i * 13 + 1, none⟩ = some (.int .i64 r.id) := hR 1 _ rfl
          have x2 : w2.cell? ⟨b, o + X i * 13 + 2, none⟩ = some (.int .i64 r.kind) := hR 2 _ rfl
          have x3 : w2.cell? ⟨b, o + X i * 13 + 3, none⟩ = some (.int .i64 r.mode) := hR 3 _ rfl
          have x4 : w2.cell? ⟨b, o + X i * 13 + 4, none⟩ = some (.int .i64 0) := hR 4 _ rfl
          have x5 : w2.cell? ⟨b, o + X i * 13 + 5, none⟩ = some (.int .i64 0) := hR 5 _ rfl
          have x6 : w2.cell? ⟨b, o + X i * 13 + 6, none⟩ = some (.int .i64 0) := hR 6 _ rfl
          have x7 : w2.cell? ⟨b, o + X i * 13 + 7, none⟩ = some (.string ⟨#[]⟩) := hR 7 _ rfl
          have x8 : w2.cell? ⟨b, o + X i * 13 + 8, none⟩ = some (.string ⟨#[]⟩) := hR 8 _ rfl
          have x9 : w2.cell? ⟨b, o + X i * 13 + 9, none⟩ = some (.string ⟨#[]⟩) := hR 9 _ rfl
          have x10 : w2.cell? ⟨b, o + X i * 13 + 10, none⟩ = some (.slice none 0 0) := hR 10 _ rfl
          have x11 : w2.cell? ⟨b, o + X i * 13 + 11, none⟩ = some (.int .i64 r.size) := hR 11 _ rfl
          have x12 : w2.cell? ⟨b, o + X i * 13 + 12, none⟩ = some (.bool r.made) := hR 12 _ rfl
          clear HB hR hC b2
          go_wp2_with (go_at_call 29; refine (KD.out _).mono ?_; rintro e w3 ⟨rfl, b3⟩; have H3 : Hid (Two w w3 _ _ _ _) := H2.out.next b3; have O3 : Hid (Ow w3 _ _ _) := O2.out.below b3)
          go_meet
          case rel => exact ⟨g, c, rfl, rfl, H3, O3⟩
  case rest =>
    obtain ⟨g, c, rfl, rfl, H1, O1⟩ := hcut
    clear KU KQ hE hD KZ KU0 H0 O0
    have hXm := hX.out (m - 1) (by omega)
    clear hX
    generalize X (m - 1) = x at *
    have hm3 : (m : Int) ≠ 0 := by omega
    have hgB : w.heap.size + 2 ≤ g ∧ g < wc.heap.size := by
      rcases O1.out.2 with ⟨e1, _⟩ | ⟨g', cp, cur, e1, e2, e3, _⟩
      · cases e1
      · have hgg : g = g' := congrArg (fun v : Value => match v with | .slice (some a) _ _ => a.block | _ => 0) e1
        rw [hgg]; exact ⟨e2, (Array.getElem?_eq_some_iff.1 e3).1⟩
    have KR : Hid (Calls Tryd.prog 52 #[.slice (some ⟨g, 0, none⟩) m c] wc fun e w' => e = .returned (.tuple #[]) ∧ Hr w' g (mds E m).reverse ∧ wc.grownBy w' (some g)) := by
      have := reverse_w g c (mds E m) wc O1.out.hr (by rw [mds_length]; omega)
      rw [mds_length] at this
      exact this
    go_upto_region 15 with (go_at_call 52; refine KR.out.mono ?_; rintro e w4 ⟨rfl, R4, b4⟩)
    have b5 : Below (w.heap.size + 2) wc w4 := (Below.refl _ _).grown b4 (by have := H1.out.2.2.2; omega) (fun k hk => by cases hk; omega)
    have H4 : Hid (Two w w4 _ _ _ _) := H1.out.nextB b5
    have g4 : g < w4.heap.size := Nat.lt_of_lt_of_le hgB.2 b5.size
    have hRl : Hid ((mds E m).reverse.length = m) := (by show _ = _; rw [List.length_reverse, mds_length])
    have R5 : Hid (Hr w4 g (numb nx (mds E m).reverse 0)) := (by show Hr _ _ _; rw [numb_zero]; exact R4)
    clear R4 b4 b5 O1 H1 KR
    generalize (mds E m).reverse = RR at *
    go_wp2_with fail
    go_loopw [58] (fun x58 wr => ∃ i : Nat, x58 = .int .i64 (i : Int) ∧ i ≤ m ∧ g < wr.heap.size ∧ Hid (Two w wr #[.slice ad n cap, .int .i64 nx] #[.slice none 0 0, .int .i64 0] 26 26) ∧ Hid (Hr wr g (numb nx RR i))) (fun x58 _ => m - (intOf x58).toNat)
    case atStart => exact ⟨0, rfl, Nat.zero_le _, g4, H4, R5⟩
    case round =>
      obtain ⟨i, rfl, hi, gi, H5, R6⟩ := hrel
      by_cases hlt : i < m
      · obtain ⟨r, hr⟩ : ∃ r, RR[i]? = some r := ⟨_, List.getElem?_eq_getElem (by have := hRl.out; omega)⟩
        have hc := R6.out (i * 13 + 1) _ (flat_get _ i 1 r _ (numb_get nx RR i r hr) rfl)
        have hc1 := hc.1
        have hc2 := hc.2
        have R7 : Hid (Hr (wr.setCell ⟨g, i * 13 + 1, none⟩ (.int .i64 (nx + (i : Int)))) g (numb nx RR (i + 1))) := (by
          have := R6.out.setId i r (numb_get nx RR i r hr) (nx + (i : Int))
          rw [numb_succ nx RR i r hr] at this
          exact this)
        have H6 : Hid (Two w (wr.setCell ⟨g, i * 13 + 1, none⟩ (.int .i64 (nx + (i : Int)))) #[.slice ad n cap, .int .i64 nx] #[.slice none 0 0, .int .i64 0] 26 26) := H5.out.nextB ((Below.refl _ _).setCell (by show w.heap.size + 2 ≤ g; omega) _)
        have hT := cells_of H5.out.1
        have h1 : (0 : Int) ≤ (i : Int) := Int.natCast_nonneg i
        have h2 : (i : Int) < (m : Int) := Int.ofNat_lt.2 hlt
        clear hr hc hm3 hw hgB g4
        go_upto_region 19 with fail
        clear hc1 hc2
        go_wp2_with fail
        go_roundw
        case rel => exact ⟨i + 1, by simp, hlt, by simpa using gi, H6, R7⟩
        case measure => simp [intOf]; omega
      · obtain rfl : i = m := Nat.le_antisymm hi (Nat.not_lt.1 hlt)
        have q1 := fun W => run_lowAt W ad n cap x hXm
        have q2 := fun W => run_highAt W ad n cap x (Nat.le_trans hXm hcap)
        have hj1 : (0 : Int) ≤ (x : Int) := Int.natCast_nonneg x
        have hj2 : (x : Int) ≤ (n : Int) := Int.ofNat_le.2 hXm
        have hj3 : (x : Int) ≤ (cap : Int) := Int.ofNat_le.2 (Nat.le_trans hXm hcap)
        have L0 := H5.out
        have hb := below_box wr (.cells #[.slice ad x cap, .slice (some ⟨g, 0, none⟩) i c, .slice (lowAt ad cap x) (n - x) (cap - x)] 24)
        have LA : Hid (Two w (wr.alloc (.cells #[.slice ad x cap, .slice (some ⟨g, 0, none⟩) i c, .slice (lowAt ad cap x) (n - x) (cap - x)] 24)).drew #[.slice ad n cap, .int .i64 nx] #[.slice none 0 0, .int .i64 0] 26 26) := (L0.next hb).drew
        have lt0 : w.heap.size + 2 ≤ wr.heap.size := L0.2.2.2
        have szA : Hid ((wr.alloc (.cells #[.slice ad x cap, .slice (some ⟨g, 0, none⟩) i c, .slice (lowAt ad cap x) (n - x) (cap - x)] 24)).drew.heap.size = wr.heap.size + 1) := (by show (wr.alloc _).heap.size = _; exact size_box _ _)
        have KC1 : Hid (Calls Tryd.prog 53 #[.slice (some ⟨wr.heap.size, 0, none⟩) 3 3] (wr.alloc (.cells #[.slice ad x cap, .slice (some ⟨g, 0, none⟩) i c, .slice (lowAt ad cap x) (n - x) (cap - x)] 24)).drew fun e w' => ∃ gd c6, e = .returned (.slice (some ⟨gd, 0, none⟩) K.length c6) ∧ Rs w' (some ⟨gd, 0, none⟩) K ∧ (wr.alloc (.cells #[.slice ad x cap, .slice (some ⟨g, 0, none⟩) i c, .slice (lowAt ad cap x) (n - x) (cap - x)] 24)).drew.heap.size ≤ gd ∧ K.length ≤ c6 ∧ Below (wr.alloc (.cells #[.slice ad x cap, .slice (some ⟨g, 0, none⟩) i c, .slice (lowAt ad cap x) (n - x) (cap - x)] 24)).drew.heap.size (wr.alloc (.cells #[.slice ad x cap, .slice (some ⟨g, 0, none⟩) i c, .slice (lowAt ad cap x) (n - x) (cap - x)] 24)).drew w') := by
          have hh : (wr.alloc (.cells #[.slice ad x cap, .slice (some ⟨g, 0, none⟩) i c, .slice (lowAt ad cap x) (n - x) (cap - x)] 24)).drew.heap[wr.heap.size]? = some (.cells #[.slice ad x cap, .slice (some ⟨g, 0, none⟩) i c, .slice (lowAt ad cap x) (n - x) (cap - x)] 24) := heap_alloc_new wr _
          refine (KC.out _ _ g c LA.out.2.2.1 (cells_of hh 0) (cells_of hh 1) (cells_of hh 2) ((R6.out.below hb.drew gi).rs (Nat.lt_of_lt_of_le gi hb.drew.size))).mono ?_
          rintro e w' ⟨gd, c6, h1, h2, h3, h4, h5⟩
          exact ⟨gd, c6, h1, h2, h3, h4, h5⟩
        have HS : Hid (∀ W, Two w W #[.slice ad n cap, .int .i64 nx] #[.slice none 0 0, .int .i64 0] 26 26 → W.cell? ⟨w.heap.size, 0, none⟩ = some (.slice ad n cap) ∧ W.cell? ⟨w.heap.size, 1, none⟩ = some (.int .i64 nx)) := fun W h => ⟨cells_of h.1 0, cells_of h.1 1⟩
        have HK : Hid (∀ W p v, p.block = w.heap.size + 1 → (W.cell? ⟨w.heap.size, 0, none⟩ = some (.slice ad n cap) ∧ W.cell? ⟨w.heap.size, 1, none⟩ = some (.int .i64 nx)) → (fun W : World => W.cell? ⟨w.heap.size, 0, none⟩ = some (.slice ad n cap) ∧ W.cell? ⟨w.heap.size, 1, none⟩ = some (.int .i64 nx)) (World.setCell W p v)) := fun W p v hp h => ⟨by rw [World.cell?_setCell_far _ _ _ _ (by rw [hp]; show _ ≠ w.heap.size; omega)]; exact h.1, by rw [World.cell?_setCell_far _ _ _ _ (by rw [hp]; show _ ≠ w.heap.size; omega)]; exact h.2⟩
        have h3 := HS.out _ L0.drew
        have hA := HS.out _ LA.out
        clear hm3 hw hgB g4 gi hb R5 R6 H4 H5 L0 KC
        go_upto_region 20 with fail
        go_region_held3 (fun W => W.cell? ⟨w.heap.size, 0, none⟩ = some (.slice ad n cap) ∧ W.cell? ⟨w.heap.size, 1, none⟩ = some (.int .i64 nx)) (first | assumption | exact h3 | exact hA | exact HK.out _ _ _ rfl (HK.out _ _ _ rfl h5) | exact HK.out _ _ _ rfl h5) (
          (go_at_call 53; refine KC1.out.mono ?_; rintro e w5 ⟨gd, c5, rfl, R5, G5, C5, b5⟩; have L5 := LA.out.next b5; have h5 := HS.out _ L5; have d3 := cells_of L5.2.1 0; have d4 := cells_of L5.2.1 1; have g3 := froz_of L5.2.1))
        rw [wrapk_nx hnx hm2]
        have hg2 : gd ≠ w.heap.size + 1 := by have := szA.out; omega
        have hg3 : w.heap.size ≤ gd := by have := szA.out; omega
        have e2 := two_set L5.2.1 (.slice (some ⟨gd, 0, none⟩) K.length c5) (.int .i64 (nx + (i : Int)))
        have R6 := R5.far (gd := gd) rfl (w.heap.size + 1) hg2 (.slice (some ⟨gd, 0, none⟩) K.length c5) (.int .i64 (nx + (i : Int)))
        have b6 : Below w.heap.size w ((w5.setCell ⟨w.heap.size + 1, 0, none⟩ (.slice (some ⟨gd, 0, none⟩) K.length c5)).setCell ⟨w.heap.size + 1, 1, none⟩ (.int .i64 (nx + (i : Int)))) := (L5.2.2.1.setCell (by show _ ≤ w.heap.size + 1; omega) _).setCell (by show _ ≤ w.heap.size + 1; omega) _
        go_wp2_with fail
        have hld := run_loadVar_row _ _ _ 26 _ _ _ e2 Tryd.underlying26 rfl (by kernel_rfl)
        exact bodyPost_ret (by rw [results_cell_tmp rfl]; simp [asAddr, hld]) rfl ⟨gd, c5, rfl, R6, hg3, C5, b6⟩

end Go.Proofs.YtojnniacmmcddaaDoor
