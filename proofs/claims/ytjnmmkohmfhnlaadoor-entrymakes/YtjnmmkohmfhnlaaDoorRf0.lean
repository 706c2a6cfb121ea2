/-
  Contracts of the document's answer for entries: plain, value, text, number.
-/
import Derived.Test.YtjnmmkohmfhnlaaDoorOpen
import Derived.OwnWalk
import Derived.Laws.AppendOwn
namespace Go.Proofs.YtjnmmkohmfhnlaaDoor
open Go.RowKit
set_option linter.unusedVariables false
set_option linter.unusedSimpArgs false

abbrev Rec := ByteArray × ByteArray
def recCells (rs : List Rec) : List Value := rs.flatMap fun r => [.string r.1, .string r.2]
theorem recCells_snoc (rs : List Rec) (k v : ByteArray) : recCells rs ++ [.string k, .string v] = recCells (rs ++ [(k, v)]) := by simp [recCells]
theorem info66c : (Tryd.prog.info? 66).map (fun i => (i.zero, i.size, i.bytes)) = some (some (.agg #[.string ⟨#[]⟩, .string ⟨#[]⟩]), 2, 32) := by kernel_rfl
theorem two_cells (w : World) (x y : Value) : ∀ j u, ([x, y] : List Value)[j]? = some u → (w.alloc (.cells #[x, y] 66)).cell? ((⟨w.heap.size, 0, none⟩ : Addr).add j) = some u := by
  intro j u h
  match j, h with
  | 0, h => cases h; simp [Addr.add]
  | 1, h => cases h; simp [Addr.add]
  | j + 2, h => simp at h

theorem own_below {e size B : Nat} {w w' : World} {v : Value} {n : Nat} {xs : List Value} (h : w.ownsRow B e size v n xs) (hb : Below w.heap.size w w') : w'.ownsRow B e size v n xs :=
  h.kept (row := none) ⟨hb.os, hb.tape, hb.output, hb.size, fun k hk _ => hb.block k hk⟩ (by cases v.ownBlock <;> simp)

theorem own_slice {e size B : Nat} {w : World} {v : Value} {n : Nat} {xs : List Value} (h : w.ownsRow B e size v n xs) : ∃ ad cap, v = .slice ad n cap ∧ n ≤ cap ∧ cap ≤ maxLen := by
  rcases h.2 with ⟨hv, h0⟩ | ⟨g, cap, cur, hv, _, _, hc, hm, _⟩
  · subst h0; exact ⟨none, 0, hv, Nat.le_refl _, by decide⟩
  · exact ⟨_, cap, hv, hc, hm⟩


def kOf (rs : List Rec) (i : Nat) : ByteArray := (rs.getD i (⟨#[]⟩, ⟨#[]⟩)).1
def vOf (rs : List Rec) (i : Nat) : ByteArray := (rs.getD i (⟨#[]⟩, ⟨#[]⟩)).2

theorem recCells_get : ∀ (rs : List Rec) (i : Nat), i < rs.length → (recCells rs)[i * 2]? = some (.string (kOf rs i)) ∧ (recCells rs)[i * 2 + 1]? = some (.string (vOf rs i))
  | [], i, h => absurd h (Nat.not_lt_zero _)
  | r :: rs, 0, _ => by simp [recCells, kOf, vOf]
  | r :: rs, i + 1, h => by
    have ih := recCells_get rs i (by simpa using h)
    have e : recCells (r :: rs) = .string r.1 :: .string r.2 :: recCells rs := by simp [recCells]
    rw [e, show (i + 1) * 2 = i * 2 + 1 + 1 by omega]
    simpa [kOf, vOf] using ih

theorem own_recsAt {B : Nat} {w : World} {v : Value} {rs : List Rec} (h : w.ownsRow B 66 2 v rs.length (recCells rs)) (h0 : 0 < rs.length) :
    ∃ g cap, v = .slice (some ⟨g, 0, none⟩) rs.length cap ∧ RecsAt w g 0 (kOf rs) (vOf rs) rs.length ∧ rs.length ≤ cap ∧ cap ≤ 9223372036854775807 ∧ B ≤ g ∧ g < w.heap.size := by
  rcases h.2 with ⟨_, hn⟩ | ⟨g, cap, cur, hv, hb, hg, hc, hm, hsz, htk⟩
  · omega
  · unfold maxLen at hm
    refine ⟨g, cap, hv, ?_, hc, by omega, hb, (Array.getElem?_eq_some_iff.1 hg).1⟩
    have key : ∀ (j : Nat) u, (recCells rs)[j]? = some u → cur[j]? = some u := by
      intro j u h1
      rw [← htk, List.getElem?_take] at h1
      split at h1
      · simpa using h1
      · cases h1
    intro i hi
    obtain ⟨e1, e2⟩ := recCells_get rs i hi
    have k1 := key _ _ e1
    have k2 := key _ _ e2
    constructor
    · simp only [World.cell?]
      rw [hg]
      simpa using k1
    · simp only [World.cell?]
      rw [hg]
      simpa [Nat.add_assoc] using k2


def recs (K V : Nat → ByteArray) (n : Nat) : List Rec := (List.range n).map fun i => (K i, V i)
theorem recs_succ (K V : Nat → ByteArray) (n : Nat) : recs K V (n + 1) = recs K V n ++ [(K n, V n)] := by simp [recs, List.range_succ]
theorem recs_len (K V : Nat → ByteArray) (n : Nat) : (recs K V n).length = n := by simp [recs]
theorem recs_get (K V : Nat → ByteArray) (n i : Nat) (h : i < n) : kOf (recs K V n) i = K i ∧ vOf (recs K V n) i = V i := by
  have : (recs K V n)[i]? = some (K i, V i) := by simp [recs, h]
  simp [kOf, vOf, List.getD, this]

theorem own_lst {B : Nat} {w : World} {v : Value} {K V : Nat → ByteArray} {n : Nat} (h : w.ownsRow B 66 2 v n (recCells (recs K V n))) (hn : n ≤ 70) : Lst w v K V n := by
  by_cases h0 : n = 0
  · subst h0
    obtain ⟨ad, cap, hv, _, _⟩ := own_slice h
    exact ⟨ad, cap, hv, by omega, .inl rfl⟩
  · have h' : w.ownsRow B 66 2 v (recs K V n).length (recCells (recs K V n)) := by rw [recs_len]; exact h
    obtain ⟨g, cap, hv, hR, _⟩ := own_recsAt h' (by rw [recs_len]; omega)
    rw [recs_len] at hv hR
    exact ⟨_, cap, hv, by omega, .inr ⟨g, 0, rfl, fun i hi => by
      have := hR i hi
      rw [(recs_get K V n i hi).1, (recs_get K V n i hi).2] at this
      exact this⟩⟩

/-- the records of a list, one by one -/
theorem Lst.cells {w : World} {v : Value} {K V : Nat → ByteArray} {n : Nat} (h : Lst w v K V n) : ∃ ad cap, v = .slice ad n cap ∧ n ≤ 4611686018427387903 ∧ ∀ i, i < n → ∃ b off, ad = some ⟨b, off, none⟩ ∧ w.cell? ⟨b, off + i * 2, none⟩ = some (.string (K i)) ∧ w.cell? ⟨b, off + i * 2 + 1, none⟩ = some (.string (V i)) := by
  obtain ⟨ad, cap, hv, hn, h3⟩ := h
  refine ⟨ad, cap, hv, hn, fun i hi => ?_⟩
  rcases h3 with rfl | ⟨b, off, rfl, hR⟩
  · omega
  · exact ⟨b, off, rfl, hR i hi⟩

set_option maxRecDepth 20000 in
set_option maxHeartbeats 4000000 in
theorem plain_w (v : Value) (K V : Nat → ByteArray) (n : Nat) (w : World) (h : Lst w v K V n) (hn : n ≤ 70) :
    Calls Tryd.prog 12 #[v] w fun e w' => ∃ v', e = .returned v' ∧ Lst w' v' K V n ∧ Below w.heap.size w w' := by
  have HW : Hid (∀ W, Below w.heap.size w W → Lst W v K V n) := fun W hb => h.below hb
  obtain ⟨ad, cap, rfl, -, -⟩ := h.cells
  obtain ⟨i0, hi, hz0, hz1, hz2⟩ := info_parts info66c
  have HLe : Hid (∀ W, Below w.heap.size w W → ∀ i, i < n → ∃ b off, ad = some ⟨b, off, none⟩ ∧ W.cell? ⟨b, off + i * 2, none⟩ = some (.string (K i)) ∧ W.cell? ⟨b, off + i * 2 + 1, none⟩ = some (.string (V i))) := fun W hb i hi => by
    obtain ⟨ad', cap', hv, _, hc⟩ := (HW.out W hb).cells
    cases hv
    exact hc i hi
  clear h HW
  go_enter Tryd.func12, Tryd.ntmps12
  go_wp2_with fail
  go_loopw [3, 8] (fun t3 t8 wr => ∃ i : Nat, i ≤ n ∧ t8 = .int .i64 i ∧ wr.ownsRow w.heap.size 66 2 t3 i (recCells (recs K V i)) ∧ Below w.heap.size w wr) (fun _ t _ => n - (intOf t).toNat)
  case atStart => exact ⟨0, by omega, rfl, World.ownsRow_nil _ _ _ _, Below.refl _ _⟩
  case round =>
    obtain ⟨i, hin, rfl, hown, bb⟩ := hrel
    by_cases hlt : i < n
    · obtain ⟨b, off, hab, c0, c1⟩ := HLe.out _ bb i hlt
      subst hab
      obtain ⟨av, cv, rfl, hcv, hcm⟩ := own_slice hown
      have HO : Hid (wr.ownsRow w.heap.size 66 2 (.slice av i cv) i (recCells (recs K V i))) := hown
      have HR : Hid (recCells (recs K V i) ++ [.string (K i), .string (V i)] = recCells (recs K V (i + 1))) := by rw [recs_succ, ← recCells_snoc]; rfl
      have hmax := hcm
      unfold maxLen at hmax
      clear hown
      generalize K i = kk at *
      generalize V i = vv at *
      go_wp2_with (first | (at_builtin; refine wpList_append_own _ rfl _ _ 39 rfl w.heap.size 66 i0 (.agg #[.string ⟨#[]⟩, .string ⟨#[]⟩]) 2 32 Tryd.underlying39 hi hz0 hz1 hz2 rfl (by decide) _ _ _ rfl ((own_below HO.out ((Below.refl _ wr).alloc (Nat.le_refl _) _)).alloc _) ⟨wr.heap.size + 1, 0, none⟩ 1 1 [.string kk, .string vv] rfl rfl ?c1 ?c2 ?c3 ?c4 ?c5 ?_))
      case c1 =>
        have := two_cells (wr.alloc (.cells #[.string kk, .string vv] 45)) (.string kk) (.string vv)
        rw [show (wr.alloc (.cells #[.string kk, .string vv] 45)).heap.size = wr.heap.size + 1 by simp] at this
        exact this
      case c2 => intro u hu; simp at hu; rcases hu with rfl | rfl <;> rfl
      case c3 => unfold maxLen; omega
      case c4 => omega
      case c5 => have := bb.size; simp; omega
      · intro v' w5 hown' hgrow hh
        have bb4 : Below w.heap.size w (wr.alloc (.cells #[.string kk, .string vv] 45)) := bb.alloc bb.size _
        have bb5 : Below w.heap.size w w5 := (bb4.alloc bb4.size _).grown hgrow (by have := bb4.size; simp at this ⊢; omega) fun k hk => (HO.out.lt k hk).1
        have hO : w5.ownsRow w.heap.size 66 2 v' (i + 1) (recCells (recs K V (i + 1))) := by rw [← HR.out]; exact hown'
        have HO5 : Hid _ := hO
        have HB5 : Hid _ := bb5
        clear hown' hgrow hh HO hO bb5 bb4
        go_wp2
        go_roundw
        case rel => exact ⟨i + 1, by omega, by simp, HO5.out, HB5.out⟩
        case measure => simp [intOf]; omega
    · obtain rfl : i = n := by omega
      go_wp2
      go_ret
      exact ⟨_, rfl, own_lst hown hn, bb⟩

theorem lastOf_none (K V : Nat → ByteArray) (key : ByteArray) : ∀ n, (lastOf K V key n).2 = false → (lastOf K V key n).1 = ⟨#[]⟩
  | 0, _ => rfl
  | n + 1, h => by
    unfold lastOf at h ⊢
    split
    · rename_i c; rw [if_pos c] at h; cases h
    · rename_i c; rw [if_neg c] at h; exact lastOf_none K V key n h

theorem last_step (K V : Nat → ByteArray) (key : ByteArray) (i : Nat) : lastOf K V key (i + 1) = if K i = key then (V i, true) else lastOf K V key i := rfl

set_option maxRecDepth 20000 in
set_option maxHeartbeats 4000000 in
theorem rvalue_w (lv gv : Value) (lK lV gK gV : Nat → ByteArray) (ln gn : Nat) (key : ByteArray) (w : World) (hl : Lst w lv lK lV ln) (hg : Lst w gv gK gV gn) (n1 : ln ≤ 70) (n2 : gn ≤ 70) :
    Calls Tryd.prog 22 #[lv, gv, .string key] w fun e w' => e = .returned (.string (if (lastOf lK lV key ln).2 then (lastOf lK lV key ln).1 else (lastOf gK gV key gn).1)) ∧ w = w' := by
  obtain ⟨lad, lcap, rfl, -, hlc⟩ := hl.cells
  obtain ⟨gad, gcap, rfl, -, hgc⟩ := hg.cells
  have HL : Hid _ := hlc
  have HG : Hid _ := hgc
  clear hl hg hlc hgc
  generalize hR : (if (lastOf lK lV key ln).2 then (lastOf lK lV key ln).1 else (lastOf gK gV key gn).1) = R
  have HR : Hid (R = (if (lastOf lK lV key ln).2 then (lastOf lK lV key ln).1 else (lastOf gK gV key gn).1)) := hR.symm
  clear hR
  go_enter Tryd.func22, Tryd.ntmps22
  go_wp2_with fail
  go_loopw [7, 8, 9] (fun t7 t8 t9 wr => ∃ i : Nat, i ≤ ln ∧ t9 = .int .i64 i ∧ t7 = .bool (lastOf lK lV key i).2 ∧ t8 = .string (lastOf lK lV key i).1 ∧ w = wr) (fun _ _ t _ => ln - (intOf t).toNat)
  case atStart => exact ⟨0, by omega, rfl, rfl, rfl, rfl⟩
  case round =>
    obtain ⟨i, hin, rfl, rfl, rfl, rfl⟩ := hrel
    by_cases hlt : i < ln
    · obtain ⟨b, off, hab, c0, c1⟩ := HL.out i hlt
      subst hab
      have HS : Hid (lastOf lK lV key (i + 1) = if lK i = key then (lV i, true) else lastOf lK lV key i) := last_step lK lV key i
      by_cases c : lK i = key
      · rw [c] at c0
        go_wp2
        go_roundw
        case rel => exact ⟨i + 1, by omega, by simp, by rw [HS.out, if_pos c], by rw [HS.out, if_pos c], by first | rfl | trivial⟩
        case measure => simp [intOf]; omega
      · have c' := ne_list c
        go_wp2
        go_roundw
        case rel => exact ⟨i + 1, by omega, by simp, by rw [HS.out, if_neg c], by rw [HS.out, if_neg c], by first | rfl | trivial⟩
        case measure => simp [intOf]; omega
    · obtain rfl : i = ln := by omega
      have hno := lastOf_none lK lV key i
      generalize lastOf lK lV key i = x at *
      obtain ⟨v1, o1⟩ := x
      simp only at hno ⊢
      clear HL
      cases o1 with
      | true =>
        clear hno
        try simp only [if_true]
        by_cases hg0 : 0 < gn
        · have hg1 : (0 : Int) < (gn : Int) := by omega
          go_wp2_with fail
          refine wp_loop_rounds 1 ?_
          rw [rounds_succ]
          go_wp2
          go_ret
          exact ⟨by rw [HR.out]; rfl, by first | rfl | trivial⟩
        · have hg1 : ¬ (0 : Int) < (gn : Int) := by omega
          go_wp2_with fail
          refine wp_loop_rounds 1 ?_
          rw [rounds_succ]
          go_wp2
          go_ret
          exact ⟨by rw [HR.out]; rfl, by first | rfl | trivial⟩
      | false =>
        obtain rfl := hno rfl
        clear hno
        try simp only [Bool.false_eq_true, if_false]
        go_wp2_with fail
        go_loopw [8, 10] (fun t8 t10 wr => ∃ j : Nat, j ≤ gn ∧ t10 = .int .i64 j ∧ t8 = .string (lastOf gK gV key j).1 ∧ w = wr) (fun _ t _ => gn - (intOf t).toNat)
        case atStart => exact ⟨0, by omega, rfl, rfl, by first | rfl | trivial⟩
        case round =>
          obtain ⟨j, hjn, rfl, rfl, rfl⟩ := hrel
          by_cases hlt2 : j < gn
          · obtain ⟨b, off, hab, c0, c1⟩ := HG.out j hlt2
            subst hab
            have HS : Hid (lastOf gK gV key (j + 1) = if gK j = key then (gV j, true) else lastOf gK gV key j) := last_step gK gV key j
            by_cases c : gK j = key
            · rw [c] at c0
              go_wp2
              go_roundw
              case rel => exact ⟨j + 1, by omega, by simp, by rw [HS.out, if_pos c], by first | rfl | trivial⟩
              case measure => simp [intOf]; omega
            · have c' := ne_list c
              go_wp2
              go_roundw
              case rel => exact ⟨j + 1, by omega, by simp, by rw [HS.out, if_neg c], by first | rfl | trivial⟩
              case measure => simp [intOf]; omega
          · obtain rfl : j = gn := by omega
            go_wp2
            go_ret
            exact ⟨by rw [HR.out]; rfl, by first | rfl | trivial⟩

theorem text_w (a b c : ByteArray) (w : World) : Calls Tryd.prog 21 #[.string a, .string b, .string c] w fun e w' => e = .returned (.string (or3 a b c)) ∧ w = w' := by
  unfold or3
  cases ha : emp a with
  | false =>
    unfold emp at ha
    simp only [Bool.false_eq_true, if_false]
    go_enter Tryd.func21, Tryd.ntmps21
    go_wp2
    go_ret
    exact ⟨rfl, rfl⟩
  | true =>
    unfold emp at ha
    simp only [if_true]
    cases hb : emp b with
    | false =>
      unfold emp at hb
      simp only [Bool.false_eq_true, if_false]
      go_enter Tryd.func21, Tryd.ntmps21
      go_wp2
      go_ret
      exact ⟨rfl, rfl⟩
    | true =>
      unfold emp at hb
      simp only [if_true]
      go_enter Tryd.func21, Tryd.ntmps21
      go_wp2
      go_ret
      exact ⟨rfl, rfl⟩

end Go.Proofs.YtjnmmkohmfhnlaaDoor
