/-
  A row of strings of one's own; a store, contents and what they should be.
-/
import Derived.Test.YtpjfhfbjdcgbjabCns2
import Derived.Test.YtpjfhfbjdcgbjabWrap2
import Derived.Test.YtpjfhfbjdcgbjabShare
import Derived.Test.YtpjfhfbjdcgbjabReadBad
import Derived.Test.YtpjfhfbjdcgbjabHead
import Derived.Lib.AppendZeros
namespace Go.Proofs.Ytpjfhfbjdcgbjab
open Go.RowKit
set_option linter.unusedVariables false
set_option linter.unusedSimpArgs false

theorem strOf_nil : strOf [] = ⟨#[]⟩ := rfl
theorem strOf_foldl : ∀ (b : List Int) (r : ByteArray), b.foldl (fun r n => r.push (UInt8.ofNat n.toNat)) r = ⟨r.data ++ (b.map fun n => UInt8.ofNat n.toNat).toArray⟩
  | [], r => by simp
  | x :: b, r => by
    rw [List.foldl_cons, strOf_foldl b]
    simp [ByteArray.push]
theorem strOf_data (a : List Int) : strOf a = ⟨(a.map fun n => UInt8.ofNat n.toNat).toArray⟩ := by
  unfold strOf
  rw [strOf_foldl]
  simp [ByteArray.empty, ByteArray.emptyWithCapacity]
  rfl
theorem strOf_size (a : List Int) : (strOf a).size = a.length := by
  rw [strOf_data]
  show (List.toArray _).size = _
  simp
theorem strOf_append (a b : List Int) : strOf a ++ strOf b = strOf (a ++ b) := by
  rw [strOf_data, strOf_data, strOf_data]
  apply ByteArray.ext
  rw [ByteArray.data_append]
  simp
theorem strOf_part (a : List Int) (i n : Nat) (h : i + n ≤ a.length) : (strOf a).extract i (i + n) = strOf (part a i n) := by
  rw [strOf_data, strOf_data]
  apply ByteArray.ext
  rw [ByteArray.data_extract]
  unfold part
  simp [List.map_take, List.map_drop, List.extract_eq_take_drop]

/-- what each content should be -/
def strC (xs : List Cn) : List Value := xs.map fun x => .string (strOf x.L)
theorem strC_length (xs : List Cn) : (strC xs).length = xs.length := by simp [strC]
theorem strC_one (xs : List Cn) : ∀ u ∈ strC xs, u.oneCell' = true := by
  intro u hu
  obtain ⟨x, _, rfl⟩ := List.mem_map.1 hu
  rfl

theorem i9 : ∃ i, Try.prog.info? 9 = some i ∧ i.size = 1 ∧ i.bytes = 16 ∧ i.zero = some (.string ⟨#[]⟩) := by
  have a : (Try.prog.info? 9).map (fun i => (i.size, i.bytes)) = some (1, 16) := by kernel_rfl
  have b : (Try.prog.info? 9).bind (fun i => i.zero) = some (.string ⟨#[]⟩) := by kernel_rfl
  cases h : Try.prog.info? 9 with
  | none => rw [h] at a; simp at a
  | some i => rw [h] at a b; simp at a b; exact ⟨i, rfl, a.1, a.2, b⟩

def Ws (w : World) (B : Nat) (v : Value) (xs : List Cn) : Prop := w.ownsRow B 9 1 v xs.length (strC xs)

theorem ws_nil (w : World) (B : Nat) : Ws w B (.slice none 0 0) [] := ⟨rfl, .inl ⟨rfl, rfl⟩⟩
theorem Ws.keeps {W W' : World} {B p S F : Nat} {v : Value} {xs : List Cn} (h : Ws W B v xs) (hk : Keeps p S F W W') (h1 : p < B) (h2 : S < B) (h3 : F < B) : Ws W' B v xs :=
  owns_row_moved h fun g _ hg hl => hk.block g hl (by omega) (by omega) (by omega)
theorem Ws.grow {W W' : World} {B : Nat} {v : Value} {xs : List Cn} (h : Ws W B v xs) (hb : Below W.heap.size W W') : Ws W' B v xs :=
  owns_row_moved h fun g _ _ hl => hb.block g hl
theorem Ws.len {w : World} {B n c : Nat} {a : Option Addr} {xs : List Cn} (h : Ws w B (.slice a n c) xs) : n = xs.length ∧ n ≤ c ∧ c ≤ 9223372036854775807 := by
  rcases h.2 with ⟨e, h0⟩ | ⟨g, cap, cur, e, _, _, h1, h2, _⟩
  · simp at e; rw [e.2.1, e.2.2, h0]; exact ⟨rfl, by omega, by omega⟩
  · simp at e; rw [e.2.1, e.2.2]; unfold maxLen at h2; exact ⟨rfl, h1, by omega⟩
/-- one string out of the row -/
theorem Ws.get {w : World} {B n c : Nat} {a : Option Addr} {xs : List Cn} (h : Ws w B (.slice a n c) xs) {i : Nat} {x : Cn} (hi : xs[i]? = some x) :
    ∃ g, a = some ⟨g, 0, none⟩ ∧ B ≤ g ∧ g < w.heap.size ∧ w.cell? ⟨g, i, none⟩ = some (.string (strOf x.L)) ∧ (∀ o, w.frozen? ⟨g, o, none⟩ = false) ∧ ∃ cur, w.heap[g]? = some (.cells cur 9 (0, 0)) := by
  have hlt := (List.getElem?_eq_some_iff.1 hi).1
  rcases h.2 with ⟨e, h0⟩ | ⟨g, cap, cur, e, hB, hg, h1, h2, h3, h4⟩
  · omega
  · simp at e
    obtain ⟨rfl, rfl, rfl⟩ := e
    have hs : (strC xs)[i]? = some (.string (strOf x.L)) := by unfold strC; rw [List.getElem?_map, hi]; rfl
    rw [← h4, List.getElem?_take] at hs
    split at hs
    · refine ⟨g, rfl, hB, lt_of_heap hg, ?_, fun o => by simp [World.frozen?, hg], cur, hg⟩
      simp only [World.cell?, hg]; simpa using hs
    · cases hs

/-- a block of another type is no row of these -/
theorem own_apart {w : World} {B B' g : Nat} {e size n : Nat} {v : Value} {ys : List Value} {cur : Array Value} {t : TypeId} (h : w.ownsRow B e size v n ys) (hg : w.heap[g]? = some (.cells cur t (0, 0))) (ht : t ≠ e) : v.ownBlock ≠ some g := by
  rcases h.2 with ⟨e1, _⟩ | ⟨g', cap, cur', e1, _, e3, _⟩
  · rw [e1]; simp [Value.ownBlock]
  · rw [e1]
    intro q
    simp [Value.ownBlock] at q
    subst q
    rw [e3] at hg
    injection hg with hg
    injection hg with _ hg
    exact ht hg.symm

theorem Ws.set {w : World} {B g n c : Nat} {xs : List Cn} (h : Ws w B (.slice (some ⟨g, 0, none⟩) n c) xs) {i : Nat} {x y : Cn} (hi : xs[i]? = some x) :
    Ws (w.setCell ⟨g, i, none⟩ (.string (strOf y.L))) B (.slice (some ⟨g, 0, none⟩) n c) (xs.set i y) ∧ (∀ k, k ≠ g → (w.setCell ⟨g, i, none⟩ (.string (strOf y.L))).heap[k]? = w.heap[k]?) := by
  have hlt := (List.getElem?_eq_some_iff.1 hi).1
  rcases h.2 with ⟨e, h0⟩ | ⟨g', cap, cur, e, hB, hg, h1, h2, h3, h4⟩
  · cases e
  · simp at e
    obtain ⟨rfl, rfl, rfl⟩ := e
    refine ⟨⟨by rw [strC_length]; simp, .inr ⟨g, c, cur.setIfInBounds i (.string (strOf y.L)), by rw [List.length_set], hB, ?_, by rw [List.length_set]; exact h1, h2, by simpa using h3, ?_⟩⟩, fun k hk => by rw [Below.heap_setCell _ _ _ _ hk]⟩
    · rw [setCell_eq_setRow w g i _ _ _ _ hg, setRow_heap _ _ _ _ _ _ hg]
    · rw [Array.toList_setIfInBounds, List.take_set, List.length_set, h4]
      unfold strC
      rw [List.map_set]

theorem wpList_pushW {W : World} {ops : Array Oper} {rest : List Oper} {o : Oper} {a : Act} {Q : Exit → Act → World → Prop} (hgd : o.guard = none) (s x : Operand)
    (ho : o.op = .call { callee := .builtin .append, args := #[s, x], argTypes := #[29, 29] })
    (B n c : Nat) (av : Option Addr) (xs : List Cn) (k : Cn) (hs : a.eval s = .slice av n c) (hown : Ws W B (.slice av n c) xs) (hB : B ≤ W.heap.size) (G : Nat) (hG : W.heap[G]? = some (.cells #[.string (strOf k.L)] 9 (0, 0))) (hx : a.eval x = .slice (some ⟨G, 0, none⟩) 1 1) (hl : n ≤ 2000)
    (h : ∀ g' c' w', Ws w' B (.slice (some ⟨g', 0, none⟩) (n + 1) c') (xs ++ [k]) → (∀ q, q < W.heap.size → (Value.slice av n c).ownBlock ≠ some q → w'.heap[q]? = W.heap[q]?) → Below B W w' → wpList Try.prog ops Q rest (a.put o.dst (.slice (some ⟨g', 0, none⟩) (n + 1) c')) w') :
    wpList Try.prog ops Q (o :: rest) a W := by
  obtain ⟨rfl, _, _⟩ := hown.len
  obtain ⟨i0, hi0, hi1, hi2, hi3⟩ := i9
  refine wpList_append_own _ hgd s x 29 ho B 9 i0 _ 1 16 (by kernel_rfl) hi0 hi3 hi1 hi2 rfl (by decide) _ _ _ hs hown ⟨G, 0, none⟩ 1 1 [.string (strOf k.L)] hx rfl ?_ ?_ ?_ ?_ hB ?_
  · intro q u hu
    match q with
    | 0 => simp at hu; subst hu; simp [Addr.add, World.cell?, hG]
    | q + 1 => simp at hu
  · intro u hu; simp at hu; subst hu; rfl
  · unfold maxLen; omega
  · omega
  · intro v' w3 hown' hgrow hh
    obtain ⟨g', c', rfl⟩ : ∃ g' c', v' = .slice (some ⟨g', 0, none⟩) (xs.length + 1) c' := by
      rcases hown'.2 with ⟨e1, e2⟩ | ⟨g', c', cur, e1, _⟩
      · omega
      · exact ⟨g', c', e1⟩
    refine h g' c' w3 ?_ (fun q hq hne => hgrow.block q hq (fun e => hne e.symm)) ?_
    · unfold Ws
      rw [show strC (xs ++ [k]) = strC xs ++ [.string (strOf k.L)] by simp [strC], List.length_append]
      exact hown'
    · refine (Below.refl _ _).grown hgrow hB (fun k hk => ?_)
      exact (hown.lt k hk).1

def lowAt1 (a : Option Addr) (cap c : Nat) : Option Addr := if cap = c then a else a.map (·.add c)

theorem run_low1 (w : World) (a : Option Addr) (n cap c : Nat) (h : c ≤ n) : (Instr.sliceAt 29 (.slice a n cap) (some (.int .i64 (c : Int))) none none).run Try.prog w = .ok (.slice (lowAt1 a cap c) (n - c) (cap - c)) w := by
  rw [run_sliceAt_slice w 29 _ _ _ _ (by kernel_rfl)]
  obtain ⟨i, hi, hs, _, _⟩ := i9
  have hu : Try.prog.underlying 29 = some (.slice 9) := by kernel_rfl
  have hb : (Instr.sliceBound (.int .i64 (c : Int)) n .sliceB).run Try.prog w = .ok c w := by
    have := run_sliceBound (P := Try.prog) w .i64 (c : Int) n .sliceB (by omega) (by omega)
    simpa using this
  simp [Instr.slice, run_underlying hu, Instr.sliceBounds, sizeOf, typeInfo, hi, hs, hb, lowAt1]

theorem run_high1 (w : World) (a : Option Addr) (n cap c : Nat) (h : c ≤ cap) : (Instr.sliceAt 29 (.slice a n cap) none (some (.int .i64 (c : Int))) none).run Try.prog w = .ok (.slice a c cap) w := by
  rw [run_sliceAt_slice w 29 _ _ _ _ (by kernel_rfl)]
  obtain ⟨i, hi, hs, _, _⟩ := i9
  have hu : Try.prog.underlying 29 = some (.slice 9) := by kernel_rfl
  have hb : (Instr.sliceBound (.int .i64 (c : Int)) cap .sliceAcap).run Try.prog w = .ok c w := by
    have := run_sliceBound (P := Try.prog) w .i64 (c : Int) cap .sliceAcap (by omega) (by omega)
    simpa using this
  cases a <;> simp [Instr.slice, run_underlying hu, Instr.sliceBounds, sizeOf, typeInfo, hi, hb, Addr.add]

theorem Ws.erase {w : World} {B g n c : Nat} {xs : List Cn} (h : Ws w B (.slice (some ⟨g, 0, none⟩) n c) xs) {i : Nat} (hi : i < n) (ty : TypeId) :
    ∃ W, (Builtin.append_ #[29, 29] ty #[.slice (some ⟨g, 0, none⟩) i c, .slice (lowAt1 (some ⟨g, 0, none⟩) c (i + 1)) (n - (i + 1)) (c - (i + 1))]).run Try.prog w = .ok (.slice (some ⟨g, 0, none⟩) (n - 1) c) W ∧
      Ws W B (.slice (some ⟨g, 0, none⟩) (n - 1) c) (xs.eraseIdx i) ∧ (∀ k, k ≠ g → W.heap[k]? = w.heap[k]?) ∧ Below B w W := by
  rcases h.2 with ⟨e, h0⟩ | ⟨g', cap, cur, e, hB, hg, h1, h2, h3, h4⟩
  · cases e
  · simp at e
    obtain ⟨rfl, rfl, rfl⟩ := e
    obtain ⟨i0, hi0, hs0, _, _⟩ := i9
    have hl : (strC (xs.drop (i + 1))).length = (xs.length - (i + 1)) * i0.size := by rw [strC_length, List.length_drop, hs0, Nat.mul_one]
    obtain ⟨ad, had, hcell⟩ : ∃ ad, lowAt1 (some ⟨g, 0, none⟩) c (i + 1) = some ad ∧ ∀ j u, (strC (xs.drop (i + 1)))[j]? = some u → w.cell? (ad.add j) = some u := by
      unfold lowAt1
      by_cases cc : c = i + 1
      · refine ⟨_, if_pos cc, fun j u hu => ?_⟩
        have hj := (List.getElem?_eq_some_iff.1 hu).1
        rw [strC_length, List.length_drop] at hj
        omega
      · refine ⟨⟨g, i + 1, none⟩, by rw [if_neg cc]; simp [Addr.add], fun j u hu => ?_⟩
        have e1 : (⟨g, i + 1, none⟩ : Addr).add j = ⟨g, i + 1 + j, none⟩ := by unfold Addr.add; split <;> simp_all
        rw [e1]
        have hd : strC (xs.drop (i + 1)) = (strC xs).drop (i + 1) := by simp [strC, List.map_drop]
        rw [hd, List.getElem?_drop, ← h4, List.getElem?_take] at hu
        split at hu
        · simp only [World.cell?, hg]; simpa using hu
        · cases hu
    have hrun := run_append_room (P := Try.prog) w 29 ty 9 i0 (by kernel_rfl) hi0 g i c cur hg ad (xs.length - (i + 1)) (c - (i + 1)) (strC (xs.drop (i + 1))) hl hcell (strC_one _) (by omega) (by rw [hl, hs0, h3, ← Nat.add_mul]; exact Nat.mul_le_mul_right 1 (by omega))
    rw [had]
    refine ⟨_, hrun.trans (by rw [show i + (xs.length - (i + 1)) = xs.length - 1 by omega]), ?_, ?_, ?_⟩
    all_goals rw [hs0]
    · have hel : (xs.eraseIdx i).length = xs.length - 1 := by rw [List.length_eraseIdx, if_pos hi]
      refine ⟨by rw [strC_length]; omega, .inr ⟨g, c, _, by rw [hel], hB, setRow_heap _ _ _ _ _ _ hg, by rw [hel]; omega, h2, ?_, ?_⟩⟩
      · have hcs : cur.toList.length = c * 1 := by rw [Array.length_toList]; exact h3
        simp only [List.size_toArray, List.length_append, List.length_take, List.length_drop, hcs, strC_length]
        omega
      · have ht : cur.toList.take (i * 1) = (strC xs).take i := by
          rw [← h4, List.take_take, Nat.mul_one, Nat.min_eq_left (by omega)]
        rw [ht, hel, List.eraseIdx_eq_take_drop_succ]
        have e2 : strC (xs.take i ++ xs.drop (i + 1)) = (strC xs).take i ++ strC (xs.drop (i + 1)) := by simp [strC, List.map_take]
        rw [e2, List.take_append_of_le_length (by rw [List.length_append, List.length_take, strC_length, strC_length, List.length_drop]; omega), List.take_of_length_le (by rw [List.length_append, List.length_take, strC_length, strC_length, List.length_drop]; omega)]
    · intro k hk; exact setRow_other _ _ _ _ hk
    · exact below_setRow (Below.refl _ _) hB _

end Go.Proofs.Ytpjfhfbjdcgbjab
