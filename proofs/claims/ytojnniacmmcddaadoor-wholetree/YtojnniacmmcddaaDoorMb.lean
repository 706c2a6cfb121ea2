/-
  Texts in one: Rep, Rel, Rel2.
-/
import Derived.Test.YtojnniacmmcddaaDoorMa
import Derived.Test.YtojnniacmmcddaaDoorShm
import Derived.Laws.CopyOwn
import Derived.Deep.RegionLaw
import Derived.Deep.LoopGhost
import Derived.Laws.Runes
namespace Go.Proofs.YtojnniacmmcddaaDoor
open Go.RowKit
open Go.Lib hiding intOf
set_option linter.unusedVariables false
set_option linter.unusedSimpArgs false

theorem info_str1 : (Tryd.prog.info? 9).map (·.size) = some 1 := by kernel_rfl

/-- so many cells with two dots, the others empty -/
def dotc (n k : Nat) : List Value := List.replicate n (.string (bs [46, 46])) ++ List.replicate (k - n) (.string ⟨#[]⟩)

theorem dotc_length (n k : Nat) (h : n ≤ k) : (dotc n k).length = k := by simp [dotc]; omega
theorem dotc_zero (k : Nat) : madeCells #[.string ⟨#[]⟩] k = (dotc 0 k).toArray := by
  apply Array.ext
  · simp [dotc, madeCells]
  · intro i h1 h2
    simp [dotc, madeCells, Nat.mod_one]
theorem dotc_splice (n m k : Nat) (h : n + m ≤ k) : splice (dotc n k) n (List.replicate m (Value.string (bs [46, 46]))) = dotc (n + m) k := by
  unfold splice dotc
  rw [List.take_left' (by simp), List.length_replicate]
  have : (List.replicate n (Value.string (bs [46, 46])) ++ List.replicate (k - n) (Value.string ⟨#[]⟩)).drop (n + m) = List.replicate (k - (n + m)) (Value.string ⟨#[]⟩) := by
    rw [List.drop_append, List.drop_of_length_le (by simp), List.nil_append, List.length_replicate, List.drop_replicate]
    congr 1
    omega
  rw [this, ← List.append_assoc, List.replicate_append_replicate]
theorem dotc_get (n k i : Nat) (h : i < n) : (dotc n k)[i]? = some (.string (bs [46, 46])) := by
  unfold dotc
  rw [List.getElem?_append_left (by simpa using h), List.getElem?_replicate, if_pos h]

theorem dotc_cell {w : World} {g n k : Nat} (hg : w.heap[g]? = some (.cells (dotc n k).toArray 9 (0, 0))) (i : Nat) (h : i < n) : w.cell? ⟨g, i, none⟩ = some (.string (bs [46, 46])) := by
  simp only [World.cell?, hg]
  have := dotc_get n k i h
  simp [this]

theorem rep_mem (m : Nat) : ∀ v ∈ List.replicate m (Value.string (bs [46, 46])), v.oneCell' = true := by
  intro v hv
  obtain ⟨_, rfl⟩ := List.mem_replicate.1 hv
  rfl

theorem mul_w (k : Nat) (hk : k ≤ 5000) (w : World) : Calls Tryd.prog 63 #[.int .u64 1, .int .u64 (k : Int)] w fun e w' => e = .returned (.tuple #[.int .u64 0, .int .u64 (k : Int)]) ∧ w' = w := by
  have := Tryd.bits_Mul 1 k (by omega) (by omega) w
  rw [Nat.one_mul, Nat.div_eq_of_lt (by omega), Nat.mod_eq_of_lt (by omega)] at this
  exact this

set_option maxRecDepth 20000 in
set_option maxHeartbeats 2000000 in
theorem repeat_some (b o : Nat) (k : Nat) (hk : k ≤ 5000) (h1 : 1 ≤ k) (w : World) (hc : w.cell? ⟨b, o, none⟩ = some (.string (bs [46, 46]))) :
    Calls Tryd.prog 43 #[.slice (some ⟨b, o, none⟩) 1 1, .int .i64 (k : Int)] w fun e w' => e = .returned (.slice (some ⟨w.heap.size, 0, none⟩) k k) ∧ Hid (w'.heap[w.heap.size]? = some (.cells (dotc k k).toArray 9 (0, 0))) ∧ Below w.heap.size w w' := by
  have hmk := run_make_row' (P := Tryd.prog) 23 9 (.string ⟨#[]⟩) 16 Tryd.underlying23 info_str rfl .i64 .i64 k (by omega) (by omega) w
  rw [dotc_zero] at hmk
  have qm := mul_w k hk w
  have hb : b < w.heap.size := World.block_lt_of_cell? _ _ hc
  have hw1 : Hid ((w.alloc (.cells (dotc 0 k).toArray 9)).heap[w.heap.size]? = some (.cells (dotc 0 k).toArray 9 (0, 0))) := hid (by show (w.heap.push _)[w.heap.size]? = _; simp)
  have hc1 : Hid ((w.alloc (.cells (dotc 0 k).toArray 9)).cell? ⟨b, o, none⟩ = some (.string (bs [46, 46]))) := hid ((((Below.refl w.heap.size w).alloc (Nat.le_refl _) _).cell (p := ⟨b, o, none⟩) hb).trans hc)
  have bb1 : Below w.heap.size w (w.alloc (.cells (dotc 0 k).toArray 9)) := (Below.refl _ _).alloc (Nat.le_refl _) _
  generalize hWW : w.alloc (.cells (dotc 0 k).toArray 9) = w1 at *
  clear hWW
  go_enter Tryd.func43, Tryd.ntmps43
  go_upto_region 7 with (go_at_call 63; refine qm.mono ?_; rintro e w' ⟨rfl, hw⟩; rw [hw])
  have hsrc : Hid (∀ j v, (List.replicate 1 (Value.string (bs [46, 46])))[j]? = some v → w1.cell? ((⟨b, o, none⟩ : Addr).add j) = some v) := hid (fun j v hj => by
    match j, hj with
    | 0, hj => cases hj; simpa [Addr.add] using hc1.out
    | j + 1, hj => simp at hj)
  have hfit : Hid (0 + (List.replicate 1 (Value.string (bs [46, 46]))).length ≤ (dotc 0 k).length) := hid (by rw [dotc_length 0 k (by omega)]; simp; omega)
  have hmin : Hid ((List.replicate 1 (Value.string (bs [46, 46]))).length = Nat.min 1 k) := hid (by show 1 = min 1 k; omega)
  go_wp2_with (refine wpList_copy_splice rfl _ _ 23 23 rfl 9 Tryd.underlying23 info_str1 (some ⟨w.heap.size, 0, none⟩) (some ⟨b, o, none⟩) k k 1 1 rfl rfl w.heap.size 0 (dotc 0 k) 9 hw1.out (List.replicate 1 (.string (bs [46, 46]))) hmin.out (fun _ => ⟨rfl, ⟨b, o, none⟩, rfl, hsrc.out⟩) hfit.out (rep_mem 1) w.heap.size w bb1 (Nat.le_refl _) ?_; intro w2 hg2 bb2)
  rw [dotc_splice 0 1 k (by omega)] at hg2
  clear hw1 hc1 bb1 hmk qm
  go_loopg [8] (k - 1) (fun g t wr => ∃ n : Nat, n + g = k ∧ 1 ≤ n ∧ t = .int .i64 n ∧ Hid (wr.heap[w.heap.size]? = some (.cells (dotc n k).toArray 9 (0, 0))) ∧ Below w.heap.size w wr)
  case atStart => exact ⟨1, by omega, by omega, rfl, hg2, bb2⟩
  case round =>
    obtain ⟨n, hng, hn1, rfl, HG, bb⟩ := hrel
    by_cases hlt : n < k
    · obtain ⟨m, hm⟩ : ∃ m, m = min n (k - n) := ⟨_, rfl⟩
      have hm1 : 1 ≤ m := by omega
      have hm2 : n + m ≤ k := by omega
      have HM : Hid ((List.replicate m (Value.string (bs [46, 46]))).length = Nat.min n (k - n)) := hid (by rw [List.length_replicate, hm])
      have HF : Hid (n + (List.replicate m (Value.string (bs [46, 46]))).length ≤ (dotc n k).length) := hid (by rw [dotc_length n k (by omega), List.length_replicate]; exact hm2)
      have HSr : Hid (∀ j v, (List.replicate m (Value.string (bs [46, 46])))[j]? = some v → wr.drew.cell? ((⟨w.heap.size, 0, none⟩ : Addr).add j) = some v) := hid (fun j v hj => by
        rw [List.getElem?_replicate] at hj
        split at hj
        · rename_i hjm
          cases hj
          rw [add_at, Nat.zero_add]
          exact dotc_cell (w := wr.drew) HG.out j (by omega)
        · cases hj)
      have HG2 : Hid (wr.drew.heap[w.heap.size]? = some (.cells (dotc n k).toArray 9 (0, 0))) := HG
      have bb2 : Below w.heap.size w wr.drew := bb.drew
      have j1 : (n : Int) ≤ (k : Int) := by omega
      have j2 : ¬ k = n := by omega
      have j3 : ¬ n = k := by omega
      clear hm HG
      go_upto_region 9 with fail
      go_region_law (refine step_copy_splice rfl (.tmp 41) (.tmp 44) 23 23 rfl 9 Tryd.underlying23 info_str1 (some ⟨w.heap.size, n, none⟩) (some ⟨w.heap.size, 0, none⟩) (k - n) (k - n) n k (by simp [Act.eval, Act.put]) (by simp [Act.eval, Act.put]) w.heap.size n (dotc n k) 9 HG2.out (List.replicate m (.string (bs [46, 46]))) HM.out (fun _ => ⟨rfl, ⟨w.heap.size, 0, none⟩, rfl, HSr.out⟩) HF.out (rep_mem m) w.heap.size w bb2 (Nat.le_refl _) ?_; intro w4 hg4 bb4)
      rw [dotc_splice n m k hm2] at hg4
      clear HM HF HSr HG2
      go_wp2_with fail
      go_roundg (k - (n + m))
      case measure => omega
      case rel => exact ⟨n + m, by omega, by omega, by simp; exact wrap_small _ (by omega) (by omega), hg4, bb4⟩
    · have hnk : n = k := by omega
      subst hnk
      go_wp2_with fail
      go_ret
      exact ⟨rfl, HG, bb⟩

theorem repeat_none (b o : Nat) (w : World) :
    Calls Tryd.prog 43 #[.slice (some ⟨b, o, none⟩) 1 1, .int .i64 0] w fun e w' => e = .returned (.slice (some ⟨w.heap.size, 0, none⟩) 0 0) ∧ Hid (w'.heap[w.heap.size]? = some (.cells (dotc 0 0).toArray 9 (0, 0))) ∧ Below w.heap.size w w' := by
  have hmk := run_make_row' (P := Tryd.prog) 23 9 (.string ⟨#[]⟩) 16 Tryd.underlying23 info_str rfl .i64 .i64 0 (by omega) (by omega) w
  rw [dotc_zero] at hmk
  have qm := mul_w 0 (by omega) w
  rw [show ((0 : Nat) : Int) = 0 from rfl] at hmk qm
  have hw1 : Hid ((w.alloc (.cells (dotc 0 0).toArray 9)).heap[w.heap.size]? = some (.cells (dotc 0 0).toArray 9 (0, 0))) := hid (by show (w.heap.push _)[w.heap.size]? = _; simp)
  have bb1 : Below w.heap.size w (w.alloc (.cells (dotc 0 0).toArray 9)) := (Below.refl _ _).alloc (Nat.le_refl _) _
  generalize hWW : w.alloc (.cells (dotc 0 0).toArray 9) = w1 at *
  clear hWW
  go_enter Tryd.func43, Tryd.ntmps43
  go_wp2_with (first | (go_at_call 63; refine qm.mono ?_; rintro e w' ⟨rfl, hw⟩; rw [hw]) | (refine wpList_copy_nothing rfl _ _ 23 23 rfl 9 Tryd.underlying23 info_str1 (some ⟨w.heap.size, 0, none⟩) (some ⟨b, o, none⟩) 0 0 1 1 rfl rfl rfl ?_))
  refine wp_loop_rounds 1 ?_
  rw [rounds_succ]
  go_wp2_with fail
  go_ret
  exact ⟨rfl, hw1, bb1⟩

theorem dotc_full (k : Nat) : (dotc k k) = strs (List.replicate k [46, 46]) := by simp [dotc, strs]

theorem dotc_sl {w : World} {g k : Nat} (hg : w.heap[g]? = some (.cells (dotc k k).toArray 9 (0, 0))) : Sl w (some ⟨g, 0, none⟩) (List.replicate k [46, 46]) := by
  refine .inr ⟨g, 0, rfl, (Array.getElem?_eq_some_iff.1 hg).1, fun i x hx => ?_⟩
  rw [List.getElem?_replicate] at hx
  split at hx
  · rename_i hi
    cases hx
    rw [Nat.zero_add]
    exact dotc_cell hg i hi
  · cases hx

/-- slices.Repeat of two dots -/
theorem repeat_w (b o : Nat) (k : Nat) (hk : k ≤ 5000) (w : World) (hc : w.cell? ⟨b, o, none⟩ = some (.string (bs [46, 46]))) :
    Calls Tryd.prog 43 #[.slice (some ⟨b, o, none⟩) 1 1, .int .i64 (k : Int)] w fun e w' => e = .returned (.slice (some ⟨w.heap.size, 0, none⟩) k k) ∧ Hid (Sl w' (some ⟨w.heap.size, 0, none⟩) (List.replicate k [46, 46])) ∧ Below w.heap.size w w' := by
  by_cases h : k = 0
  · subst h
    exact (repeat_none b o w).mono fun e w' ⟨h1, h2, h3⟩ => ⟨h1, dotc_sl h2.out, h3⟩
  · exact (repeat_some b o k hk (by omega) w hc).mono fun e w' ⟨h1, h2, h3⟩ => ⟨h1, dotc_sl h2.out, h3⟩

end Go.Proofs.YtojnniacmmcddaaDoor

namespace Go.Proofs.YtojnniacmmcddaaDoor
open Go.RowKit
open Go.Lib hiding intOf
set_option linter.unusedVariables false
set_option linter.unusedSimpArgs false

theorem sjoin_w (ad : Option Addr) (c : Nat) (ps : List (List UInt8)) (w : World) (h : Sl w ad ps) (hc : ps.length ≤ c) (hn : ps.length ≤ 140737488355328) (hl : (jn ps).length ≤ 140737488355328) :
    Calls Tryd.prog 38 #[.slice ad ps.length c, .string ⟨#[47]⟩] w fun e w' => e = .returned (.string (bs (jn ps))) ∧ Below w.heap.size w w' := by
  rcases h with h | ⟨b, o, h1, h2, h3⟩
  · subst h
    exact (Tryd.strings_Join_none ad c ⟨#[47]⟩ w).mono fun e w' ⟨he, hw⟩ => ⟨he, hw ▸ Below.refl _ _⟩
  · subst h1
    have e1 : (ps.map bs).map (·.data.toList) = ps := by rw [List.map_map]; exact (List.map_congr_left fun x _ => bs_data x).trans (List.map_id _)
    have := Tryd.strings_Join b o c (ps.map bs) ⟨#[47]⟩ w (fun j x hx => by
      rw [List.getElem?_map] at hx
      obtain ⟨y, hy, rfl⟩ := Option.map_eq_some_iff.1 hx
      exact h3 j y hy) h2 (by simpa using hn) (by simpa using hc) (by rw [e1]; exact hl)
    rw [e1, List.length_map] at this
    exact this

/-- a list in memory without its first -/
theorem Sl.tail {w : World} {b o : Nat} {x : List UInt8} {r : List (List UInt8)} (h : Sl w (some ⟨b, o, none⟩) (x :: r)) : w.cell? ⟨b, o, none⟩ = some (.string (bs x)) ∧ Sl w (some ⟨b, o + 1, none⟩) r := by
  rcases h with h | ⟨b', o', h1, h2, h3⟩
  · cases h
  · injection h1 with h1
    injection h1 with e1 e2
    subst e1 e2
    refine ⟨by simpa using h3 0 x rfl, .inr ⟨b, o + 1, rfl, h2, fun i y hy => ?_⟩⟩
    have := h3 (i + 1) y (by simpa using hy)
    rwa [show o + 1 + i = o + (i + 1) by omega]

theorem Sl.some {w : World} {ad : Option Addr} {x : List UInt8} {r : List (List UInt8)} (h : Sl w ad (x :: r)) : ∃ b o, ad = .some ⟨b, o, none⟩ := by
  rcases h with h | ⟨b, o, h1, _⟩
  · cases h
  · exact ⟨b, o, h1⟩

theorem Sl.nil (w : World) (ad : Option Addr) : Sl w ad [] := .inl rfl

theorem strip_nil_left (y : List (List UInt8)) : strip [] y = ([], y) := by simp [strip]
theorem strip_nil_right (x : List (List UInt8)) : strip x [] = (x, []) := by cases x <;> simp [strip]
theorem strip_ne (a b : List UInt8) (x y : List (List UInt8)) (h : a ≠ b) : strip (a :: x) (b :: y) = (a :: x, b :: y) := by simp [strip, h]
theorem strip_eq (a : List UInt8) (x y : List (List UInt8)) : strip (a :: x) (a :: y) = strip x y := by simp [strip]

/-- what is left of a path behind the steps up -/
theorem append_goal {W : World} (ad a2 : Option Addr) (ps qs : List (List UInt8)) (h1 : Sl W ad ps) (h2 : Sl W a2 qs) (hl : ps.length + qs.length ≤ 100000) (ty : TypeId) :
    ∃ ad' c' w', (Builtin.append_ #[23, 23] ty #[.slice ad ps.length ps.length, .slice a2 qs.length qs.length]).run Tryd.prog W = .ok (.slice ad' (ps.length + qs.length) c') w' ∧ ps.length + qs.length ≤ c' ∧ c' ≤ 9223372036854775807 ∧ Sl w' ad' (ps ++ qs) ∧ Below W.heap.size W w' := by
  by_cases h0 : qs = []
  · subst h0
    obtain ⟨i, hi, hz0, hz1, hz2⟩ := info_parts_str
    have := run_append_nothing (P := Tryd.prog) W 23 23 ty 9 i Tryd.underlying23 hi ad ps.length ps.length (Nat.le_refl _) (.slice a2 0 0) (by rw [hz1]; exact h2.src 0 (fun _ => rfl))
    exact ⟨ad, ps.length, W, by simpa using this, by simp, by omega, by rw [List.append_nil]; exact h1, Below.refl _ _⟩
  · have hpos : 1 ≤ qs.length := List.length_pos_iff.2 h0
    obtain ⟨c', w', hrun, hA, hb⟩ := append_all ad a2 ps.length qs.length ps qs h1 h2 (by omega) hl ty
    have hle := hA.le
    rw [List.length_append] at hle
    exact ⟨_, c', w', hrun, hle.1, hle.2, hA.sl, hb⟩

end Go.Proofs.YtojnniacmmcddaaDoor

namespace Go.Proofs.YtojnniacmmcddaaDoor
open Go.RowKit
open Go.Lib hiding intOf
set_option linter.unusedVariables false
set_option linter.unusedSimpArgs false

set_option maxRecDepth 20000 in
set_option maxHeartbeats 2000000 in
theorem relative_w (d t : List UInt8) (hd : d.length ≤ 4000) (ht : t.length ≤ 4000) (w : World) (hm : Ml w) :
    Calls Tryd.prog 17 #[.string (bs d), .string (bs t)] w fun e w' => e = .returned (.string (bs (rel (prt d) (prt t)))) ∧ Below w.heap.size w w' := by
  have KP : Hid (∀ s : List UInt8, s.length ≤ 4000 → ∀ W, Below w.heap.size w W → Calls Tryd.prog 41 #[.string (bs s)] W fun e w' => ∃ ad, e = .returned (.slice ad (prt s).length (prt s).length) ∧ Hid (Sl w' ad (prt s)) ∧ Below W.heap.size W w') := fun s hs W hb => parts_w s (by omega) W (hm.below hb)
  have KP1 : Hid _ := KP.out d hd
  have KP2 : Hid _ := KP.out t ht
  have hxl : (prt d).length ≤ 4001 := by
    unfold prt; split
    · simp
    · have := spl_len_le d; omega
  have hyl : (prt t).length ≤ 4001 := by
    unfold prt; split
    · simp
    · have := spl_len_le t; omega
  have hym : ∀ p ∈ prt t, p.length ≤ 4000 := fun p hp => by have := prt_mem t p hp; omega
  clear KP hm
  generalize prt d = X at *
  generalize prt t = Y at *
  obtain ⟨c0, hs1, hs2⟩ := strip_spec X Y
  have hfl : (strip X Y).1.length ≤ 4001 := by have := congrArg List.length hs1; simp at this; omega
  have hgl : (strip X Y).2.length ≤ 4001 := by have := congrArg List.length hs2; simp at this; omega
  have hgm : ∀ p ∈ (strip X Y).2, p.length ≤ 4000 := fun p hp => hym p (by rw [hs2]; simp [hp])
  have HR : Hid (rel X Y = jn (if (strip X Y).1 = [] ∧ (strip X Y).2 = [] then [[46]] else List.replicate (strip X Y).1.length [46, 46] ++ (strip X Y).2)) := rfl
  clear hs1 hs2 hym
  generalize hSt : strip X Y = st at *
  have HSt : Hid (strip X Y = st) := hSt
  have hjl : (jn (List.replicate st.1.length [46, 46] ++ st.2)).length ≤ 140737488355328 := by
    have := jn_len_bound 4000 (List.replicate st.1.length [46, 46] ++ st.2) (fun p hp => by
      rcases List.mem_append.1 hp with h | h
      · obtain ⟨_, rfl⟩ := List.mem_replicate.1 h; simp
      · exact hgm p h)
    have h2 : (List.replicate st.1.length ([46, 46] : List UInt8) ++ st.2).length * (4000 + 1) ≤ 8002 * 4001 := Nat.mul_le_mul (by simp; omega) (by omega)
    omega
  clear hSt hgm
  generalize hn : X.length = n at *
  generalize hm : Y.length = m at *
  go_enter Tryd.func17, Tryd.ntmps17
  go_wp2_with (first
    | (go_at_call 41; refine (KP2.out _ b1).mono ?_; rintro e w2 ⟨ad2, rfl, hs2, b2⟩; have b02 := b1.trans (b2.mono b1.size))
    | (go_at_call 41; refine (KP1.out _ (Below.refl _ _)).mono ?_; rintro e w1 ⟨ad1, rfl, hs1, b1⟩))
  have HX0 : Hid (Sl w2 ad1 X) := hid (hs1.out.below b2)
  have HY0 : Hid (Sl w2 ad2 Y) := hs2
  clear KP1 KP2 hs1 hs2
  go_loopg [5, 6] n (fun g t5 t6 wr => ∃ (x y : List (List UInt8)) (a1 a2 : Option Addr) (i j : Nat), i = g ∧ t5 = .slice a1 i i ∧ t6 = .slice a2 j j ∧ i ≤ 4001 ∧ j ≤ 4001 ∧ Hid (x.length = i ∧ y.length = j) ∧ Hid (Sl wr a1 x) ∧ Hid (Sl wr a2 y) ∧ Hid (strip x y = st) ∧ Below w.heap.size w wr)
  case atStart => exact ⟨X, Y, ad1, ad2, n, m, rfl, rfl, rfl, by omega, by omega, ⟨hn, hm⟩, HX0, HY0, HSt, b02⟩
  case round =>
    clear HX0 HY0 HSt
    obtain ⟨x, y, a1, a2, i, j, hxg, rfl, rfl, hx4, hy4, HL, HX, HY, HSt, bb⟩ := hrel
    have KA : Hid (∀ W ad a2, Sl W ad (List.replicate st.1.length [46, 46]) → Sl W a2 st.2 → ∀ ty, ∃ ad' c' w', (Builtin.append_ #[23, 23] ty #[.slice ad st.1.length st.1.length, .slice a2 st.2.length st.2.length]).run Tryd.prog W = .ok (.slice ad' (st.1.length + st.2.length) c') w' ∧ st.1.length + st.2.length ≤ c' ∧ c' ≤ 9223372036854775807 ∧ Sl w' ad' (List.replicate st.1.length [46, 46] ++ st.2) ∧ Below W.heap.size W w') := hid (fun W ad a2 h1 h2 ty => by
      have := append_goal ad a2 (List.replicate st.1.length [46, 46]) st.2 h1 h2 (by rw [List.length_replicate]; omega) ty
      rwa [List.length_replicate] at this)
    have KJ : Hid (∀ W ad c, Sl W ad (List.replicate st.1.length [46, 46] ++ st.2) → st.1.length + st.2.length ≤ c → Calls Tryd.prog 38 #[.slice ad (st.1.length + st.2.length) c, .string ⟨#[47]⟩] W fun e w' => e = .returned (.string (bs (jn (List.replicate st.1.length [46, 46] ++ st.2)))) ∧ Below W.heap.size W w') := hid (fun W ad c hs hc => by
      have hL : (List.replicate st.1.length ([46, 46] : List UInt8) ++ st.2).length = st.1.length + st.2.length := by simp
      have := sjoin_w ad c (List.replicate st.1.length [46, 46] ++ st.2) W hs (by rw [hL]; exact hc) (by rw [hL]; omega) hjl
      rwa [hL] at this)
    have HF : Hid (¬ (st.1 = [] ∧ st.2 = []) → rel X Y = jn (List.replicate st.1.length [46, 46] ++ st.2)) := hid (fun h => by rw [HR.out, if_neg h])
    have HF0 : Hid (st.1 = [] ∧ st.2 = [] → rel X Y = [46]) := hid (fun h => by rw [HR.out, if_pos h, jn_one])
    clear HR hjl
    subst hxg
    obtain ⟨hli, hlj⟩ := HL.out
    by_cases hi0 : i = 0
    · have hx0 : x = [] := List.eq_nil_of_length_eq_zero (by omega)
      have hst := HSt.out
      rw [hx0, strip_nil_left] at hst
      have g1 : decide (0 < i) = false := decide_eq_false (by omega)
      have g1' : decide ((0 : Int) < (i : Int)) = false := decide_eq_false (by omega)
      have g3' : decide (i = 0) = true := decide_eq_true hi0
      have g2' : (i == 0) = true := beq_iff_eq.2 hi0
      have g2 : ((i : Int) == 0) = true := beq_iff_eq.2 (by omega)
      have g3 : decide ((i : Int) = 0) = true := decide_eq_true (by omega)
      by_cases hj0 : j = 0
      · have hy0 : y = [] := List.eq_nil_of_length_eq_zero (by omega)
        have HF1 : Hid (rel X Y = [46]) := hid (HF0.out (by rw [← hst, hy0]; exact ⟨rfl, rfl⟩))
        have g4 : decide ((j : Int) = 0) = true := decide_eq_true (by omega)
        have g4' : decide (j = 0) = true := decide_eq_true hj0
        have g5' : (j == 0) = true := beq_iff_eq.2 hj0
        have g5 : ((j : Int) == 0) = true := beq_iff_eq.2 (by omega)
        clear KA KJ HF HF0 HSt hst hx0 hy0 hi0 hj0 hli hlj HL
        go_wp2_with fail
        go_quiet (fail)
        have b7 := bb.drewN' nq
        generalize wr.drewN nq = w7 at *
        go_wp2_with fail
        go_ret
        exact ⟨by rw [HF1.out]; rfl, b7⟩
      · have hs1 : st.1.length = i := by rw [← hst, hi0]; rfl
        have hs2 : st.2.length = j := by rw [← hst]; exact hlj
        have HF1 : Hid (rel X Y = jn (List.replicate st.1.length [46, 46] ++ st.2)) := hid (HF.out (fun h => hj0 (by rw [← hs2, h.2]; rfl)))
        have HG : Hid (Sl wr a2 st.2) := hid (by rw [← hst]; exact HY.out)
        have g4 : decide ((j : Int) = 0) = false := decide_eq_false (by omega)
        have g4' : decide (j = 0) = false := decide_eq_false hj0
        have g5' : (j == 0) = false := beq_eq_false_iff_ne.2 hj0
        have g5 : ((j : Int) == 0) = false := beq_eq_false_iff_ne.2 (by omega)
        rw [hs1, hs2] at KA KJ
        rw [hs1] at HF1
        clear HF HF0 HSt hst hx0 hi0 hli hlj HL hs1 hs2 HX HY
        go_wp2_with fail
        go_quiet (fail)
        have b7 : Below w.heap.size w (wr.drewN nq) := bb.drewN' nq
        have S7 : Hid (Sl (wr.drewN nq) a2 st.2) := HG
        generalize wr.drewN nq = w7 at *
        have b8 : Below w.heap.size w (w7.alloc (.cells #[.string ⟨#[46, 46]⟩] 9)) := b7.alloc b7.size _
        have q8 : Calls Tryd.prog 43 #[.slice (some ⟨w7.heap.size, 0, none⟩) 1 1, .int .i64 (i : Int)] (w7.alloc (.cells #[.string ⟨#[46, 46]⟩] 9)) fun e w' => e = .returned (.slice (some ⟨w7.heap.size + 1, 0, none⟩) i i) ∧ Hid (Sl w' (some ⟨w7.heap.size + 1, 0, none⟩) (List.replicate i [46, 46])) ∧ Hid (Below (w7.alloc (.cells #[.string ⟨#[46, 46]⟩] 9)).heap.size (w7.alloc (.cells #[.string ⟨#[46, 46]⟩] 9)) w') := by
          have := repeat_w w7.heap.size 0 i (by omega) (w7.alloc (.cells #[.string ⟨#[46, 46]⟩] 9)) (by simp; rfl)
          have e : (w7.alloc (.cells #[.string ⟨#[46, 46]⟩] 9)).heap.size = w7.heap.size + 1 := by simp
          rw [e] at this
          rw [e]
          exact this
        have S8 : Hid (Sl (w7.alloc (.cells #[.string ⟨#[46, 46]⟩] 9)) a2 st.2) := hid (S7.out.below ((Below.refl _ _).alloc (Nat.le_refl _) _))
        go_wp2_with (first
          | (at_builtin; obtain ⟨ad10, c10, w10, hrun, hl10, hm10, hs10, b10⟩ := KA.out w9 _ a2 hs9.out (S8.out.below b9.out) 23; have b010 := b09.trans (b10.mono b09.size); refine wpList_append_run rfl _ _ 23 23 rfl _ _ _ rfl rfl hrun ?_; clear hrun)
          | (go_at_call 38; refine (KJ.out w10 ad10 c10 hs10 hl10).mono ?_; rintro e w11 ⟨rfl, b11⟩)
          | (go_at_call 43; refine q8.mono ?_; rintro e w9 ⟨rfl, hs9, b9⟩; have b09 := b8.trans (b9.out.mono b8.size)))
        go_ret
        exact ⟨by rw [HF1.out]; rfl, b010.trans (b11.mono b010.size)⟩
    · obtain ⟨p, x', rfl⟩ : ∃ p x', x = p :: x' := by
        cases x with
        | nil => simp at hli; omega
        | cons p x' => exact ⟨p, x', rfl⟩
      have hst := HSt.out
      have g1 : decide (0 < i) = true := decide_eq_true (by omega)
      have g1' : decide ((0 : Int) < (i : Int)) = true := decide_eq_true (by omega)
      have g3' : decide (i = 0) = false := decide_eq_false hi0
      have g2' : (i == 0) = false := beq_eq_false_iff_ne.2 hi0
      have g2 : ((i : Int) == 0) = false := beq_eq_false_iff_ne.2 (by omega)
      have g3 : decide ((i : Int) = 0) = false := decide_eq_false (by omega)
      obtain ⟨b1, o1, ha1⟩ := HX.out.some
      subst ha1
      obtain ⟨hc1, hs1⟩ := HX.out.tail
      by_cases hj0 : j = 0
      · have hy0 : y = [] := List.eq_nil_of_length_eq_zero (by omega)
        subst hy0
        rw [strip_nil_right] at hst
        have hs1 : st.1.length = i := by rw [← hst]; exact hli
        have hs2 : st.2.length = j := by rw [← hst]; exact hlj
        have HF1 : Hid (rel X Y = jn (List.replicate st.1.length [46, 46] ++ st.2)) := hid (HF.out (fun h => hi0 (by rw [← hs1, h.1]; rfl)))
        have HG : Hid (Sl wr a2 st.2) := hid (by rw [← hst]; exact HY.out)
        have g4 : decide (0 < j) = false := decide_eq_false (by omega)
        have g4' : decide ((0 : Int) < (j : Int)) = false := decide_eq_false (by omega)
        rw [hs1, hs2] at KA KJ
        rw [hs1] at HF1
        clear HF HF0 HSt hst hli hlj HL hs1 hs2 HX HY hj0
        go_wp2_with fail
        go_quiet (fail)
        have b7 : Below w.heap.size w (wr.drewN nq) := bb.drewN' nq
        have S7 : Hid (Sl (wr.drewN nq) a2 st.2) := HG
        generalize wr.drewN nq = w7 at *
        have b8 : Below w.heap.size w (w7.alloc (.cells #[.string ⟨#[46, 46]⟩] 9)) := b7.alloc b7.size _
        have q8 : Calls Tryd.prog 43 #[.slice (some ⟨w7.heap.size, 0, none⟩) 1 1, .int .i64 (i : Int)] (w7.alloc (.cells #[.string ⟨#[46, 46]⟩] 9)) fun e w' => e = .returned (.slice (some ⟨w7.heap.size + 1, 0, none⟩) i i) ∧ Hid (Sl w' (some ⟨w7.heap.size + 1, 0, none⟩) (List.replicate i [46, 46])) ∧ Hid (Below (w7.alloc (.cells #[.string ⟨#[46, 46]⟩] 9)).heap.size (w7.alloc (.cells #[.string ⟨#[46, 46]⟩] 9)) w') := by
          have := repeat_w w7.heap.size 0 i (by omega) (w7.alloc (.cells #[.string ⟨#[46, 46]⟩] 9)) (by simp; rfl)
          have e : (w7.alloc (.cells #[.string ⟨#[46, 46]⟩] 9)).heap.size = w7.heap.size + 1 := by simp
          rw [e] at this
          rw [e]
          exact this
        have S8 : Hid (Sl (w7.alloc (.cells #[.string ⟨#[46, 46]⟩] 9)) a2 st.2) := hid (S7.out.below ((Below.refl _ _).alloc (Nat.le_refl _) _))
        go_wp2_with (first
          | (at_builtin; obtain ⟨ad10, c10, w10, hrun, hl10, hm10, hs10, b10⟩ := KA.out w9 _ a2 hs9.out (S8.out.below b9.out) 23; have b010 := b09.trans (b10.mono b09.size); refine wpList_append_run rfl _ _ 23 23 rfl _ _ _ rfl rfl hrun ?_; clear hrun)
          | (go_at_call 38; refine (KJ.out w10 ad10 c10 hs10 hl10).mono ?_; rintro e w11 ⟨rfl, b11⟩)
          | (go_at_call 43; refine q8.mono ?_; rintro e w9 ⟨rfl, hs9, b9⟩; have b09 := b8.trans (b9.out.mono b8.size)))
        go_ret
        exact ⟨by rw [HF1.out]; rfl, b010.trans (b11.mono b010.size)⟩
      · obtain ⟨q, y', rfl⟩ : ∃ q y', y = q :: y' := by
          cases y with
          | nil => simp at hlj; omega
          | cons q y' => exact ⟨q, y', rfl⟩
        have g4 : decide (0 < j) = true := decide_eq_true (by omega)
        have g4' : decide ((0 : Int) < (j : Int)) = true := decide_eq_true (by omega)
        obtain ⟨b2, o2, ha2⟩ := HY.out.some
        subst ha2
        obtain ⟨hc2, hs2⟩ := HY.out.tail
        have tp := bs_toList p
        have tq := bs_toList q
        by_cases hpq : p = q
        · subst hpq
          rw [strip_eq] at hst
          have HSt2 : Hid (strip x' y' = st) := hst
          have HX2 : Hid (Sl wr (some ⟨b1, o1 + 1, none⟩) x') := hs1
          have HY2 : Hid (Sl wr (some ⟨b2, o2 + 1, none⟩) y') := hs2
          obtain ⟨i', rfl⟩ : ∃ i', i = i' + 1 := ⟨i - 1, by omega⟩
          obtain ⟨j', rfl⟩ : ∃ j', j = j' + 1 := ⟨j - 1, by omega⟩
          have HL2 : Hid (x'.length = i' ∧ y'.length = j') := hid (by simp at hli hlj; exact ⟨hli, hlj⟩)
          have HX3 : Hid (∀ ad, i' = 0 → Sl wr ad x') := hid (fun ad h => by rw [List.eq_nil_of_length_eq_zero (HL2.out.1.trans h)]; exact Sl.nil _ _)
          have HY3 : Hid (∀ ad, j' = 0 → Sl wr ad y') := hid (fun ad h => by rw [List.eq_nil_of_length_eq_zero (HL2.out.2.trans h)]; exact Sl.nil _ _)
          clear HF HF0 HSt hst hli hlj HL hs1 hs2 HX HY hj0 hi0 KA KJ
          by_cases hi1 : i' = 0
          · by_cases hj1 : j' = 0
            · go_wp2_with fail
              go_quiet (fail)
              have b7 := bb.drewN' nq
              have HX4 : Hid (Sl (wr.drewN nq) (some ⟨b1, o1, none⟩) x') := hid (HX3.out _ hi1)
              have HY4 : Hid (Sl (wr.drewN nq) (some ⟨b2, o2, none⟩) y') := hid (HY3.out _ hj1)
              generalize wr.drewN nq = w7 at *
              go_wp2_with fail
              go_quiet (fail)
              have b8 := b7.drewN' nq
              have HX5 : Hid (Sl (w7.drewN nq) (some ⟨b1, o1, none⟩) x') := HX4
              have HY5 : Hid (Sl (w7.drewN nq) (some ⟨b2, o2, none⟩) y') := HY4
              generalize w7.drewN nq = w8 at *
              go_wp2_with fail
              go_roundg i'
              case measure => omega
              case rel => exact ⟨x', y', some ⟨b1, o1, none⟩, some ⟨b2, o2, none⟩, i', j', rfl, by rw [hi1], by rw [hj1], by omega, by omega, HL2, HX5, HY5, HSt2, b8⟩
            · have j5 : ¬ j' + 1 = 1 := by omega
              go_wp2_with fail
              go_quiet (fail)
              have b7 := bb.drewN' nq
              have HX4 : Hid (Sl (wr.drewN nq) (some ⟨b1, o1, none⟩) x') := hid (HX3.out _ hi1)
              have HY4 : Hid (Sl (wr.drewN nq) (some ⟨b2, o2 + 1, none⟩) y') := HY2
              generalize wr.drewN nq = w7 at *
              go_wp2_with fail
              go_quiet (fail)
              have b8 := b7.drewN' nq
              have HX5 : Hid (Sl (w7.drewN nq) (some ⟨b1, o1, none⟩) x') := HX4
              have HY5 : Hid (Sl (w7.drewN nq) (some ⟨b2, o2 + 1, none⟩) y') := HY4
              generalize w7.drewN nq = w8 at *
              go_wp2_with fail
              go_roundg i'
              case measure => omega
              case rel => exact ⟨x', y', some ⟨b1, o1, none⟩, some ⟨b2, o2 + 1, none⟩, i', j', rfl, by rw [hi1], by first | rfl | simp, by omega, by omega, HL2, HX5, HY5, HSt2, b8⟩
          · have i5 : ¬ i' + 1 = 1 := by omega
            by_cases hj1 : j' = 0
            · go_wp2_with fail
              go_quiet (fail)
              have b7 := bb.drewN' nq
              have HX4 : Hid (Sl (wr.drewN nq) (some ⟨b1, o1 + 1, none⟩) x') := HX2
              have HY4 : Hid (Sl (wr.drewN nq) (some ⟨b2, o2, none⟩) y') := hid (HY3.out _ hj1)
              generalize wr.drewN nq = w7 at *
              go_wp2_with fail
              go_quiet (fail)
              have b8 := b7.drewN' nq
              have HX5 : Hid (Sl (w7.drewN nq) (some ⟨b1, o1 + 1, none⟩) x') := HX4
              have HY5 : Hid (Sl (w7.drewN nq) (some ⟨b2, o2, none⟩) y') := HY4
              generalize w7.drewN nq = w8 at *
              go_wp2_with fail
              go_roundg i'
              case measure => omega
              case rel => exact ⟨x', y', some ⟨b1, o1 + 1, none⟩, some ⟨b2, o2, none⟩, i', j', rfl, by first | rfl | simp, by rw [hj1], by omega, by omega, HL2, HX5, HY5, HSt2, b8⟩
            · have j5 : ¬ j' + 1 = 1 := by omega
              go_wp2_with fail
              go_quiet (fail)
              have b7 := bb.drewN' nq
              have HX4 : Hid (Sl (wr.drewN nq) (some ⟨b1, o1 + 1, none⟩) x') := HX2
              have HY4 : Hid (Sl (wr.drewN nq) (some ⟨b2, o2 + 1, none⟩) y') := HY2
              generalize wr.drewN nq = w7 at *
              go_wp2_with fail
              go_quiet (fail)
              have b8 := b7.drewN' nq
              have HX5 : Hid (Sl (w7.drewN nq) (some ⟨b1, o1 + 1, none⟩) x') := HX4
              have HY5 : Hid (Sl (w7.drewN nq) (some ⟨b2, o2 + 1, none⟩) y') := HY4
              generalize w7.drewN nq = w8 at *
              go_wp2_with fail
              go_roundg i'
              case measure => omega
              case rel => exact ⟨x', y', some ⟨b1, o1 + 1, none⟩, some ⟨b2, o2 + 1, none⟩, i', j', rfl, by first | rfl | simp, by first | rfl | simp, by omega, by omega, HL2, HX5, HY5, HSt2, b8⟩
        · rw [strip_ne _ _ _ _ hpq] at hst
          have hs3 : st.1.length = i := by rw [← hst]; exact hli
          have hs4 : st.2.length = j := by rw [← hst]; exact hlj
          have HF1 : Hid (rel X Y = jn (List.replicate st.1.length [46, 46] ++ st.2)) := hid (HF.out (fun h => hi0 (by rw [← hs3, h.1]; rfl)))
          have HG : Hid (Sl wr (some ⟨b2, o2, none⟩) st.2) := hid (by rw [← hst]; exact HY.out)
          have e' : (p == q) = false := beq_eq_false_iff_ne.2 hpq
          rw [hs3, hs4] at KA KJ
          rw [hs3] at HF1
          clear HF HF0 HSt hst hli hlj HL hs1 hs2 HX HY hs3 hs4
          go_wp2_with fail
          go_quiet (fail)
          have b7 : Below w.heap.size w (wr.drewN nq) := bb.drewN' nq
          have S7 : Hid (Sl (wr.drewN nq) (some ⟨b2, o2, none⟩) st.2) := HG
          generalize wr.drewN nq = w7 at *
          have b8 : Below w.heap.size w (w7.alloc (.cells #[.string ⟨#[46, 46]⟩] 9)) := b7.alloc b7.size _
          have q8 : Calls Tryd.prog 43 #[.slice (some ⟨w7.heap.size, 0, none⟩) 1 1, .int .i64 (i : Int)] (w7.alloc (.cells #[.string ⟨#[46, 46]⟩] 9)) fun e w' => e = .returned (.slice (some ⟨w7.heap.size + 1, 0, none⟩) i i) ∧ Hid (Sl w' (some ⟨w7.heap.size + 1, 0, none⟩) (List.replicate i [46, 46])) ∧ Hid (Below (w7.alloc (.cells #[.string ⟨#[46, 46]⟩] 9)).heap.size (w7.alloc (.cells #[.string ⟨#[46, 46]⟩] 9)) w') := by
            have := repeat_w w7.heap.size 0 i (by omega) (w7.alloc (.cells #[.string ⟨#[46, 46]⟩] 9)) (by simp; rfl)
            have e : (w7.alloc (.cells #[.string ⟨#[46, 46]⟩] 9)).heap.size = w7.heap.size + 1 := by simp
            rw [e] at this
            rw [e]
            exact this
          have S8 : Hid (Sl (w7.alloc (.cells #[.string ⟨#[46, 46]⟩] 9)) (some ⟨b2, o2, none⟩) st.2) := hid (S7.out.below ((Below.refl _ _).alloc (Nat.le_refl _) _))
          go_wp2_with (first
            | (at_builtin; obtain ⟨ad10, c10, w10, hrun, hl10, hm10, hs10, b10⟩ := KA.out w9 _ (some ⟨b2, o2, none⟩) hs9.out (S8.out.below b9.out) 23; have b010 := b09.trans (b10.mono b09.size); refine wpList_append_run rfl _ _ 23 23 rfl _ _ _ rfl rfl hrun ?_; clear hrun)
            | (go_at_call 38; refine (KJ.out w10 ad10 c10 hs10 hl10).mono ?_; rintro e w11 ⟨rfl, b11⟩)
            | (go_at_call 43; refine q8.mono ?_; rintro e w9 ⟨rfl, hs9, b9⟩; have b09 := b8.trans (b9.out.mono b8.size)))
          go_ret
          exact ⟨by rw [HF1.out]; rfl, b010.trans (b11.mono b010.size)⟩

end Go.Proofs.YtojnniacmmcddaaDoor

