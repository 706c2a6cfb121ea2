/-
  Contract: slices.Repeat of two dots.
-/
import Derived.Test.YtmeaiplinkodiabDoorAw2
import Derived.Laws.CopyOwn
import Derived.Deep.RegionLaw
import Derived.Deep.LoopGhost
import Derived.Laws.Runes
namespace Go.Proofs.YtmeaiplinkodiabDoor
open Go.RowKit
open Go.Lib hiding intOf
set_option linter.unusedVariables false
set_option linter.unusedSimpArgs false

theorem info_str1 : (Tryd.prog.info? 9).map (·.size) = some 1 := by kernel_rfl

/-- so many cells with two dots, the others empty -/
def dotc (n k : Nat) : List Value := List.replicate n (.string (bs [46, 46])) ++ List.replicate (k - n) (.string ⟨#[]⟩)

theorem dotc_length (n k : Nat) (h : n ≤ k) : (dotc n k).length = k := by simp [dotc]; omega
theorem dotc_zero (k : Nat) : madeCells #[.string ⟨#[]⟩] k = (dotc 0 k).toArray := by
  apply Array.ext
  · simp [dotc, madeCells]
  · intro i h1 h2
    simp [dotc, madeCells, Nat.mod_one]
theorem dotc_splice (n m k : Nat) (h : n + m ≤ k) : splice (dotc n k) n (List.replicate m (Value.string (bs [46, 46]))) = dotc (n + m) k := by
  unfold splice dotc
  rw [List.take_left' (by simp), List.length_replicate]
  have : (List.replicate n (Value.string (bs [46, 46])) ++ List.replicate (k - n) (Value.string ⟨#[]⟩)).drop (n + m) = List.replicate (k - (n + m)) (Value.string ⟨#[]⟩) := by
    rw [List.drop_append, List.drop_of_length_le (by simp), List.nil_append, List.length_replicate, List.drop_replicate]
    congr 1
    omega
  rw [this, ← List.append_assoc, List.replicate_append_replicate]
theorem dotc_get (n k i : Nat) (h : i < n) : (dotc n k)[i]? = some (.string (bs [46, 46])) := by
  unfold dotc
  rw [List.getElem?_append_left (by simpa using h), List.getElem?_replicate, if_pos h]

theorem dotc_cell {w : World} {g n k : Nat} (hg : w.heap[g]? = some (.cells (dotc n k).toArray 9 (0, 0))) (i : Nat) (h : i < n) : w.cell? ⟨g, i, none⟩ = some (.string (bs [46, 46])) := by
  simp only [World.cell?, hg]
  have := dotc_get n k i h
  simp [this]

theorem rep_mem (m : Nat) : ∀ v ∈ List.replicate m (Value.string (bs [46, 46])), v.oneCell' = true := by
  intro v hv
  obtain ⟨_, rfl⟩ := List.mem_replicate.1 hv
  rfl

theorem mul_w (k : Nat) (hk : k ≤ 5000) (w : World) : Calls Tryd.prog 38 #[.int .u64 1, .int .u64 (k : Int)] w fun e w' => e = .returned (.tuple #[.int .u64 0, .int .u64 (k : Int)]) ∧ w' = w := by
  have := Tryd.bits_Mul 1 k (by omega) (by omega) w
  rw [Nat.one_mul, Nat.div_eq_of_lt (by omega), Nat.mod_eq_of_lt (by omega)] at this
  exact this

set_option maxRecDepth 20000 in
set_option maxHeartbeats 2000000 in
theorem repeat_some (b o : Nat) (k : Nat) (hk : k ≤ 5000) (h1 : 1 ≤ k) (w : World) (hc : w.cell? ⟨b, o, none⟩ = some (.string (bs [46, 46]))) :
    Calls Tryd.prog 27 #[.slice (some ⟨b, o, none⟩) 1 1, .int .i64 (k : Int)] w fun e w' => e = .returned (.slice (some ⟨w.heap.size, 0, none⟩) k k) ∧ Hid (w'.heap[w.heap.size]? = some (.cells (dotc k k).toArray 9 (0, 0))) ∧ Below w.heap.size w w' := by
  have hmk := run_make_row' (P := Tryd.prog) 24 9 (.string ⟨#[]⟩) 16 Tryd.underlying24 info_str rfl .i64 .i64 k (by omega) (by omega) w
  rw [dotc_zero] at hmk
  have qm := mul_w k hk w
  have hb : b < w.heap.size := World.block_lt_of_cell? _ _ hc
  have hw1 : Hid ((w.alloc (.cells (dotc 0 k).toArray 9)).heap[w.heap.size]? = some (.cells (dotc 0 k).toArray 9 (0, 0))) := hid (by show (w.heap.push _)[w.heap.size]? = _; simp)
  have hc1 : Hid ((w.alloc (.cells (dotc 0 k).toArray 9)).cell? ⟨b, o, none⟩ = some (.string (bs [46, 46]))) := hid ((((Below.refl w.heap.size w).alloc (Nat.le_refl _) _).cell (p := ⟨b, o, none⟩) hb).trans hc)
  have bb1 : Below w.heap.size w (w.alloc (.cells (dotc 0 k).toArray 9)) := (Below.refl _ _).alloc (Nat.le_refl _) _
  generalize hWW : w.alloc (.cells (dotc 0 k).toArray 9) = w1 at *
  clear hWW
  go_enter Tryd.func27, Tryd.ntmps27
  go_upto_region 7 with (go_at_call 38; refine qm.mono ?_; rintro e w' ⟨rfl, hw⟩; rw [hw])
  have hsrc : Hid (∀ j v, (List.replicate 1 (Value.string (bs [46, 46])))[j]? = some v → w1.cell? ((⟨b, o, none⟩ : Addr).add j) = some v) := hid (fun j v hj => by
    match j, hj with
    | 0, hj => cases hj; simpa [Addr.add] using hc1.out
    | j + 1, hj => simp at hj)
  have hfit : Hid (0 + (List.replicate 1 (Value.string (bs [46, 46]))).length ≤ (dotc 0 k).length) := hid (by rw [dotc_length 0 k (by omega)]; simp; omega)
  have hmin : Hid ((List.replicate 1 (Value.string (bs [46, 46]))).length = Nat.min 1 k) := hid (by show 1 = min 1 k; omega)
  go_wp2_with (refine wpList_copy_splice rfl _ _ 24 24 rfl 9 Tryd.underlying24 info_str1 (some ⟨w.heap.size, 0, none⟩) (some ⟨b, o, none⟩) k k 1 1 rfl rfl w.heap.size 0 (dotc 0 k) 9 hw1.out (List.replicate 1 (.string (bs [46, 46]))) hmin.out (fun _ => ⟨rfl, ⟨b, o, none⟩, rfl, hsrc.out⟩) hfit.out (rep_mem 1) w.heap.size w bb1 (Nat.le_refl _) ?_; intro w2 hg2 bb2)
  rw [dotc_splice 0 1 k (by omega)] at hg2
  clear hw1 hc1 bb1 hmk qm
  go_loopg [8] (k - 1) (fun g t wr => ∃ n : Nat, n + g = k ∧ 1 ≤ n ∧ t = .int .i64 n ∧ Hid (wr.heap[w.heap.size]? = some (.cells (dotc n k).toArray 9 (0, 0))) ∧ Below w.heap.size w wr)
  case atStart => exact ⟨1, by omega, by omega, rfl, hg2, bb2⟩
  case round =>
    obtain ⟨n, hng, hn1, rfl, HG, bb⟩ := hrel
    by_cases hlt : n < k
    · obtain ⟨m, hm⟩ : ∃ m, m = min n (k - n) := ⟨_, rfl⟩
      have hm1 : 1 ≤ m := by omega
      have hm2 : n + m ≤ k := by omega
      have HM : Hid ((List.replicate m (Value.string (bs [46, 46]))).length = Nat.min n (k - n)) := hid (by rw [List.length_replicate, hm])
      have HF : Hid (n + (List.replicate m (Value.string (bs [46, 46]))).length ≤ (dotc n k).length) := hid (by rw [dotc_length n k (by omega), List.length_replicate]; exact hm2)
      have HSr : Hid (∀ j v, (List.replicate m (Value.string (bs [46, 46])))[j]? = some v → wr.drew.cell? ((⟨w.heap.size, 0, none⟩ : Addr).add j) = some v) := hid (fun j v hj => by
        rw [List.getElem?_replicate] at hj
        split at hj
        · rename_i hjm
          cases hj
          rw [add_at, Nat.zero_add]
          exact dotc_cell (w := wr.drew) HG.out j (by omega)
        · cases hj)
      have HG2 : Hid (wr.drew.heap[w.heap.size]? = some (.cells (dotc n k).toArray 9 (0, 0))) := HG
      have bb2 : Below w.heap.size w wr.drew := bb.drew
      have j1 : (n : Int) ≤ (k : Int) := by omega
      have j2 : ¬ k = n := by omega
      have j3 : ¬ n = k := by omega
      clear hm HG
      go_upto_region 9 with fail
      go_region_law (refine step_copy_splice rfl (.tmp 41) (.tmp 44) 24 24 rfl 9 Tryd.underlying24 info_str1 (some ⟨w.heap.size, n, none⟩) (some ⟨w.heap.size, 0, none⟩) (k - n) (k - n) n k (by simp [Act.eval, Act.put]) (by simp [Act.eval, Act.put]) w.heap.size n (dotc n k) 9 HG2.out (List.replicate m (.string (bs [46, 46]))) HM.out (fun _ => ⟨rfl, ⟨w.heap.size, 0, none⟩, rfl, HSr.out⟩) HF.out (rep_mem m) w.heap.size w bb2 (Nat.le_refl _) ?_; intro w4 hg4 bb4)
      rw [dotc_splice n m k hm2] at hg4
      clear HM HF HSr HG2
      go_wp2_with fail
      go_roundg (k - (n + m))
      case measure => omega
      case rel => exact ⟨n + m, by omega, by omega, by simp; exact wrap_small _ (by omega) (by omega), hg4, bb4⟩
    · have hnk : n = k := by omega
      subst hnk
      go_wp2_with fail
      go_ret
      exact ⟨rfl, HG, bb⟩

theorem repeat_none (b o : Nat) (w : World) :
    Calls Tryd.prog 27 #[.slice (some ⟨b, o, none⟩) 1 1, .int .i64 0] w fun e w' => e = .returned (.slice (some ⟨w.heap.size, 0, none⟩) 0 0) ∧ Hid (w'.heap[w.heap.size]? = some (.cells (dotc 0 0).toArray 9 (0, 0))) ∧ Below w.heap.size w w' := by
  have hmk := run_make_row' (P := Tryd.prog) 24 9 (.string ⟨#[]⟩) 16 Tryd.underlying24 info_str rfl .i64 .i64 0 (by omega) (by omega) w
  rw [dotc_zero] at hmk
  have qm := mul_w 0 (by omega) w
  rw [show ((0 : Nat) : Int) = 0 from rfl] at hmk qm
  have hw1 : Hid ((w.alloc (.cells (dotc 0 0).toArray 9)).heap[w.heap.size]? = some (.cells (dotc 0 0).toArray 9 (0, 0))) := hid (by show (w.heap.push _)[w.heap.size]? = _; simp)
  have bb1 : Below w.heap.size w (w.alloc (.cells (dotc 0 0).toArray 9)) := (Below.refl _ _).alloc (Nat.le_refl _) _
  generalize hWW : w.alloc (.cells (dotc 0 0).toArray 9) = w1 at *
  clear hWW
  go_enter Tryd.func27, Tryd.ntmps27
  go_wp2_with (first | (go_at_call 38; refine qm.mono ?_; rintro e w' ⟨rfl, hw⟩; rw [hw]) | (refine wpList_copy_nothing rfl _ _ 24 24 rfl 9 Tryd.underlying24 info_str1 (some ⟨w.heap.size, 0, none⟩) (some ⟨b, o, none⟩) 0 0 1 1 rfl rfl rfl ?_))
  refine wp_loop_rounds 1 ?_
  rw [rounds_succ]
  go_wp2_with fail
  go_ret
  exact ⟨rfl, hw1, bb1⟩

theorem dotc_full (k : Nat) : (dotc k k) = strs (List.replicate k [46, 46]) := by simp [dotc, strs]

theorem dotc_sl {w : World} {g k : Nat} (hg : w.heap[g]? = some (.cells (dotc k k).toArray 9 (0, 0))) : Sl w (some ⟨g, 0, none⟩) (List.replicate k [46, 46]) := by
  refine .inr ⟨g, 0, rfl, (Array.getElem?_eq_some_iff.1 hg).1, fun i x hx => ?_⟩
  rw [List.getElem?_replicate] at hx
  split at hx
  · rename_i hi
    cases hx
    rw [Nat.zero_add]
    exact dotc_cell hg i hi
  · cases hx

/-- slices.Repeat of two dots -/
theorem repeat_w (b o : Nat) (k : Nat) (hk : k ≤ 5000) (w : World) (hc : w.cell? ⟨b, o, none⟩ = some (.string (bs [46, 46]))) :
    Calls Tryd.prog 27 #[.slice (some ⟨b, o, none⟩) 1 1, .int .i64 (k : Int)] w fun e w' => e = .returned (.slice (some ⟨w.heap.size, 0, none⟩) k k) ∧ Hid (Sl w' (some ⟨w.heap.size, 0, none⟩) (List.replicate k [46, 46])) ∧ Below w.heap.size w w' := by
  by_cases h : k = 0
  · subst h
    exact (repeat_none b o w).mono fun e w' ⟨h1, h2, h3⟩ => ⟨h1, dotc_sl h2.out, h3⟩
  · exact (repeat_some b o k hk (by omega) w hc).mono fun e w' ⟨h1, h2, h3⟩ => ⟨h1, dotc_sl h2.out, h3⟩

end Go.Proofs.YtmeaiplinkodiabDoor
