/-
  The card of the law PaxRows holds: it returns true for every two lists of records, the variables of the library that it lists being as the program text lays them.
-/
import Derived.Test.YtebnekkdkifgjaaDoorLaid
import Derived.Test.YtebnekkdkifgjaaDoorCards
import Derived.Test.YtebnekkdkifgjaaDoorTie
import Derived.Test.YtebnekkdkifgjaaDoorRowsl
import Derived.ProofKit
import Derived.OpenShut
namespace Go.Proofs.YtebnekkdkifgjaaDoor.paxRows
open Go.ChangeShapes Go.WideShapes Go.RowKit
set_option linter.unusedVariables false
set_option linter.unusedSimpArgs false

theorem size_ok {K V : Nat → ByteArray} {n : Nat} (h : okTo K V n) : ∀ i, i < n → (K i).size ≤ 100000 ∧ (V i).size ≤ 100000 := by
  intro i hi
  have := okTo_le (i := i + 1) (by omega) h
  exact ⟨by have := this.2.1; omega, by have := this.2.2.1; omega⟩

theorem recs_sizes {K V : Nat → ByteArray} {n : Nat} (h : okTo K V n) : ∀ r ∈ recs K V n, r.1.size ≤ 100000 ∧ r.2.size ≤ 100000 := by
  intro r hr
  simp only [recs, List.mem_map, List.mem_range] at hr
  obtain ⟨i, hi, rfl⟩ := hr
  exact size_ok h i hi

theorem encR_app (a b : List Rec) : encR (a ++ b) = encR a ++ encR b := by simp [encR]
theorem recCells_app (a b : List Rec) : recCells (a ++ b) = recCells a ++ recCells b := by simp [recCells]

theorem encR_size : ∀ rs : List Rec, (∀ r ∈ rs, r.1.size ≤ 100000 ∧ r.2.size ≤ 100000) → (encR rs).length ≤ 400000 * rs.length
  | [], _ => by simp [encR]
  | r :: rs, h => by
    have ih := encR_size rs (fun x hx => h x (by simp [hx]))
    have hr := h r (by simp)
    have := recB_len r.1 r.2 hr.1 hr.2
    have e : encR (r :: rs) = recB r.1 r.2 ++ encR rs := by simp [encR]
    rw [e, List.length_append, List.length_cons]
    omega

theorem str_app (a b : List UInt8) : (⟨a.toArray⟩ : ByteArray) ++ ⟨b.toArray⟩ = ⟨(a ++ b).toArray⟩ := by
  apply ByteArray.ext
  simp [ByteArray.data_append]

theorem walk_out (ad0 ad1 : Option Addr) (n0 cap0 n1 cap1 : Nat) (K0 V0 K1 V1 : Nat → ByteArray) (w : World) (ht : Vs w) (h0 : Told2 w ad0 n0 cap0 K0 V0) (h1 : Told2 w ad1 n1 cap1 K1 V1)
    (hc : ¬ (n0 ≤ 70 ∧ okTo K0 V0 n0) ∨ ¬ (n1 ≤ 70 ∧ okTo K1 V1 n1) ∨ 64 < n0 + n1) :
    Calls Tryd.prog 6 #[.slice ad0 n0 cap0, .slice ad1 n1 cap1] w fun e w' => e = .returned (.bool true) ∧ Below w.heap.size w w' := by
  have q0 := records_w w ht
  have F0 : Hid (∀ W, Below w.heap.size w W → Calls Tryd.prog 10 #[.slice ad0 n0 cap0] W fun e w' => e = .returned (.bool (decide (n0 ≤ 70 ∧ okTo K0 V0 n0))) ∧ Below W.heap.size W w') := fun W hb => fits_told h0 hb
  have F1 : Hid (∀ W, Below w.heap.size w W → Calls Tryd.prog 10 #[.slice ad1 n1 cap1] W fun e w' => e = .returned (.bool (decide (n1 ≤ 70 ∧ okTo K1 V1 n1))) ∧ Below W.heap.size W w') := fun W hb => fits_told h1 hb
  clear h0 h1
  by_cases c0 : n0 ≤ 70 ∧ okTo K0 V0 n0
  · rw [decide_eq_true c0] at F0
    by_cases c1 : n1 ≤ 70 ∧ okTo K1 V1 n1
    · rw [decide_eq_true c1] at F1
      have c2 : 64 < n0 + n1 := by
        rcases hc with h | h | h
        · exact absurd c0 h
        · exact absurd c1 h
        · exact h
      have c3 := c0.1
      have c4 := c1.1
      clear hc c0 c1
      go_enter Tryd.func6, Tryd.ntmps6
      go_wp2_with (go_at_call 9; refine q0.mono ?_; rintro e w1 ⟨rfl, b1⟩)
      refine (F0.out w1 b1).mono ?_
      rintro e w2 ⟨rfl, b2⟩
      have bb2 := b1.trans (b2.mono b1.size)
      go_wp2_with (go_at_call 10; refine (F1.out _ bb2).mono ?_; rintro e w3 ⟨rfl, b3⟩; have bb3 := bb2.trans (b3.mono bb2.size))
      go_ret
      exact ⟨rfl, bb3⟩
    · rw [decide_eq_false c1] at F1
      clear hc c0 c1
      go_enter Tryd.func6, Tryd.ntmps6
      go_wp2_with (go_at_call 9; refine q0.mono ?_; rintro e w1 ⟨rfl, b1⟩)
      refine (F0.out w1 b1).mono ?_
      rintro e w2 ⟨rfl, b2⟩
      have bb2 := b1.trans (b2.mono b1.size)
      go_wp2_with (go_at_call 10; refine (F1.out _ bb2).mono ?_; rintro e w3 ⟨rfl, b3⟩; have bb3 := bb2.trans (b3.mono bb2.size))
      go_ret
      exact ⟨rfl, bb3⟩
  · rw [decide_eq_false c0] at F0
    clear hc c0
    go_enter Tryd.func6, Tryd.ntmps6
    go_wp2_with (go_at_call 9; refine q0.mono ?_; rintro e w1 ⟨rfl, b1⟩)
    refine (F0.out w1 b1).mono ?_
    rintro e w2 ⟨rfl, b2⟩
    have bb2 := b1.trans (b2.mono b1.size)
    go_wp2
    go_ret
    exact ⟨rfl, bb2⟩

set_option maxRecDepth 20000 in
set_option maxHeartbeats 8000000 in
theorem walk_in (ad0 ad1 : Option Addr) (n0 cap0 n1 cap1 : Nat) (K0 V0 K1 V1 : Nat → ByteArray) (w : World) (ht : Vs w) (h0 : Told2 w ad0 n0 cap0 K0 V0) (h1 : Told2 w ad1 n1 cap1 K1 V1)
    (c0 : n0 ≤ 70 ∧ okTo K0 V0 n0) (c1 : n1 ≤ 70 ∧ okTo K1 V1 n1) (c2 : n0 + n1 ≤ 64) :
    Calls Tryd.prog 6 #[.slice ad0 n0 cap0, .slice ad1 n1 cap1] w fun e w' => e = .returned (.bool true) ∧ Below w.heap.size w w' := by
  obtain ⟨i0, hi, hz0, hz1, hz2⟩ := info_parts info28c
  obtain ⟨j0, hj, jz0, jz1, jz2⟩ := info_parts info5c
  have q0 := records_w w ht
  have HV : Hid (∀ W, Below w.heap.size w W → Vs W) := fun W h => ht.below h
  have F0 : Hid (∀ W, Below w.heap.size w W → Calls Tryd.prog 10 #[.slice ad0 n0 cap0] W fun e w' => e = .returned (.bool true) ∧ Below W.heap.size W w') := fun W hb => by
    have := fits_told h0 hb
    rwa [decide_eq_true c0] at this
  have F1 : Hid (∀ W, Below w.heap.size w W → Calls Tryd.prog 10 #[.slice ad1 n1 cap1] W fun e w' => e = .returned (.bool true) ∧ Below W.heap.size W w') := fun W hb => by
    have := fits_told h1 hb
    rwa [decide_eq_true c1] at this
  have E0 : Hid (∀ W, Below w.heap.size w W → Calls Tryd.prog 14 #[.slice ad0 n0 cap0] W fun e w' => (∃ v z, e = .returned (.tuple #[v, .int .i64 z]) ∧ (z = 0 ↔ AllOk (recs K0 V0 n0)) ∧ (AllOk (recs K0 V0 n0) → w'.ownsRow W.heap.size 5 1 v (encR (recs K0 V0 n0)).length (Lib.byteCells (encR (recs K0 V0 n0))))) ∧ Below W.heap.size W w') := fun W hb => enc_told h0 hb (by omega) (size_ok c0.2) (ht.below hb)
  have E1 : Hid (∀ W, Below w.heap.size w W → Calls Tryd.prog 14 #[.slice ad1 n1 cap1] W fun e w' => (∃ v z, e = .returned (.tuple #[v, .int .i64 z]) ∧ (z = 0 ↔ AllOk (recs K1 V1 n1)) ∧ (AllOk (recs K1 V1 n1) → w'.ownsRow W.heap.size 5 1 v (encR (recs K1 V1 n1)).length (Lib.byteCells (encR (recs K1 V1 n1))))) ∧ Below W.heap.size W w') := fun W hb => enc_told h1 hb (by omega) (size_ok c1.2) (ht.below hb)
  have S0 : Hid (∀ W, Below w.heap.size w W → SrcOk W (.slice ad0 n0 cap0) n0 (recCells (recs K0 V0 n0))) := fun W hb => h0.src hb
  have S1 : Hid (∀ W, Below w.heap.size w W → SrcOk W (.slice ad1 n1 cap1) n1 (recCells (recs K1 V1 n1))) := fun W hb => h1.src hb
  have l0 := recs_len K0 V0 n0
  have l1 := recs_len K1 V1 n1
  have Z0 : Hid (∀ r ∈ recs K0 V0 n0, r.1.size ≤ 100000 ∧ r.2.size ≤ 100000) := recs_sizes c0.2
  have Z1 : Hid (∀ r ∈ recs K1 V1 n1, r.1.size ≤ 100000 ∧ r.2.size ≤ 100000) := recs_sizes c1.2
  have L0 : Hid ((recs K0 V0 n0).length = n0) := l0
  have L1 : Hid ((recs K1 V1 n1).length = n1) := l1
  clear h0 h1 c0 c1 l0 l1 ht
  generalize recs K0 V0 n0 = A at *
  generalize recs K1 V1 n1 = B at *
  go_enter Tryd.func6, Tryd.ntmps6
  go_wp2_with (go_at_call 9; refine q0.mono ?_; rintro e w1 ⟨rfl, b1⟩)
  refine (F0.out w1 b1).mono ?_
  rintro e w2 ⟨rfl, b2⟩
  have bb2 := b1.trans (b2.mono b1.size)
  go_wp2_with (go_at_call 10; refine (F1.out _ bb2).mono ?_; rintro e w3 ⟨rfl, b3⟩; have bb3 := bb2.trans (b3.mono bb2.size))
  refine (E0.out w3 bb3).mono ?_
  rintro e w4 ⟨⟨v4, z4, rfl, hz4, ho4⟩, b4⟩
  have bb4 := bb3.trans (b4.mono bb3.size)
  clear q0 b1 b2 b3 F0 F1 E0
  go_wp2_with fail
  refine (E1.out w4 bb4).mono ?_
  rintro e w5 ⟨⟨v5, z5, rfl, hz5, ho5⟩, b5⟩
  have bb5 := bb4.trans (b5.mono bb4.size)
  clear E1
  have HO4 : Hid (AllOk A → w5.ownsRow w3.heap.size 5 1 v4 (encR A).length (Lib.byteCells (encR A))) := fun ha => own_below (ho4 ha) b5
  have HO5 : Hid (AllOk B → w5.ownsRow w4.heap.size 5 1 v5 (encR B).length (Lib.byteCells (encR B))) := ho5
  have HZ4 : Hid (z4 = 0 ↔ AllOk A) := hz4
  have HZ5 : Hid (z5 = 0 ↔ AllOk B) := hz5
  clear ho4 ho5 hz4 hz5
  have hlit := World.ownsRow_lit (base := w5.heap.size) (e := 28) (size := 2) w5 #[] 0 (Nat.le_refl _) (by decide) rfl
  have bl : Below w5.heap.size w5 (w5.alloc (.cells #[] 28)) := (Below.refl _ _).alloc (Nat.le_refl _) _
  have sr0 := S0.out _ (bb5.trans (bl.mono bb5.size))
  go_wp2_with (at_builtin; refine wpList_append_src rfl (.tmp 42) (.tmp 43) 22 rfl w5.heap.size 28 i0 (.agg #[.string ⟨#[]⟩, .string ⟨#[]⟩]) 2 32 Tryd.underlying22 hi hz0 hz1 hz2 rfl (by decide) _ 0 _ rfl hlit (.slice ad0 n0 cap0) n0 (recCells A) rfl sr0 ?f0 ?f1 ?f2 ?f3 ?f4 ?_)
  case f0 => rw [recCells_len, L0.out]
  case f1 => exact recCells_one _
  case f2 => unfold maxLen; omega
  case f3 => omega
  case f4 => simp
  intro v6 w6 o6 b6
  have b56 : Below w5.heap.size w5 w6 := bl.trans b6
  have O6 : Hid (w6.ownsRow w5.heap.size 28 2 v6 n0 (recCells A)) := by
    show w6.ownsRow w5.heap.size 28 2 v6 n0 (recCells A)
    simpa using o6
  have sr1 := S1.out _ (bb5.trans (b56.mono bb5.size))
  have hs6 : w5.heap.size ≤ w6.heap.size := b56.size
  clear hlit o6 sr0 bl b6
  go_wp2_with (at_builtin; refine wpList_append_src rfl (.tmp 44) (.tmp 45) 22 rfl w5.heap.size 28 i0 (.agg #[.string ⟨#[]⟩, .string ⟨#[]⟩]) 2 32 Tryd.underlying22 hi hz0 hz1 hz2 rfl (by decide) _ n0 _ rfl O6.out (.slice ad1 n1 cap1) n1 (recCells B) rfl sr1 ?g0 ?g1 ?g2 ?g3 ?g4 ?_)
  case g0 => rw [recCells_len, L1.out]
  case g1 => exact recCells_one _
  case g2 => unfold maxLen; omega
  case g3 => omega
  case g4 => exact hs6
  intro v7 w7 o7 b7
  have b57 : Below w5.heap.size w5 w7 := b56.trans b7
  have bb7 : Below w.heap.size w w7 := bb5.trans (b57.mono bb5.size)
  have O7 : w7.ownsRow w5.heap.size 28 2 v7 (A ++ B).length (recCells (A ++ B)) := by
    rw [recCells_app, List.length_append, L0.out, L1.out]
    exact o7
  have qe := enc_own O7 (by rw [List.length_append, L0.out, L1.out]; exact c2) (fun r hr => by
    rcases List.mem_append.1 hr with h | h
    · exact Z0.out r h
    · exact Z1.out r h) (HV.out _ bb7)
  clear o7 O7 O6 sr1 b7 b56 hs6 S0 S1
  go_wp2_with fail
  refine qe.mono ?_
  rintro e w8 ⟨⟨v8, z8, rfl, hz8, ho8⟩, b8⟩
  have bb8 := bb7.trans (b8.mono bb7.size)
  have b58 : Below w5.heap.size w5 w8 := b57.trans (b8.mono b57.size)
  have HZ8 : Hid (z8 = 0 ↔ AllOk (A ++ B)) := hz8
  have HO8 : Hid (AllOk (A ++ B) → w8.ownsRow w7.heap.size 5 1 v8 (encR (A ++ B)).length (Lib.byteCells (encR (A ++ B)))) := ho8
  have HAB : Hid (AllOk (A ++ B) ↔ AllOk A ∧ AllOk B) := ⟨fun h => ⟨fun r hr => h r (by simp [hr]), fun r hr => h r (by simp [hr])⟩, fun h r hr => by
    rcases List.mem_append.1 hr with q | q
    · exact h.1 r q
    · exact h.2 r q⟩
  clear hz8 ho8 qe
  by_cases c4 : z4 = 0
  · by_cases c5 : z5 = 0
    · have ok4 := HZ4.out.1 c4
      have ok5 := HZ5.out.1 c5
      have ok8 := HAB.out.2 ⟨ok4, ok5⟩
      have c8 := HZ8.out.2 ok8
      subst c4 c5 c8
      have o4 := own_below (HO4.out ok4) b58
      have o5 := own_below (HO5.out ok5) b58
      have o8 := HO8.out ok8
      have hL4 := encR_size A Z0.out
      have hL5 := encR_size B Z1.out
      rw [L0.out] at hL4
      rw [L1.out] at hL5
      have hdec := dec_back (A ++ B) (fun r hr => by
        have hs : r.1.size ≤ 100000 ∧ r.2.size ≤ 100000 := by
          rcases List.mem_append.1 hr with q | q
          · exact Z0.out r q
          · exact Z1.out r q
        exact ⟨ok8 r hr, hs.1, hs.2⟩) (by rw [List.length_append, L0.out, L1.out]; exact c2)
      have HD : Hid (dec (encR (A ++ B)).length [] (encR (A ++ B)) = (A ++ B, 0)) := hdec
      have hlit := World.ownsRow_lit (base := w8.heap.size) (e := 5) (size := 1) w8 #[] 0 (Nat.le_refl _) (by decide) rfl
      have bl : Below w8.heap.size w8 (w8.alloc (.cells #[] 5)) := (Below.refl _ _).alloc (Nat.le_refl _) _
      have sr4 := own_src (own_below o4 bl)
      have P4 : Hid (w8.ownsRow w3.heap.size 5 1 v4 (encR A).length (Lib.byteCells (encR A))) := o4
      have P5 : Hid (w8.ownsRow w4.heap.size 5 1 v5 (encR B).length (Lib.byteCells (encR B))) := o5
      have P8 : Hid (w8.ownsRow w7.heap.size 5 1 v8 (encR (A ++ B)).length (Lib.byteCells (encR (A ++ B)))) := o8
      clear o4 o5 o8 HO4 HO5 HO8 HZ4 HZ5 HZ8 HAB ok4 ok5 ok8 hdec
      go_wp2_with (at_builtin; refine wpList_append_src rfl (.tmp 59) (.tmp 60) 36 rfl w8.heap.size 5 j0 (.int .u8 0) 1 1 Tryd.underlying36 hj jz0 jz1 jz2 rfl (by decide) _ 0 _ rfl hlit v4 (encR A).length (Lib.byteCells (encR A)) rfl sr4 ?p0 ?p1 ?p2 ?p3 ?p4 ?_)
      case p0 => simp [Lib.byteCells_length]
      case p1 => exact Lib.byteCells_one _
      case p2 => unfold maxLen; omega
      case p3 => omega
      case p4 => simp
      intro v9 w9 o9 b9
      have b89 : Below w8.heap.size w8 w9 := bl.trans b9
      have P9 : Hid (w9.ownsRow w8.heap.size 5 1 v9 (encR A).length (Lib.byteCells (encR A))) := by
        show w9.ownsRow w8.heap.size 5 1 v9 (encR A).length (Lib.byteCells (encR A))
        simpa using o9
      have sr5 := own_src (own_below P5.out b89)
      have hs9 : w8.heap.size ≤ w9.heap.size := b89.size
      clear hlit o9 sr4 bl b9
      go_wp2_with (at_builtin; refine wpList_append_src rfl (.tmp 61) (.tmp 62) 36 rfl w8.heap.size 5 j0 (.int .u8 0) 1 1 Tryd.underlying36 hj jz0 jz1 jz2 rfl (by decide) _ _ _ rfl P9.out v5 (encR B).length (Lib.byteCells (encR B)) rfl sr5 ?r0 ?r1 ?r2 ?r3 ?r4 ?_)
      case r0 => simp [Lib.byteCells_length]
      case r1 => exact Lib.byteCells_one _
      case r2 => unfold maxLen; omega
      case r3 => omega
      case r4 => exact hs9
      intro v10 w10 o10 b10
      have b810 : Below w8.heap.size w8 w10 := b89.trans b10
      have bb10 : Below w.heap.size w w10 := bb8.trans (b810.mono bb8.size)
      have hlAB : (encR (A ++ B)).length = (encR A).length + (encR B).length := by rw [encR_app, List.length_append]
      have O10 : w10.ownsRow w8.heap.size 5 1 v10 (encR (A ++ B)).length (Lib.byteCells (encR (A ++ B))) := by
        rw [hlAB, encR_app, Lib.byteCells_append]
        exact o10
      have qd := dec_own O10 (by omega) (HV.out _ bb10)
      rw [HD.out] at qd
      clear o10 O10 P9 sr5 hs9 b10 b89 hlAB
      go_wp2_with fail
      refine qd.mono ?_
      rintro e w11 ⟨v11, rfl, own11, b11⟩
      obtain ⟨ad11, cap11, rfl, _, _⟩ := own_slice own11
      have b811 : Below w8.heap.size w8 w11 := b810.trans (b11.mono b810.size)
      have cv4 := conv_own (own_below P4.out b811)
      have cv5 := conv_own (own_below P5.out b811)
      have cv8 := conv_own (own_below P8.out b811)
      have bb11 : Below w.heap.size w w11 := bb10.trans (b11.mono bb10.size)
      have hst := str_app (encR A) (encR B)
      rw [← encR_app] at hst
      have hsz4 : (⟨(encR A).toArray⟩ : ByteArray).size = (encR A).length := by simp [ByteArray.size]
      have hsz5 : (⟨(encR B).toArray⟩ : ByteArray).size = (encR B).length := by simp [ByteArray.size]
      rw [List.length_append, L0.out, L1.out]
      clear qd own11 P4 P5 P8 HD b810 b57 b58
      generalize (⟨(encR A).toArray⟩ : ByteArray) = sA at *
      generalize (⟨(encR B).toArray⟩ : ByteArray) = sB at *
      generalize (⟨(encR (A ++ B)).toArray⟩ : ByteArray) = sAB at *
      have hA1 : sA.size ≤ 25600000 := by omega
      have hB1 : sB.size ≤ 25600000 := by omega
      clear hsz4 hsz5 hL4 hL5
      go_wp2
      go_ret
      exact ⟨by first | rfl | simp, bb11⟩
    · have c8 : ¬ z8 = 0 := fun h => c5 (HZ5.out.2 (HAB.out.1 (HZ8.out.1 h)).2)
      subst c4
      go_wp2
      go_ret
      exact ⟨by first | rfl | simp [c8], bb8⟩
  · have c8 : ¬ z8 = 0 := fun h => c4 (HZ4.out.2 (HAB.out.1 (HZ8.out.1 h)).1)
    go_wp2
    go_ret
    exact ⟨by first | rfl | simp [c8], bb8⟩

theorem walk (ad0 : Option Addr) (n0 cap0 : Nat) (K0 V0 : Nat → ByteArray) (ad1 : Option Addr) (n1 cap1 : Nat) (K1 V1 : Nat → ByteArray) (w : World) (ht : Vs w) (h0 : Told2 w ad0 n0 cap0 K0 V0) (h1 : Told2 w ad1 n1 cap1 K1 V1) :
    Calls Tryd.prog 6 #[.slice ad0 n0 cap0, .slice ad1 n1 cap1] w fun e w' => e = .returned (.bool true) ∧ Below w.heap.size w w' := by
  by_cases c0 : n0 ≤ 70 ∧ okTo K0 V0 n0
  · by_cases c1 : n1 ≤ 70 ∧ okTo K1 V1 n1
    · by_cases c2 : n0 + n1 ≤ 64
      · exact walk_in ad0 ad1 n0 cap0 n1 cap1 K0 V0 K1 V1 w ht h0 h1 c0 c1 c2
      · exact walk_out ad0 ad1 n0 cap0 n1 cap1 K0 V0 K1 V1 w ht h0 h1 (.inr (.inr (by omega)))
    · exact walk_out ad0 ad1 n0 cap0 n1 cap1 K0 V0 K1 V1 w ht h0 h1 (.inr (.inl c1))
  · exact walk_out ad0 ad1 n0 cap0 n1 cap1 K0 V0 K1 V1 w ht h0 h1 (.inl c0)

theorem lit_i64 {z : Int} (h : (Lit.int .i64 z).wf = true) : -9223372036854775808 ≤ z ∧ z ≤ 9223372036854775807 := by
  have h' : IntKind.i64.min ≤ z ∧ z ≤ IntKind.i64.max := by simpa [Lit.wf] using h
  have e1 : IntKind.i64.min = -9223372036854775808 := by decide
  have e2 : IntKind.i64.max = 9223372036854775807 := by decide
  omega

set_option maxRecDepth 100000 in
theorem lifted (os : Os) (started : os.Started) (H : Type) (enc : TypeId × Value → H) :
    ReturnsInHanded {} Tryd.checked os 6 .any (fun w args => (Rows.paxRowsSpec.pre enc Tryd.prog Tryd.f6 [] false w args ∧ laidMetH Tryd.prog five w) ∧ sizedMet enc Tryd.prog Tryd.f6 (OpenSpec.ofChange Rows.paxRowsSpec) false w args)
      (Rows.paxRowsSpec.post enc Tryd.prog Tryd.f6 false true false false) := by
  refine returnsInHanded_of_change_and (C := Tryd.checked) (X := fun w _ => laidMetH Tryd.prog five w) (fun _ _ _ hh h => h.of_heap hh) own started (by kernel_rfl) Tryd.func6
    (ChangeSpec.witness_at (enc := enc) (C := Tryd.checked) (os := os) (X := fun w _ => laidMetH Tryd.prog five w) false
      (start os)
      #[.slice none 0 0, .slice none 0 0] 8 rfl (by kernel_rfl) (by kernel_rfl) (by kernel_rfl) (by kernel_rfl) (by kernel_rfl) (laidMet_of_run' 8 (by kernel_rfl) (by kernel_rfl))) ?_
  intro W base args ds gs before hval0 hW _ hsz hL _
  have hval : ∀ (j : Nat) t v, Tryd.f6.params[j]? = some t → args[j]? = some v → Value.okWide Tryd.prog W .any base t v := hval0
  have hW' := hW
  obtain ⟨p, q, hA0, hV0, rfl, hfz, hnd⟩ := hW
  have hA : DataW.TrodAll enc Tryd.prog W 0 (fun _ => true) true Tryd.f6.params.toList args.toList ds p := hA0
  have hV : DataW.TrodVars enc Tryd.prog W (fun _ => true) [] gs q := hV0
  rw [Tryd.params6] at hA hval
  obtain ⟨v0, vs0, d0, ds0, p0, q0, hargs, rfl, rfl, h0, r0⟩ := trodAll_cons hA
  obtain ⟨v1, vs1, d1, ds1, p1, q1, rfl, rfl, rfl, h1, r1⟩ := trodAll_cons r0
  obtain ⟨rfl, rfl, rfl⟩ := trodAll_nil r1
  obtain rfl : args = #[v0, v1] := by cases args; simp_all
  obtain ⟨rfl, rfl⟩ : gs = [] ∧ q = [] := by
    cases gs with
    | nil => exact ⟨rfl, hV⟩
    | cons g r => exact absurd hV (by intro h; cases h)
  obtain ⟨ad0, n0, cap0, rfl⟩ := okWide_slice Tryd.underlying22 (hval 0 22 v0 rfl rfl)
  have k0 := h0
  have lt0 : ∀ x ∈ p0, x.block < W.heap.size := by obtain ⟨m, hm⟩ := k0; exact DataW.trod_lt m _ _ _ hm
  obtain ⟨K0, V0, z0⟩ : ∃ K V, Told2 W ad0 n0 cap0 K V := told2_of h0
  obtain ⟨ad1, n1, cap1, rfl⟩ := okWide_slice Tryd.underlying22 (hval 1 22 v1 rfl rfl)
  have k1 := h1
  have lt1 : ∀ x ∈ p1, x.block < W.heap.size := by obtain ⟨m, hm⟩ := k1; exact DataW.trod_lt m _ _ _ hm
  obtain ⟨K1, V1, z1⟩ : ∃ K V, Told2 W ad1 n1 cap1 K V := told2_of h1
  clear hA0 hval0
  refine (walk ad0 n0 cap0 K0 V0 ad1 n1 cap1 K1 V1 W (met hL) z0 z1).mono fun e W' ⟨he, st⟩ => ?_
  subst he
  exact ⟨_, rfl, _, _, _, [], _, [], hW', trodAll_mk1 (shut_bool Tryd.underlying4 _), (trodAll_cons_mk (Below.trod laidOut (by kernel_rfl) (of_decide_eq_true (by kernel_rfl)) k0 st lt0) (trodAll_cons_mk (Below.trod laidOut (by kernel_rfl) (of_decide_eq_true (by kernel_rfl)) k1 st lt1) trodAll_mk0)), rfl, st.frame _, fun h => by cases h⟩

theorem over : Rows.PaxRowsSaid :=
  OpenClaim.holds_of_wide 6 Tryd.f6 rfl rfl rfl rfl rfl rfl rfl ⟨rfl, rfl, rfl, rfl, rfl⟩ rfl rfl rfl rfl rfl (by kernel_rfl) Tryd.func6 (by kernel_rfl)
    (of_decide_eq_true (by kernel_rfl)) (by unfold Func.isWrapper; rw [if_neg (of_decide_eq_false (by kernel_rfl))]; exact ⟨rfl, rfl⟩)
    (fun os started H enc _ => lifted os started H enc)

theorem carded : Rows.PaxRowsCardSaid :=
  Claim7.holds_tied_plain_at .later [] _ _ _ _
    over (fun _ h => by cases h) (by kernel_rfl) (fun _ h => by cases h) paxRows_row_tie rfl ⟨rfl, rfl⟩ (by kernel_rfl) rfl
    (fun f fn hf hfn => by
      obtain rfl : f = 6 := Option.some.inj ((show Tryd.prog.funcNamed Tryd.f6.name = some 6 by kernel_rfl).symm.trans hf) |>.symm
      obtain rfl : fn = Tryd.f6 := (Option.some.inj (Tryd.func6.symm.trans hfn)).symm
      refine ⟨by kernel_rfl, fun j t ht => ?_⟩
      have hall : ∀ t ∈ Tryd.f6.params, Tryd.prog.wantsStandIn t = false := by
        rw [Tryd.params6]
        intro t ht
        simp at ht
        rcases ht with rfl | rfl <;> kernel_rfl
      exact hall t (Array.mem_of_getElem? ht))
    (by kernel_rfl)

end Go.Proofs.YtebnekkdkifgjaaDoor.paxRows
namespace Go.Proofs.YtebnekkdkifgjaaDoor
theorem paxRows_holds : Rows.PaxRowsCardSaid := paxRows.carded
#print axioms paxRows_holds
end Go.Proofs.YtebnekkdkifgjaaDoor
