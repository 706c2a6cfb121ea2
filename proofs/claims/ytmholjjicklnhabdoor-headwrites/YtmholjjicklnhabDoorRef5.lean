/-
  Contracts of the document's own sums: pannierref05.counts, Plain, Signed, Right.
-/
import Derived.Test.YtmholjjicklnhabDoorRefp
import Derived.Test.YtmholjjicklnhabDoorSeal
import Derived.Test.YtmholjjicklnhabDoorCounts
import Derived.Laws.Rows
namespace Go.Proofs.YtmholjjicklnhabDoor
open Go.RowKit
set_option linter.unusedVariables false
set_option linter.unusedSimpArgs false

def icells (cs : List Int) : List Value := cs.map (Value.int .i64)
theorem icells_length (cs : List Int) : (icells cs).length = cs.length := by simp [icells]
theorem zero35 (w : World) : (zeroValue 78).run Tryd.prog w = .ok (.agg (icells Z256).toArray) w := by
  have b : (Tryd.prog.info? 78).bind (fun i => i.zero) = some (.agg (icells Z256).toArray) := by kernel_rfl
  cases hq : Tryd.prog.info? 78 with
  | none => rw [hq] at b; simp at b
  | some i =>
    rw [hq] at b; simp at b
    simp [zeroValue, typeInfo, hq, b]
theorem inf35 : (Tryd.prog.info? 78).map (·.size) = some 256 := by kernel_rfl

/-- the row g is the numbers cs -/
def IRow (w : World) (g : Nat) (cs : List Int) : Prop := w.heap[g]? = some (.cells (icells cs).toArray 78 (0, 0))

theorem IRow.cell {w : World} {g : Nat} {cs : List Int} (h : IRow w g cs) (v : Nat) (hv : v < cs.length) : w.cell? ⟨g, v, none⟩ = some (.int .i64 (cs[v]?.getD 0)) := by
  unfold IRow at h
  simp only [World.cell?, h]
  simp [icells, hv]
theorem IRow.frozen {w : World} {g : Nat} {cs : List Int} (h : IRow w g cs) (v : Nat) : w.frozen? ⟨g, v, none⟩ = false := by
  unfold IRow at h
  simp [World.frozen?, h]
theorem IRow.set {w : World} {g : Nat} {cs : List Int} (h : IRow w g cs) (v : Nat) (x : Int) : IRow (w.setCell ⟨g, v, none⟩ (.int .i64 x)) g (cs.set v x) := by
  unfold IRow at *
  rw [setCell_eq_setRow w g v _ _ _ _ h, setRow_heap _ _ _ _ _ _ h]
  simp only [List.setIfInBounds_toArray, icells, List.map_set]
theorem IRow.lt {w : World} {g : Nat} {cs : List Int} (h : IRow w g cs) : g < w.heap.size := lt_of_heap h

structure Two (w wr : World) (g c : Nat) (cs : List Int) : Prop where
  below : Below w.heap.size w wr
  rg : IRow wr g Z256
  rc : IRow wr c cs
  hg : w.heap.size ≤ g
  hc : w.heap.size ≤ c
  ne : g ≠ c

theorem Two.set {w wr : World} {g c : Nat} {cs : List Int} (h : Two w wr g c cs) (v : Nat) (x : Int) : Two w (wr.setCell ⟨c, v, none⟩ (.int .i64 x)) g c (cs.set v x) :=
  ⟨h.below.setCell h.hc _, by have := h.rg; unfold IRow at *; rw [Below.heap_setCell _ _ _ _ h.ne]; exact this, h.rc.set v x, h.hg, h.hc, h.ne⟩

theorem below_setRow {B : Nat} {a w : World} (h : Below B a w) {g : Nat} (hg : B ≤ g) (cs : Array Value) : Below B a (w.setRow g cs) :=
  ⟨h.os, h.tape, h.output, by rw [setRow_size]; exact h.size, fun k hk => by rw [setRow_other _ _ _ _ (by omega)]; exact h.block k hk⟩

theorem icells_one (cs : List Int) : (icells cs).toArray.all (·.oneCell') = true := by
  simp [icells, List.all_eq_true]
  intro x _
  rfl

set_option maxRecDepth 100000 in
set_option maxHeartbeats 4000000 in
theorem counts_w (zs : List Int) (w : World) (hb : Hid (AllB zs)) (hl : zs.length ≤ 2000) :
    Calls Tryd.prog 45 #[.string (strOf zs)] w fun e w' => e = .returned (.agg (icells (countsL zs)).toArray) ∧ Below w.heap.size w w' := by
  have hzero := zero35
  have hs := strOf_sizeR zs
  have hix := strOf_at zs hb
  have i1 := inf35
  have two0 : Two w (((w.alloc (.cells (icells Z256).toArray 78)).alloc (.cells (icells Z256).toArray 78)).setRow (w.heap.size + 1) (icells Z256).toArray) w.heap.size (w.heap.size + 1) (countsL (zs.take 0)) := by
    have e1 : ((w.alloc (.cells (icells Z256).toArray 78)).alloc (.cells (icells Z256).toArray 78)).heap[w.heap.size + 1]? = some (.cells (icells Z256).toArray 78 (0, 0)) := heap_alloc2_new _ _ _
    refine ⟨below_setRow (((Below.refl _ w).alloc (Nat.le_refl _) _).alloc (by simp) _) (by omega) _, ?_, ?_, Nat.le_refl _, by omega, by omega⟩
    · unfold IRow
      rw [setRow_other _ _ _ _ (by omega), Below.heap_alloc _ _ _ (by simp)]
      exact heap_alloc_new w _
    · unfold IRow
      rw [setRow_heap _ _ _ _ _ _ e1]
      rfl
  have hr1 : ((w.alloc (.cells (icells Z256).toArray 78)).alloc (.cells (icells Z256).toArray 78)).heap[w.heap.size + 1]? = some (.cells (icells Z256).toArray 78 (0, 0)) := heap_alloc2_new _ _ _
  have hone := icells_one Z256
  have hsz : (icells Z256).toArray.size = 256 := by rw [List.size_toArray, icells_length, Z256, List.length_replicate]
  generalize hZ : (icells Z256).toArray = Z at *
  clear hZ
  go_enter Tryd.func45, Tryd.ntmps45
  go_wp2_with (refine wpList_store_row rfl 78 _ _ rfl (w.heap.size + 1) Z rfl rfl 78 Z hr1 (by rw [i1, hsz]) rfl hone ?_)
  generalize hW : ((w.alloc (.cells Z 78)).alloc (.cells Z 78)).setRow (w.heap.size + 1) Z = W at *
  generalize w.heap.size + 1 = gc at *
  clear hr1 hone hzero hsz
  go_loopw [4] (fun x wr => ∃ k : Nat, k ≤ zs.length ∧ x = .int .i64 (k : Int) ∧ Two w wr w.heap.size gc (countsL (zs.take k))) (fun x _ => zs.length - (intOf x).toNat)
  case atStart => exact ⟨0, by omega, rfl, two0⟩
  case round =>
    clear two0 hW
    obtain ⟨k, hk, rfl, tw⟩ := hrel
    by_cases hlt : k < zs.length
    · have hst := countsL_take zs k hlt
      have hb0 := byte_atR zs hb k
      unfold isByte at hb0
      have hnth : nth zs k = zs[k]?.getD 0 := rfl
      rw [← hnth] at hst
      have hlk : ((zs.take k).length : Int) ≤ 2000 := by rw [List.length_take]; omega
      have hlen := countsL_length (zs.take k)
      have hbnd := countsL_bnd (zs.take k)
      have hix' := hix k (by rw [hs]; exact hlt)
      by_cases c1 : 148 ≤ k ∧ k < 156
      · rw [show (cntAt k (nth zs k)).toNat = 32 by simp [cntAt, c1]] at hst
        unfold bumpAt at hst
        obtain ⟨c1, c2⟩ := c1
        have ce := tw.rc.cell 32 (by omega)
        have fz := tw.rc.frozen 32
        have tw' := tw.set 32 ((countsL (zs.take k))[32]?.getD 0 + 1)
        have hbd := hbnd.at (by omega) 32
        rw [← hst] at tw'
        generalize (countsL (zs.take k))[32]?.getD 0 = cv at *
        clear tw hst hbnd hix hnth
        go_wp2
        go_roundw
        case rel => exact ⟨k + 1, by omega, by go_num, tw'⟩
        case measure => simp [intOf]; omega
      · rw [show cntAt k (nth zs k) = nth zs k by simp [cntAt, c1]] at hst
        unfold bumpAt at hst
        obtain ⟨v, hv⟩ : ∃ v : Nat, nth zs k = (v : Int) := ⟨(nth zs k).toNat, by omega⟩
        rw [hv, Int.toNat_natCast] at hst
        rw [hv] at hix' hb0
        have ce := tw.rc.cell v (by omega)
        have fz := tw.rc.frozen v
        have tw' := tw.set v ((countsL (zs.take k))[v]?.getD 0 + 1)
        have hbd := hbnd.at (by omega) v
        rw [← hst] at tw'
        generalize (countsL (zs.take k))[v]?.getD 0 = cv at *
        clear tw hst hbnd hix hnth hv
        have hv2 : v < 256 := by omega
        have hks : k < (strOf zs).size := by rw [hs]; exact hlt
        by_cases c2 : 148 ≤ (k : Int)
        · have c3 : ¬ (k : Int) < 156 := by omega
          go_wp2
          go_roundw
          case rel => exact ⟨k + 1, by omega, by go_num, tw'⟩
          case measure => simp [intOf]; omega
        · go_wp2
          go_roundw
          case rel => exact ⟨k + 1, by omega, by go_num, tw'⟩
          case measure => simp [intOf]; omega
    · obtain rfl : k = zs.length := by omega
      rw [List.take_length] at tw
      have lc := countsL_length zs
      have r1 := tw.rc
      have r2 := tw.rg
      unfold IRow at r1 r2
      have hsC : (icells (countsL zs)).toArray.size = 256 := by rw [List.size_toArray, icells_length, lc]
      have hsZ : (icells Z256).toArray.size = 256 := by rw [List.size_toArray, icells_length, Z256, List.length_replicate]
      have hone := icells_one (countsL zs)
      have r3 := setRow_heap wr w.heap.size _ (icells (countsL zs)).toArray _ _ r2
      have b3 := below_setRow tw.below tw.hg (icells (countsL zs)).toArray
      clear tw hix
      generalize hC : (icells (countsL zs)).toArray = C at *
      generalize (icells Z256).toArray = Z0 at *
      generalize hW3 : wr.setRow w.heap.size C = W3 at *
      have HW3 : Hid (wr.setRow w.heap.size C = W3) := hW3
      clear hW3
      go_wp2_with (first
        | (refine wpList_load_row rfl 78 _ rfl gc rfl 78 C (0, 0) _ r1 Tryd.underlying78 rfl (by rw [i1, hsC]) ?_)
        | (refine wpList_store_row rfl 78 _ _ rfl w.heap.size C rfl rfl 78 Z0 r2 (by rw [i1, hsC]) (by rw [hsZ, hsC]) hone ?_; rw [HW3.out]))
      exact bodyPost_ret (results_cell_row rfl _ _ w.heap.size 78 C (0, 0) _ rfl r3 Tryd.underlying78 rfl (by rw [i1, hsC])) rfl ⟨by rw [hC], b3⟩

set_option maxRecDepth 100000 in
set_option maxHeartbeats 4000000 in
theorem refplain_w (zs : List Int) (w : World) (hb : Hid (AllB zs)) (hl : zs.length ≤ 2000) :
    Calls Tryd.prog 33 #[.string (strOf zs)] w fun e w' => e = .returned (.int .i64 (plainS zs)) ∧ Below w.heap.size w w' := by
  have q := counts_w zs w hb hl
  have hzero := zero35
  have i1 := inf35
  have lc := countsL_length zs
  have hbnd := countsL_bnd zs
  have hres : Hid (True) := trivial
  have hsC : (icells (countsL zs)).toArray.size = 256 := by rw [List.size_toArray, icells_length, lc]
  have hsZ : (icells Z256).toArray.size = 256 := by rw [List.size_toArray, icells_length, Z256, List.length_replicate]
  have hone := icells_one (countsL zs)
  have hwb : ∀ k, k ≤ 256 → 0 ≤ wsum idF 0 ((countsL zs).take k) ∧ wsum idF 0 ((countsL zs).take k) ≤ 510000 * 256 := fun k hk => by
    have := wsum_bound idF idF_ok zs.length ((countsL zs).take k) 0 (by rw [List.length_take]; omega) (fun c hc => hbnd c (List.mem_of_mem_take hc))
    have h2 : 255 * (zs.length : Int) * ((countsL zs).take k).length ≤ 510000 * 256 := Int.mul_le_mul (by omega) (by rw [List.length_take]; omega) (by omega) (by omega)
    omega
  go_enter Tryd.func33, Tryd.ntmps33
  go_wp2_with fail
  refine q.mono ?_
  rintro e w1 ⟨rfl, b1⟩
  clear q
  have r1 := heap_alloc_new w1 (.cells (icells Z256).toArray 78)
  have hC : Hid ((icells (countsL zs)).toArray = (icells (countsL zs)).toArray) := rfl
  have o1 : IRow ((w1.alloc (.cells (icells Z256).toArray 78)).setRow w1.heap.size (icells (countsL zs)).toArray) w1.heap.size (countsL zs) := setRow_heap _ _ _ _ _ _ r1
  have b2 := below_setRow (b1.alloc b1.size (.cells (icells Z256).toArray 78)) b1.size (icells (countsL zs)).toArray
  generalize (icells Z256).toArray = Z at *
  clear hC
  generalize hCC : (icells (countsL zs)).toArray = C at *
  clear hCC
  generalize hW3 : (w1.alloc (.cells Z 78)).setRow w1.heap.size C = W3 at *
  have HW3 : Hid ((w1.alloc (.cells Z 78)).setRow w1.heap.size C = W3) := hW3
  clear hW3
  go_wp2_with (refine wpList_store_row rfl 78 _ _ rfl w1.heap.size C rfl rfl 78 Z r1 (by rw [i1, hsC]) (by rw [hsZ, hsC]) hone ?_; rw [HW3.out])
  generalize w1.heap.size = g at *
  clear r1 HW3 hzero hone hsC hsZ
  go_loopw [4, 5] (fun tn x wr => ∃ k : Nat, 0 ≤ k ∧ k ≤ 256 ∧ x = .int .i64 (k : Int) ∧ tn = .int .i64 (wsum idF 0 ((countsL zs).take k)) ∧ wr = W3) (fun _ x _ => 256 - (intOf x).toNat)
  case atStart => exact ⟨0, by omega, by omega, rfl, by simp [wsum], rfl⟩
  case round =>
    obtain ⟨k, hk0, hk, rfl, rfl, rfl⟩ := hrel
    by_cases hlt : k < 256
    · have hst := wsum_take idF (countsL zs) k (by omega)
      have ce := o1.cell k (by omega)
      have hbd := hbnd.at (by omega) k
      have s0 := hwb k hk
      have s1 := hwb (k + 1) (by omega)
      have m1 : 0 ≤ (k : Int) * (countsL zs)[k]?.getD 0 := Int.mul_nonneg (by omega) hbd.1
      have m2 : (k : Int) * (countsL zs)[k]?.getD 0 ≤ 255 * 2000 := Int.mul_le_mul (by omega) (by omega) hbd.1 (by omega)
      rw [show idF k = (k : Int) from rfl] at hst
      generalize (countsL zs)[k]?.getD 0 = c at *
      generalize hS : wsum idF 0 ((countsL zs).take k) = S at *
      generalize hT : wsum idF 0 ((countsL zs).take (k + 1)) = T at *
      clear hwb hbnd hb
      go_wp2
      go_roundw
      case rel => exact ⟨k + 1, by omega, by omega, by go_num, by rw [hT, hst], by first | rfl | trivial⟩
      case measure => simp [intOf]; omega
    · obtain rfl : k = 256 := by omega
      have s0 := hwb 256 (by omega)
      rw [List.take_of_length_le (by omega)] at *
      rw [plain_counts zs hb] at *
      clear hwb hbnd hb
      go_wp2
      go_ret
      exact ⟨rfl, b2⟩


set_option maxRecDepth 100000 in
set_option maxHeartbeats 4000000 in
theorem refsigned_w (zs : List Int) (w : World) (hb : Hid (AllB zs)) (hl : zs.length ≤ 2000) :
    Calls Tryd.prog 41 #[.string (strOf zs)] w fun e w' => e = .returned (.int .i64 (signedS zs)) ∧ Below w.heap.size w w' := by
  have q := counts_w zs w hb hl
  have hzero := zero35
  have i1 := inf35
  have lc := countsL_length zs
  have hbnd := countsL_bnd zs
  have hres : Hid (True) := trivial
  have hsC : (icells (countsL zs)).toArray.size = 256 := by rw [List.size_toArray, icells_length, lc]
  have hsZ : (icells Z256).toArray.size = 256 := by rw [List.size_toArray, icells_length, Z256, List.length_replicate]
  have hone := icells_one (countsL zs)
  have hwb : ∀ k, k ≤ 256 → 0 ≤ wsum hiF 0 ((countsL zs).take k) ∧ wsum hiF 0 ((countsL zs).take k) ≤ 510000 * 256 := fun k hk => by
    have := wsum_bound hiF hiF_ok zs.length ((countsL zs).take k) 0 (by rw [List.length_take]; omega) (fun c hc => hbnd c (List.mem_of_mem_take hc))
    have h2 : 255 * (zs.length : Int) * ((countsL zs).take k).length ≤ 510000 * 256 := Int.mul_le_mul (by omega) (by rw [List.length_take]; omega) (by omega) (by omega)
    omega
  go_enter Tryd.func41, Tryd.ntmps41
  go_wp2_with fail
  refine q.mono ?_
  rintro e w1 ⟨rfl, b1⟩
  clear q
  have r1 := heap_alloc_new w1 (.cells (icells Z256).toArray 78)
  have hC : Hid ((icells (countsL zs)).toArray = (icells (countsL zs)).toArray) := rfl
  have o1 : IRow ((w1.alloc (.cells (icells Z256).toArray 78)).setRow w1.heap.size (icells (countsL zs)).toArray) w1.heap.size (countsL zs) := setRow_heap _ _ _ _ _ _ r1
  have b2 := below_setRow (b1.alloc b1.size (.cells (icells Z256).toArray 78)) b1.size (icells (countsL zs)).toArray
  generalize (icells Z256).toArray = Z at *
  clear hC
  generalize hCC : (icells (countsL zs)).toArray = C at *
  clear hCC
  generalize hW3 : (w1.alloc (.cells Z 78)).setRow w1.heap.size C = W3 at *
  have HW3 : Hid ((w1.alloc (.cells Z 78)).setRow w1.heap.size C = W3) := hW3
  clear hW3
  go_wp2_with (refine wpList_store_row rfl 78 _ _ rfl w1.heap.size C rfl rfl 78 Z r1 (by rw [i1, hsC]) (by rw [hsZ, hsC]) hone ?_; rw [HW3.out])
  generalize w1.heap.size = g at *
  clear r1 HW3 hzero hone hsC hsZ
  go_loopw [4, 5] (fun tn x wr => ∃ k : Nat, 128 ≤ k ∧ k ≤ 256 ∧ x = .int .i64 (k : Int) ∧ tn = .int .i64 (wsum hiF 0 ((countsL zs).take k)) ∧ wr = W3) (fun _ x _ => 256 - (intOf x).toNat)
  case atStart => exact ⟨128, by omega, by omega, rfl, by rw [hi_start], rfl⟩
  case round =>
    obtain ⟨k, hk0, hk, rfl, rfl, rfl⟩ := hrel
    by_cases hlt : k < 256
    · have hst := wsum_take hiF (countsL zs) k (by omega)
      have ce := o1.cell k (by omega)
      have hbd := hbnd.at (by omega) k
      have s0 := hwb k hk
      have s1 := hwb (k + 1) (by omega)
      rw [show hiF k = 1 by unfold hiF; rw [if_pos hk0], Int.one_mul] at hst
      generalize (countsL zs)[k]?.getD 0 = c at *
      generalize hS : wsum hiF 0 ((countsL zs).take k) = S at *
      generalize hT : wsum hiF 0 ((countsL zs).take (k + 1)) = T at *
      clear hwb hbnd hb
      go_wp2
      go_roundw
      case rel => exact ⟨k + 1, by omega, by omega, by go_num, by rw [hT, hst], by first | rfl | trivial⟩
      case measure => simp [intOf]; omega
    · obtain rfl : k = 256 := by omega
      have s0 := hwb 256 (by omega)
      rw [List.take_of_length_le (by omega)] at *
      have e1 : wsum hiF 0 (countsL zs) = highs zs := rfl
      rw [e1] at *
      have s0' : 0 ≤ highs zs ∧ highs zs ≤ 510000 * 256 := s0
      have e2 := signed_counts zs hb
      have pb := plain_bound zs hb
      have q2 := refplain_w zs wr hb hl
      clear hwb hbnd hb
      go_wp2_with fail
      refine q2.mono ?_
      rintro e w4 ⟨rfl, b4⟩
      go_wp2
      go_ret
      exact ⟨by rw [← e2]; rfl, b2.trans (b4.mono b2.size)⟩


theorem str_cut (zs : List Int) (a b : Nat) (h1 : a ≤ b) (h2 : b ≤ zs.length) : (strOf zs).extract a b = strOf ((zs.drop a).take (b - a)) := by
  apply strOf_extR
  have h := strOf_toList zs
  rw [ByteArray.toList_eq] at h
  have e : ((strOf zs).extract a b).data = (strOf zs).data.extract a b := by simp
  rw [e, Array.toList_extract, h]
  simp only [u8s, List.extract, ← List.map_drop, ← List.map_take]

theorem refright_no (zs : List Int) (w : World) (h : zs.length ≠ 512) (h1 : zs.length ≤ 2000) :
    Calls Tryd.prog 26 #[.string (strOf zs)] w fun e w' => e = .returned (.bool false) ∧ Below w.heap.size w w' := by
  have hs := strOf_sizeR zs
  have h2 : ¬ (zs.length : Int) = 512 := by omega
  go_enter Tryd.func26, Tryd.ntmps26
  go_wp2
  go_ret
  exact ⟨rfl, Below.refl _ _⟩

set_option maxRecDepth 100000 in
set_option maxHeartbeats 1000000 in
theorem refright_yes (zs : List Int) (w : World) (hb : Hid (AllB zs)) (hl : Hid (zs.length = 512)) :
    Calls Tryd.prog 26 #[.string (strOf zs)] w fun e w' => e = .returned (.bool (rightB zs)) ∧ Below w.heap.size w w' := by
  have hs := strOf_sizeR zs
  rw [hl.out] at hs
  have hcut := str_cut zs 148 156 (by omega) (by rw [hl.out]; omega)
  have hF : (zs.drop 148).take (156 - 148) = fieldOf zs := rfl
  rw [hF] at hcut
  have hf : (fieldOf zs).length = 8 := by simp [fieldOf, hl.out]
  have hfb : Hid (∀ z ∈ fieldOf zs, isByte z) := fun z hz => hb z (List.mem_of_mem_drop (List.mem_of_mem_take hz))
  have q3 := fun W => refp_any (fieldOf zs) W hfb (by omega)
  have q1 := fun W => refplain_w zs W hb (by rw [hl.out]; omega)
  have q2 := fun W => refsigned_w zs W hb (by rw [hl.out]; omega)
  have hR : rightB zs = rightO (parseO (fieldOf zs)) (plainS zs) (signedS zs) := by simp [rightB, hl.out]
  rw [hR]
  have hpb := plain_bound zs hb
  have hsb := signed_bound zs hb
  rw [hl.out] at hpb hsb
  clear hb hl hf hfb hR hF
  generalize plainS zs = p at *
  generalize signedS zs = s at *
  generalize parseO (fieldOf zs) = o at *
  generalize fieldOf zs = F at *
  generalize strOf zs = S at *
  cases o with
  | none =>
    simp only [resN, resE, Option.getD_none, Option.isSome_none] at q3
    go_enter Tryd.func26, Tryd.ntmps26
    go_wp2_with fail
    refine (q3 _).mono ?_
    rintro e w' ⟨rfl, b1⟩
    go_wp2
    go_ret
    exact ⟨rfl, b1⟩
  | some n =>
    simp only [resN, resE, Option.getD_some, Option.isSome_some, if_true] at q3
    go_enter Tryd.func26, Tryd.ntmps26
    go_wp2_with fail
    refine (q3 _).mono ?_
    rintro e w1 ⟨rfl, b1⟩
    go_wp2_with fail
    refine (q1 _).mono ?_
    rintro e w2 ⟨rfl, b2⟩
    have b12 := b1.trans (b2.mono b1.size)
    by_cases c : n = p
    · subst c
      go_wp2
      go_ret
      exact ⟨by simp [rightO], b12⟩
    · go_wp2_with fail
      refine (q2 _).mono ?_
      rintro e w3 ⟨rfl, b3⟩
      go_wp2
      go_ret
      have c' : (n == p) = false := by simpa using c
      exact ⟨by by_cases h : n = s <;> simp [rightO, c, c', h], b12.trans (b3.mono b12.size)⟩

end Go.Proofs.YtmholjjicklnhabDoor
