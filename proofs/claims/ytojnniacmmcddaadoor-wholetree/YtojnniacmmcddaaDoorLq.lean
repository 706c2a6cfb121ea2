/-
  Contracts: the closures of sub and of List, pick over them.
-/
import Derived.Test.YtojnniacmmcddaaDoorX0
import Derived.Test.YtojnniacmmcddaaDoorUp
import Derived.Deep.DeepCutAuto
import Derived.Deep.CutBlock
namespace Go.Proofs.YtojnniacmmcddaaDoor
open Go.RowKit
open Go.Lib hiding intOf
set_option linter.unusedVariables false
set_option linter.unusedSimpArgs false

theorem beq_bs (a b : List UInt8) : ((bs a).toList == (bs b).toList) = decide (a = b) := by rw [bs_toList, bs_toList]; exact Bool.eq_iff_iff.2 (by simp)

def sbf (s : List UInt8) (r : Rw) : Bool := und s r.p && !decide (r.p = s)

set_option maxHeartbeats 1000000 in
theorem subf_w (r : Rw) (s : List UInt8) (g : Nat) (w : World) (hg : w.cell? ⟨g, 0, none⟩ = some (.string (bs s))) :
    Calls Tryd.prog 54 #[.agg r.cs.toArray, .pointer (some ⟨g, 0, none⟩)] w fun e w' => e = .returned (.bool (sbf s r)) ∧ Below w.heap.size w w' := by
  have q := fun W => under_w s r.p W
  have hgl : g < w.heap.size := World.block_lt_of_cell? w _ hg
  have hg2 : (w.alloc (.cells #[.string (bs r.p), .int .i64 r.id, .int .i64 r.kind, .int .i64 r.mode, .int .i64 0, .int .i64 0, .int .i64 0, .string ⟨#[]⟩, .string ⟨#[]⟩, .string ⟨#[]⟩, .slice none 0 0, .int .i64 r.size, .bool r.made] 40)).cell? ⟨g, 0, none⟩ = some (.string (bs s)) := ((below_box w _).cell (p := ⟨g, 0, none⟩) hgl).trans hg
  unfold sbf
  unfold Rw.cs
  cases hz : und s r.p with
  | false =>
    rw [hz] at q
    go_enter Tryd.func54, Tryd.ntmps54
    go_wp2_with (go_at_call 47; refine (q _).mono ?_; rintro e w1 ⟨rfl, hw⟩; rw [hw])
    go_ret
    exact ⟨rfl, below_box w _⟩
  | true =>
    rw [hz] at q
    have hb := beq_bs r.p s
    generalize decide (r.p = s) = z at *
    go_enter Tryd.func54, Tryd.ntmps54
    go_wp2_with (go_at_call 47; refine (q _).mono ?_; rintro e w1 ⟨rfl, hw⟩; rw [hw])
    go_ret
    exact ⟨by simp [hb], below_box w _⟩

def lsf (s : List UInt8) (r : Rw) : Bool := decide (upL r.p = s)

set_option maxHeartbeats 1000000 in
theorem listf_w (r : Rw) (s : List UInt8) (g : Nat) (w : World) (hne : r.p ≠ []) (hl : r.p.length ≤ 4611686018427387903) (hg : w.cell? ⟨g, 0, none⟩ = some (.string (bs s))) :
    Calls Tryd.prog 35 #[.agg r.cs.toArray, .pointer (some ⟨g, 0, none⟩)] w fun e w' => e = .returned (.bool (lsf s r)) ∧ Below w.heap.size w w' := by
  have q := fun W => up_some r.p hne hl W
  have hgl : g < w.heap.size := World.block_lt_of_cell? w _ hg
  have hg2 : (w.alloc (.cells #[.string (bs r.p), .int .i64 r.id, .int .i64 r.kind, .int .i64 r.mode, .int .i64 0, .int .i64 0, .int .i64 0, .string ⟨#[]⟩, .string ⟨#[]⟩, .string ⟨#[]⟩, .slice none 0 0, .int .i64 r.size, .bool r.made] 40)).cell? ⟨g, 0, none⟩ = some (.string (bs s)) := ((below_box w _).cell (p := ⟨g, 0, none⟩) hgl).trans hg
  unfold lsf
  unfold Rw.cs
  generalize upL r.p = u at *
  have hb := beq_bs u s
  generalize decide (u = s) = z at *
  go_enter Tryd.func35, Tryd.ntmps35
  go_wp2_with (go_at_call 15; refine (q _).mono ?_; rintro e w1 ⟨rfl, hw⟩; rw [hw])
  go_ret
  exact ⟨by simp [hb], below_box w _⟩

set_option maxRecDepth 20000 in
set_option maxHeartbeats 4000000 in
theorem pickS_w (ad : Option Addr) (cap : Nat) (L : List Rw) (f : Rw → Bool) (gs : Nat) (w : World) (hr : Rs w ad L) (hl : L.length ≤ 1000000)
    (KF : Hid (∀ W (r : Rw), r ∈ L → Below w.heap.size w W → Calls Tryd.prog 54 #[.agg r.cs.toArray, .pointer (some ⟨gs, 0, none⟩)] W fun e w' => e = .returned (.bool (f r)) ∧ Below W.heap.size W w')) :
    Calls Tryd.prog 34 #[.slice ad L.length cap, .func (.func 54) #[] #[.pointer (some ⟨gs, 0, none⟩)]] w fun e w' => ∃ v, e = .returned v ∧ Ow w' w.heap.size v (L.filter f) ∧ Below w.heap.size w w' := by
  have HR : Hid (Rs w ad L) := hr
  clear hr
  generalize hn : L.length = n at *
  have HN : Hid (L.length = n) := hn
  clear hn
  have O0 : Ow w w.heap.size (.slice none 0 0) ((L.take 0).filter f) := ⟨rfl, .inl ⟨rfl, rfl⟩⟩
  go_enter Tryd.func34, Tryd.ntmps34
  go_wp2_with fail
  go_loopw [5, 10] (fun x5 x10 wr => ∃ i : Nat, x10 = .int .i64 (i : Int) ∧ i ≤ n ∧ Hid (Ow wr w.heap.size x5 ((L.take i).filter f)) ∧ Hid (Below w.heap.size w wr)) (fun _ x10 _ => n - (intOf x10).toNat)
  case atStart => exact ⟨0, rfl, Nat.zero_le _, O0, Below.refl _ _⟩
  case round =>
    obtain ⟨i, rfl, hi, HO, Bw⟩ := hrel
    by_cases hlt : i < n
    · obtain ⟨r, hr⟩ : ∃ r, L[i]? = some r := ⟨_, List.getElem?_eq_getElem (by have := HN.out; omega)⟩
      have hT : L.take (i + 1) = L.take i ++ [r] := by rw [List.take_add_one, hr]; rfl
      have hfl : Hid (((L.take i).filter f).length ≤ 1000000) := (by
        show _ ≤ _
        have h1 := List.length_filter_le f (L.take i)
        rw [List.length_take] at h1
        omega)
      obtain ⟨b, o, rfl, hb1, hb2⟩ := (HR.out.below Bw.out).at hr
      have HB : Hid (wr.rangeAt b (o + i * 13) [.string (bs r.p), .int .i64 r.id, .int .i64 r.kind, .int .i64 r.mode, .int .i64 0, .int .i64 0, .int .i64 0, .string ⟨#[]⟩, .string ⟨#[]⟩, .string ⟨#[]⟩, .slice none 0 0, .int .i64 r.size, .bool r.made]) := hb2
      have hsi : Hid ((Tryd.prog.info? 40).map (·.size) = some ([.string (bs r.p), .int .i64 r.id, .int .i64 r.kind, .int .i64 r.mode, .int .i64 0, .int .i64 0, .int .i64 0, .string ⟨#[]⟩, .string ⟨#[]⟩, .string ⟨#[]⟩, .slice none 0 0, .int .i64 r.size, .bool r.made] : List Value).length) := (by show _ = _; kernel_rfl)
      have i1 : (0 : Int) ≤ (i : Int) := by omega
      have i2 : (i : Int) < (n : Int) := by omega
      have KF1 : Hid (∀ W, Below w.heap.size w W → Calls Tryd.prog 54 #[.agg #[.string (bs r.p), .int .i64 r.id, .int .i64 r.kind, .int .i64 r.mode, .int .i64 0, .int .i64 0, .int .i64 0, .string ⟨#[]⟩, .string ⟨#[]⟩, .string ⟨#[]⟩, .slice none 0 0, .int .i64 r.size, .bool r.made], .pointer (some ⟨gs, 0, none⟩)] W fun e w' => e = .returned (.bool (f r)) ∧ Below W.heap.size W w') := fun W hb => KF.out W r (List.mem_of_getElem? hr) hb
      clear hb2 hr
      go_upto_region 5 with (refine wpList_load_mid rfl 40 _ rfl b (o + i * 13) rfl [.string (bs r.p), .int .i64 r.id, .int .i64 r.kind, .int .i64 r.mode, .int .i64 0, .int .i64 0, .int .i64 0, .string ⟨#[]⟩, .string ⟨#[]⟩, .string ⟨#[]⟩, .slice none 0 0, .int .i64 r.size, .bool r.made] _ HB.out Tryd.underlying40 rfl hsi.out ?_)
      have hk1 := below_box wr (.cells #[.string (bs r.p), .int .i64 r.id, .int .i64 r.kind, .int .i64 r.mode, .int .i64 0, .int .i64 0, .int .i64 0, .string ⟨#[]⟩, .string ⟨#[]⟩, .string ⟨#[]⟩, .slice none 0 0, .int .i64 r.size, .bool r.made] 40)
      have hq1 := heap_alloc_new wr (.cells #[.string (bs r.p), .int .i64 r.id, .int .i64 r.kind, .int .i64 r.mode, .int .i64 0, .int .i64 0, .int .i64 0, .string ⟨#[]⟩, .string ⟨#[]⟩, .string ⟨#[]⟩, .slice none 0 0, .int .i64 r.size, .bool r.made] 40)
      have hs1 := size_box wr (.cells #[.string (bs r.p), .int .i64 r.id, .int .i64 r.kind, .int .i64 r.mode, .int .i64 0, .int .i64 0, .int .i64 0, .string ⟨#[]⟩, .string ⟨#[]⟩, .string ⟨#[]⟩, .slice none 0 0, .int .i64 r.size, .bool r.made] 40)
      generalize wr.alloc _ = w1 at *
      have B1 : Hid (Below w.heap.size w w1) := Bw.out.trans (hk1.mono Bw.out.size)
      have O1 : Hid (Ow w1 w.heap.size u5 ((L.take i).filter f)) := HO.out.below hk1
      have m1 := cells_of hq1
      clear hk1 HB hsi HO Bw
      cases hf : f r with
      | true =>
        have HE : Hid ((L.take (i + 1)).filter f = (L.take i).filter f ++ [r]) := (by show _ = _; rw [hT, List.filter_append]; simp [hf])
        rw [hf] at KF1
        clear hT hf
        go_upto_region 6 with (go_at_call 54; refine (KF1.out _ B1.out).mono ?_; rintro e w2 ⟨rfl, k2⟩)
        have B2 : Hid (Below w.heap.size w w2) := B1.out.trans (k2.mono B1.out.size)
        have O2 : Hid (Ow w2 w.heap.size u5 ((L.take i).filter f)) := O1.out.below k2
        have q2 := (k2.block _ (by omega)).trans hq1
        have m2 := cells_of q2
        have hB2 : Hid (w.heap.size ≤ w2.heap.size) := B2.out.size
        clear m1 k2 hq1
        go_wp2_with (at_builtin; refine wpList_row2 rfl _ _ rfl w2 w.heap.size _ ((L.take i).filter f) r rfl rfl O2.out hB2.out rfl hfl.out ?_; intro g3 c3 w3 O3 b3)
        go_roundw
        case rel =>
          refine ⟨i + 1, by simp, hlt, ?_, B2.out.trans b3⟩
          show Ow _ _ _ _
          rw [HE.out]
          exact O3
        case measure => simp [intOf]; omega
      | false =>
        have HE : Hid ((L.take (i + 1)).filter f = (L.take i).filter f) := (by show _ = _; rw [hT, List.filter_append]; simp [hf])
        rw [hf] at KF1
        clear hT hf
        go_wp2_with (go_at_call 54; refine (KF1.out _ B1.out).mono ?_; rintro e w2 ⟨rfl, k2⟩)
        go_roundw
        case rel =>
          refine ⟨i + 1, by simp, hlt, ?_, B1.out.trans (k2.mono B1.out.size)⟩
          show Ow _ _ _ _
          rw [HE.out]
          exact O1.out.below k2
        case measure => simp [intOf]; omega
    · obtain rfl : i = n := by omega
      have e : L.take i = L := List.take_of_length_le (by rw [HN.out]; exact Nat.le_refl _)
      rw [e] at HO
      go_wp2_with fail
      go_ret
      exact ⟨_, rfl, HO.out, Bw.out⟩

set_option maxRecDepth 20000 in
set_option maxHeartbeats 4000000 in
theorem pickL_w (ad : Option Addr) (cap : Nat) (L : List Rw) (f : Rw → Bool) (gs : Nat) (w : World) (hr : Rs w ad L) (hl : L.length ≤ 1000000)
    (KF : Hid (∀ W (r : Rw), r ∈ L → Below w.heap.size w W → Calls Tryd.prog 35 #[.agg r.cs.toArray, .pointer (some ⟨gs, 0, none⟩)] W fun e w' => e = .returned (.bool (f r)) ∧ Below W.heap.size W w')) :
    Calls Tryd.prog 34 #[.slice ad L.length cap, .func (.func 35) #[] #[.pointer (some ⟨gs, 0, none⟩)]] w fun e w' => ∃ v, e = .returned v ∧ Ow w' w.heap.size v (L.filter f) ∧ Below w.heap.size w w' := by
  have HR : Hid (Rs w ad L) := hr
  clear hr
  generalize hn : L.length = n at *
  have HN : Hid (L.length = n) := hn
  clear hn
  have O0 : Ow w w.heap.size (.slice none 0 0) ((L.take 0).filter f) := ⟨rfl, .inl ⟨rfl, rfl⟩⟩
  go_enter Tryd.func34, Tryd.ntmps34
  go_wp2_with fail
  go_loopw [5, 10] (fun x5 x10 wr => ∃ i : Nat, x10 = .int .i64 (i : Int) ∧ i ≤ n ∧ Hid (Ow wr w.heap.size x5 ((L.take i).filter f)) ∧ Hid (Below w.heap.size w wr)) (fun _ x10 _ => n - (intOf x10).toNat)
  case atStart => exact ⟨0, rfl, Nat.zero_le _, O0, Below.refl _ _⟩
  case round =>
    obtain ⟨i, rfl, hi, HO, Bw⟩ := hrel
    by_cases hlt : i < n
    · obtain ⟨r, hr⟩ : ∃ r, L[i]? = some r := ⟨_, List.getElem?_eq_getElem (by have := HN.out; omega)⟩
      have hT : L.take (i + 1) = L.take i ++ [r] := by rw [List.take_add_one, hr]; rfl
      have hfl : Hid (((L.take i).filter f).length ≤ 1000000) := (by
        show _ ≤ _
        have h1 := List.length_filter_le f (L.take i)
        rw [List.length_take] at h1
        omega)
      obtain ⟨b, o, rfl, hb1, hb2⟩ := (HR.out.below Bw.out).at hr
      have HB : Hid (wr.rangeAt b (o + i * 13) [.string (bs r.p), .int .i64 r.id, .int .i64 r.kind, .int .i64 r.mode, .int .i64 0, .int .i64 0, .int .i64 0, .string ⟨#[]⟩, .string ⟨#[]⟩, .string ⟨#[]⟩, .slice none 0 0, .int .i64 r.size, .bool r.made]) := hb2
      have hsi : Hid ((Tryd.prog.info? 40).map (·.size) = some ([.string (bs r.p), .int .i64 r.id, .int .i64 r.kind, .int .i64 r.mode, .int .i64 0, .int .i64 0, .int .i64 0, .string ⟨#[]⟩, .string ⟨#[]⟩, .string ⟨#[]⟩, .slice none 0 0, .int .i64 r.size, .bool r.made] : List Value).length) := (by show _ = _; kernel_rfl)
      have i1 : (0 : Int) ≤ (i : Int) := by omega
      have i2 : (i : Int) < (n : Int) := by omega
      have KF1 : Hid (∀ W, Below w.heap.size w W → Calls Tryd.prog 35 #[.agg #[.string (bs r.p), .int .i64 r.id, .int .i64 r.kind, .int .i64 r.mode, .int .i64 0, .int .i64 0, .int .i64 0, .string ⟨#[]⟩, .string ⟨#[]⟩, .string ⟨#[]⟩, .slice none 0 0, .int .i64 r.size, .bool r.made], .pointer (some ⟨gs, 0, none⟩)] W fun e w' => e = .returned (.bool (f r)) ∧ Below W.heap.size W w') := fun W hb => KF.out W r (List.mem_of_getElem? hr) hb
      clear hb2 hr
      go_upto_region 5 with (refine wpList_load_mid rfl 40 _ rfl b (o + i * 13) rfl [.string (bs r.p), .int .i64 r.id, .int .i64 r.kind, .int .i64 r.mode, .int .i64 0, .int .i64 0, .int .i64 0, .string ⟨#[]⟩, .string ⟨#[]⟩, .string ⟨#[]⟩, .slice none 0 0, .int .i64 r.size, .bool r.made] _ HB.out Tryd.underlying40 rfl hsi.out ?_)
      have hk1 := below_box wr (.cells #[.string (bs r.p), .int .i64 r.id, .int .i64 r.kind, .int .i64 r.mode, .int .i64 0, .int .i64 0, .int .i64 0, .string ⟨#[]⟩, .string ⟨#[]⟩, .string ⟨#[]⟩, .slice none 0 0, .int .i64 r.size, .bool r.made] 40)
      have hq1 := heap_alloc_new wr (.cells #[.string (bs r.p), .int .i64 r.id, .int .i64 r.kind, .int .i64 r.mode, .int .i64 0, .int .i64 0, .int .i64 0, .string ⟨#[]⟩, .string ⟨#[]⟩, .string ⟨#[]⟩, .slice none 0 0, .int .i64 r.size, .bool r.made] 40)
      have hs1 := size_box wr (.cells #[.string (bs r.p), .int .i64 r.id, .int .i64 r.kind, .int .i64 r.mode, .int .i64 0, .int .i64 0, .int .i64 0, .string ⟨#[]⟩, .string ⟨#[]⟩, .string ⟨#[]⟩, .slice none 0 0, .int .i64 r.size, .bool r.made] 40)
      generalize wr.alloc _ = w1 at *
      have B1 : Hid (Below w.heap.size w w1) := Bw.out.trans (hk1.mono Bw.out.size)
      have O1 : Hid (Ow w1 w.heap.size u5 ((L.take i).filter f)) := HO.out.below hk1
      have m1 := cells_of hq1
      clear hk1 HB hsi HO Bw
      cases hf : f r with
      | true =>
        have HE : Hid ((L.take (i + 1)).filter f = (L.take i).filter f ++ [r]) := (by show _ = _; rw [hT, List.filter_append]; simp [hf])
        rw [hf] at KF1
        clear hT hf
        go_upto_region 6 with (go_at_call 35; refine (KF1.out _ B1.out).mono ?_; rintro e w2 ⟨rfl, k2⟩)
        have B2 : Hid (Below w.heap.size w w2) := B1.out.trans (k2.mono B1.out.size)
        have O2 : Hid (Ow w2 w.heap.size u5 ((L.take i).filter f)) := O1.out.below k2
        have q2 := (k2.block _ (by omega)).trans hq1
        have m2 := cells_of q2
        have hB2 : Hid (w.heap.size ≤ w2.heap.size) := B2.out.size
        clear m1 k2 hq1
        go_wp2_with (at_builtin; refine wpList_row2 rfl _ _ rfl w2 w.heap.size _ ((L.take i).filter f) r rfl rfl O2.out hB2.out rfl hfl.out ?_; intro g3 c3 w3 O3 b3)
        go_roundw
        case rel =>
          refine ⟨i + 1, by simp, hlt, ?_, B2.out.trans b3⟩
          show Ow _ _ _ _
          rw [HE.out]
          exact O3
        case measure => simp [intOf]; omega
      | false =>
        have HE : Hid ((L.take (i + 1)).filter f = (L.take i).filter f) := (by show _ = _; rw [hT, List.filter_append]; simp [hf])
        rw [hf] at KF1
        clear hT hf
        go_wp2_with (go_at_call 35; refine (KF1.out _ B1.out).mono ?_; rintro e w2 ⟨rfl, k2⟩)
        go_roundw
        case rel =>
          refine ⟨i + 1, by simp, hlt, ?_, B1.out.trans (k2.mono B1.out.size)⟩
          show Ow _ _ _ _
          rw [HE.out]
          exact O1.out.below k2
        case measure => simp [intOf]; omega
    · obtain rfl : i = n := by omega
      have e : L.take i = L := List.take_of_length_le (by rw [HN.out]; exact Nat.le_refl _)
      rw [e] at HO
      go_wp2_with fail
      go_ret
      exact ⟨_, rfl, HO.out, Bw.out⟩

end Go.Proofs.YtojnniacmmcddaaDoor
