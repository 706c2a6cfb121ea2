/-
  The walk of WholeEntry, at one kind.
-/
import Derived.Test.YtjnmmkohmfhnlabDoorWe3
namespace Go.Proofs.YtjnmmkohmfhnlabDoor
open Go.RowKit
set_option linter.unusedVariables false
set_option linter.unusedSimpArgs false

set_option maxRecDepth 100000 in
set_option maxHeartbeats 8000000 in
theorem walk_k1b (p l u g : ByteArray) (m a b c d : Int) (hf : Int) (hn hl hp hu hg : ByteArray) (ht hm ha hb hs hc : Int) (w : World) (hv : Vs w) (fx : Hid (EnFit ⟨p, l, 1, m, a, b, c, d, u, g⟩)) (fh : Hid (HdFit ⟨hf, hn, hl, hp, hu, hg, ht, hm, ha, hb, hs, hc⟩)) (cf : Hid (¬ hf = 0)) :
    Calls Tryd.prog 3 #[.agg #[.string p, .string l, .int .i64 1, .int .i64 m, .int .i64 a, .int .i64 b, .int .i64 c, .int .i64 d, .string u, .string g], .agg #[.int .i64 hf, .string hn, .string hl, .string hp, .string hu, .string hg, .int .u8 ht, .int .i64 hm, .int .i64 ha, .int .i64 hb, .int .i64 hs, .int .i64 hc]] w fun e w' => e = .returned (.bool true) ∧ Below w.heap.size w w' := by
  have b1 : Below w.heap.size w ((w.alloc (.cells #[.string p, .string l, .int .i64 1, .int .i64 m, .int .i64 a, .int .i64 b, .int .i64 c, .int .i64 d, .string u, .string g] 23)).alloc (.cells #[.int .i64 hf, .string hn, .string hl, .string hp, .string hu, .string hg, .int .u8 ht, .int .i64 hm, .int .i64 ha, .int .i64 hb, .int .i64 hs, .int .i64 hc] 25)) := ((Below.refl _ w).alloc (Nat.le_refl _) _).alloc (by simp) _
  have e1 : ((w.alloc (.cells #[.string p, .string l, .int .i64 1, .int .i64 m, .int .i64 a, .int .i64 b, .int .i64 c, .int .i64 d, .string u, .string g] 23)).alloc (.cells #[.int .i64 hf, .string hn, .string hl, .string hp, .string hu, .string hg, .int .u8 ht, .int .i64 hm, .int .i64 ha, .int .i64 hb, .int .i64 hs, .int .i64 hc] 25)).heap[w.heap.size]? = some (.cells #[.string p, .string l, .int .i64 1, .int .i64 m, .int .i64 a, .int .i64 b, .int .i64 c, .int .i64 d, .string u, .string g] 23 (0, 0)) := heap_grow ((Below.refl _ _).alloc (Nat.le_refl _) _) (new_at w _)
  have n1 : ((w.alloc (.cells #[.string p, .string l, .int .i64 1, .int .i64 m, .int .i64 a, .int .i64 b, .int .i64 c, .int .i64 d, .string u, .string g] 23)).alloc (.cells #[.int .i64 hf, .string hn, .string hl, .string hp, .string hu, .string hg, .int .u8 ht, .int .i64 hm, .int .i64 ha, .int .i64 hb, .int .i64 hs, .int .i64 hc] 25)).heap[w.heap.size + 1]? = some (.cells #[.int .i64 hf, .string hn, .string hl, .string hp, .string hu, .string hg, .int .u8 ht, .int .i64 hm, .int .i64 ha, .int .i64 hb, .int .i64 hs, .int .i64 hc] 25 (0, 0)) := by have := new_at (w.alloc (.cells #[.string p, .string l, .int .i64 1, .int .i64 m, .int .i64 a, .int .i64 b, .int .i64 c, .int .i64 d, .string u, .string g] 23)) (.cells #[.int .i64 hf, .string hn, .string hl, .string hp, .string hu, .string hg, .int .u8 ht, .int .i64 hm, .int .i64 ha, .int .i64 hb, .int .i64 hs, .int .i64 hc] 25); rwa [World.size_alloc] at this
  have q := first_ok _ (hv.below b1)
  have HV : Hid (∀ W, Below w.heap.size w W → Vs W) := fun W h => hv.below h
  clear hv
  go_enter Tryd.func3, Tryd.ntmps3
  go_wp2_with fail
  generalize (w.alloc (.cells #[.string p, .string l, .int .i64 1, .int .i64 m, .int .i64 a, .int .i64 b, .int .i64 c, .int .i64 d, .string u, .string g] 23)).alloc (.cells #[.int .i64 hf, .string hn, .string hl, .string hp, .string hu, .string hg, .int .u8 ht, .int .i64 hm, .int .i64 ha, .int .i64 hb, .int .i64 hs, .int .i64 hc] 25) = w1 at *
  refine q.mono ?_
  rintro e w2 ⟨rfl, b2⟩
  clear q
  have e2 := heap_grow b2 e1
  have n2 := heap_grow b2 n1
  have bb2 := b1.trans (b2.mono b1.size)
  have b3 : Below w2.heap.size w2 (w2.alloc (.cells #[.string ⟨#[97]⟩, .string ⟨#[]⟩, .int .i64 4, .int .i64 0, .int .i64 0, .int .i64 0, .int .i64 0, .int .i64 0, .string ⟨#[]⟩, .string ⟨#[]⟩] 23)) := (Below.refl _ w2).alloc (Nat.le_refl _) _
  have e3 := heap_grow b3 e2
  obtain ⟨k0, k1, k2, k3, k4, k5, k6, k7, k8, k9⟩ := ten10 e3
  have n3 := heap_grow b3 n2
  have x3 : (w2.alloc (.cells #[.string ⟨#[97]⟩, .string ⟨#[]⟩, .int .i64 4, .int .i64 0, .int .i64 0, .int .i64 0, .int .i64 0, .int .i64 0, .string ⟨#[]⟩, .string ⟨#[]⟩] 23)).cell? ⟨w2.heap.size, 2, none⟩ = some (.int .i64 4) := by simp [World.cell?_alloc_new]
  have bb3 := bb2.trans (b3.mono bb2.size)
  go_wp2_with fail
  generalize w2.alloc (.cells #[.string ⟨#[97]⟩, .string ⟨#[]⟩, .int .i64 4, .int .i64 0, .int .i64 0, .int .i64 0, .int .i64 0, .int .i64 0, .string ⟨#[]⟩, .string ⟨#[]⟩] 23) = w3 at *
  have f0 : w3.cell? ⟨w.heap.size + 1, 0, none⟩ = some (.int .i64 hf) := by simp [World.cell?, n3]
  have z7 : w3.frozen? ⟨w.heap.size, 7, none⟩ = false := by simp [World.frozen?, e3]
  clear e1 n1 e2 n2 b1 b2 bb2 b3
  have qt := type_w 1 w3
  rw [show ty 1 = 48 from rfl] at qt
  refine qt.mono ?_
  rintro e w' ⟨rfl, rfl⟩
  clear qt
  by_cases c0 : a < 0
  · go_wp2_with fail
    go_ret
    exact ⟨rfl, bb3⟩
  by_cases c1 : b < 0
  · go_wp2_with fail
    go_ret
    exact ⟨rfl, bb3⟩
  by_cases c2 : d < 0
  · go_wp2_with fail
    go_ret
    exact ⟨rfl, bb3⟩
  by_cases c3 : p.toList = []
  · go_wp2_with fail
    go_ret
    exact ⟨rfl, bb3⟩
  by_cases c4 : u.toList = []
  · go_wp2_with fail
    go_ret
    exact ⟨rfl, bb3⟩
  by_cases c5 : g.toList = []
  · go_wp2_with fail
    go_ret
    exact ⟨rfl, bb3⟩
  by_cases c6 : hf < 0
  · go_wp2_with fail
    go_ret
    exact ⟨rfl, bb3⟩
  by_cases c7 : 2 < hf
  · go_wp2_with fail
    go_ret
    exact ⟨rfl, bb3⟩
  have i0 : decide (a < 0) = false := decide_eq_false c0
  have i1 : decide (b < 0) = false := decide_eq_false c1
  have i2 : decide (d < 0) = false := decide_eq_false c2
  have i3 : p.toList.isEmpty = false := by simp [c3]
  have i4 : u.toList.isEmpty = false := by simp [c4]
  have i5 : g.toList.isEmpty = false := by simp [c5]
  have i6 : decide (hf < 0) = false := decide_eq_false c6
  have i7 : decide (2 < hf) = false := decide_eq_false c7
  go_upto_region 8 with fail
  have e4 := e3
  have bb4 := bb3
  have n4 := n3
  generalize w3 = w4 at *
  clear k0 k1 k2 k3 k4 k5 k6 k7 k8 k9 f0 z7 x3 e3 n3 bb3
  obtain ⟨k0, k1, k2, k3, k4, k5, k6, k7, k8, k9⟩ := ten10 e4
  have f0 : w4.cell? ⟨w.heap.size + 1, 0, none⟩ = some (.int .i64 hf) := by simp [World.cell?, n4]
  by_cases cl : ¬ l.toList = []
  · have il : l.toList.isEmpty = false := by simp [cl]
    go_wp2_with fail
    go_ret
    exact ⟨rfl, bb4⟩
  have cl : l.toList = [] := Classical.not_not.1 cl
  have il : l.toList.isEmpty = true := by simp [cl]
  by_cases c8 : m < 0
  · go_wp2_with fail
    go_ret
    exact ⟨rfl, bb4⟩
  by_cases c9 : 4095 < m
  · go_wp2_with fail
    go_ret
    exact ⟨rfl, bb4⟩
  have i8 : decide (m < 0) = false := decide_eq_false c8
  have i9 : decide (4095 < m) = false := decide_eq_false c9
  have if0 : (hf == 0) = false := by simp [cf.out]
  have hold : Hid (¬ ((1 : Int) = 1 ∧ hf = 0 ∧ slashB p = true)) := fun h => cf.out h.2.1
  have fx' := fx.out
  have fh' := fh.out
  have O : Hid (Ok ⟨p, l, 1, m, a, b, c, d, u, g⟩ hf) := by
    refine ⟨by simp, ⟨by simp only; omega, by simp only; omega⟩, i3, i4, i5, ⟨fun h => absurd h (by simp), fun h => by have h : l.toList.isEmpty = false := h; rw [il] at h; cases h⟩, fun h => absurd rfl h, hold.out, ⟨by simp only; omega, fx'.uid.2⟩, ⟨by simp only; omega, fx'.gid.2⟩, ⟨by simp only; omega, fx'.size.2⟩, fx'.mtime, fx'.path, fx'.link, fx'.user, fx'.group⟩
  have ba := fx'.uid
  have bb := fx'.gid
  have bd := fx'.size
  have bc := fx'.mtime
  have gp := fh'.prefx
  have gn := fh'.name
  simp only at ba bb bd bc gp gn
  have HG : Hid (hp.size ≤ 140737488351232 ∧ hn.size ≤ 140737488351232) := ⟨gp, gn⟩
  clear fx' fh' fx fh gp gn
  have hs4 : w4.drew.cell? ⟨w.heap.size, 0, none⟩ = some (.string p) ∧ w4.drew.cell? ⟨w.heap.size, 1, none⟩ = some (.string l) ∧ w4.drew.cell? ⟨w.heap.size, 8, none⟩ = some (.string u) ∧ w4.drew.cell? ⟨w.heap.size, 9, none⟩ = some (.string g) ∧ w4.drew.cell? ⟨w.heap.size, 4, none⟩ = some (.int .i64 a) ∧ w4.drew.cell? ⟨w.heap.size, 5, none⟩ = some (.int .i64 b) ∧ w4.drew.cell? ⟨w.heap.size, 7, none⟩ = some (.int .i64 d) ∧ w4.drew.cell? ⟨w.heap.size, 6, none⟩ = some (.int .i64 c) ∧ Below w4.heap.size w4 w4.drew := ⟨k0, k1, k8, k9, k4, k5, k7, k6, (Below.refl _ w4).drew⟩
  have HS : Hid (∀ W W', (W.cell? ⟨w.heap.size, 0, none⟩ = some (.string p) ∧ W.cell? ⟨w.heap.size, 1, none⟩ = some (.string l) ∧ W.cell? ⟨w.heap.size, 8, none⟩ = some (.string u) ∧ W.cell? ⟨w.heap.size, 9, none⟩ = some (.string g) ∧ W.cell? ⟨w.heap.size, 4, none⟩ = some (.int .i64 a) ∧ W.cell? ⟨w.heap.size, 5, none⟩ = some (.int .i64 b) ∧ W.cell? ⟨w.heap.size, 7, none⟩ = some (.int .i64 d) ∧ W.cell? ⟨w.heap.size, 6, none⟩ = some (.int .i64 c) ∧ Below w4.heap.size w4 W) → Below W.heap.size W W' → W'.cell? ⟨w.heap.size, 0, none⟩ = some (.string p) ∧ W'.cell? ⟨w.heap.size, 1, none⟩ = some (.string l) ∧ W'.cell? ⟨w.heap.size, 8, none⟩ = some (.string u) ∧ W'.cell? ⟨w.heap.size, 9, none⟩ = some (.string g) ∧ W'.cell? ⟨w.heap.size, 4, none⟩ = some (.int .i64 a) ∧ W'.cell? ⟨w.heap.size, 5, none⟩ = some (.int .i64 b) ∧ W'.cell? ⟨w.heap.size, 7, none⟩ = some (.int .i64 d) ∧ W'.cell? ⟨w.heap.size, 6, none⟩ = some (.int .i64 c) ∧ Below w4.heap.size w4 W') := fun W W' h hb => by
    obtain ⟨h0, h1, h2, h3, h4, h5, h6, h7, h8⟩ := h
    exact ⟨cell_grow h0 hb, cell_grow h1 hb, cell_grow h2 hb, cell_grow h3 hb, cell_grow h4 hb, cell_grow h5 hb, cell_grow h6 hb, cell_grow h7 hb, h8.trans (hb.mono h8.size)⟩
  have HE4 : Hid _ := e4
  have HN4 : Hid _ := n4
  have HB4 : Hid _ := bb4
  clear e4 n4 bb4
  go_upto_region 14 with fail
  go_cut [9] (fun s9 wx => ∃ G : Nat, s9 = .slice (some ⟨G, 0, none⟩) 8 8 ∧ Hid (wx.heap[G]? = some (.cells (recCells ⟨p, l, 1, m, a, b, c, d, u, g⟩ ) 36 (0, 0)) ∧ Below w4.heap.size w4 wx))
  case first =>
    go_region_held3 (fun W => W.cell? ⟨w.heap.size, 0, none⟩ = some (.string p) ∧ W.cell? ⟨w.heap.size, 1, none⟩ = some (.string l) ∧ W.cell? ⟨w.heap.size, 8, none⟩ = some (.string u) ∧ W.cell? ⟨w.heap.size, 9, none⟩ = some (.string g) ∧ W.cell? ⟨w.heap.size, 4, none⟩ = some (.int .i64 a) ∧ W.cell? ⟨w.heap.size, 5, none⟩ = some (.int .i64 b) ∧ W.cell? ⟨w.heap.size, 7, none⟩ = some (.int .i64 d) ∧ W.cell? ⟨w.heap.size, 6, none⟩ = some (.int .i64 c) ∧ Below w4.heap.size w4 W) (first | assumption | exact hs4 | exact HS.out _ _ (by assumption) ((Below.refl _ _).alloc (Nat.le_refl _) _) | go_keep) ((go_at_call 6; refine (text_w _ (by omega) (by omega) _).mono ?_; rintro e w5 ⟨rfl, b5⟩; have hs5 := HS.out _ _ (by assumption) b5))
    go_wp2_with fail
    go_meet
    obtain ⟨_, _, _, _, _, _, _, _, hB5⟩ := hs5
    exact ⟨w5.heap.size, rfl, new_at w5 _, hB5.alloc hB5.size _⟩
  case rest =>
    obtain ⟨G, rfl, HX⟩ := hcut
    clear HS hs4 k0 k1 k2 k3 k4 k5 k6 k7 k8 k9
    have bw := HX.out.2
    have e5 := heap_grow bw HE4.out
    have n5 := heap_grow bw HN4.out
    obtain ⟨k0, k1, k2, k3, k4, k5, k6, k7, k8, k9⟩ := ten10 e5
    have qt := type_w 1 wc.drew
    rw [show ty 1 = 48 from rfl] at qt
    have nc : ∀ o, wc.cell? ⟨w.heap.size + 1, o, none⟩ = (#[.int .i64 hf, .string hn, .string hl, .string hp, .string hu, .string hg, .int .u8 ht, .int .i64 hm, .int .i64 ha, .int .i64 hb, .int .i64 hs, .int .i64 hc] : Array Value)[o]? := fun o => by simp [World.cell?, n5]
    have f6 : wc.cell? ⟨w.heap.size + 1, 6, none⟩ = some (.int .u8 ht) := nc 6
    have f7 : wc.cell? ⟨w.heap.size + 1, 7, none⟩ = some (.int .i64 hm) := nc 7
    have z6 : wc.frozen? ⟨w.heap.size + 1, 6, none⟩ = false := by simp [World.frozen?, n5]
    have z7 : wc.frozen? ⟨w.heap.size + 1, 7, none⟩ = false := by simp [World.frozen?, n5]
    clear nc
    go_upto_region 15 with fail
    go_cut [8] (fun s8 wx => Hid (wx.heap[G]? = some (.cells (recCells ⟨p, l, 1, m, a, b, c, d, u, g⟩ ) 36 (0, 0)) ∧ wx.heap[w.heap.size]? = some (.cells #[.string p, .string l, .int .i64 1, .int .i64 m, .int .i64 a, .int .i64 b, .int .i64 c, .int .i64 d, .string u, .string g] 23 (0, 0)) ∧ wx.heap[w.heap.size + 1]? = some (.cells #[.int .i64 hf, .string hn, .string hl, .string hp, .string hu, .string hg, .int .u8 48, .int .i64 m, .int .i64 ha, .int .i64 hb, .int .i64 hs, .int .i64 hc] 25 (0, 0)) ∧ Below w.heap.size w wx))
    case first =>
      have HM : Hid (((wc.setCell ⟨w.heap.size + 1, 6, none⟩ (.int .u8 48)).setCell ⟨w.heap.size + 1, 7, none⟩ (.int .i64 m)).drew.heap[G]? = some (.cells (recCells ⟨p, l, 1, m, a, b, c, d, u, g⟩ ) 36 (0, 0)) ∧ ((wc.setCell ⟨w.heap.size + 1, 6, none⟩ (.int .u8 48)).setCell ⟨w.heap.size + 1, 7, none⟩ (.int .i64 m)).drew.heap[w.heap.size]? = some (.cells #[.string p, .string l, .int .i64 1, .int .i64 m, .int .i64 a, .int .i64 b, .int .i64 c, .int .i64 d, .string u, .string g] 23 (0, 0)) ∧ ((wc.setCell ⟨w.heap.size + 1, 6, none⟩ (.int .u8 48)).setCell ⟨w.heap.size + 1, 7, none⟩ (.int .i64 m)).drew.heap[w.heap.size + 1]? = some (.cells #[.int .i64 hf, .string hn, .string hl, .string hp, .string hu, .string hg, .int .u8 48, .int .i64 m, .int .i64 ha, .int .i64 hb, .int .i64 hs, .int .i64 hc] 25 (0, 0)) ∧ Below w.heap.size w ((wc.setCell ⟨w.heap.size + 1, 6, none⟩ (.int .u8 48)).setCell ⟨w.heap.size + 1, 7, none⟩ (.int .i64 m)).drew) := by
        have hne : G ≠ w.heap.size + 1 := by
          intro h
          have h1 := HX.out.1
          rw [h, n5] at h1
          cases h1
        have ot : ∀ q, q ≠ w.heap.size + 1 → ((wc.setCell ⟨w.heap.size + 1, 6, none⟩ (.int .u8 48)).setCell ⟨w.heap.size + 1, 7, none⟩ (.int .i64 m)).drew.heap[q]? = wc.heap[q]? := fun q hq => by
          show ((wc.setCell _ _).setCell _ _).heap[q]? = _
          rw [Below.heap_setCell _ _ _ _ hq, Below.heap_setCell _ _ _ _ hq]
        refine ⟨(ot _ hne).trans HX.out.1, (ot _ (by omega)).trans e5, ?_, ?_⟩
        · show ((wc.setCell _ _).setCell _ _).heap[w.heap.size + 1]? = _
          rw [setCell_eq_setRow wc _ 6 _ _ _ _ n5, setCell_eq_setRow _ _ 7 _ _ _ _ (setRow_heap _ _ _ _ _ _ n5), setRow_heap _ _ _ _ _ _ (setRow_heap _ _ _ _ _ _ n5)]; simp
        · exact (((HB4.out.trans (bw.mono HB4.out.size)).setCell (p := ⟨w.heap.size + 1, 6, none⟩) (by show w.heap.size ≤ w.heap.size + 1; omega) _).setCell (p := ⟨w.heap.size + 1, 7, none⟩) (by show w.heap.size ≤ w.heap.size + 1; omega) _).drew
      go_region_with (go_at_call 5; refine qt.mono ?_; rintro e w' ⟨rfl, rfl⟩)
      all_goals go_wp2_with fail
      all_goals go_meet
      all_goals exact HM.out
    case rest =>
      clear k0 k1 k2 k3 k4 k5 k6 k7 k8 k9 f6 f7 z6 z7 qt e5 n5 bw HX HE4 HN4 HB4
      obtain ⟨hG, e6, n6, b6⟩ := hcut.out
      have q : Calls Tryd.prog 4 #[.agg #[.int .i64 hf, .string hn, .string hl, .string hp, .string hu, .string hg, .int .u8 48, .int .i64 m, .int .i64 ha, .int .i64 hb, .int .i64 hs, .int .i64 hc], .agg #[.slice none 0 0, .slice (some ⟨G, 0, none⟩) 8 8, .string ⟨#[111, 116, 104, 101, 114]⟩, .string ⟨#[111, 116, 104, 101, 114]⟩]] wc fun ev w' => ev = .returned (.tuple #[.agg #[.string p, .string l, .int .i64 1, .int .i64 m, .int .i64 a, .int .i64 b, .int .i64 c, .int .i64 d, .string u, .string g], .int .i64 0]) ∧ Below wc.heap.size wc w' :=
        rec_ok wc (HV.out wc b6) G ⟨p, l, 1, m, a, b, c, d, u, g⟩ ⟨hf, hn, hl, hp, hu, hg, 48, m, ha, hb, hs, hc⟩ O.out rfl rfl HG.out.1 HG.out.2 hG
      obtain ⟨t0, t1, t2, t3, t4, t5, t6, t7, t8, t9, t10, t11⟩ := twelve n6
      go_wp2_with fail
      refine q.mono ?_
      rintro e w7 ⟨rfl, b7⟩
      clear q t0 t1 t2 t3 t4 t5 t6 t7 t8 t9 t10 t11
      have bb7 := b6.trans (b7.mono b6.size)
      have b8 : Below w7.heap.size w7 (w7.alloc (.cells #[.string p, .string l, .int .i64 1, .int .i64 m, .int .i64 a, .int .i64 b, .int .i64 c, .int .i64 d, .string u, .string g] 23)) := (Below.refl _ w7).alloc (Nat.le_refl _) _
      have e8 := heap_grow b8 (heap_grow b7 e6)
      have n8 := heap_grow b8 (heap_grow b7 n6)
      have x8 := new_at w7 (.cells #[.string p, .string l, .int .i64 1, .int .i64 m, .int .i64 a, .int .i64 b, .int .i64 c, .int .i64 d, .string u, .string g] 23)
      have bb8 := bb7.trans (b8.mono bb7.size)
      obtain ⟨k0, k1, k2, k3, k4, k5, k6, k7, k8, k9⟩ := ten10 e8
      obtain ⟨t0, t1, t2, t3, t4, t5, t6, t7, t8, t9, t10, t11⟩ := twelve n8
      clear t0 t1 t2 t3 t4 t5 t7 t8 t9 t10 t11
      have b9 : Below (w7.alloc (.cells #[.string p, .string l, .int .i64 1, .int .i64 m, .int .i64 a, .int .i64 b, .int .i64 c, .int .i64 d, .string u, .string g] 23)).heap.size (w7.alloc (.cells #[.string p, .string l, .int .i64 1, .int .i64 m, .int .i64 a, .int .i64 b, .int .i64 c, .int .i64 d, .string u, .string g] 23)) ((w7.alloc (.cells #[.string p, .string l, .int .i64 1, .int .i64 m, .int .i64 a, .int .i64 b, .int .i64 c, .int .i64 d, .string u, .string g] 23)).alloc (.cells #[.int .i64 1, .string p, .string l, .string ⟨#[]⟩, .string u, .string g, .int .u8 48, .int .i64 m, .int .i64 a, .int .i64 b, .int .i64 d, .int .i64 c] 25)) := (Below.refl _ _).alloc (Nat.le_refl _) _
      have bb9 := bb8.trans (b9.mono bb8.size)
      have e9 := heap_grow b9 e8
      have x9 := heap_grow b9 x8
      have y9 : ((w7.alloc (.cells #[.string p, .string l, .int .i64 1, .int .i64 m, .int .i64 a, .int .i64 b, .int .i64 c, .int .i64 d, .string u, .string g] 23)).alloc (.cells #[.int .i64 1, .string p, .string l, .string ⟨#[]⟩, .string u, .string g, .int .u8 48, .int .i64 m, .int .i64 a, .int .i64 b, .int .i64 d, .int .i64 c] 25)).heap[w7.heap.size + 1]? = some (.cells #[.int .i64 1, .string p, .string l, .string ⟨#[]⟩, .string u, .string g, .int .u8 48, .int .i64 m, .int .i64 a, .int .i64 b, .int .i64 d, .int .i64 c] 25 (0, 0)) := by have := new_at (w7.alloc (.cells #[.string p, .string l, .int .i64 1, .int .i64 m, .int .i64 a, .int .i64 b, .int .i64 c, .int .i64 d, .string u, .string g] 23)) (.cells #[.int .i64 1, .string p, .string l, .string ⟨#[]⟩, .string u, .string g, .int .u8 48, .int .i64 m, .int .i64 a, .int .i64 b, .int .i64 d, .int .i64 c] 25); rwa [World.size_alloc] at this
      obtain ⟨r0, r1, r2, r3, r4, r5, r6, r7, r8, r9, r10, r11⟩ := twelve y9
      have q : Calls Tryd.prog 4 #[.agg #[.int .i64 1, .string p, .string l, .string ⟨#[]⟩, .string u, .string g, .int .u8 48, .int .i64 m, .int .i64 a, .int .i64 b, .int .i64 d, .int .i64 c], .agg #[.slice none 0 0, .slice none 0 0, .string ⟨#[]⟩, .string ⟨#[]⟩]] ((w7.alloc (.cells #[.string p, .string l, .int .i64 1, .int .i64 m, .int .i64 a, .int .i64 b, .int .i64 c, .int .i64 d, .string u, .string g] 23)).alloc (.cells #[.int .i64 1, .string p, .string l, .string ⟨#[]⟩, .string u, .string g, .int .u8 48, .int .i64 m, .int .i64 a, .int .i64 b, .int .i64 d, .int .i64 c] 25)) fun ev w' => ev = .returned (.tuple #[.agg #[.string p, .string l, .int .i64 1, .int .i64 m, .int .i64 a, .int .i64 b, .int .i64 c, .int .i64 d, .string u, .string g], .int .i64 0]) ∧ Below ((w7.alloc (.cells #[.string p, .string l, .int .i64 1, .int .i64 m, .int .i64 a, .int .i64 b, .int .i64 c, .int .i64 d, .string u, .string g] 23)).alloc (.cells #[.int .i64 1, .string p, .string l, .string ⟨#[]⟩, .string u, .string g, .int .u8 48, .int .i64 m, .int .i64 a, .int .i64 b, .int .i64 d, .int .i64 c] 25)).heap.size ((w7.alloc (.cells #[.string p, .string l, .int .i64 1, .int .i64 m, .int .i64 a, .int .i64 b, .int .i64 c, .int .i64 d, .string u, .string g] 23)).alloc (.cells #[.int .i64 1, .string p, .string l, .string ⟨#[]⟩, .string u, .string g, .int .u8 48, .int .i64 m, .int .i64 a, .int .i64 b, .int .i64 d, .int .i64 c] 25)) w' := hd_ok _ (HV.out _ bb9) ⟨p, l, 1, m, a, b, c, d, u, g⟩ O.out
      go_wp2_with fail
      refine q.mono ?_
      rintro e w10 ⟨rfl, b10⟩
      clear q r0 r1 r2 r3 r4 r5 r6 r7 r8 r9 r10 r11 k0 k1 k2 k3 k4 k5 k6 k7 k8 k9 t6
      have b11 : Below w10.heap.size w10 (w10.alloc (.cells #[.string p, .string l, .int .i64 1, .int .i64 m, .int .i64 a, .int .i64 b, .int .i64 c, .int .i64 d, .string u, .string g] 23)) := (Below.refl _ w10).alloc (Nat.le_refl _) _
      have bb10 := bb9.trans (b10.mono bb9.size)
      have bb11 := bb10.trans (b11.mono bb10.size)
      obtain ⟨k0, k1, k2, k3, k4, k5, k6, k7, k8, k9⟩ := ten10 (heap_grow b11 (heap_grow b10 e9))
      obtain ⟨t0, t1, t2, t3, t4, t5, t6, t7, t8, t9⟩ := ten10 (heap_grow b11 (heap_grow b10 x9))
      obtain ⟨r0, r1, r2, r3, r4, r5, r6, r7, r8, r9⟩ := ten10 (new_at w10 (.cells #[.string p, .string l, .int .i64 1, .int .i64 m, .int .i64 a, .int .i64 b, .int .i64 c, .int .i64 d, .string u, .string g] 23))
      have eqs := fun W => eq_same p l 1 m a b c d u g W
      clear e6 n6 hG b7 b8 e8 n8 x8 b9 e9 x9 y9 b10 b11
      go_wp2_with fail
      go_ret
      exact ⟨by first | rfl | simp, bb11⟩

end Go.Proofs.YtjnmmkohmfhnlabDoor
