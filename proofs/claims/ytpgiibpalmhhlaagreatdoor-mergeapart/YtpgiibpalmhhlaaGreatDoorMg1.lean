/-
  Contracts: Contents, files.
-/
import Derived.Test.YtpgiibpalmhhlaaGreatDoorMg0
import Derived.Test.YtpgiibpalmhhlaaGreatDoorU2
import Derived.Deep.DeepCutAuto
namespace Go.Proofs.YtpgiibpalmhhlaaGreatDoor
open Go.RowKit
open Go.Lib hiding intOf
set_option linter.unusedVariables false
set_option linter.unusedSimpArgs false

def kStep (K : List (Int × Int)) (r : Rw) : List (Int × Int) := if r.kind = 1 then kput K r.id r.size else K
/-- the contents of rows: numbers and sizes -/
def contK (L : List Rw) : List (Int × Int) := L.foldl kStep []
theorem contK_succ (L : List Rw) (i : Nat) (r : Rw) (h : L[i]? = some r) : contK (L.take (i + 1)) = kStep (contK (L.take i)) r := by
  obtain ⟨hi, e⟩ := List.getElem?_eq_some_iff.1 h
  unfold contK
  rw [List.take_succ_eq_append_getElem hi, List.foldl_append, e]; rfl

structure Mk (w W : World) (T : Array Value) (n : Nat) (K : List (Int × Int)) : Prop where
  one : W.heap[w.heap.size]? = some (.cells T 26 (0, 0))
  map : Cm W (w.heap.size + 1) n K
  bel : Below w.heap.size w W
  lt : w.heap.size + 2 ≤ W.heap.size
theorem Mk.next {w W W' : World} {T : Array Value} {n : Nat} {K : List (Int × Int)} (h : Mk w W T n K) (b : Below W.heap.size W W') : Mk w W' T n K := by
  have := h.lt
  exact ⟨(b.block _ (by omega)).trans h.one, h.map.below b, h.bel.trans (b.mono (by omega)), Nat.le_trans h.lt b.size⟩
theorem Mk.upd {w W W' : World} {T : Array Value} {n n' : Nat} {K K' : List (Int × Int)} (h : Mk w W T n K) (hm : Cm W' (w.heap.size + 1) n' K') (hg : W.grownBy W' (some (w.heap.size + 1))) : Mk w W' T n' K' := by
  have := h.lt
  exact ⟨(hg.block _ (by omega) (by simp)).trans h.one, hm, h.bel.grown hg (by have := h.bel.size; omega) (fun k hk => by injection hk with hk; omega), Nat.le_trans h.lt hg.size⟩

set_option maxRecDepth 20000 in
set_option maxHeartbeats 4000000 in
theorem contents_w (ad : Option Addr) (cap : Nat) (nx : Int) (L : List Rw) (w : World) (hr : Rs w ad L) (hl : L.length ≤ 1000000) (ho : ∀ r ∈ L, 0 ≤ r.id ∧ r.id ≤ 4000000000000) :
    Calls Tryz.prog 16 #[.agg #[.slice ad L.length cap, .int .i64 nx]] w fun e w' => ∃ gm n, e = .returned (.map (some gm)) ∧ Cm w' gm n (contK L) ∧ w.heap.size ≤ gm ∧ n ≤ 1000000 ∧ Below w.heap.size w w' := by
  have HR : Hid (Rs w ad L) := hr
  have HO : Hid (∀ r ∈ L, 0 ≤ r.id ∧ r.id ≤ 4000000000000) := ho
  have KC : Hid (∀ z W, Calls Tryz.prog 35 #[.agg #[.slice none 0 0, .int .i64 z]] W fun e w' => e = .returned (.agg #[.slice none 0 0, .int .i64 z]) ∧ Below W.heap.size W w') := ownContent_w
  have hmk : ∀ W : World, (Instr.makeMap 51 none).run Tryz.prog W = .ok (.map (some W.heap.size)) (W.alloc (.map #[] 0)) := fun W => rfl
  have q0 := heap_alloc_new w (.cells #[.slice ad L.length cap, .int .i64 nx] 26)
  have z0 := size_box w (.cells #[.slice ad L.length cap, .int .i64 nx] 26)
  have b0 := below_box w (.cells #[.slice ad L.length cap, .int .i64 nx] 26)
  have c1 := Cm.made (w.alloc (.cells #[.slice ad L.length cap, .int .i64 nx] 26))
  have b1 := below_box (w.alloc (.cells #[.slice ad L.length cap, .int .i64 nx] 26)) (.map #[] 0)
  have z1 := size_box (w.alloc (.cells #[.slice ad L.length cap, .int .i64 nx] 26)) (.map #[] 0)
  rw [z0] at c1
  have M0 : Hid (Mk w ((w.alloc (.cells #[.slice ad L.length cap, .int .i64 nx] 26)).alloc (.map #[] 0)) #[.slice ad L.length cap, .int .i64 nx] 0 (contK (L.take 0))) := ⟨(b1.block _ (by omega)).trans q0, c1, b0.trans (b1.mono (by omega)), by omega⟩
  clear hr ho q0 z0 b0 c1 b1 z1
  generalize hn : L.length = n at *
  have HN : Hid (L.length = n) := hn
  clear hn
  go_enter Tryz.func16, Tryz.ntmps16
  go_upto_region 2 with fail
  generalize (w.alloc _).alloc _ = w0 at *
  have x1 := cells_of M0.out.one
  go_wp2_with fail
  go_loopw [12] (fun x12 wr => ∃ i : Nat, x12 = .int .i64 (i : Int) ∧ i ≤ n ∧ Hid (Mk w wr #[.slice ad n cap, .int .i64 nx] i (contK (L.take i)))) (fun x12 _ => n - (intOf x12).toNat)
  case atStart => exact ⟨0, rfl, Nat.zero_le _, M0⟩
  case round =>
    obtain ⟨i, rfl, hi, HM⟩ := hrel
    clear M0 x1
    by_cases hlt : i < n
    · obtain ⟨r, hr⟩ : ∃ r, L[i]? = some r := ⟨_, List.getElem?_eq_getElem (by have := HN.out; omega)⟩
      have hid := HO.out r (List.mem_of_getElem? hr)
      have HU : Hid (contK (L.take (i + 1)) = kStep (contK (L.take i)) r) := contK_succ L i r hr
      obtain ⟨b, o, rfl, hb1, hb2⟩ := (HR.out.below HM.out.bel).at hr
      have x0 : wr.cell? ⟨b, o + i * 13, none⟩ = some (.string (bs r.p)) := hb2 0 _ rfl
      have x1 : wr.cell? ⟨b, o + i * 13 + 1, none⟩ = some (.int .i64 r.id) := hb2 1 _ rfl
      have x2 : wr.cell? ⟨b, o + i * 13 + 2, none⟩ = some (.int .i64 r.kind) := hb2 2 _ rfl
      have x3 : wr.cell? ⟨b, o + i * 13 + 3, none⟩ = some (.int .i64 r.mode) := hb2 3 _ rfl
      have x4 : wr.cell? ⟨b, o + i * 13 + 4, none⟩ = some (.int .i64 0) := hb2 4 _ rfl
      have x5 : wr.cell? ⟨b, o + i * 13 + 5, none⟩ = some (.int .i64 0) := hb2 5 _ rfl
      have x6 : wr.cell? ⟨b, o + i * 13 + 6, none⟩ = some (.int .i64 0) := hb2 6 _ rfl
      have x7 : wr.cell? ⟨b, o + i * 13 + 7, none⟩ = some (.string ⟨#[]⟩) := hb2 7 _ rfl
      have x8 : wr.cell? ⟨b, o + i * 13 + 8, none⟩ = some (.string ⟨#[]⟩) := hb2 8 _ rfl
      have x9 : wr.cell? ⟨b, o + i * 13 + 9, none⟩ = some (.string ⟨#[]⟩) := hb2 9 _ rfl
      have x10 : wr.cell? ⟨b, o + i * 13 + 10, none⟩ = some (.slice none 0 0) := hb2 10 _ rfl
      have x11 : wr.cell? ⟨b, o + i * 13 + 11, none⟩ = some (.int .i64 r.size) := hb2 11 _ rfl
      have x12 : wr.cell? ⟨b, o + i * 13 + 12, none⟩ = some (.bool r.made) := hb2 12 _ rfl
      have i1 : (0 : Int) ≤ (i : Int) := by omega
      have i2 : (i : Int) < (n : Int) := by omega
      clear hb2 hr
      go_upto_region 5 with fail
      have M1 : Hid (Mk w (wr.alloc (.cells #[.string (bs r.p), .int .i64 r.id, .int .i64 r.kind, .int .i64 r.mode, .int .i64 0, .int .i64 0, .int .i64 0, .string ⟨#[]⟩, .string ⟨#[]⟩, .string ⟨#[]⟩, .slice none 0 0, .int .i64 r.size, .bool r.made] 43)) _ i (contK (L.take i))) := HM.out.next (below_box wr _)
      have q1 := heap_alloc_new wr (.cells #[.string (bs r.p), .int .i64 r.id, .int .i64 r.kind, .int .i64 r.mode, .int .i64 0, .int .i64 0, .int .i64 0, .string ⟨#[]⟩, .string ⟨#[]⟩, .string ⟨#[]⟩, .slice none 0 0, .int .i64 r.size, .bool r.made] 43)
      generalize wr.alloc _ = w1 at *
      generalize wr.heap.size = g1 at *
      clear x0 x1 x2 x3 x4 x5 x6 x7 x8 x9 x10 x11 x12 HM
      have y1 := cells_of q1
      by_cases hk : r.kind = 1
      · have HU2 : Hid (contK (L.take (i + 1)) = kput (contK (L.take i)) r.id r.size) := (by show _ = _; rw [HU.out]; unfold kStep; rw [if_pos hk])
        obtain ⟨w2, p1, p2, p3⟩ := M1.out.map.put r.id r.size (wf64 (by omega)) (by unfold maxLen; omega)
        have M2 : Hid (Mk w w2 _ (i + 1) (contK (L.take (i + 1)))) := (by rw [HU2.out]; exact M1.out.upd p2 p3)
        unfold cv at p1
        have hkb : (r.kind == 1) = true := by simpa using hk
        clear p2 p3 hk
        go_wp2_with fail
        go_roundw
        case rel => exact ⟨i + 1, by simp, hlt, M2⟩
        case measure => simp [intOf]; omega
      · have HU2 : Hid (contK (L.take (i + 1)) = contK (L.take i)) := (by show _ = _; rw [HU.out]; unfold kStep; rw [if_neg hk])
        have M2 : Hid (Mk w w1 _ (i + 1) (contK (L.take (i + 1)))) := (by
          rw [HU2.out]
          obtain ⟨D, h1, h2⟩ := M1.out.map
          exact ⟨M1.out.one, ⟨D, h1.mono (by omega), h2⟩, M1.out.bel, M1.out.lt⟩)
        have hkb : (r.kind == 1) = false := by simpa using hk
        clear hk
        go_wp2_with fail
        go_roundw
        case rel => exact ⟨i + 1, by simp, hlt, M2⟩
        case measure => simp [intOf]; omega
    · obtain rfl : i = n := by omega
      have M1 : Hid (Mk w wr #[.slice ad i cap, .int .i64 nx] i (contK L)) := (by
        have := HM.out
        rwa [List.take_of_length_le (by rw [HN.out]; exact Nat.le_refl _)] at this)
      clear HM
      obtain ⟨D, hown, hC⟩ := M1.out.map
      have HC := hid hC
      clear hC
      go_wp2_with (first
        | (at_range; refine wpList_range_own _ rfl _ 51 rfl 3 39 key3 Tryz.underlying51 RC (w.heap.size + 1) i D rfl hown ?_; intro w0' hrg0 hg0 hs0))
      go_frame
      have HG : Hid (Mk w w0' #[.slice ad i cap, .int .i64 nx] i (contK L)) := ⟨(hg0.block _ (by have := M1.out.lt; omega) (by simp)).trans M1.out.one, ⟨D, hrg0.owns, HC.out⟩, M1.out.bel.trans (by
        have := (Below.refl wr.heap.size wr).grown hg0 (Nat.le_refl _) (fun k hk => by cases hk)
        exact this.mono M1.out.bel.size), Nat.le_trans M1.out.lt hg0.size⟩
      have hlt0 := M1.out.lt
      have h0' : wr.heap.size < w0'.heap.size := by omega
      clear hg0 hs0 hown M1
      generalize wr.heap.size = rr at *
      go_loopw [] (fun wq => ∃ left cnt, wq.ranges Tryz.prog 3 RC (w.heap.size + 1) rr i D left cnt ∧ rr < wq.heap.size ∧ Hid (Mk w wq #[.slice ad i cap, .int .i64 nx] i (contK L))) (fun wq => wq.rangeLeft (w.heap.size + 1) rr)
      case atStart => exact ⟨_, _, hrg0, h0', HG⟩
      case round =>
        obtain ⟨left, cnt, hrg, hq, HQ⟩ := hrel
        clear hrg0 HG
        go_upto_region 10 with (first
          | (at_next; refine wpList_next_ranges _ rfl _ rfl 3 key3 RC (fun x : Int => Value.int .i64 x) cv (fun key kl hkey => by obtain ⟨x, rfl, _⟩ := Maps.keyOf_int_inv Tryz.underlying3 hkey; exact ⟨x, rfl⟩) (fun v y hv => by obtain ⟨c, e, _⟩ := RC_inv hv; exact ⟨c, e⟩) (w.heap.size + 1) rr i D _ _ rfl hrg ?_ ?_))
        · intro hc0 hl0
          go_wp2_with fail
          go_ret
          exact ⟨_, _, rfl, HQ.out.map, by omega, by omega, HQ.out.bel⟩
        · intro x c kl y1 y2 w1 cnt1 hkx hlk hRc hat hrg1 hlt1 hg1 hs1 hen
          obtain ⟨x', ex, rfl, hwx⟩ := Maps.keyOf_int_inv Tryz.underlying3 hkx
          cases ex
          have hy1 : dv c = y1 := by
            have := (RC_mk c).symm.trans hRc
            injection this with this
            injection this
          subst hy1
          have HQ1 : Hid (Mk w w1 #[.slice ad i cap, .int .i64 nx] i (contK L)) := ⟨(hg1.block _ (by have := HQ.out.lt; omega) (by simp; omega)).trans HQ.out.one, ⟨D, hrg1.owns, HC.out⟩, HQ.out.bel.grown hg1 HQ.out.bel.size (fun k hk => by injection hk with hk; omega), Nat.le_trans HQ.out.lt hg1.size⟩
          have hq1 : rr < w1.heap.size := by omega
          have HAT : Hid (∀ zd, D.atKey (.int .i64 x) zd = dv c) := hat
          have HRO := hid hrg
          have HR1 : Hid (w1.ranges Tryz.prog 3 RC (w.heap.size + 1) rr i D _ cnt1) := hrg1
          clear hkx hlk hRc hat hg1 hs1 HQ hrg hrg1
          unfold cv at *
          go_upto_region 11 with fail
          have kc := below_box w1 (.cells #[.slice none 0 0, .int .i64 c] 39)
          have qc := heap_alloc_new w1 (.cells #[.slice none 0 0, .int .i64 c] 39)
          generalize hw2 : w1.alloc _ = w2 at *
          clear hw2
          have yc := cells_of qc
          have HR2 : Hid (w2.ranges Tryz.prog 3 RC (w.heap.size + 1) rr i D _ cnt1) := HR1.out.kept (row := none) (grown_below kc) (by simp) (by simp)
          have HQ2 : Hid (Mk w w2 #[.slice ad i cap, .int .i64 nx] i (contK L)) := HQ1.out.next kc
          have hq2 : rr < w2.heap.size := Nat.lt_of_lt_of_le hq1 kc.size
          clear HR1 HQ1 kc hen
          go_wp2_with (go_at_call 35; refine (KC.out _ _).mono ?_; rintro e w3 ⟨rfl, b3⟩; have HR3 : Hid (w3.ranges Tryz.prog 3 RC (w.heap.size + 1) rr i D _ cnt1) := HR2.out.kept (row := none) (grown_below b3) (by simp) (by simp); have hms := ranges_same HR3.out x c hwx HAT.out; unfold cv at hms; have HQ3 : Hid (Mk w w3 #[.slice ad i cap, .int .i64 nx] i (contK L)) := HQ2.out.next b3; have hq3 : rr < w3.heap.size := Nat.lt_of_lt_of_le hq2 b3.size)
          go_roundw
          case rel => exact ⟨_, _, HR3.out, hq3, HQ3⟩
          case measure => rw [HR3.out.left_eq, HRO.out.left_eq]; omega

set_option maxRecDepth 20000 in
set_option maxHeartbeats 4000000 in
theorem files_w (ad : Option Addr) (cap : Nat) (nx : Int) (L : List Rw) (w : World) (hr : Rs w ad L) (hl : L.length ≤ 1000000) (ho : ∀ r ∈ L, 0 ≤ r.id ∧ r.id ≤ 4000000000000) :
    Calls Tryz.prog 21 #[.agg #[.slice ad L.length cap, .int .i64 nx]] w fun e w' => e = .returned (.int .i64 ((contK L).length : Int)) ∧ Below w.heap.size w w' := by
  have q0 := heap_alloc_new w (.cells #[.slice ad L.length cap, .int .i64 nx] 26)
  have b0 := below_box w (.cells #[.slice ad L.length cap, .int .i64 nx] 26)
  have KC : Hid (Calls Tryz.prog 16 #[.agg #[.slice ad L.length cap, .int .i64 nx]] (w.alloc (.cells #[.slice ad L.length cap, .int .i64 nx] 26)) fun e w' => ∃ gm n, e = .returned (.map (some gm)) ∧ Cm w' gm n (contK L) ∧ (w.alloc (.cells #[.slice ad L.length cap, .int .i64 nx] 26)).heap.size ≤ gm ∧ n ≤ 1000000 ∧ Below (w.alloc (.cells #[.slice ad L.length cap, .int .i64 nx] 26)).heap.size (w.alloc (.cells #[.slice ad L.length cap, .int .i64 nx] 26)) w') := contents_w ad cap nx L _ (hr.below b0) hl ho
  clear hr ho
  generalize L.length = n at *
  go_enter Tryz.func21, Tryz.ntmps21
  go_upto_region 1 with fail
  generalize w.alloc _ = w1 at *
  have x1 := cells_of q0
  go_wp2_with (first
    | (go_at_call 16; refine KC.out.mono ?_; rintro e w2 ⟨gm, n2, rfl, C2, G2, N2, b2⟩; have hlen := C2.len))
  go_ret
  exact ⟨rfl, b0.trans (b2.mono b0.size)⟩

end Go.Proofs.YtpgiibpalmhhlaaGreatDoor
