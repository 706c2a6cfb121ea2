/-
  The card of the law EntryOrder holds: it returns true for every four texts, the variables of the library that it lists being as the program text lays them.
-/
import Derived.Test.YtjnmmkohmfhnlaaDoorLaid
import Derived.Test.YtjnmmkohmfhnlaaDoorCards
import Derived.Test.YtjnmmkohmfhnlaaDoorTie
import Derived.Test.YtjnmmkohmfhnlaaDoorEo0
import Derived.Deep.RegionHeld3
import Derived.Lib.SmallJoins
import Derived.SizedLaws
import Derived.ShutString
import Derived.ChangeOld
import Derived.ProofKit
import Derived.ChangeMaps5
namespace Go.Proofs.YtjnmmkohmfhnlaaDoor.entryOrder
open Go.ChangeShapes Go.WideShapes Go.RowKit
set_option linter.unusedVariables false
set_option linter.unusedSimpArgs false

theorem bytes_len' (z : ByteArray) : z.data.toList.length = z.size := by rw [Array.length_toList]; rfl

set_option maxRecDepth 100000 in
theorem open_arr4 {H : Type} {enc : TypeId × Value → H} {W : World} {r : Reach} {base b0 : Nat} {spare : Nat → Bool} {held : Bool} {v : Value} {d : DataW H} {p : List MemPlace}
    (hv : Value.okWide Tryd.prog W r base 42 v) (h : DataW.Trod enc Tryd.prog W b0 spare held 42 v d p) (hs : ∀ n ∈ d.weights Tryd.prog 42, n ≤ reachBytes) : ∃ x y z u : ByteArray, v = .agg #[.string x, .string y, .string z, .string u] ∧ (x.size ≤ 140737488355328 ∧ y.size ≤ 140737488355328 ∧ z.size ≤ 140737488355328 ∧ u.size ≤ 140737488355328) := by
  simp only [Value.okWide, Tryd.underlying42] at hv
  obtain ⟨cs, rfl, hsz, _⟩ := hv
  have hc : Tryd.prog.cellsOf 42 = 4 := by kernel_rfl
  rw [hc] at hsz
  obtain ⟨c0, c1, c2, c3, rfl⟩ := Go.Joins.array4 hsz
  obtain ⟨fuel, hf⟩ := h
  obtain ⟨xs, m, _, hx0, _, hl, hall⟩ := DataW.trod_array Tryd.underlying42 hf
  have k9 : Tryd.prog.cellsOf 9 = 1 := by kernel_rfl
  have e0 := hall 0 (by decide)
  have e1 := hall 1 (by decide)
  have e2 := hall 2 (by decide)
  have e3 := hall 3 (by decide)
  have hw : ∀ l : List (DataW H), DataW.weights Tryd.prog 42 (.agg l) = DataW.weightsAll Tryd.prog 9 l := fun l => by
    rw [DataW.weights, Tryd.underlying42]
  have r : reachBytes = 140737488351232 := by decide
  simp only [Prod.mk.injEq] at hx0
  obtain ⟨rfl, -⟩ := hx0
  rw [hw] at hs
  match xs, hl with
  | [y0, y1, y2, y3], _ =>
    simp [Value.cells, k9] at e0 e1 e2 e3
    obtain ⟨x, hx, rx, sx⟩ := DataW.trod_string Tryd.underlying9 e0
    obtain ⟨y, hy, ry, sy⟩ := DataW.trod_string Tryd.underlying9 e1
    obtain ⟨z, hz, rz, sz⟩ := DataW.trod_string Tryd.underlying9 e2
    obtain ⟨u, hu, ru, su⟩ := DataW.trod_string Tryd.underlying9 e3
    simp only [List.cons.injEq, and_true] at hx hy hz hu
    subst hx hy hz hu rx ry rz ru
    have w0 := hs x.data.toList.length (by simp only [List.map, DataW.weightsAll, DataW.weights]; simp)
    have w1 := hs y.data.toList.length (by simp only [List.map, DataW.weightsAll, DataW.weights]; simp)
    have w2 := hs z.data.toList.length (by simp only [List.map, DataW.weightsAll, DataW.weights]; simp)
    have w3 := hs u.data.toList.length (by simp only [List.map, DataW.weightsAll, DataW.weights]; simp)
    rw [bytes_len', r] at w0 w1 w2 w3
    exact ⟨x, y, z, u, rfl, by omega, by omega, by omega, by omega⟩

def aO (gv lv : Value) (gn ln : Nat) (all own long : ByteArray) : Ah := ⟨gv, lv, fun _ => kPath, fun _ => all, gn, fun _ => kPath, fun _ => own, ln, long, noE⟩
theorem kp (i : Nat) (hi : i < 4) : ¬ kPath = kyN i := by
  match i, hi with
  | 0, _ => decide +kernel
  | 1, _ => decide +kernel
  | 2, _ => decide +kernel
  | 3, _ => decide +kernel
theorem l1 (v k : ByteArray) : lastOf (fun _ => kPath) (fun _ => v) k 1 = if kPath = k then (v, true) else (⟨#[]⟩, false) := rfl
theorem l0 (v k : ByteArray) : lastOf (fun _ => kPath) (fun _ => v) k 0 = (⟨#[]⟩, false) := rfl

theorem v00 (gv lv : Value) (all own long k : ByteArray) : (aO gv lv 0 0 all own long).val k = ⟨#[]⟩ := rfl
theorem v10 (gv lv : Value) (all own long k : ByteArray) : (aO gv lv 1 0 all own long).val k = if kPath = k then all else ⟨#[]⟩ := by
  show (lastOf (fun _ => kPath) (fun _ => all) k 1).1 = _
  rw [l1]; split <;> rfl
theorem v11 (gv lv : Value) (all own long k : ByteArray) : (aO gv lv 1 1 all own long).val k = if kPath = k then own else ⟨#[]⟩ := by
  show (if (lastOf (fun _ => kPath) (fun _ => own) k 1).2 then (lastOf (fun _ => kPath) (fun _ => own) k 1).1 else (lastOf (fun _ => kPath) (fun _ => all) k 1).1) = _
  rw [l1, l1]
  by_cases c : kPath = k
  · simp [c]
  · simp [c]

theorem recs1 (W : World) (g : Nat) (x : ByteArray) (h0 : W.cell? ⟨g, 0, none⟩ = some (.string kPath)) (h1 : W.cell? ⟨g, 1, none⟩ = some (.string x)) : Lst W (.slice (some ⟨g, 0, none⟩) 1 1) (fun _ => kPath) (fun _ => x) 1 :=
  ⟨_, 1, rfl, by omega, .inr ⟨g, 0, rfl, fun i hi => by
    obtain rfl : i = 0 := by omega
    exact ⟨h0, h1⟩⟩⟩
theorem recs0 (W : World) (v : Nat → ByteArray) (k : Nat → ByteArray) : Lst W (.slice none 0 0) k v 0 := ⟨none, 0, rfl, by omega, .inl rfl⟩

/-- What the closures find. -/
structure Od (w W : World) (Hb O G : Nat) (own all short : ByteArray) : Prop where
  bel : Below w.heap.size w W
  hc : ∀ j v, (hO short).cells[j]? = some v → W.cell? ⟨Hb, j, none⟩ = some v
  o0 : W.cell? ⟨O, 0, none⟩ = some (.string kPath)
  o1 : W.cell? ⟨O, 1, none⟩ = some (.string own)
  g0 : W.cell? ⟨G, 0, none⟩ = some (.string kPath)
  g1 : W.cell? ⟨G, 1, none⟩ = some (.string all)
theorem Od.grow {w W W' : World} {Hb O G : Nat} {own all short : ByteArray} (h : Od w W Hb O G own all short) (hb : Below W.heap.size W W') : Od w W' Hb O G own all short :=
  ⟨h.bel.trans (hb.mono h.bel.size), fun j v e => cell_grow (h.hc j v e) hb, cell_grow h.o0 hb, cell_grow h.o1 hb, cell_grow h.g0 hb, cell_grow h.g1 hb⟩

theorem sz_if (c : Prop) [Decidable c] (x : ByteArray) (h : x.size ≤ 1000) : (if c then x else (⟨#[]⟩ : ByteArray)).size ≤ 281474976710656 := by
  split
  · omega
  · show (0 : Nat) ≤ _; omega

theorem p0 {w W : World} {Hb O G : Nat} {own all long short : ByteArray} (hV : Vs w) (h : Od w W Hb O G own all short) (hs : short.size ≤ 1000) :
    Calls Tryd.prog 13 #[.agg #[.slice none 0 0, .slice none 0 0, .string ⟨#[]⟩, .string ⟨#[]⟩], .pointer (some ⟨Hb, 0, none⟩)] W fun ev w' => ev = .returned (.string short) ∧ Od w w' Hb O G own all short := by
  have q := path_w short (aO (.slice none 0 0) (.slice none 0 0) 0 0 all own noE) Hb W (hV.below h.bel) ⟨⟨recs0 W _ _, recs0 W _ _⟩, by show (0 : Nat) ≤ _; omega, by show short.size ≤ _; omega, by show (0 : Nat) ≤ _; omega, fun k => by rw [v00]; show (0 : Nat) ≤ _; omega⟩ ⟨fun i hi => v00 _ _ _ _ _ _⟩ h.hc
  rw [v00, or3_none] at q
  have e : or2 (aO (.slice none 0 0) (.slice none 0 0) 0 0 all own noE).name short = short := or2_none short
  rw [e] at q
  exact q.mono fun ev w' ⟨x, y⟩ => ⟨x, h.grow y⟩
theorem p1 {w W : World} {Hb O G : Nat} {own all long short : ByteArray} (hV : Vs w) (h : Od w W Hb O G own all short) (hs : short.size ≤ 1000) (hl : long.size ≤ 1000) :
    Calls Tryd.prog 13 #[.agg #[.slice none 0 0, .slice none 0 0, .string long, .string ⟨#[]⟩], .pointer (some ⟨Hb, 0, none⟩)] W fun ev w' => ev = .returned (.string (or2 long short)) ∧ Od w w' Hb O G own all short := by
  have q := path_w short (aO (.slice none 0 0) (.slice none 0 0) 0 0 all own long) Hb W (hV.below h.bel) ⟨⟨recs0 W _ _, recs0 W _ _⟩, by show (0 : Nat) ≤ _; omega, by show short.size ≤ _; omega, by show long.size ≤ _; omega, fun k => by rw [v00]; show (0 : Nat) ≤ _; omega⟩ ⟨fun i hi => v00 _ _ _ _ _ _⟩ h.hc
  rw [v00, or3_none] at q
  exact q.mono fun ev w' ⟨x, y⟩ => ⟨x, h.grow y⟩
theorem p2 {w W : World} {Hb O G : Nat} {own all long short : ByteArray} (hV : Vs w) (h : Od w W Hb O G own all short) (hs : short.size ≤ 1000) (hl : long.size ≤ 1000) (ha : all.size ≤ 1000) :
    Calls Tryd.prog 13 #[.agg #[.slice (some ⟨G, 0, none⟩) 1 1, .slice none 0 0, .string long, .string ⟨#[]⟩], .pointer (some ⟨Hb, 0, none⟩)] W fun ev w' => ev = .returned (.string (or3 all long short)) ∧ Od w w' Hb O G own all short := by
  have q := path_w short (aO (.slice (some ⟨G, 0, none⟩) 1 1) (.slice none 0 0) 1 0 all own long) Hb W (hV.below h.bel) ⟨⟨recs1 W G all h.g0 h.g1, recs0 W _ _⟩, by show (0 : Nat) ≤ _; omega, by show short.size ≤ _; omega, by show long.size ≤ _; omega, fun k => by rw [v10]; exact sz_if _ _ ha⟩ ⟨fun i hi => by rw [v10, if_neg (kp i hi)]⟩ h.hc
  rw [v10, if_pos rfl] at q
  exact q.mono fun ev w' ⟨x, y⟩ => ⟨x, h.grow y⟩
theorem p3 {w W : World} {Hb O G : Nat} {own all long short : ByteArray} (hV : Vs w) (h : Od w W Hb O G own all short) (hs : short.size ≤ 1000) (hl : long.size ≤ 1000) (ho : own.size ≤ 1000) :
    Calls Tryd.prog 13 #[.agg #[.slice (some ⟨G, 0, none⟩) 1 1, .slice (some ⟨O, 0, none⟩) 1 1, .string long, .string ⟨#[]⟩], .pointer (some ⟨Hb, 0, none⟩)] W fun ev w' => ev = .returned (.string (or3 own long short)) ∧ Od w w' Hb O G own all short := by
  have q := path_w short (aO (.slice (some ⟨G, 0, none⟩) 1 1) (.slice (some ⟨O, 0, none⟩) 1 1) 1 1 all own long) Hb W (hV.below h.bel) ⟨⟨recs1 W G all h.g0 h.g1, recs1 W O own h.o0 h.o1⟩, by show (0 : Nat) ≤ _; omega, by show short.size ≤ _; omega, by show long.size ≤ _; omega, fun k => by rw [v11]; exact sz_if _ _ ho⟩ ⟨fun i hi => by rw [v11, if_neg (kp i hi)]⟩ h.hc
  rw [v11, if_pos rfl] at q
  exact q.mono fun ev w' ⟨x, y⟩ => ⟨x, h.grow y⟩

theorem od_start (w w1 : World) (b1 : Below w.heap.size w w1) (own all short : ByteArray) : Od w (((w1.alloc (.cells (hO short).cells 23)).alloc (.cells #[.string ⟨#[112, 97, 116, 104]⟩, .string own] 45)).alloc (.cells #[.string ⟨#[112, 97, 116, 104]⟩, .string all] 45)) w1.heap.size (w1.heap.size + 1) (w1.heap.size + 1 + 1) own all short := by
  have z1 : (w1.alloc (.cells (hO short).cells 23)).heap.size = w1.heap.size + 1 := by simp
  have z2 : ((w1.alloc (.cells (hO short).cells 23)).alloc (.cells #[.string ⟨#[112, 97, 116, 104]⟩, .string own] 45)).heap.size = w1.heap.size + 1 + 1 := by simp
  have x1 : ∀ j v, (hO short).cells[j]? = some v → (w1.alloc (.cells (hO short).cells 23)).cell? ⟨w1.heap.size, j, none⟩ = some v := fun j v h => alloc_cell w1 _ 23 j v h
  have bb1 := b1.alloc b1.size (.cells (hO short).cells 23)
  generalize w1.alloc (.cells (hO short).cells 23) = w2 at *
  have x2 : ∀ j v, (#[.string ⟨#[112, 97, 116, 104]⟩, .string own] : Array Value)[j]? = some v → (w2.alloc (.cells #[.string ⟨#[112, 97, 116, 104]⟩, .string own] 45)).cell? ⟨w1.heap.size + 1, j, none⟩ = some v := fun j v h => by rw [← z1]; exact alloc_cell w2 _ 45 j v h
  have bb2 := bb1.alloc bb1.size (.cells #[.string ⟨#[112, 97, 116, 104]⟩, .string own] 45)
  have g2 : Below w2.heap.size w2 (w2.alloc (.cells #[.string ⟨#[112, 97, 116, 104]⟩, .string own] 45)) := (Below.refl _ _).alloc (Nat.le_refl _) _
  generalize w2.alloc (.cells #[.string ⟨#[112, 97, 116, 104]⟩, .string own] 45) = w3 at *
  have x3 : ∀ j v, (#[.string ⟨#[112, 97, 116, 104]⟩, .string all] : Array Value)[j]? = some v → (w3.alloc (.cells #[.string ⟨#[112, 97, 116, 104]⟩, .string all] 45)).cell? ⟨w1.heap.size + 1 + 1, j, none⟩ = some v := fun j v h => by rw [← z2]; exact alloc_cell w3 _ 45 j v h
  have bb3 := bb2.alloc bb2.size (.cells #[.string ⟨#[112, 97, 116, 104]⟩, .string all] 45)
  have g3 : Below w3.heap.size w3 (w3.alloc (.cells #[.string ⟨#[112, 97, 116, 104]⟩, .string all] 45)) := (Below.refl _ _).alloc (Nat.le_refl _) _
  generalize w3.alloc (.cells #[.string ⟨#[112, 97, 116, 104]⟩, .string all] 45) = w4 at *
  exact ⟨bb3, fun j v h => cell_grow (cell_grow (x1 j v h) g2) g3, cell_grow (x2 0 _ rfl) g3, cell_grow (x2 1 _ rfl) g3, x3 0 _ rfl, x3 1 _ rfl⟩

set_option maxHeartbeats 4000000 in
theorem walk_in (own all long short : ByteArray) (w : World) (hV : Vs w) (h1 : own.size + all.size + long.size + short.size ≤ 1000) :
    Calls Tryd.prog 4 #[.agg #[.string own, .string all, .string long, .string short]] w fun e w' => e = .returned (.bool true) ∧ Below w.heap.size w w' := by
  have b1 : Below w.heap.size w (w.alloc (.cells #[.string own, .string all, .string long, .string short] 42)) := (Below.refl _ w).alloc (Nat.le_refl _) _
  have q := makes_w (w.alloc (.cells #[.string own, .string all, .string long, .string short] 42)) (hV.below b1)
  have HB1 : Hid (Below w.heap.size w (w.alloc (.cells #[.string own, .string all, .string long, .string short] 42))) := b1
  have HC : Hid (∀ W1, Below (w.alloc (.cells #[.string own, .string all, .string long, .string short] 42)).heap.size (w.alloc (.cells #[.string own, .string all, .string long, .string short] 42)) W1 → ∀ j v, (#[.string own, .string all, .string long, .string short] : Array Value)[j]? = some v → W1.cell? ⟨w.heap.size, j, none⟩ = some v) := fun W1 hb j v h => cell_grow (alloc_cell w _ 42 j v h) hb
  have HS : Hid (∀ w1, Below w.heap.size w w1 → Od w (((w1.alloc (.cells #[.int .i64 2, .string short, .string ⟨#[]⟩, .string ⟨#[]⟩, .string ⟨#[]⟩, .string ⟨#[]⟩, .int .u8 48, .int .i64 0, .int .i64 0, .int .i64 0, .int .i64 0, .int .i64 0] 23)).alloc (.cells #[.string ⟨#[112, 97, 116, 104]⟩, .string own] 45)).alloc (.cells #[.string ⟨#[112, 97, 116, 104]⟩, .string all] 45)) w1.heap.size (w1.heap.size + 1) (w1.heap.size + 1 + 1) own all short) := fun w1 hb => od_start w w1 hb own all short
  have HV : Hid (Vs w) := hV
  have z0 : own.size ≤ 1000 := by omega
  have z1 : all.size ≤ 1000 := by omega
  have z2 : long.size ≤ 1000 := by omega
  have z3 : short.size ≤ 1000 := by omega
  have hle : ¬ (1000 : Int) < (own.size : Int) + (all.size : Int) + (long.size : Int) + (short.size : Int) := by omega
  clear b1 hV
  go_enter Tryd.func4, Tryd.ntmps4
  go_upto_region 3 with (go_at_call 9; refine q.mono ?_; rintro e w1 ⟨rfl, hb⟩; have k0 := HC.out _ hb 0 _ rfl; have k1 := HC.out _ hb 1 _ rfl; have k2 := HC.out _ hb 2 _ rfl; have k3 := HC.out _ hb 3 _ rfl; have HB2 : Hid (Below w.heap.size w w1) := HB1.out.trans (hb.mono HB1.out.size))
  have hs3 := And.intro k0 (And.intro k1 (And.intro k2 k3))
  go_region_held3 (fun W => W.cell? ⟨w.heap.size, 0, none⟩ = some (.string own) ∧ W.cell? ⟨w.heap.size, 1, none⟩ = some (.string all) ∧ W.cell? ⟨w.heap.size, 2, none⟩ = some (.string long) ∧ W.cell? ⟨w.heap.size, 3, none⟩ = some (.string short)) (first | assumption | go_keep) (fail)
  try (rename_i hHeld; clear hHeld)
  have HB3 : Hid (Below w.heap.size w w1.drew) := HB2.out.drew
  clear hs3 k0 k1 k2 k3 q hb HC HB1 HB2
  generalize w1.drew = w2 at *
  have HO2 := HS.out w2 HB3.out
  have HO3 : Hid _ := HO2
  clear HO2 HS
  go_wp2_with (first
    | (go_at_call 14; have y7 := first3_w w7.heap.size 3 own long short (w7.alloc (.cells #[.string own, .string long, .string short] 9)) (alloc_cell w7 _ 9 0 _ rfl) (alloc_cell w7 _ 9 1 _ rfl) (alloc_cell w7 _ 9 2 _ rfl); refine y7.mono ?_; rintro e w8 ⟨rfl, hw8⟩; subst hw8)
    | (go_at_call 13; refine (p3 HV.out (O6.out.grow ((Below.refl _ _).alloc (Nat.le_refl _) _)) z3 z2 z0).mono ?_; rintro e w7 ⟨rfl, o7⟩; have O7 : Hid _ := o7)
    | (go_at_call 14; have y6 := first3_w w6.heap.size 3 all long short (w6.alloc (.cells #[.string all, .string long, .string short] 9)) (alloc_cell w6 _ 9 0 _ rfl) (alloc_cell w6 _ 9 1 _ rfl) (alloc_cell w6 _ 9 2 _ rfl); refine y6.mono ?_; rintro e w8 ⟨rfl, hw8⟩; subst hw8)
    | (go_at_call 13; refine (p2 HV.out (O5.out.grow ((Below.refl _ _).alloc (Nat.le_refl _) _)) z3 z2 z1).mono ?_; rintro e w6 ⟨rfl, o6⟩; have O6 : Hid _ := o6)
    | (go_at_call 14; have y5 := first2_w w5.heap.size 2 long short (w5.alloc (.cells #[.string long, .string short] 9)) (alloc_cell w5 _ 9 0 _ rfl) (alloc_cell w5 _ 9 1 _ rfl); refine y5.mono ?_; rintro e w8 ⟨rfl, hw8⟩; subst hw8)
    | (go_at_call 13; refine (p1 HV.out O4.out z3 z2).mono ?_; rintro e w5 ⟨rfl, o5⟩; have O5 : Hid _ := o5)
    | (go_at_call 13; refine (p0 (long := long) HV.out HO3.out z3).mono ?_; rintro e w4 ⟨rfl, o4⟩; have O4 : Hid _ := o4))
  all_goals go_ret
  all_goals exact ⟨by first | rfl | (simp; done), (O7.out.grow ((Below.refl _ _).alloc (Nat.le_refl _) _)).bel⟩

set_option maxHeartbeats 2000000 in
theorem walk_out (own all long short : ByteArray) (w : World) (hV : Vs w) (m0 : own.size ≤ 140737488355328) (m1 : all.size ≤ 140737488355328) (m2 : long.size ≤ 140737488355328) (m3 : short.size ≤ 140737488355328) (h1 : 1000 < own.size + all.size + long.size + short.size) :
    Calls Tryd.prog 4 #[.agg #[.string own, .string all, .string long, .string short]] w fun e w' => e = .returned (.bool true) ∧ Below w.heap.size w w' := by
  have b1 : Below w.heap.size w (w.alloc (.cells #[.string own, .string all, .string long, .string short] 42)) := (Below.refl _ w).alloc (Nat.le_refl _) _
  have q := makes_w (w.alloc (.cells #[.string own, .string all, .string long, .string short] 42)) (hV.below b1)
  have HB1 : Hid (Below w.heap.size w (w.alloc (.cells #[.string own, .string all, .string long, .string short] 42))) := b1
  have HC : Hid (∀ W1, Below (w.alloc (.cells #[.string own, .string all, .string long, .string short] 42)).heap.size (w.alloc (.cells #[.string own, .string all, .string long, .string short] 42)) W1 → ∀ j v, (#[.string own, .string all, .string long, .string short] : Array Value)[j]? = some v → W1.cell? ⟨w.heap.size, j, none⟩ = some v) := fun W1 hb j v h => cell_grow (alloc_cell w _ 42 j v h) hb
  have hle : (1000 : Int) < (own.size : Int) + (all.size : Int) + (long.size : Int) + (short.size : Int) := by omega
  clear b1 hV
  go_enter Tryd.func4, Tryd.ntmps4
  go_upto_region 3 with (go_at_call 9; refine q.mono ?_; rintro e w1 ⟨rfl, hb⟩; have k0 := HC.out _ hb 0 _ rfl; have k1 := HC.out _ hb 1 _ rfl; have k2 := HC.out _ hb 2 _ rfl; have k3 := HC.out _ hb 3 _ rfl; have HB2 : Hid (Below w.heap.size w w1) := HB1.out.trans (hb.mono HB1.out.size))
  have hs3 := And.intro k0 (And.intro k1 (And.intro k2 k3))
  go_region_held3 (fun W => W.cell? ⟨w.heap.size, 0, none⟩ = some (.string own) ∧ W.cell? ⟨w.heap.size, 1, none⟩ = some (.string all) ∧ W.cell? ⟨w.heap.size, 2, none⟩ = some (.string long) ∧ W.cell? ⟨w.heap.size, 3, none⟩ = some (.string short)) (first | assumption | go_keep) (fail)
  try (rename_i hHeld; clear hHeld)
  have HB3 : Hid (Below w.heap.size w w1.drew) := HB2.out.drew
  clear hs3 k0 k1 k2 k3 q hb HC HB1 HB2
  generalize w1.drew = w2 at *
  go_wp2
  go_ret
  exact ⟨rfl, HB3.out⟩

theorem walk (own all long short : ByteArray) (w : World) (hV : Vs w) (m0 : own.size ≤ 140737488355328) (m1 : all.size ≤ 140737488355328) (m2 : long.size ≤ 140737488355328) (m3 : short.size ≤ 140737488355328) :
    Calls Tryd.prog 4 #[.agg #[.string own, .string all, .string long, .string short]] w fun e w' => e = .returned (.bool true) ∧ Below w.heap.size w w' := by
  by_cases c : own.size + all.size + long.size + short.size ≤ 1000
  · exact walk_in own all long short w hV c
  · exact walk_out own all long short w hV m0 m1 m2 m3 (by omega)

theorem lit_i64 {z : Int} (h : (Lit.int .i64 z).wf = true) : -9223372036854775808 ≤ z ∧ z ≤ 9223372036854775807 := by
  have h' : IntKind.i64.min ≤ z ∧ z ≤ IntKind.i64.max := by simpa [Lit.wf] using h
  have e1 : IntKind.i64.min = -9223372036854775808 := by decide
  have e2 : IntKind.i64.max = 9223372036854775807 := by decide
  omega

set_option maxRecDepth 100000 in
theorem lifted (os : Os) (started : os.Started) (H : Type) (enc : TypeId × Value → H) :
    ReturnsInHanded {} Tryd.checked os 4 .any (fun w args => (Rows.entryOrderSpec.pre enc Tryd.prog Tryd.f4 [] false w args ∧ laidMetH Tryd.prog five w) ∧ sizedMet enc Tryd.prog Tryd.f4 (OpenSpec.ofChange Rows.entryOrderSpec) false w args)
      (Rows.entryOrderSpec.post enc Tryd.prog Tryd.f4 false true false false) := by
  refine returnsInHanded_of_change_and (C := Tryd.checked) (X := fun w _ => laidMetH Tryd.prog five w) (fun _ _ _ hh h => h.of_heap hh) own started (by kernel_rfl) Tryd.func4
    (ChangeSpec.witness_at (enc := enc) (C := Tryd.checked) (os := os) (X := fun w _ => laidMetH Tryd.prog five w) false
      (start os)
      #[.agg #[.string ⟨#[]⟩, .string ⟨#[]⟩, .string ⟨#[]⟩, .string ⟨#[]⟩]] 8 rfl (by kernel_rfl) (by kernel_rfl) (by kernel_rfl) (by kernel_rfl) (by kernel_rfl) (laidMet_of_run' 8 (by kernel_rfl) (by kernel_rfl))) ?_
  intro W base args ds gs before hval0 hW _ hsz hL _
  have hval : ∀ (j : Nat) t v, Tryd.f4.params[j]? = some t → args[j]? = some v → Value.okWide Tryd.prog W .any base t v := hval0
  have hW' := hW
  obtain ⟨p, q, hA0, hV0, rfl, hfz, hnd⟩ := hW
  have hA : DataW.TrodAll enc Tryd.prog W 0 (fun _ => true) true Tryd.f4.params.toList args.toList ds p := hA0
  have hV : DataW.TrodVars enc Tryd.prog W (fun _ => true) [] gs q := hV0
  rw [Tryd.params4] at hA hval
  obtain ⟨v0, vs0, d0, ds0, p0, q0, hargs, rfl, rfl, h0, r0⟩ := trodAll_cons hA
  obtain ⟨rfl, rfl, rfl⟩ := trodAll_nil r0
  obtain rfl : args = #[v0] := by cases args; simp_all
  obtain ⟨rfl, rfl⟩ : gs = [] ∧ q = [] := by
    cases gs with
    | nil => exact ⟨rfl, hV⟩
    | cons g r => exact absurd hV (by intro h; cases h)
  have k0 := h0
  have lt0 : ∀ x ∈ p0, x.block < W.heap.size := by obtain ⟨m, hm⟩ := k0; exact DataW.trod_lt m _ _ _ hm
  have sz0 := fun n hn => of_decide_eq_true (List.all_eq_true.1 hsz n (DataW.weights_mem_each (j := 0) (t := 42) rfl rfl n hn))
  obtain ⟨x0, y0, z0, u0, rfl, fit0⟩ := open_arr4 (hval 0 42 v0 rfl rfl) h0 sz0
  clear hA0 hval0
  refine (walk x0 y0 z0 u0 W (met hL) fit0.1 fit0.2.1 fit0.2.2.1 fit0.2.2.2).mono fun e W' ⟨he, st⟩ => ?_
  subst he
  exact ⟨_, rfl, _, _, _, [], _, [], hW', trodAll_mk1 (shut_bool Tryd.underlying4 _), (trodAll_cons_mk (Below.trod laidOut (by kernel_rfl) (of_decide_eq_true (by kernel_rfl)) k0 st lt0) trodAll_mk0), rfl, st.frame _, fun h => by cases h⟩

theorem over : Rows.EntryOrderSaid :=
  OpenClaim.holds_of_wide 4 Tryd.f4 rfl rfl rfl rfl rfl rfl rfl ⟨rfl, rfl, rfl, rfl, rfl⟩ rfl rfl rfl rfl rfl (by kernel_rfl) Tryd.func4 (by kernel_rfl)
    (of_decide_eq_true (by kernel_rfl)) (by unfold Func.isWrapper; rw [if_neg (of_decide_eq_false (by kernel_rfl))]; exact ⟨rfl, rfl⟩)
    (fun os started H enc _ => lifted os started H enc)

theorem carded : Rows.EntryOrderCardSaid :=
  Claim7.holds_tied_plain_at .later [] _ _ _ _
    over (fun _ h => by cases h) (by kernel_rfl) (fun _ h => by cases h) entryOrder_row_tie rfl ⟨rfl, rfl⟩ (by kernel_rfl) rfl
    (fun f fn hf hfn => by
      obtain rfl : f = 4 := Option.some.inj ((show Tryd.prog.funcNamed Tryd.f4.name = some 4 by kernel_rfl).symm.trans hf) |>.symm
      obtain rfl : fn = Tryd.f4 := (Option.some.inj (Tryd.func4.symm.trans hfn)).symm
      refine ⟨by kernel_rfl, fun j t ht => ?_⟩
      have hall : ∀ t ∈ Tryd.f4.params, Tryd.prog.wantsStandIn t = false := by
        rw [Tryd.params4]
        intro t ht
        simp at ht
        subst ht; kernel_rfl
      exact hall t (Array.mem_of_getElem? ht))
    (by kernel_rfl)

end Go.Proofs.YtjnmmkohmfhnlaaDoor.entryOrder
namespace Go.Proofs.YtjnmmkohmfhnlaaDoor
theorem entryOrder_holds : Rows.EntryOrderCardSaid := entryOrder.carded
#print axioms entryOrder_holds
end Go.Proofs.YtjnmmkohmfhnlaaDoor
