/-
  EntryMakes' walk.
-/
import Derived.Test.YtjnmmkohmfhnlaaDoorMa0
import Derived.Laws.Tables
import Derived.Deep.DeepCutAuto
import Derived.Deep.RegionHeld3
namespace Go.Proofs.YtjnmmkohmfhnlaaDoor
open Go.ChangeShapes Go.WideShapes Go.RowKit
set_option linter.unusedVariables false
set_option linter.unusedSimpArgs false

theorem put_row {B : Nat} {a W : World} (h : Below B a W) {g : Nat} (hg : B ≤ g) (cs : Array Value) : Below B a (W.setRow g cs) :=
  ⟨h.os, h.tape, h.output, by rw [setRow_size]; exact h.size, fun j hj => by rw [setRow_other _ _ _ _ (by omega)]; exact h.block j hj⟩

set_option maxRecDepth 100000 in
set_option maxHeartbeats 8000000 in
theorem walk_in (x : Hd) (a : Ah) (w : World) (hV : Vs w) (fx : HdFit x) (fa : AhFit a w) (n1 : a.ln ≤ 70) (n2 : a.gn ≤ 70) :
    Calls Tryd.prog 3 #[.agg x.cells, .agg a.cells] w fun e w' => e = .returned (.bool true) ∧ Below w.heap.size w w' := by
  obtain ⟨E, c, q10, q11⟩ := both x a w hV fx fa n1 n2
  have Q10 : Hid _ := q10
  have Q11 : Hid _ := q11
  have HW2 : Hid (Below w.heap.size w ((w.alloc (.cells x.cells 23)).alloc (.cells a.cells 26))) := ((Below.refl _ w).alloc (Nat.le_refl _) _).alloc (by simp) _
  have HBox : Hid (Boxed ((w.alloc (.cells x.cells 23)).alloc (.cells a.cells 26)) w.heap.size x a) := boxed w x a
  have q := makes_w _ (hV.below HW2.out)
  have HPS : Hid (∀ w3, Below w.heap.size w w3 → Boxed w3 w.heap.size x a → Pm w ((w3.alloc (.cells E.cells 29)).alloc (.cells x.rcells 36)) w3.heap.size E x a) := fun w3 h1 h2 => pm_start w w3 E x a h1 h2
  have HL1 : Hid (∀ W, Below w.heap.size w W → Calls Tryd.prog 12 #[a.lv] W fun e w' => ∃ v', e = .returned v' ∧ Lst w' v' a.lK a.lV a.ln ∧ Below W.heap.size W w') := fun W hb => plain_w a.lv a.lK a.lV a.ln W (fa.l.1.below hb) n1
  have HL2 : Hid (∀ W, Below w.heap.size w W → Calls Tryd.prog 12 #[a.gv] W fun e w' => ∃ v', e = .returned v' ∧ Lst w' v' a.gK a.gV a.gn ∧ Below W.heap.size W w') := fun W hb => plain_w a.gv a.gK a.gV a.gn W (fa.g.1.below hb) n2
  obtain ⟨lad, lcap, hlv, _, _⟩ := fa.l.1.cells
  obtain ⟨gad, gcap, hgv, _, _⟩ := fa.g.1.cells
  clear q10 q11 fx fa hV
  obtain ⟨form, name, link, prefx, user, group, typ, mode, uid, gid, size, mtime⟩ := x
  obtain ⟨gv, lv, gK, gV, gn, lK, lV, ln, aname, alink⟩ := a
  obtain ⟨p_, l_, k_, m_, u_, g_, t_, s_, us_, gr_⟩ := E
  simp only at hlv hgv n1 n2
  subst hlv hgv
  simp only [Hd.cells, Ah.cells, En.cells, Hd.rcells] at Q10 Q11 HW2 q HPS HL1 HL2 ⊢
  have i1 : ¬ (70 : Int) < (ln : Int) := by omega
  have i2 : ¬ (70 : Int) < (gn : Int) := by omega
  go_enter Tryd.func3, Tryd.ntmps3
  go_upto_region 7 with (first | (go_at_call 9; refine q.mono ?_; rintro e w1 ⟨rfl, hb⟩; have HB1 : Hid (Boxed w1 w.heap.size ⟨form, name, link, prefx, user, group, typ, mode, uid, gid, size, mtime⟩ ⟨.slice gad gn gcap, .slice lad ln lcap, gK, gV, gn, lK, lV, ln, aname, alink⟩) := HBox.out.grow hb; have x0 : w1.cell? ⟨w.heap.size, 0, none⟩ = some (.int .i64 form) := HB1.out.hc 0; have x1 : w1.cell? ⟨w.heap.size, 1, none⟩ = some (.string name) := HB1.out.hc 1; have x2 : w1.cell? ⟨w.heap.size, 2, none⟩ = some (.string link) := HB1.out.hc 2; have x3 : w1.cell? ⟨w.heap.size, 3, none⟩ = some (.string prefx) := HB1.out.hc 3; have x4 : w1.cell? ⟨w.heap.size, 4, none⟩ = some (.string user) := HB1.out.hc 4; have x5 : w1.cell? ⟨w.heap.size, 5, none⟩ = some (.string group) := HB1.out.hc 5; have x6 : w1.cell? ⟨w.heap.size, 6, none⟩ = some (.int .u8 typ) := HB1.out.hc 6; have x7 : w1.cell? ⟨w.heap.size, 7, none⟩ = some (.int .i64 mode) := HB1.out.hc 7; have x8 : w1.cell? ⟨w.heap.size, 8, none⟩ = some (.int .i64 uid) := HB1.out.hc 8; have x9 : w1.cell? ⟨w.heap.size, 9, none⟩ = some (.int .i64 gid) := HB1.out.hc 9; have x10 : w1.cell? ⟨w.heap.size, 10, none⟩ = some (.int .i64 size) := HB1.out.hc 10; have x11 : w1.cell? ⟨w.heap.size, 11, none⟩ = some (.int .i64 mtime) := HB1.out.hc 11; have a0 : w1.cell? ⟨w.heap.size + 1, 0, none⟩ = some (.slice gad gn gcap) := HB1.out.ac 0; have a1 : w1.cell? ⟨w.heap.size + 1, 1, none⟩ = some (.slice lad ln lcap) := HB1.out.ac 1; have a2 : w1.cell? ⟨w.heap.size + 1, 2, none⟩ = some (.string aname) := HB1.out.ac 2; have a3 : w1.cell? ⟨w.heap.size + 1, 3, none⟩ = some (.string alink) := HB1.out.ac 3; have HW1 : Hid (Below w.heap.size w w1) := HW2.out.trans (hb.mono HW2.out.size); clear hb) | (go_at_call 10; refine (Q10.out _ HW1.out).mono ?_; rintro e w3 ⟨rfl, hb3⟩; have HB3 : Hid (Boxed w3 w.heap.size ⟨form, name, link, prefx, user, group, typ, mode, uid, gid, size, mtime⟩ ⟨.slice gad gn gcap, .slice lad ln lcap, gK, gV, gn, lK, lV, ln, aname, alink⟩) := HB1.out.grow hb3; clear x0 x1 x2 x3 x4 x5 x6 x7 x8 x9 x10 x11 a0 a1 a2 a3; have x0 : w3.cell? ⟨w.heap.size, 0, none⟩ = some (.int .i64 form) := HB3.out.hc 0; have x1 : w3.cell? ⟨w.heap.size, 1, none⟩ = some (.string name) := HB3.out.hc 1; have x2 : w3.cell? ⟨w.heap.size, 2, none⟩ = some (.string link) := HB3.out.hc 2; have x3 : w3.cell? ⟨w.heap.size, 3, none⟩ = some (.string prefx) := HB3.out.hc 3; have x4 : w3.cell? ⟨w.heap.size, 4, none⟩ = some (.string user) := HB3.out.hc 4; have x5 : w3.cell? ⟨w.heap.size, 5, none⟩ = some (.string group) := HB3.out.hc 5; have x6 : w3.cell? ⟨w.heap.size, 6, none⟩ = some (.int .u8 typ) := HB3.out.hc 6; have x7 : w3.cell? ⟨w.heap.size, 7, none⟩ = some (.int .i64 mode) := HB3.out.hc 7; have x8 : w3.cell? ⟨w.heap.size, 8, none⟩ = some (.int .i64 uid) := HB3.out.hc 8; have x9 : w3.cell? ⟨w.heap.size, 9, none⟩ = some (.int .i64 gid) := HB3.out.hc 9; have x10 : w3.cell? ⟨w.heap.size, 10, none⟩ = some (.int .i64 size) := HB3.out.hc 10; have x11 : w3.cell? ⟨w.heap.size, 11, none⟩ = some (.int .i64 mtime) := HB3.out.hc 11; have a0 : w3.cell? ⟨w.heap.size + 1, 0, none⟩ = some (.slice gad gn gcap) := HB3.out.ac 0; have a1 : w3.cell? ⟨w.heap.size + 1, 1, none⟩ = some (.slice lad ln lcap) := HB3.out.ac 1; have a2 : w3.cell? ⟨w.heap.size + 1, 2, none⟩ = some (.string aname) := HB3.out.ac 2; have a3 : w3.cell? ⟨w.heap.size + 1, 3, none⟩ = some (.string alink) := HB3.out.ac 3; have hl3 : w.heap.size + 1 < w3.heap.size := Lib.lt_of_cell a0; have hl4 : w.heap.size < w3.heap.size := (by omega); have HP3 : Hid (Below w.heap.size w w3) := HW1.out.trans (hb3.mono HW1.out.size)))
  have hPm := HPS.out w3 HP3.out HB3.out
  have HPm : Hid _ := hPm
  clear hPm HPS HB3 HP3 hb3 HW1 HB1 HBox HW2 hl3 hl4 q Q10 x0 x1 x2 x3 x4 x5 x6 x7 x8 x9 x10 x11 a0 a1 a2 a3
  generalize w3.heap.size = e3 at *
  generalize (w3.alloc _).alloc _ = w7 at *
  have HA1 : Hid (∀ W, Below w7.heap.size w7 W → Calls Tryd.prog 12 #[.slice lad ln lcap] W fun e w' => ∃ v', e = .returned v' ∧ Lst w' v' lK lV ln ∧ Below W.heap.size W w') := fun W hb => HL1.out W (HPm.out.bel.trans (hb.mono HPm.out.bel.size))
  have HA2 : Hid (∀ W, Below w7.heap.size w7 W → Calls Tryd.prog 12 #[.slice gad gn gcap] W fun e w' => ∃ v', e = .returned v' ∧ Lst w' v' gK gV gn ∧ Below W.heap.size W w') := fun W hb => HL2.out W (HPm.out.bel.trans (hb.mono HPm.out.bel.size))
  have HS : Hid (∀ W, Below w7.heap.size w7 W → W.cell? ⟨e3 + 1, 0, none⟩ = some (.int .i64 form) ∧ W.cell? ⟨e3 + 1, 1, none⟩ = some (.int .u8 typ) ∧ W.cell? ⟨e3 + 1, 2, none⟩ = some (.string name) ∧ W.cell? ⟨e3 + 1, 3, none⟩ = some (.string link) ∧ W.cell? ⟨e3 + 1, 4, none⟩ = some (.string prefx) ∧ W.cell? ⟨e3 + 1, 5, none⟩ = some (.string user) ∧ W.cell? ⟨e3 + 1, 6, none⟩ = some (.string group) ∧ W.cell? ⟨e3 + 1, 7, none⟩ = some (.int .i64 mode) ∧ W.cell? ⟨e3 + 1, 8, none⟩ = some (.int .i64 uid) ∧ W.cell? ⟨e3 + 1, 9, none⟩ = some (.int .i64 gid) ∧ W.cell? ⟨e3 + 1, 10, none⟩ = some (.int .i64 size) ∧ W.cell? ⟨e3 + 1, 11, none⟩ = some (.int .i64 mtime) ∧ W.cell? ⟨w.heap.size + 1, 0, none⟩ = some (.slice gad gn gcap) ∧ W.cell? ⟨w.heap.size + 1, 1, none⟩ = some (.slice lad ln lcap) ∧ W.cell? ⟨w.heap.size + 1, 2, none⟩ = some (.string aname) ∧ W.cell? ⟨w.heap.size + 1, 3, none⟩ = some (.string alink)) := fun W hb => ⟨(HPm.out.grow hb).hc 0, (HPm.out.grow hb).hc 1, (HPm.out.grow hb).hc 2, (HPm.out.grow hb).hc 3, (HPm.out.grow hb).hc 4, (HPm.out.grow hb).hc 5, (HPm.out.grow hb).hc 6, (HPm.out.grow hb).hc 7, (HPm.out.grow hb).hc 8, (HPm.out.grow hb).hc 9, (HPm.out.grow hb).hc 10, (HPm.out.grow hb).hc 11, (HPm.out.grow hb).ac 0, (HPm.out.grow hb).ac 1, (HPm.out.grow hb).ac 2, (HPm.out.grow hb).ac 3⟩
  have hs7 := HS.out w7.drew (Below.refl _ _).drew
  clear HL1 HL2
  go_cut [8, 9] (fun s8 s9 wx => s9 = .int .i64 c ∧ ∃ g : Nat, s8 = .pointer (some ⟨g, 0, none⟩) ∧ Hid (wx.heap[g]? = some (.cells #[.string p_, .string l_, .int .i64 k_, .int .i64 m_, .int .i64 u_, .int .i64 g_, .int .i64 t_, .int .i64 s_, .string us_, .string gr_] 29 (0, 0))) ∧ Hid (Below w7.heap.size w7 wx))
  case first =>
    have k0 : Below w7.heap.size w7 w7.drew := (Below.refl _ _).drew
    refine wp_region_held_drew (S := fun W => W.cell? ⟨e3 + 1, 0, none⟩ = some (.int .i64 form) ∧ W.cell? ⟨e3 + 1, 1, none⟩ = some (.int .u8 typ) ∧ W.cell? ⟨e3 + 1, 2, none⟩ = some (.string name) ∧ W.cell? ⟨e3 + 1, 3, none⟩ = some (.string link) ∧ W.cell? ⟨e3 + 1, 4, none⟩ = some (.string prefx) ∧ W.cell? ⟨e3 + 1, 5, none⟩ = some (.string user) ∧ W.cell? ⟨e3 + 1, 6, none⟩ = some (.string group) ∧ W.cell? ⟨e3 + 1, 7, none⟩ = some (.int .i64 mode) ∧ W.cell? ⟨e3 + 1, 8, none⟩ = some (.int .i64 uid) ∧ W.cell? ⟨e3 + 1, 9, none⟩ = some (.int .i64 gid) ∧ W.cell? ⟨e3 + 1, 10, none⟩ = some (.int .i64 size) ∧ W.cell? ⟨e3 + 1, 11, none⟩ = some (.int .i64 mtime) ∧ W.cell? ⟨w.heap.size + 1, 0, none⟩ = some (.slice gad gn gcap) ∧ W.cell? ⟨w.heap.size + 1, 1, none⟩ = some (.slice lad ln lcap) ∧ W.cell? ⟨w.heap.size + 1, 2, none⟩ = some (.string aname) ∧ W.cell? ⟨w.heap.size + 1, 3, none⟩ = some (.string alink)) (by kernel_rfl) hs7 (fun hHeld => ?_)
    refine wpAnyH_take (i := 0) (oi := { dst := some 56, op := Op.load 36 (Operand.tmp 7), type := 36, pos := "law.go:41", after := #[], guard := none }) (v := ?_) rfl (by kernel_rfl) (by kernel_rfl) (by kernel_rfl) (fun _ _ _ h => h) (Or.inl ⟨by rfl, ?_⟩) (by assumption) ?_
    rotate_left 1
    · (intro W hSw; obtain ⟨_, _, _, _, _, _, _, _, _, _, _, _, _, _, _, _⟩ := hSw; go_simp; try with_reducible rfl)
    try simp only [Act.put, List.setIfInBounds_toArray, List.set_cons_zero, List.set_cons_succ]
    refine wpAnyH_take (i := 1) (oi := { dst := some 57, op := Op.fieldAddr 26 (Operand.tmp 3) 1, type := 0, pos := "law.go:41", after := #[], guard := none }) (v := ?_) rfl (by kernel_rfl) (by kernel_rfl) (by kernel_rfl) (fun _ _ _ h => h) (Or.inl ⟨by rfl, ?_⟩) (by assumption) ?_
    rotate_left 1
    · (intro W hSw; obtain ⟨_, _, _, _, _, _, _, _, _, _, _, _, _, _, _, _⟩ := hSw; go_simp; try with_reducible rfl)
    try simp only [Act.put, List.setIfInBounds_toArray, List.set_cons_zero, List.set_cons_succ]
    refine wpAnyH_take (i := 2) (oi := { dst := some 58, op := Op.load 24 (Operand.tmp 57), type := 24, pos := "law.go:41", after := #[{ on := 1, ground := Ground.data }], guard := none }) (v := ?_) rfl (by kernel_rfl) (by kernel_rfl) (by kernel_rfl) (fun _ _ _ h => h) (Or.inl ⟨by rfl, ?_⟩) (by assumption) ?_
    rotate_left 1
    · (intro W hSw; obtain ⟨_, _, _, _, _, _, _, _, _, _, _, _, _, _, _, _⟩ := hSw; go_simp; try with_reducible rfl)
    try simp only [Act.put, List.setIfInBounds_toArray, List.set_cons_zero, List.set_cons_succ]
    refine wpAnyH_take (i := 4) (oi := { dst := some 60, op := Op.fieldAddr 26 (Operand.tmp 3) 0, type := 0, pos := "law.go:41", after := #[], guard := none }) (v := ?_) rfl (by kernel_rfl) (by kernel_rfl) (by kernel_rfl) (fun _ _ _ h => h) (Or.inl ⟨by rfl, ?_⟩) (by assumption) ?_
    rotate_left 1
    · (intro W hSw; obtain ⟨_, _, _, _, _, _, _, _, _, _, _, _, _, _, _, _⟩ := hSw; go_simp; try with_reducible rfl)
    try simp only [Act.put, List.setIfInBounds_toArray, List.set_cons_zero, List.set_cons_succ]
    refine wpAnyH_take (i := 5) (oi := { dst := some 61, op := Op.load 24 (Operand.tmp 60), type := 24, pos := "law.go:41", after := #[{ on := 4, ground := Ground.data }], guard := none }) (v := ?_) rfl (by kernel_rfl) (by kernel_rfl) (by kernel_rfl) (fun _ _ _ h => h) (Or.inl ⟨by rfl, ?_⟩) (by assumption) ?_
    rotate_left 1
    · (intro W hSw; obtain ⟨_, _, _, _, _, _, _, _, _, _, _, _, _, _, _, _⟩ := hSw; go_simp; try with_reducible rfl)
    try simp only [Act.put, List.setIfInBounds_toArray, List.set_cons_zero, List.set_cons_succ]
    refine wpAnyH_take (i := 7) (oi := { dst := some 63, op := Op.fieldAddr 26 (Operand.tmp 3) 2, type := 0, pos := "law.go:41", after := #[], guard := none }) (v := ?_) rfl (by kernel_rfl) (by kernel_rfl) (by kernel_rfl) (fun _ _ _ h => h) (Or.inl ⟨by rfl, ?_⟩) (by assumption) ?_
    rotate_left 1
    · (intro W hSw; obtain ⟨_, _, _, _, _, _, _, _, _, _, _, _, _, _, _, _⟩ := hSw; go_simp; try with_reducible rfl)
    try simp only [Act.put, List.setIfInBounds_toArray, List.set_cons_zero, List.set_cons_succ]
    refine wpAnyH_take (i := 8) (oi := { dst := some 64, op := Op.load 9 (Operand.tmp 63), type := 9, pos := "law.go:41", after := #[{ on := 7, ground := Ground.data }], guard := none }) (v := ?_) rfl (by kernel_rfl) (by kernel_rfl) (by kernel_rfl) (fun _ _ _ h => h) (Or.inl ⟨by rfl, ?_⟩) (by assumption) ?_
    rotate_left 1
    · (intro W hSw; obtain ⟨_, _, _, _, _, _, _, _, _, _, _, _, _, _, _, _⟩ := hSw; go_simp; try with_reducible rfl)
    try simp only [Act.put, List.setIfInBounds_toArray, List.set_cons_zero, List.set_cons_succ]
    refine wpAnyH_take (i := 9) (oi := { dst := some 65, op := Op.fieldAddr 26 (Operand.tmp 3) 3, type := 0, pos := "law.go:41", after := #[], guard := none }) (v := ?_) rfl (by kernel_rfl) (by kernel_rfl) (by kernel_rfl) (fun _ _ _ h => h) (Or.inl ⟨by rfl, ?_⟩) (by assumption) ?_
    rotate_left 1
    · (intro W hSw; obtain ⟨_, _, _, _, _, _, _, _, _, _, _, _, _, _, _, _⟩ := hSw; go_simp; try with_reducible rfl)
    try simp only [Act.put, List.setIfInBounds_toArray, List.set_cons_zero, List.set_cons_succ]
    refine wpAnyH_take (i := 10) (oi := { dst := some 66, op := Op.load 9 (Operand.tmp 65), type := 9, pos := "law.go:41", after := #[{ on := 9, ground := Ground.data }], guard := none }) (v := ?_) rfl (by kernel_rfl) (by kernel_rfl) (by kernel_rfl) (fun _ _ _ h => h) (Or.inl ⟨by rfl, ?_⟩) (by assumption) ?_
    rotate_left 1
    · (intro W hSw; obtain ⟨_, _, _, _, _, _, _, _, _, _, _, _, _, _, _, _⟩ := hSw; go_simp; try with_reducible rfl)
    try simp only [Act.put, List.setIfInBounds_toArray, List.set_cons_zero, List.set_cons_succ]
    refine wpAnyH_ready (rs := [3, 15]) (by kernel_rfl) (by simp) ?_
    refine AllReadyH.cons (o := { dst := some 59, op := Op.call { callee := Callee.value (Operand.func 12), args := #[Operand.tmp 58], argTypes := #[24] }, type := 39, pos := "law.go:41", after := #[{ on := 2, ground := Ground.data }], guard := none }) rfl (fun K hK => ?_) (AllReadyH.cons (o := { dst := some 8, op := Op.alloc 29, type := 0, pos := "law.go:41", after := #[], guard := none }) rfl (fun K hK => ?_) AllReadyH.nil)
    · go_simp
      go_at_call 12
      refine (HA1.out _ k0).mono ?_
      rintro e x1 ⟨v1, rfl, L1_1, b1⟩
      have k_1 := k0.trans (b1.mono k0.size)
      go_wp2_with fail
      refine hK.out _ _ (HS.out _ k_1) (fun hHeld => ?_)
      clear hK K
      try simp only [Act.put, List.setIfInBounds_toArray, List.set_cons_zero, List.set_cons_succ]
      refine wpAnyH_ready (rs := [6, 15]) (by kernel_rfl) (by simp) ?_
      refine AllReadyH.cons (o := { dst := some 62, op := Op.call { callee := Callee.value (Operand.func 12), args := #[Operand.tmp 61], argTypes := #[24] }, type := 39, pos := "law.go:41", after := #[{ on := 5, ground := Ground.data }, { on := 3, ground := Ground.chain }], guard := none }) rfl (fun K hK => ?_) (AllReadyH.cons (o := { dst := some 8, op := Op.alloc 29, type := 0, pos := "law.go:41", after := #[], guard := none }) rfl (fun K hK => ?_) AllReadyH.nil)
      · go_simp
        go_at_call 12
        refine (HA2.out _ k_1).mono ?_
        rintro e x2 ⟨v2, rfl, L2_2, b2⟩
        have M1_2 := L1_1.below b2
        have k_2 := k_1.trans (b2.mono k_1.size)
        go_wp2_with fail
        refine hK.out _ _ (HS.out _ k_2) (fun hHeld => ?_)
        clear hK K
        try simp only [Act.put, List.setIfInBounds_toArray, List.set_cons_zero, List.set_cons_succ]
        refine wpAnyH_ready (rs := [11, 15]) (by kernel_rfl) (by simp) ?_
        refine AllReadyH.cons (o := { dst := some 67, op := Op.call { callee := Callee.value (Operand.func 11), args := #[Operand.tmp 56, Operand.tmp 59, Operand.tmp 62, Operand.tmp 64, Operand.tmp 66], argTypes := #[36, 39, 39, 9, 9] }, type := 37, pos := "law.go:41", after := #[{ on := 0, ground := Ground.data }, { on := 3, ground := Ground.data }, { on := 6, ground := Ground.data }, { on := 8, ground := Ground.data }, { on := 10, ground := Ground.data }, { on := 6, ground := Ground.chain }], guard := none }) rfl (fun K hK => ?_) (AllReadyH.cons (o := { dst := some 8, op := Op.alloc 29, type := 0, pos := "law.go:41", after := #[], guard := none }) rfl (fun K hK => ?_) AllReadyH.nil)
        · go_simp
          go_at_call 11
          refine (Q11.out _ v1 v2 M1_2 L2_2).mono ?_
          rintro e x3 ⟨rfl, b3⟩
          have k_3 := k_2.trans (b3.mono k_2.size)
          go_wp2_with fail
          refine hK.out _ _ (HS.out _ k_3) (fun hHeld => ?_)
          clear hK K
          try simp only [Act.put, List.setIfInBounds_toArray, List.set_cons_zero, List.set_cons_succ]
          refine wpAnyH_take (i := 12) (oi := { dst := some 55, op := Op.move (Operand.tmp 67), type := 37, pos := "law.go:41", after := #[{ on := 11, ground := Ground.data }], guard := none }) (v := ?_) rfl (by kernel_rfl) (by kernel_rfl) (by kernel_rfl) (fun _ _ _ h => h) (Or.inl ⟨by rfl, ?_⟩) (by assumption) ?_
          rotate_left 1
          · (intro W hSw; obtain ⟨_, _, _, _, _, _, _, _, _, _, _, _, _, _, _, _⟩ := hSw; go_simp; try with_reducible rfl)
          try simp only [Act.put, List.setIfInBounds_toArray, List.set_cons_zero, List.set_cons_succ]
          refine wpAnyH_take (i := 13) (oi := { dst := some 68, op := Op.extract (Operand.tmp 55) 0, type := 29, pos := "law.go:41", after := #[{ on := 12, ground := Ground.data }], guard := none }) (v := ?_) rfl (by kernel_rfl) (by kernel_rfl) (by kernel_rfl) (fun _ _ _ h => h) (Or.inl ⟨by rfl, ?_⟩) (by assumption) ?_
          rotate_left 1
          · (intro W hSw; obtain ⟨_, _, _, _, _, _, _, _, _, _, _, _, _, _, _, _⟩ := hSw; go_simp; try with_reducible rfl)
          try simp only [Act.put, List.setIfInBounds_toArray, List.set_cons_zero, List.set_cons_succ]
          refine wpAnyH_take (i := 14) (oi := { dst := some 69, op := Op.extract (Operand.tmp 55) 1, type := 3, pos := "law.go:41", after := #[{ on := 12, ground := Ground.data }, { on := 16, ground := Ground.gcOnly Departure.lateStores }], guard := none }) (v := ?_) rfl (by kernel_rfl) (by kernel_rfl) (by kernel_rfl) (fun _ _ _ h => h) (Or.inl ⟨by rfl, ?_⟩) (by assumption) ?_
          rotate_left 1
          · (intro W hSw; obtain ⟨_, _, _, _, _, _, _, _, _, _, _, _, _, _, _, _⟩ := hSw; go_simp; try with_reducible rfl)
          try simp only [Act.put, List.setIfInBounds_toArray, List.set_cons_zero, List.set_cons_succ]
          refine wpAnyH_ready (rs := [15]) (by kernel_rfl) (by simp) ?_
          refine AllReadyH.cons (o := { dst := some 8, op := Op.alloc 29, type := 0, pos := "law.go:41", after := #[], guard := none }) rfl (fun K hK => ?_) AllReadyH.nil
          · go_simp
            have z_4 := heap_alloc_new x3 (.cells #[.string ⟨#[]⟩, .string ⟨#[]⟩, .int .i64 0, .int .i64 0, .int .i64 0, .int .i64 0, .int .i64 0, .int .i64 0, .string ⟨#[]⟩, .string ⟨#[]⟩] 29)
            have k_4 := k_3.alloc k_3.size (.cells #[.string ⟨#[]⟩, .string ⟨#[]⟩, .int .i64 0, .int .i64 0, .int .i64 0, .int .i64 0, .int .i64 0, .int .i64 0, .string ⟨#[]⟩, .string ⟨#[]⟩] 29)
            have hge : w7.heap.size ≤ x3.heap.size := k_3.size
            have NL1_4 := M1_2.below ((Below.refl _ _).alloc (Nat.le_refl _) (.cells #[.string ⟨#[]⟩, .string ⟨#[]⟩, .int .i64 0, .int .i64 0, .int .i64 0, .int .i64 0, .int .i64 0, .int .i64 0, .string ⟨#[]⟩, .string ⟨#[]⟩] 29))
            have NL2_4 := L2_2.below ((Below.refl _ _).alloc (Nat.le_refl _) (.cells #[.string ⟨#[]⟩, .string ⟨#[]⟩, .int .i64 0, .int .i64 0, .int .i64 0, .int .i64 0, .int .i64 0, .int .i64 0, .string ⟨#[]⟩, .string ⟨#[]⟩] 29))
            refine hK.out _ _ (HS.out _ k_4) (fun hHeld => ?_)
            clear hK K
            try simp only [Act.put, List.setIfInBounds_toArray, List.set_cons_zero, List.set_cons_succ]
            refine wpAnyH_ready (rs := [16]) (by kernel_rfl) (by simp) ?_
            refine AllReadyH.cons (o := { dst := none, op := Op.store 29 (Operand.tmp 8) (Operand.tmp 68), type := 0, pos := "law.go:41", after := #[{ on := 15, ground := Ground.data }, { on := 13, ground := Ground.data }, { on := 11, ground := Ground.chain }, { on := 0, ground := Ground.phase }, { on := 1, ground := Ground.phase }, { on := 2, ground := Ground.phase }, { on := 3, ground := Ground.phase }, { on := 4, ground := Ground.phase }, { on := 5, ground := Ground.phase }, { on := 6, ground := Ground.phase }, { on := 7, ground := Ground.phase }, { on := 8, ground := Ground.phase }, { on := 9, ground := Ground.phase }, { on := 10, ground := Ground.phase }, { on := 11, ground := Ground.phase }, { on := 12, ground := Ground.phase }, { on := 13, ground := Ground.phase }, { on := 14, ground := Ground.textOnly Departure.lateStores }, { on := 15, ground := Ground.phase }], guard := none }) rfl (fun K hK => ?_) AllReadyH.nil
            · rw [if_pos (by rfl)]
              refine wp_store_row 29 _ _ rfl _ _ rfl rfl 29 _ z_4 rfl rfl (by simp [Value.oneCell']) ?_
              have z_5 := setRow_heap _ _ _ #[.string p_, .string l_, .int .i64 k_, .int .i64 m_, .int .i64 u_, .int .i64 g_, .int .i64 t_, .int .i64 s_, .string us_, .string gr_] _ _ z_4
              have k_5 := put_row k_4 hge #[.string p_, .string l_, .int .i64 k_, .int .i64 m_, .int .i64 u_, .int .i64 g_, .int .i64 t_, .int .i64 s_, .string us_, .string gr_]
              refine hK.out _ _ (HS.out _ k_5) (fun hHeld => ?_)
              clear hK K
              try simp only [Act.put, List.setIfInBounds_toArray, List.set_cons_zero, List.set_cons_succ]
              refine wpAnyH_take (i := 17) (oi := { dst := some 9, op := Op.assign (Operand.tmp 69), type := 3, pos := "law.go:41", after := #[{ on := 14, ground := Ground.data }, { on := 16, ground := Ground.chain }, { on := 0, ground := Ground.phase }, { on := 1, ground := Ground.phase }, { on := 2, ground := Ground.phase }, { on := 3, ground := Ground.phase }, { on := 4, ground := Ground.phase }, { on := 5, ground := Ground.phase }, { on := 6, ground := Ground.phase }, { on := 7, ground := Ground.phase }, { on := 8, ground := Ground.phase }, { on := 9, ground := Ground.phase }, { on := 10, ground := Ground.phase }, { on := 11, ground := Ground.phase }, { on := 12, ground := Ground.phase }, { on := 13, ground := Ground.phase }, { on := 14, ground := Ground.phase }, { on := 15, ground := Ground.phase }, { on := 16, ground := Ground.phase }], guard := none }) (v := ?_) rfl (by kernel_rfl) (by kernel_rfl) (by kernel_rfl) (fun _ _ _ h => h) (Or.inl ⟨by rfl, ?_⟩) (by assumption) ?_
              rotate_left 1
              · (intro W hSw; obtain ⟨_, _, _, _, _, _, _, _, _, _, _, _, _, _, _, _⟩ := hSw; go_simp; try with_reducible rfl)
              try simp only [Act.put, List.setIfInBounds_toArray, List.set_cons_zero, List.set_cons_succ]
              refine wpAnyH_done (by kernel_rfl) ?_ _
              go_wp2_with fail
              go_meet
              exact ⟨rfl, _, rfl, z_5, k_5⟩
        · go_simp
          have z_6 := heap_alloc_new x2 (.cells #[.string ⟨#[]⟩, .string ⟨#[]⟩, .int .i64 0, .int .i64 0, .int .i64 0, .int .i64 0, .int .i64 0, .int .i64 0, .string ⟨#[]⟩, .string ⟨#[]⟩] 29)
          have k_6 := k_2.alloc k_2.size (.cells #[.string ⟨#[]⟩, .string ⟨#[]⟩, .int .i64 0, .int .i64 0, .int .i64 0, .int .i64 0, .int .i64 0, .int .i64 0, .string ⟨#[]⟩, .string ⟨#[]⟩] 29)
          have hge : w7.heap.size ≤ x2.heap.size := k_2.size
          have NL1_6 := M1_2.below ((Below.refl _ _).alloc (Nat.le_refl _) (.cells #[.string ⟨#[]⟩, .string ⟨#[]⟩, .int .i64 0, .int .i64 0, .int .i64 0, .int .i64 0, .int .i64 0, .int .i64 0, .string ⟨#[]⟩, .string ⟨#[]⟩] 29))
          have NL2_6 := L2_2.below ((Below.refl _ _).alloc (Nat.le_refl _) (.cells #[.string ⟨#[]⟩, .string ⟨#[]⟩, .int .i64 0, .int .i64 0, .int .i64 0, .int .i64 0, .int .i64 0, .int .i64 0, .string ⟨#[]⟩, .string ⟨#[]⟩] 29))
          refine hK.out _ _ (HS.out _ k_6) (fun hHeld => ?_)
          clear hK K
          try simp only [Act.put, List.setIfInBounds_toArray, List.set_cons_zero, List.set_cons_succ]
          refine wpAnyH_ready (rs := [11]) (by kernel_rfl) (by simp) ?_
          refine AllReadyH.cons (o := { dst := some 67, op := Op.call { callee := Callee.value (Operand.func 11), args := #[Operand.tmp 56, Operand.tmp 59, Operand.tmp 62, Operand.tmp 64, Operand.tmp 66], argTypes := #[36, 39, 39, 9, 9] }, type := 37, pos := "law.go:41", after := #[{ on := 0, ground := Ground.data }, { on := 3, ground := Ground.data }, { on := 6, ground := Ground.data }, { on := 8, ground := Ground.data }, { on := 10, ground := Ground.data }, { on := 6, ground := Ground.chain }], guard := none }) rfl (fun K hK => ?_) AllReadyH.nil
          · go_simp
            go_at_call 11
            refine (Q11.out _ v1 v2 NL1_6 NL2_6).mono ?_
            rintro e x7 ⟨rfl, b7⟩
            have k_7 := k_6.trans (b7.mono k_6.size)
            have z_7 := (b7.block _ (Array.getElem?_eq_some_iff.1 z_6).1).trans z_6
            go_wp2_with fail
            refine hK.out _ _ (HS.out _ k_7) (fun hHeld => ?_)
            clear hK K
            try simp only [Act.put, List.setIfInBounds_toArray, List.set_cons_zero, List.set_cons_succ]
            refine wpAnyH_take (i := 12) (oi := { dst := some 55, op := Op.move (Operand.tmp 67), type := 37, pos := "law.go:41", after := #[{ on := 11, ground := Ground.data }], guard := none }) (v := ?_) rfl (by kernel_rfl) (by kernel_rfl) (by kernel_rfl) (fun _ _ _ h => h) (Or.inl ⟨by rfl, ?_⟩) (by assumption) ?_
            rotate_left 1
            · (intro W hSw; obtain ⟨_, _, _, _, _, _, _, _, _, _, _, _, _, _, _, _⟩ := hSw; go_simp; try with_reducible rfl)
            try simp only [Act.put, List.setIfInBounds_toArray, List.set_cons_zero, List.set_cons_succ]
            refine wpAnyH_take (i := 13) (oi := { dst := some 68, op := Op.extract (Operand.tmp 55) 0, type := 29, pos := "law.go:41", after := #[{ on := 12, ground := Ground.data }], guard := none }) (v := ?_) rfl (by kernel_rfl) (by kernel_rfl) (by kernel_rfl) (fun _ _ _ h => h) (Or.inl ⟨by rfl, ?_⟩) (by assumption) ?_
            rotate_left 1
            · (intro W hSw; obtain ⟨_, _, _, _, _, _, _, _, _, _, _, _, _, _, _, _⟩ := hSw; go_simp; try with_reducible rfl)
            try simp only [Act.put, List.setIfInBounds_toArray, List.set_cons_zero, List.set_cons_succ]
            refine wpAnyH_take (i := 14) (oi := { dst := some 69, op := Op.extract (Operand.tmp 55) 1, type := 3, pos := "law.go:41", after := #[{ on := 12, ground := Ground.data }, { on := 16, ground := Ground.gcOnly Departure.lateStores }], guard := none }) (v := ?_) rfl (by kernel_rfl) (by kernel_rfl) (by kernel_rfl) (fun _ _ _ h => h) (Or.inl ⟨by rfl, ?_⟩) (by assumption) ?_
            rotate_left 1
            · (intro W hSw; obtain ⟨_, _, _, _, _, _, _, _, _, _, _, _, _, _, _, _⟩ := hSw; go_simp; try with_reducible rfl)
            try simp only [Act.put, List.setIfInBounds_toArray, List.set_cons_zero, List.set_cons_succ]
            refine wpAnyH_ready (rs := [16]) (by kernel_rfl) (by simp) ?_
            refine AllReadyH.cons (o := { dst := none, op := Op.store 29 (Operand.tmp 8) (Operand.tmp 68), type := 0, pos := "law.go:41", after := #[{ on := 15, ground := Ground.data }, { on := 13, ground := Ground.data }, { on := 11, ground := Ground.chain }, { on := 0, ground := Ground.phase }, { on := 1, ground := Ground.phase }, { on := 2, ground := Ground.phase }, { on := 3, ground := Ground.phase }, { on := 4, ground := Ground.phase }, { on := 5, ground := Ground.phase }, { on := 6, ground := Ground.phase }, { on := 7, ground := Ground.phase }, { on := 8, ground := Ground.phase }, { on := 9, ground := Ground.phase }, { on := 10, ground := Ground.phase }, { on := 11, ground := Ground.phase }, { on := 12, ground := Ground.phase }, { on := 13, ground := Ground.phase }, { on := 14, ground := Ground.textOnly Departure.lateStores }, { on := 15, ground := Ground.phase }], guard := none }) rfl (fun K hK => ?_) AllReadyH.nil
            · rw [if_pos (by rfl)]
              refine wp_store_row 29 _ _ rfl _ _ rfl rfl 29 _ z_7 rfl rfl (by simp [Value.oneCell']) ?_
              have z_8 := setRow_heap _ _ _ #[.string p_, .string l_, .int .i64 k_, .int .i64 m_, .int .i64 u_, .int .i64 g_, .int .i64 t_, .int .i64 s_, .string us_, .string gr_] _ _ z_7
              have k_8 := put_row k_7 hge #[.string p_, .string l_, .int .i64 k_, .int .i64 m_, .int .i64 u_, .int .i64 g_, .int .i64 t_, .int .i64 s_, .string us_, .string gr_]
              refine hK.out _ _ (HS.out _ k_8) (fun hHeld => ?_)
              clear hK K
              try simp only [Act.put, List.setIfInBounds_toArray, List.set_cons_zero, List.set_cons_succ]
              refine wpAnyH_take (i := 17) (oi := { dst := some 9, op := Op.assign (Operand.tmp 69), type := 3, pos := "law.go:41", after := #[{ on := 14, ground := Ground.data }, { on := 16, ground := Ground.chain }, { on := 0, ground := Ground.phase }, { on := 1, ground := Ground.phase }, { on := 2, ground := Ground.phase }, { on := 3, ground := Ground.phase }, { on := 4, ground := Ground.phase }, { on := 5, ground := Ground.phase }, { on := 6, ground := Ground.phase }, { on := 7, ground := Ground.phase }, { on := 8, ground := Ground.phase }, { on := 9, ground := Ground.phase }, { on := 10, ground := Ground.phase }, { on := 11, ground := Ground.phase }, { on := 12, ground := Ground.phase }, { on := 13, ground := Ground.phase }, { on := 14, ground := Ground.phase }, { on := 15, ground := Ground.phase }, { on := 16, ground := Ground.phase }], guard := none }) (v := ?_) rfl (by kernel_rfl) (by kernel_rfl) (by kernel_rfl) (fun _ _ _ h => h) (Or.inl ⟨by rfl, ?_⟩) (by assumption) ?_
              rotate_left 1
              · (intro W hSw; obtain ⟨_, _, _, _, _, _, _, _, _, _, _, _, _, _, _, _⟩ := hSw; go_simp; try with_reducible rfl)
              try simp only [Act.put, List.setIfInBounds_toArray, List.set_cons_zero, List.set_cons_succ]
              refine wpAnyH_done (by kernel_rfl) ?_ _
              go_wp2_with fail
              go_meet
              exact ⟨rfl, _, rfl, z_8, k_8⟩
      · go_simp
        have z_9 := heap_alloc_new x1 (.cells #[.string ⟨#[]⟩, .string ⟨#[]⟩, .int .i64 0, .int .i64 0, .int .i64 0, .int .i64 0, .int .i64 0, .int .i64 0, .string ⟨#[]⟩, .string ⟨#[]⟩] 29)
        have k_9 := k_1.alloc k_1.size (.cells #[.string ⟨#[]⟩, .string ⟨#[]⟩, .int .i64 0, .int .i64 0, .int .i64 0, .int .i64 0, .int .i64 0, .int .i64 0, .string ⟨#[]⟩, .string ⟨#[]⟩] 29)
        have hge : w7.heap.size ≤ x1.heap.size := k_1.size
        have NL1_9 := L1_1.below ((Below.refl _ _).alloc (Nat.le_refl _) (.cells #[.string ⟨#[]⟩, .string ⟨#[]⟩, .int .i64 0, .int .i64 0, .int .i64 0, .int .i64 0, .int .i64 0, .int .i64 0, .string ⟨#[]⟩, .string ⟨#[]⟩] 29))
        refine hK.out _ _ (HS.out _ k_9) (fun hHeld => ?_)
        clear hK K
        try simp only [Act.put, List.setIfInBounds_toArray, List.set_cons_zero, List.set_cons_succ]
        refine wpAnyH_ready (rs := [6]) (by kernel_rfl) (by simp) ?_
        refine AllReadyH.cons (o := { dst := some 62, op := Op.call { callee := Callee.value (Operand.func 12), args := #[Operand.tmp 61], argTypes := #[24] }, type := 39, pos := "law.go:41", after := #[{ on := 5, ground := Ground.data }, { on := 3, ground := Ground.chain }], guard := none }) rfl (fun K hK => ?_) AllReadyH.nil
        · go_simp
          go_at_call 12
          refine (HA2.out _ k_9).mono ?_
          rintro e x10 ⟨v2, rfl, L2_10, b10⟩
          have M1_10 := NL1_9.below b10
          have k_10 := k_9.trans (b10.mono k_9.size)
          have z_10 := (b10.block _ (Array.getElem?_eq_some_iff.1 z_9).1).trans z_9
          go_wp2_with fail
          refine hK.out _ _ (HS.out _ k_10) (fun hHeld => ?_)
          clear hK K
          try simp only [Act.put, List.setIfInBounds_toArray, List.set_cons_zero, List.set_cons_succ]
          refine wpAnyH_ready (rs := [11]) (by kernel_rfl) (by simp) ?_
          refine AllReadyH.cons (o := { dst := some 67, op := Op.call { callee := Callee.value (Operand.func 11), args := #[Operand.tmp 56, Operand.tmp 59, Operand.tmp 62, Operand.tmp 64, Operand.tmp 66], argTypes := #[36, 39, 39, 9, 9] }, type := 37, pos := "law.go:41", after := #[{ on := 0, ground := Ground.data }, { on := 3, ground := Ground.data }, { on := 6, ground := Ground.data }, { on := 8, ground := Ground.data }, { on := 10, ground := Ground.data }, { on := 6, ground := Ground.chain }], guard := none }) rfl (fun K hK => ?_) AllReadyH.nil
          · go_simp
            go_at_call 11
            refine (Q11.out _ v1 v2 M1_10 L2_10).mono ?_
            rintro e x11 ⟨rfl, b11⟩
            have k_11 := k_10.trans (b11.mono k_10.size)
            have z_11 := (b11.block _ (Array.getElem?_eq_some_iff.1 z_10).1).trans z_10
            go_wp2_with fail
            refine hK.out _ _ (HS.out _ k_11) (fun hHeld => ?_)
            clear hK K
            try simp only [Act.put, List.setIfInBounds_toArray, List.set_cons_zero, List.set_cons_succ]
            refine wpAnyH_take (i := 12) (oi := { dst := some 55, op := Op.move (Operand.tmp 67), type := 37, pos := "law.go:41", after := #[{ on := 11, ground := Ground.data }], guard := none }) (v := ?_) rfl (by kernel_rfl) (by kernel_rfl) (by kernel_rfl) (fun _ _ _ h => h) (Or.inl ⟨by rfl, ?_⟩) (by assumption) ?_
            rotate_left 1
            · (intro W hSw; obtain ⟨_, _, _, _, _, _, _, _, _, _, _, _, _, _, _, _⟩ := hSw; go_simp; try with_reducible rfl)
            try simp only [Act.put, List.setIfInBounds_toArray, List.set_cons_zero, List.set_cons_succ]
            refine wpAnyH_take (i := 13) (oi := { dst := some 68, op := Op.extract (Operand.tmp 55) 0, type := 29, pos := "law.go:41", after := #[{ on := 12, ground := Ground.data }], guard := none }) (v := ?_) rfl (by kernel_rfl) (by kernel_rfl) (by kernel_rfl) (fun _ _ _ h => h) (Or.inl ⟨by rfl, ?_⟩) (by assumption) ?_
            rotate_left 1
            · (intro W hSw; obtain ⟨_, _, _, _, _, _, _, _, _, _, _, _, _, _, _, _⟩ := hSw; go_simp; try with_reducible rfl)
            try simp only [Act.put, List.setIfInBounds_toArray, List.set_cons_zero, List.set_cons_succ]
            refine wpAnyH_take (i := 14) (oi := { dst := some 69, op := Op.extract (Operand.tmp 55) 1, type := 3, pos := "law.go:41", after := #[{ on := 12, ground := Ground.data }, { on := 16, ground := Ground.gcOnly Departure.lateStores }], guard := none }) (v := ?_) rfl (by kernel_rfl) (by kernel_rfl) (by kernel_rfl) (fun _ _ _ h => h) (Or.inl ⟨by rfl, ?_⟩) (by assumption) ?_
            rotate_left 1
            · (intro W hSw; obtain ⟨_, _, _, _, _, _, _, _, _, _, _, _, _, _, _, _⟩ := hSw; go_simp; try with_reducible rfl)
            try simp only [Act.put, List.setIfInBounds_toArray, List.set_cons_zero, List.set_cons_succ]
            refine wpAnyH_ready (rs := [16]) (by kernel_rfl) (by simp) ?_
            refine AllReadyH.cons (o := { dst := none, op := Op.store 29 (Operand.tmp 8) (Operand.tmp 68), type := 0, pos := "law.go:41", after := #[{ on := 15, ground := Ground.data }, { on := 13, ground := Ground.data }, { on := 11, ground := Ground.chain }, { on := 0, ground := Ground.phase }, { on := 1, ground := Ground.phase }, { on := 2, ground := Ground.phase }, { on := 3, ground := Ground.phase }, { on := 4, ground := Ground.phase }, { on := 5, ground := Ground.phase }, { on := 6, ground := Ground.phase }, { on := 7, ground := Ground.phase }, { on := 8, ground := Ground.phase }, { on := 9, ground := Ground.phase }, { on := 10, ground := Ground.phase }, { on := 11, ground := Ground.phase }, { on := 12, ground := Ground.phase }, { on := 13, ground := Ground.phase }, { on := 14, ground := Ground.textOnly Departure.lateStores }, { on := 15, ground := Ground.phase }], guard := none }) rfl (fun K hK => ?_) AllReadyH.nil
            · rw [if_pos (by rfl)]
              refine wp_store_row 29 _ _ rfl _ _ rfl rfl 29 _ z_11 rfl rfl (by simp [Value.oneCell']) ?_
              have z_12 := setRow_heap _ _ _ #[.string p_, .string l_, .int .i64 k_, .int .i64 m_, .int .i64 u_, .int .i64 g_, .int .i64 t_, .int .i64 s_, .string us_, .string gr_] _ _ z_11
              have k_12 := put_row k_11 hge #[.string p_, .string l_, .int .i64 k_, .int .i64 m_, .int .i64 u_, .int .i64 g_, .int .i64 t_, .int .i64 s_, .string us_, .string gr_]
              refine hK.out _ _ (HS.out _ k_12) (fun hHeld => ?_)
              clear hK K
              try simp only [Act.put, List.setIfInBounds_toArray, List.set_cons_zero, List.set_cons_succ]
              refine wpAnyH_take (i := 17) (oi := { dst := some 9, op := Op.assign (Operand.tmp 69), type := 3, pos := "law.go:41", after := #[{ on := 14, ground := Ground.data }, { on := 16, ground := Ground.chain }, { on := 0, ground := Ground.phase }, { on := 1, ground := Ground.phase }, { on := 2, ground := Ground.phase }, { on := 3, ground := Ground.phase }, { on := 4, ground := Ground.phase }, { on := 5, ground := Ground.phase }, { on := 6, ground := Ground.phase }, { on := 7, ground := Ground.phase }, { on := 8, ground := Ground.phase }, { on := 9, ground := Ground.phase }, { on := 10, ground := Ground.phase }, { on := 11, ground := Ground.phase }, { on := 12, ground := Ground.phase }, { on := 13, ground := Ground.phase }, { on := 14, ground := Ground.phase }, { on := 15, ground := Ground.phase }, { on := 16, ground := Ground.phase }], guard := none }) (v := ?_) rfl (by kernel_rfl) (by kernel_rfl) (by kernel_rfl) (fun _ _ _ h => h) (Or.inl ⟨by rfl, ?_⟩) (by assumption) ?_
              rotate_left 1
              · (intro W hSw; obtain ⟨_, _, _, _, _, _, _, _, _, _, _, _, _, _, _, _⟩ := hSw; go_simp; try with_reducible rfl)
              try simp only [Act.put, List.setIfInBounds_toArray, List.set_cons_zero, List.set_cons_succ]
              refine wpAnyH_done (by kernel_rfl) ?_ _
              go_wp2_with fail
              go_meet
              exact ⟨rfl, _, rfl, z_12, k_12⟩
    · go_simp
      have z_13 : (w7.alloc (.cells #[.string ⟨#[]⟩, .string ⟨#[]⟩, .int .i64 0, .int .i64 0, .int .i64 0, .int .i64 0, .int .i64 0, .int .i64 0, .string ⟨#[]⟩, .string ⟨#[]⟩] 29)).drew.heap[w7.heap.size]? = some (.cells #[.string ⟨#[]⟩, .string ⟨#[]⟩, .int .i64 0, .int .i64 0, .int .i64 0, .int .i64 0, .int .i64 0, .int .i64 0, .string ⟨#[]⟩, .string ⟨#[]⟩] 29 (0, 0)) := heap_alloc_new w7 _
      have k_13 : Below w7.heap.size w7 (w7.alloc (.cells #[.string ⟨#[]⟩, .string ⟨#[]⟩, .int .i64 0, .int .i64 0, .int .i64 0, .int .i64 0, .int .i64 0, .int .i64 0, .string ⟨#[]⟩, .string ⟨#[]⟩] 29)).drew := ((Below.refl _ w7).alloc (Nat.le_refl _) _).drew
      have hge : w7.heap.size ≤ w7.heap.size := Nat.le_refl _
      refine hK.out _ _ (HS.out _ k_13) (fun hHeld => ?_)
      clear hK K
      try simp only [Act.put, List.setIfInBounds_toArray, List.set_cons_zero, List.set_cons_succ]
      refine wpAnyH_ready (rs := [3]) (by kernel_rfl) (by simp) ?_
      refine AllReadyH.cons (o := { dst := some 59, op := Op.call { callee := Callee.value (Operand.func 12), args := #[Operand.tmp 58], argTypes := #[24] }, type := 39, pos := "law.go:41", after := #[{ on := 2, ground := Ground.data }], guard := none }) rfl (fun K hK => ?_) AllReadyH.nil
      · go_simp
        go_at_call 12
        refine (HA1.out _ k_13).mono ?_
        rintro e x14 ⟨v1, rfl, L1_14, b14⟩
        have k_14 := k_13.trans (b14.mono k_13.size)
        have z_14 := (b14.block _ (Array.getElem?_eq_some_iff.1 z_13).1).trans z_13
        go_wp2_with fail
        refine hK.out _ _ (HS.out _ k_14) (fun hHeld => ?_)
        clear hK K
        try simp only [Act.put, List.setIfInBounds_toArray, List.set_cons_zero, List.set_cons_succ]
        refine wpAnyH_ready (rs := [6]) (by kernel_rfl) (by simp) ?_
        refine AllReadyH.cons (o := { dst := some 62, op := Op.call { callee := Callee.value (Operand.func 12), args := #[Operand.tmp 61], argTypes := #[24] }, type := 39, pos := "law.go:41", after := #[{ on := 5, ground := Ground.data }, { on := 3, ground := Ground.chain }], guard := none }) rfl (fun K hK => ?_) AllReadyH.nil
        · go_simp
          go_at_call 12
          refine (HA2.out _ k_14).mono ?_
          rintro e x15 ⟨v2, rfl, L2_15, b15⟩
          have M1_15 := L1_14.below b15
          have k_15 := k_14.trans (b15.mono k_14.size)
          have z_15 := (b15.block _ (Array.getElem?_eq_some_iff.1 z_14).1).trans z_14
          go_wp2_with fail
          refine hK.out _ _ (HS.out _ k_15) (fun hHeld => ?_)
          clear hK K
          try simp only [Act.put, List.setIfInBounds_toArray, List.set_cons_zero, List.set_cons_succ]
          refine wpAnyH_ready (rs := [11]) (by kernel_rfl) (by simp) ?_
          refine AllReadyH.cons (o := { dst := some 67, op := Op.call { callee := Callee.value (Operand.func 11), args := #[Operand.tmp 56, Operand.tmp 59, Operand.tmp 62, Operand.tmp 64, Operand.tmp 66], argTypes := #[36, 39, 39, 9, 9] }, type := 37, pos := "law.go:41", after := #[{ on := 0, ground := Ground.data }, { on := 3, ground := Ground.data }, { on := 6, ground := Ground.data }, { on := 8, ground := Ground.data }, { on := 10, ground := Ground.data }, { on := 6, ground := Ground.chain }], guard := none }) rfl (fun K hK => ?_) AllReadyH.nil
          · go_simp
            go_at_call 11
            refine (Q11.out _ v1 v2 M1_15 L2_15).mono ?_
            rintro e x16 ⟨rfl, b16⟩
            have k_16 := k_15.trans (b16.mono k_15.size)
            have z_16 := (b16.block _ (Array.getElem?_eq_some_iff.1 z_15).1).trans z_15
            go_wp2_with fail
            refine hK.out _ _ (HS.out _ k_16) (fun hHeld => ?_)
            clear hK K
            try simp only [Act.put, List.setIfInBounds_toArray, List.set_cons_zero, List.set_cons_succ]
            refine wpAnyH_take (i := 12) (oi := { dst := some 55, op := Op.move (Operand.tmp 67), type := 37, pos := "law.go:41", after := #[{ on := 11, ground := Ground.data }], guard := none }) (v := ?_) rfl (by kernel_rfl) (by kernel_rfl) (by kernel_rfl) (fun _ _ _ h => h) (Or.inl ⟨by rfl, ?_⟩) (by assumption) ?_
            rotate_left 1
            · (intro W hSw; obtain ⟨_, _, _, _, _, _, _, _, _, _, _, _, _, _, _, _⟩ := hSw; go_simp; try with_reducible rfl)
            try simp only [Act.put, List.setIfInBounds_toArray, List.set_cons_zero, List.set_cons_succ]
            refine wpAnyH_take (i := 13) (oi := { dst := some 68, op := Op.extract (Operand.tmp 55) 0, type := 29, pos := "law.go:41", after := #[{ on := 12, ground := Ground.data }], guard := none }) (v := ?_) rfl (by kernel_rfl) (by kernel_rfl) (by kernel_rfl) (fun _ _ _ h => h) (Or.inl ⟨by rfl, ?_⟩) (by assumption) ?_
            rotate_left 1
            · (intro W hSw; obtain ⟨_, _, _, _, _, _, _, _, _, _, _, _, _, _, _, _⟩ := hSw; go_simp; try with_reducible rfl)
            try simp only [Act.put, List.setIfInBounds_toArray, List.set_cons_zero, List.set_cons_succ]
            refine wpAnyH_take (i := 14) (oi := { dst := some 69, op := Op.extract (Operand.tmp 55) 1, type := 3, pos := "law.go:41", after := #[{ on := 12, ground := Ground.data }, { on := 16, ground := Ground.gcOnly Departure.lateStores }], guard := none }) (v := ?_) rfl (by kernel_rfl) (by kernel_rfl) (by kernel_rfl) (fun _ _ _ h => h) (Or.inl ⟨by rfl, ?_⟩) (by assumption) ?_
            rotate_left 1
            · (intro W hSw; obtain ⟨_, _, _, _, _, _, _, _, _, _, _, _, _, _, _, _⟩ := hSw; go_simp; try with_reducible rfl)
            try simp only [Act.put, List.setIfInBounds_toArray, List.set_cons_zero, List.set_cons_succ]
            refine wpAnyH_ready (rs := [16]) (by kernel_rfl) (by simp) ?_
            refine AllReadyH.cons (o := { dst := none, op := Op.store 29 (Operand.tmp 8) (Operand.tmp 68), type := 0, pos := "law.go:41", after := #[{ on := 15, ground := Ground.data }, { on := 13, ground := Ground.data }, { on := 11, ground := Ground.chain }, { on := 0, ground := Ground.phase }, { on := 1, ground := Ground.phase }, { on := 2, ground := Ground.phase }, { on := 3, ground := Ground.phase }, { on := 4, ground := Ground.phase }, { on := 5, ground := Ground.phase }, { on := 6, ground := Ground.phase }, { on := 7, ground := Ground.phase }, { on := 8, ground := Ground.phase }, { on := 9, ground := Ground.phase }, { on := 10, ground := Ground.phase }, { on := 11, ground := Ground.phase }, { on := 12, ground := Ground.phase }, { on := 13, ground := Ground.phase }, { on := 14, ground := Ground.textOnly Departure.lateStores }, { on := 15, ground := Ground.phase }], guard := none }) rfl (fun K hK => ?_) AllReadyH.nil
            · rw [if_pos (by rfl)]
              refine wp_store_row 29 _ _ rfl _ _ rfl rfl 29 _ z_16 rfl rfl (by simp [Value.oneCell']) ?_
              have z_17 := setRow_heap _ _ _ #[.string p_, .string l_, .int .i64 k_, .int .i64 m_, .int .i64 u_, .int .i64 g_, .int .i64 t_, .int .i64 s_, .string us_, .string gr_] _ _ z_16
              have k_17 := put_row k_16 hge #[.string p_, .string l_, .int .i64 k_, .int .i64 m_, .int .i64 u_, .int .i64 g_, .int .i64 t_, .int .i64 s_, .string us_, .string gr_]
              refine hK.out _ _ (HS.out _ k_17) (fun hHeld => ?_)
              clear hK K
              try simp only [Act.put, List.setIfInBounds_toArray, List.set_cons_zero, List.set_cons_succ]
              refine wpAnyH_take (i := 17) (oi := { dst := some 9, op := Op.assign (Operand.tmp 69), type := 3, pos := "law.go:41", after := #[{ on := 14, ground := Ground.data }, { on := 16, ground := Ground.chain }, { on := 0, ground := Ground.phase }, { on := 1, ground := Ground.phase }, { on := 2, ground := Ground.phase }, { on := 3, ground := Ground.phase }, { on := 4, ground := Ground.phase }, { on := 5, ground := Ground.phase }, { on := 6, ground := Ground.phase }, { on := 7, ground := Ground.phase }, { on := 8, ground := Ground.phase }, { on := 9, ground := Ground.phase }, { on := 10, ground := Ground.phase }, { on := 11, ground := Ground.phase }, { on := 12, ground := Ground.phase }, { on := 13, ground := Ground.phase }, { on := 14, ground := Ground.phase }, { on := 15, ground := Ground.phase }, { on := 16, ground := Ground.phase }], guard := none }) (v := ?_) rfl (by kernel_rfl) (by kernel_rfl) (by kernel_rfl) (fun _ _ _ h => h) (Or.inl ⟨by rfl, ?_⟩) (by assumption) ?_
              rotate_left 1
              · (intro W hSw; obtain ⟨_, _, _, _, _, _, _, _, _, _, _, _, _, _, _, _⟩ := hSw; go_simp; try with_reducible rfl)
              try simp only [Act.put, List.setIfInBounds_toArray, List.set_cons_zero, List.set_cons_succ]
              refine wpAnyH_done (by kernel_rfl) ?_ _
              go_wp2_with fail
              go_meet
              exact ⟨rfl, _, rfl, z_17, k_17⟩
  case rest =>
    obtain ⟨rfl, g, rfl, HG, HKB⟩ := hcut
    rename_i KK hgo
    refine hgo _ _ ?_
    have HP8 : Hid _ := HPm.out.grow HKB.out
    have HE8 : Hid (wc.heap[e3]? = some (.cells #[.string p_, .string l_, .int .i64 k_, .int .i64 m_, .int .i64 u_, .int .i64 g_, .int .i64 t_, .int .i64 s_, .string us_, .string gr_] 29 (0, 0))) := HP8.out.ent
    have ea0 : wc.cell? ⟨e3, 0, none⟩ = some (.string p_) := by simp only [World.cell?, HE8.out]; rfl
    have eb0 : wc.cell? ⟨g, 0, none⟩ = some (.string p_) := by simp only [World.cell?, HG.out]; rfl
    have ea1 : wc.cell? ⟨e3, 1, none⟩ = some (.string l_) := by simp only [World.cell?, HE8.out]; rfl
    have eb1 : wc.cell? ⟨g, 1, none⟩ = some (.string l_) := by simp only [World.cell?, HG.out]; rfl
    have ea2 : wc.cell? ⟨e3, 2, none⟩ = some (.int .i64 k_) := by simp only [World.cell?, HE8.out]; rfl
    have eb2 : wc.cell? ⟨g, 2, none⟩ = some (.int .i64 k_) := by simp only [World.cell?, HG.out]; rfl
    have ea3 : wc.cell? ⟨e3, 3, none⟩ = some (.int .i64 m_) := by simp only [World.cell?, HE8.out]; rfl
    have eb3 : wc.cell? ⟨g, 3, none⟩ = some (.int .i64 m_) := by simp only [World.cell?, HG.out]; rfl
    have ea4 : wc.cell? ⟨e3, 4, none⟩ = some (.int .i64 u_) := by simp only [World.cell?, HE8.out]; rfl
    have eb4 : wc.cell? ⟨g, 4, none⟩ = some (.int .i64 u_) := by simp only [World.cell?, HG.out]; rfl
    have ea5 : wc.cell? ⟨e3, 5, none⟩ = some (.int .i64 g_) := by simp only [World.cell?, HE8.out]; rfl
    have eb5 : wc.cell? ⟨g, 5, none⟩ = some (.int .i64 g_) := by simp only [World.cell?, HG.out]; rfl
    have ea6 : wc.cell? ⟨e3, 6, none⟩ = some (.int .i64 t_) := by simp only [World.cell?, HE8.out]; rfl
    have eb6 : wc.cell? ⟨g, 6, none⟩ = some (.int .i64 t_) := by simp only [World.cell?, HG.out]; rfl
    have ea7 : wc.cell? ⟨e3, 7, none⟩ = some (.int .i64 s_) := by simp only [World.cell?, HE8.out]; rfl
    have eb7 : wc.cell? ⟨g, 7, none⟩ = some (.int .i64 s_) := by simp only [World.cell?, HG.out]; rfl
    have ea8 : wc.cell? ⟨e3, 8, none⟩ = some (.string us_) := by simp only [World.cell?, HE8.out]; rfl
    have eb8 : wc.cell? ⟨g, 8, none⟩ = some (.string us_) := by simp only [World.cell?, HG.out]; rfl
    have ea9 : wc.cell? ⟨e3, 9, none⟩ = some (.string gr_) := by simp only [World.cell?, HE8.out]; rfl
    have eb9 : wc.cell? ⟨g, 9, none⟩ = some (.string gr_) := by simp only [World.cell?, HG.out]; rfl
    go_wp2
    all_goals go_ret
    all_goals exact ⟨by first | rfl | simp, HP8.out.bel⟩
end Go.Proofs.YtjnmmkohmfhnlaaDoor
