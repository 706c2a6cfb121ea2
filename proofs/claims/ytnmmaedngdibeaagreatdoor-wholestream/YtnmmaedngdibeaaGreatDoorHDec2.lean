/-
  head.Decode where the sum is right: the composite.
-/
import Derived.Test.YtnmmaedngdibeaaGreatDoorHDec1
import Derived.Laws.Tables
namespace Go.Proofs.YtnmmaedngdibeaaGreatDoor.H
open Go.RowKit
set_option linter.unusedVariables false
set_option linter.unusedSimpArgs false

/-- the header as the composite makes it -/
def hd1 (zs : List Int) : Array Value := #[.int .i64 (formL zs), .string (tx zs 0 100), .string (tx zs 157 257), .string ⟨#[]⟩, .string ⟨#[]⟩, .string ⟨#[]⟩, .int .u8 (zs[156]?.getD 0), .int .i64 0, .int .i64 0, .int .i64 0, .int .i64 0, .int .i64 0]

/-- the number of field k, and what is said of it -/
def vN (zs : List Int) (k : Nat) : Int := resN (parseO (fld zs (numB k) (numE k)))
def eN (zs : List Int) (k : Nat) : Int := resE (parseO (fld zs (numB k) (numE k)))
def nvl (zs : List Int) (k j : Nat) : Int := if j < k then vN zs j else 0
/-- the header where k numbers are read -/
def hdN (zs : List Int) (k : Nat) : Array Value := #[.int .i64 (formL zs), .string (tx zs 0 100), .string (tx zs 157 257), .string ⟨#[]⟩, .string ⟨#[]⟩, .string ⟨#[]⟩, .int .u8 (zs[156]?.getD 0), .int .i64 (nvl zs k 0), .int .i64 (nvl zs k 1), .int .i64 (nvl zs k 2), .int .i64 (nvl zs k 3), .int .i64 (nvl zs k 4)]

def isU (zs : List Int) : Bool := decide (formL zs = 1)
def notOld (zs : List Int) : Bool := decide (¬ formL zs = 0)
/-- the header as it is read -/
def hdF (zs : List Int) : Array Value := #[.int .i64 (formL zs), .string (tx zs 0 100), .string (tx zs 157 257), .string (if isU zs then tx zs 345 500 else ⟨#[]⟩), .string (if notOld zs then tx zs 265 297 else ⟨#[]⟩), .string (if notOld zs then tx zs 297 329 else ⟨#[]⟩), .int .u8 (zs[156]?.getD 0), .int .i64 (vN zs 0), .int .i64 (vN zs 1), .int .i64 (vN zs 2), .int .i64 (vN zs 3), .int .i64 (vN zs 4)]

/-- what Decode answers where a number can't be read -/
def DecNo (zs : List Int) (e : Ending) : Prop := ∃ k, k < 5 ∧ (∀ j, j < k → eN zs j = 0) ∧ eN zs k ≠ 0 ∧ e = .returned (.tuple #[.agg hzero, .int .i64 (eN zs k)])
def DecYes (zs : List Int) (e : Ending) : Prop := (∀ j, j < 5 → eN zs j = 0) ∧ e = .returned (.tuple #[.agg (hdF zs), .int .i64 0])

theorem bytes_fld {w : World} {ad : Addr} {zs : List Int} (h : Src w (some ad) zs) (hb : AllB zs) (hl : zs.length = 512) (c d : Nat) (h0 : 0 < c) (h1 : c ≤ d) (h2 : d ≤ 512) : Bytes w (some ⟨ad.block, ad.off + c, none⟩) (fld zs c d) := by
  have hs : Src w (some ⟨ad.block, ad.off + c, none⟩) (fld zs c d) := src_cut h c (d - c) (by omega)
  have hlen := fld_length zs c d (by omega)
  refine ⟨by omega, .inr ⟨_, _, rfl, fun i hi => ?_⟩, fun i => ?_⟩
  · have := hs.cell i hi
    by_cases h0 : i = 0
    · subst h0; simpa [Addr.add] using this
    · simpa [Addr.add, h0] using this
  · by_cases hi : i < (fld zs c d).length
    · have : (fld zs c d)[i]?.getD 0 = (fld zs c d)[i] := by simp [hi]
      rw [this]
      exact fld_allB zs c d hb _ (List.getElem_mem hi)
    · simp [hi]

theorem Kp.setRow {w1 W : World} (h : Kp w1 W) {g : Nat} (hg : w1.heap.size ≤ g) {t : TypeId} {old : Array Value} (ho : W.heap[g]? = some (.cells old t (0, 0))) (cs : Array Value) : Kp w1 (W.setRow g cs) :=
  ⟨h.b.trans ⟨rfl, rfl, rfl, by rw [setRow_size]; exact Nat.le_refl _, fun k hk => setRow_other _ _ _ _ (by omega)⟩⟩

set_option maxRecDepth 20000 in
set_option maxHeartbeats 4000000 in
theorem dec_yes (ad : Addr) (cap : Nat) (zs : List Int) (w : World) (hb : Hid (AllB zs)) (hl : Hid (zs.length = 512)) (hc : 512 ≤ cap) (hc2 : cap ≤ 9223372036854775807) (hs : Hid (Src w (some ad) zs)) (hr : rightB zs = true) (L : Hid (Laid w)) :
    Calls Tryz.prog 58 #[.slice (some ad) 512 cap] w fun e w' => (DecNo zs e ∨ DecYes zs e) ∧ Below w.heap.size w w' := by
  have b1 : Below w.heap.size w (w.alloc (.cells hzero 55)) := (Below.refl _ w).alloc (Nat.le_refl _) _
  have r1 : (w.alloc (.cells hzero 55)).heap[w.heap.size]? = some (.cells hzero 55 (0, 0)) := heap_alloc_new w _
  have q := right_yes ad cap zs (w.alloc (.cells hzero 55)) hb hl hc hc2 (hs.out.grow b1)
  rw [hr] at q
  have HS1 : Hid (Src (w.alloc (.cells hzero 55)) (some ad) zs) := hs.out.grow b1
  have HL1 : Hid (Laid (w.alloc (.cells hzero 55))) := L.out.grow b1
  have K1 : Kp (w.alloc (.cells hzero 55)) (w.alloc (.cells hzero 55)) := ⟨Below.refl _ _⟩
  unfold hzero at *
  go_enter Tryz.func58, Tryz.ntmps58
  go_wp2_with fail
  refine q.mono ?_
  rintro e w' ⟨rfl, rfl⟩
  clear q
  generalize w.alloc _ = w1 at *
  have HSR : Hid (∀ W, Kp w1 W → Src W (some ad) zs) := fun W k => HS1.out.grow k.b
  have HLA : Hid (∀ W, Kp w1 W → Laid W) := fun W k => HL1.out.grow k.b
  have HSS : Hid (∀ W, Kp w1 W → Kp w1 W ∧ W.cell? ⟨1, 0, none⟩ = some (.int .i64 0) ∧ W.cell? ⟨1, 1, none⟩ = some (.int .i64 100) ∧ W.cell? ⟨2, 0, none⟩ = some (.int .i64 157) ∧ W.cell? ⟨2, 1, none⟩ = some (.int .i64 257) ∧ W.cell? ⟨ad.block, ad.off + 156, none⟩ = some (.int .u8 (zs[156]?.getD 0))) := fun W k => by
    have l := HLA.out W k
    refine ⟨k, l.n0, l.n1, l.l0, l.l1, ?_⟩
    have := (HSR.out W k).cell 156 (by rw [hl.out]; omega)
    exact this
  go_upto_region 5 with fail
  go_cut [4] (fun s4 wx => ∃ g : Nat, s4 = .pointer (some ⟨g, 0, none⟩) ∧ w1.heap.size ≤ g ∧ wx.heap[g]? = some (.cells (hd1 zs) 55 (0, 0)) ∧ Kp w1 wx)
  case first =>
    have k0 := K1.drew
    refine wp_region_held_drew (S := fun W => Kp w1 W ∧ W.cell? ⟨1, 0, none⟩ = some (.int .i64 0) ∧ W.cell? ⟨1, 1, none⟩ = some (.int .i64 100) ∧ W.cell? ⟨2, 0, none⟩ = some (.int .i64 157) ∧ W.cell? ⟨2, 1, none⟩ = some (.int .i64 257) ∧ W.cell? ⟨ad.block, ad.off + 156, none⟩ = some (.int .u8 (zs[156]?.getD 0))) (by kernel_rfl) (HSS.out _ k0) (fun hHeld => ?_)
    refine wpAnyH_take (i := 0) (oi := { dst := some 18, op := Op.move (Operand.tmp 0), type := 22, pos := "head.go:86", after := #[], guard := none }) (v := ?_) rfl (by kernel_rfl) (by kernel_rfl) (by kernel_rfl) (fun _ _ _ h => h) (Or.inl ⟨by rfl, ?_⟩) (by assumption) ?_
    rotate_left 1
    · (intro W hSw; obtain ⟨_, _, _, _, _, _⟩ := hSw; go_simp; try with_reducible rfl)
    try simp only [Act.put, List.setIfInBounds_toArray, List.set_cons_zero, List.set_cons_succ]
    refine wpAnyH_take (i := 2) (oi := { dst := some 20, op := Op.move (Operand.tmp 0), type := 22, pos := "head.go:86", after := #[], guard := none }) (v := ?_) rfl (by kernel_rfl) (by kernel_rfl) (by kernel_rfl) (fun _ _ _ h => h) (Or.inl ⟨by rfl, ?_⟩) (by assumption) ?_
    rotate_left 1
    · (intro W hSw; obtain ⟨_, _, _, _, _, _⟩ := hSw; go_simp; try with_reducible rfl)
    try simp only [Act.put, List.setIfInBounds_toArray, List.set_cons_zero, List.set_cons_succ]
    refine wpAnyH_take (i := 3) (oi := { dst := some 21, op := Op.indexAddr 22 (Operand.tmp 20) (Operand.const (Value.int IntKind.i64 156)), type := 0, pos := "head.go:86", after := #[{ on := 2, ground := Ground.data }], guard := none }) (v := ?_) rfl (by kernel_rfl) (by kernel_rfl) (by kernel_rfl) (fun _ _ _ h => h) (Or.inl ⟨by rfl, ?_⟩) (by assumption) ?_
    rotate_left 1
    · (intro W hSw; obtain ⟨_, _, _, _, _, _⟩ := hSw; go_simp; try with_reducible rfl)
    try simp only [Act.put, List.setIfInBounds_toArray, List.set_cons_zero, List.set_cons_succ]
    refine wpAnyH_take (i := 4) (oi := { dst := some 22, op := Op.load 5 (Operand.tmp 21), type := 5, pos := "head.go:86", after := #[{ on := 3, ground := Ground.data }], guard := none }) (v := ?_) rfl (by kernel_rfl) (by kernel_rfl) (by kernel_rfl) (fun _ _ _ h => h) (Or.inl ⟨by rfl, ?_⟩) (by assumption) ?_
    rotate_left 1
    · (intro W hSw; obtain ⟨_, _, _, _, _, _⟩ := hSw; go_simp; try with_reducible rfl)
    try simp only [Act.put, List.setIfInBounds_toArray, List.set_cons_zero, List.set_cons_succ]
    refine wpAnyH_take (i := 5) (oi := { dst := some 23, op := Op.move (Operand.tmp 0), type := 22, pos := "head.go:86", after := #[], guard := none }) (v := ?_) rfl (by kernel_rfl) (by kernel_rfl) (by kernel_rfl) (fun _ _ _ h => h) (Or.inl ⟨by rfl, ?_⟩) (by assumption) ?_
    rotate_left 1
    · (intro W hSw; obtain ⟨_, _, _, _, _, _⟩ := hSw; go_simp; try with_reducible rfl)
    try simp only [Act.put, List.setIfInBounds_toArray, List.set_cons_zero, List.set_cons_succ]
    refine wpAnyH_take (i := 6) (oi := { dst := some 24, op := Op.load 85 (Operand.global 1), type := 85, pos := "head.go:86", after := #[], guard := none }) (v := ?_) rfl (by kernel_rfl) (by kernel_rfl) (by kernel_rfl) (fun _ _ _ h => h) (Or.inl ⟨by rfl, ?_⟩) (by assumption) ?_
    rotate_left 1
    · (intro W hSw; obtain ⟨_, _, _, _, _, _⟩ := hSw; go_simp; try with_reducible rfl)
    try simp only [Act.put, List.setIfInBounds_toArray, List.set_cons_zero, List.set_cons_succ]
    refine wpAnyH_take (i := 8) (oi := { dst := some 26, op := Op.move (Operand.tmp 0), type := 22, pos := "head.go:86", after := #[], guard := none }) (v := ?_) rfl (by kernel_rfl) (by kernel_rfl) (by kernel_rfl) (fun _ _ _ h => h) (Or.inl ⟨by rfl, ?_⟩) (by assumption) ?_
    rotate_left 1
    · (intro W hSw; obtain ⟨_, _, _, _, _, _⟩ := hSw; go_simp; try with_reducible rfl)
    try simp only [Act.put, List.setIfInBounds_toArray, List.set_cons_zero, List.set_cons_succ]
    refine wpAnyH_take (i := 9) (oi := { dst := some 27, op := Op.load 85 (Operand.global 2), type := 85, pos := "head.go:86", after := #[], guard := none }) (v := ?_) rfl (by kernel_rfl) (by kernel_rfl) (by kernel_rfl) (fun _ _ _ h => h) (Or.inl ⟨by rfl, ?_⟩) (by assumption) ?_
    rotate_left 1
    · (intro W hSw; obtain ⟨_, _, _, _, _, _⟩ := hSw; go_simp; try with_reducible rfl)
    try simp only [Act.put, List.setIfInBounds_toArray, List.set_cons_zero, List.set_cons_succ]
    refine wpAnyH_ready (rs := [1, 12]) (by kernel_rfl) (by simp) ?_
    refine AllReadyH.cons (o := { dst := some 19, op := Op.call { callee := Callee.value (Operand.func 75), args := #[Operand.tmp 18], argTypes := #[22] }, type := 3, pos := "head.go:86", after := #[{ on := 0, ground := Ground.data }], guard := none }) rfl (fun K hK => ?_) (AllReadyH.cons (o := { dst := some 4, op := Op.alloc 55, type := 0, pos := "head.go:86", after := #[], guard := none }) rfl (fun K hK => ?_) AllReadyH.nil)
    · go_simp
      go_at_call 75
      refine (formOf_w ad cap zs _ hb hl hc hc2 (HSR.out _ k0) (HLA.out _ k0)).mono ?_
      rintro e x1 ⟨rfl, rfl⟩
      go_wp2_with fail
      refine hK.out _ _ (HSS.out _ k0) (fun hHeld => ?_)
      clear hK K
      try simp only [Act.put, List.setIfInBounds_toArray, List.set_cons_zero, List.set_cons_succ]
      refine wpAnyH_ready (rs := [7, 12]) (by kernel_rfl) (by simp) ?_
      refine AllReadyH.cons (o := { dst := some 25, op := Op.call { callee := Callee.value (Operand.func 76), args := #[Operand.tmp 23, Operand.tmp 24], argTypes := #[22, 85] }, type := 9, pos := "head.go:86", after := #[{ on := 5, ground := Ground.data }, { on := 6, ground := Ground.data }, { on := 1, ground := Ground.chain }], guard := none }) rfl (fun K hK => ?_) (AllReadyH.cons (o := { dst := some 4, op := Op.alloc 55, type := 0, pos := "head.go:86", after := #[], guard := none }) rfl (fun K hK => ?_) AllReadyH.nil)
      · go_simp
        go_at_call 76
        refine (tx_w ad cap zs 0 100 w1 _ hb hl hc hc2 (HSR.out _ k0) k0 (by omega)).mono ?_
        rintro e x2 ⟨rfl, k2, st⟩
        clear st
        go_wp2_with fail
        refine hK.out _ _ (HSS.out _ k2) (fun hHeld => ?_)
        clear hK K
        try simp only [Act.put, List.setIfInBounds_toArray, List.set_cons_zero, List.set_cons_succ]
        refine wpAnyH_ready (rs := [10, 12]) (by kernel_rfl) (by simp) ?_
        refine AllReadyH.cons (o := { dst := some 28, op := Op.call { callee := Callee.value (Operand.func 76), args := #[Operand.tmp 26, Operand.tmp 27], argTypes := #[22, 85] }, type := 9, pos := "head.go:86", after := #[{ on := 8, ground := Ground.data }, { on := 9, ground := Ground.data }, { on := 7, ground := Ground.chain }], guard := none }) rfl (fun K hK => ?_) (AllReadyH.cons (o := { dst := some 4, op := Op.alloc 55, type := 0, pos := "head.go:86", after := #[], guard := none }) rfl (fun K hK => ?_) AllReadyH.nil)
        · go_simp
          go_at_call 76
          refine (tx_w ad cap zs 157 257 w1 _ hb hl hc hc2 (HSR.out _ k2) k2 (by omega)).mono ?_
          rintro e x3 ⟨rfl, k3, st⟩
          clear st
          go_wp2_with fail
          refine hK.out _ _ (HSS.out _ k3) (fun hHeld => ?_)
          clear hK K
          try simp only [Act.put, List.setIfInBounds_toArray, List.set_cons_zero, List.set_cons_succ]
          refine wpAnyH_take (i := 11) (oi := { dst := some 29, op := Op.build 55 #[(0, Operand.tmp 19), (6, Operand.tmp 22), (1, Operand.tmp 25), (2, Operand.tmp 28)], type := 55, pos := "head.go:86", after := #[{ on := 1, ground := Ground.data }, { on := 4, ground := Ground.data }, { on := 7, ground := Ground.data }, { on := 10, ground := Ground.data }], guard := none }) (v := ?_) rfl (by kernel_rfl) (by kernel_rfl) (by kernel_rfl) (fun _ _ _ h => h) (Or.inl ⟨by rfl, ?_⟩) (by assumption) ?_
          rotate_left 1
          · (intro W hSw; obtain ⟨_, _, _, _, _, _⟩ := hSw; go_simp; try with_reducible rfl)
          try simp only [Act.put, List.setIfInBounds_toArray, List.set_cons_zero, List.set_cons_succ]
          refine wpAnyH_ready (rs := [12]) (by kernel_rfl) (by simp) ?_
          refine AllReadyH.cons (o := { dst := some 4, op := Op.alloc 55, type := 0, pos := "head.go:86", after := #[], guard := none }) rfl (fun K hK => ?_) AllReadyH.nil
          go_simp
          have hg4 := heap_alloc_new x3 (.cells #[.int .i64 0, .string ⟨#[]⟩, .string ⟨#[]⟩, .string ⟨#[]⟩, .string ⟨#[]⟩, .string ⟨#[]⟩, .int .u8 0, .int .i64 0, .int .i64 0, .int .i64 0, .int .i64 0, .int .i64 0] 55)
          have k4 := k3.alloc (.cells #[.int .i64 0, .string ⟨#[]⟩, .string ⟨#[]⟩, .string ⟨#[]⟩, .string ⟨#[]⟩, .string ⟨#[]⟩, .int .u8 0, .int .i64 0, .int .i64 0, .int .i64 0, .int .i64 0, .int .i64 0] 55)
          have hge : w1.heap.size ≤ x3.heap.size := k3.b.size
          refine hK.out _ _ (HSS.out _ k4) (fun hHeld => ?_)
          clear hK K
          try simp only [Act.put, List.setIfInBounds_toArray, List.set_cons_zero, List.set_cons_succ]
          refine wpAnyH_ready (rs := [13]) (by kernel_rfl) (by simp) ?_
          refine AllReadyH.cons (o := { dst := none, op := Op.store 55 (Operand.tmp 4) (Operand.tmp 29), type := 0, pos := "head.go:86", after := #[{ on := 12, ground := Ground.data }, { on := 11, ground := Ground.data }, { on := 10, ground := Ground.chain }, { on := 0, ground := Ground.phase }, { on := 1, ground := Ground.phase }, { on := 2, ground := Ground.phase }, { on := 3, ground := Ground.phase }, { on := 4, ground := Ground.phase }, { on := 5, ground := Ground.phase }, { on := 6, ground := Ground.phase }, { on := 7, ground := Ground.phase }, { on := 8, ground := Ground.phase }, { on := 9, ground := Ground.phase }, { on := 10, ground := Ground.phase }, { on := 11, ground := Ground.phase }, { on := 12, ground := Ground.phase }], guard := none }) rfl (fun K hK => ?_) AllReadyH.nil
          rw [if_pos (by rfl)]
          refine wp_store_row 55 _ _ rfl _ _ rfl rfl 55 _ hg4 rfl rfl (by simp [Value.oneCell']) ?_
          have k5 := k4.setRow hge hg4 (hd1 zs)
          have hg5 := setRow_heap _ _ _ (hd1 zs) _ _ hg4
          refine hK.out _ _ (HSS.out _ k5) (fun hHeld => ?_)
          clear hK K
          try simp only [Act.put, List.setIfInBounds_toArray, List.set_cons_zero, List.set_cons_succ]
          refine wpAnyH_done (by kernel_rfl) ?_ _
          go_wp2_with fail
          go_meet
          exact ⟨_, rfl, hge, hg5, k5⟩
        · go_simp
          have hg3 := heap_alloc_new x2 (.cells #[.int .i64 0, .string ⟨#[]⟩, .string ⟨#[]⟩, .string ⟨#[]⟩, .string ⟨#[]⟩, .string ⟨#[]⟩, .int .u8 0, .int .i64 0, .int .i64 0, .int .i64 0, .int .i64 0, .int .i64 0] 55)
          have k3 := k2.alloc (.cells #[.int .i64 0, .string ⟨#[]⟩, .string ⟨#[]⟩, .string ⟨#[]⟩, .string ⟨#[]⟩, .string ⟨#[]⟩, .int .u8 0, .int .i64 0, .int .i64 0, .int .i64 0, .int .i64 0, .int .i64 0] 55)
          have hge : w1.heap.size ≤ x2.heap.size := k2.b.size
          refine hK.out _ _ (HSS.out _ k3) (fun hHeld => ?_)
          clear hK K
          try simp only [Act.put, List.setIfInBounds_toArray, List.set_cons_zero, List.set_cons_succ]
          refine wpAnyH_ready (rs := [10]) (by kernel_rfl) (by simp) ?_
          refine AllReadyH.cons (o := { dst := some 28, op := Op.call { callee := Callee.value (Operand.func 76), args := #[Operand.tmp 26, Operand.tmp 27], argTypes := #[22, 85] }, type := 9, pos := "head.go:86", after := #[{ on := 8, ground := Ground.data }, { on := 9, ground := Ground.data }, { on := 7, ground := Ground.chain }], guard := none }) rfl (fun K hK => ?_) AllReadyH.nil
          go_simp
          go_at_call 76
          refine (tx_w ad cap zs 157 257 w1 _ hb hl hc hc2 (HSR.out _ k3) k3 (by omega)).mono ?_
          rintro e x4 ⟨rfl, k4, st⟩
          have hg4 := st _ _ hg3
          clear st
          go_wp2_with fail
          refine hK.out _ _ (HSS.out _ k4) (fun hHeld => ?_)
          clear hK K
          try simp only [Act.put, List.setIfInBounds_toArray, List.set_cons_zero, List.set_cons_succ]
          refine wpAnyH_take (i := 11) (oi := { dst := some 29, op := Op.build 55 #[(0, Operand.tmp 19), (6, Operand.tmp 22), (1, Operand.tmp 25), (2, Operand.tmp 28)], type := 55, pos := "head.go:86", after := #[{ on := 1, ground := Ground.data }, { on := 4, ground := Ground.data }, { on := 7, ground := Ground.data }, { on := 10, ground := Ground.data }], guard := none }) (v := ?_) rfl (by kernel_rfl) (by kernel_rfl) (by kernel_rfl) (fun _ _ _ h => h) (Or.inl ⟨by rfl, ?_⟩) (by assumption) ?_
          rotate_left 1
          · (intro W hSw; obtain ⟨_, _, _, _, _, _⟩ := hSw; go_simp; try with_reducible rfl)
          try simp only [Act.put, List.setIfInBounds_toArray, List.set_cons_zero, List.set_cons_succ]
          refine wpAnyH_ready (rs := [13]) (by kernel_rfl) (by simp) ?_
          refine AllReadyH.cons (o := { dst := none, op := Op.store 55 (Operand.tmp 4) (Operand.tmp 29), type := 0, pos := "head.go:86", after := #[{ on := 12, ground := Ground.data }, { on := 11, ground := Ground.data }, { on := 10, ground := Ground.chain }, { on := 0, ground := Ground.phase }, { on := 1, ground := Ground.phase }, { on := 2, ground := Ground.phase }, { on := 3, ground := Ground.phase }, { on := 4, ground := Ground.phase }, { on := 5, ground := Ground.phase }, { on := 6, ground := Ground.phase }, { on := 7, ground := Ground.phase }, { on := 8, ground := Ground.phase }, { on := 9, ground := Ground.phase }, { on := 10, ground := Ground.phase }, { on := 11, ground := Ground.phase }, { on := 12, ground := Ground.phase }], guard := none }) rfl (fun K hK => ?_) AllReadyH.nil
          rw [if_pos (by rfl)]
          refine wp_store_row 55 _ _ rfl _ _ rfl rfl 55 _ hg4 rfl rfl (by simp [Value.oneCell']) ?_
          have k5 := k4.setRow hge hg4 (hd1 zs)
          have hg5 := setRow_heap _ _ _ (hd1 zs) _ _ hg4
          refine hK.out _ _ (HSS.out _ k5) (fun hHeld => ?_)
          clear hK K
          try simp only [Act.put, List.setIfInBounds_toArray, List.set_cons_zero, List.set_cons_succ]
          refine wpAnyH_done (by kernel_rfl) ?_ _
          go_wp2_with fail
          go_meet
          exact ⟨_, rfl, hge, hg5, k5⟩
      · go_simp
        have hg2 := heap_alloc_new w1.drew (.cells #[.int .i64 0, .string ⟨#[]⟩, .string ⟨#[]⟩, .string ⟨#[]⟩, .string ⟨#[]⟩, .string ⟨#[]⟩, .int .u8 0, .int .i64 0, .int .i64 0, .int .i64 0, .int .i64 0, .int .i64 0] 55)
        have k2 := k0.alloc (.cells #[.int .i64 0, .string ⟨#[]⟩, .string ⟨#[]⟩, .string ⟨#[]⟩, .string ⟨#[]⟩, .string ⟨#[]⟩, .int .u8 0, .int .i64 0, .int .i64 0, .int .i64 0, .int .i64 0, .int .i64 0] 55)
        have hge : w1.heap.size ≤ w1.drew.heap.size := k0.b.size
        refine hK.out _ _ (HSS.out _ k2) (fun hHeld => ?_)
        clear hK K
        try simp only [Act.put, List.setIfInBounds_toArray, List.set_cons_zero, List.set_cons_succ]
        refine wpAnyH_ready (rs := [7]) (by kernel_rfl) (by simp) ?_
        refine AllReadyH.cons (o := { dst := some 25, op := Op.call { callee := Callee.value (Operand.func 76), args := #[Operand.tmp 23, Operand.tmp 24], argTypes := #[22, 85] }, type := 9, pos := "head.go:86", after := #[{ on := 5, ground := Ground.data }, { on := 6, ground := Ground.data }, { on := 1, ground := Ground.chain }], guard := none }) rfl (fun K hK => ?_) AllReadyH.nil
        go_simp
        go_at_call 76
        refine (tx_w ad cap zs 0 100 w1 _ hb hl hc hc2 (HSR.out _ k2) k2 (by omega)).mono ?_
        rintro e x3 ⟨rfl, k3, st⟩
        have hg3 := st _ _ hg2
        clear st
        go_wp2_with fail
        refine hK.out _ _ (HSS.out _ k3) (fun hHeld => ?_)
        clear hK K
        try simp only [Act.put, List.setIfInBounds_toArray, List.set_cons_zero, List.set_cons_succ]
        refine wpAnyH_ready (rs := [10]) (by kernel_rfl) (by simp) ?_
        refine AllReadyH.cons (o := { dst := some 28, op := Op.call { callee := Callee.value (Operand.func 76), args := #[Operand.tmp 26, Operand.tmp 27], argTypes := #[22, 85] }, type := 9, pos := "head.go:86", after := #[{ on := 8, ground := Ground.data }, { on := 9, ground := Ground.data }, { on := 7, ground := Ground.chain }], guard := none }) rfl (fun K hK => ?_) AllReadyH.nil
        go_simp
        go_at_call 76
        refine (tx_w ad cap zs 157 257 w1 _ hb hl hc hc2 (HSR.out _ k3) k3 (by omega)).mono ?_
        rintro e x4 ⟨rfl, k4, st⟩
        have hg4 := st _ _ hg3
        clear st
        go_wp2_with fail
        refine hK.out _ _ (HSS.out _ k4) (fun hHeld => ?_)
        clear hK K
        try simp only [Act.put, List.setIfInBounds_toArray, List.set_cons_zero, List.set_cons_succ]
        refine wpAnyH_take (i := 11) (oi := { dst := some 29, op := Op.build 55 #[(0, Operand.tmp 19), (6, Operand.tmp 22), (1, Operand.tmp 25), (2, Operand.tmp 28)], type := 55, pos := "head.go:86", after := #[{ on := 1, ground := Ground.data }, { on := 4, ground := Ground.data }, { on := 7, ground := Ground.data }, { on := 10, ground := Ground.data }], guard := none }) (v := ?_) rfl (by kernel_rfl) (by kernel_rfl) (by kernel_rfl) (fun _ _ _ h => h) (Or.inl ⟨by rfl, ?_⟩) (by assumption) ?_
        rotate_left 1
        · (intro W hSw; obtain ⟨_, _, _, _, _, _⟩ := hSw; go_simp; try with_reducible rfl)
        try simp only [Act.put, List.setIfInBounds_toArray, List.set_cons_zero, List.set_cons_succ]
        refine wpAnyH_ready (rs := [13]) (by kernel_rfl) (by simp) ?_
        refine AllReadyH.cons (o := { dst := none, op := Op.store 55 (Operand.tmp 4) (Operand.tmp 29), type := 0, pos := "head.go:86", after := #[{ on := 12, ground := Ground.data }, { on := 11, ground := Ground.data }, { on := 10, ground := Ground.chain }, { on := 0, ground := Ground.phase }, { on := 1, ground := Ground.phase }, { on := 2, ground := Ground.phase }, { on := 3, ground := Ground.phase }, { on := 4, ground := Ground.phase }, { on := 5, ground := Ground.phase }, { on := 6, ground := Ground.phase }, { on := 7, ground := Ground.phase }, { on := 8, ground := Ground.phase }, { on := 9, ground := Ground.phase }, { on := 10, ground := Ground.phase }, { on := 11, ground := Ground.phase }, { on := 12, ground := Ground.phase }], guard := none }) rfl (fun K hK => ?_) AllReadyH.nil
        rw [if_pos (by rfl)]
        refine wp_store_row 55 _ _ rfl _ _ rfl rfl 55 _ hg4 rfl rfl (by simp [Value.oneCell']) ?_
        have k5 := k4.setRow hge hg4 (hd1 zs)
        have hg5 := setRow_heap _ _ _ (hd1 zs) _ _ hg4
        refine hK.out _ _ (HSS.out _ k5) (fun hHeld => ?_)
        clear hK K
        try simp only [Act.put, List.setIfInBounds_toArray, List.set_cons_zero, List.set_cons_succ]
        refine wpAnyH_done (by kernel_rfl) ?_ _
        go_wp2_with fail
        go_meet
        exact ⟨_, rfl, hge, hg5, k5⟩
    · go_simp
      have hg1 := heap_alloc_new w1.drew (.cells #[.int .i64 0, .string ⟨#[]⟩, .string ⟨#[]⟩, .string ⟨#[]⟩, .string ⟨#[]⟩, .string ⟨#[]⟩, .int .u8 0, .int .i64 0, .int .i64 0, .int .i64 0, .int .i64 0, .int .i64 0] 55)
      have k1 := k0.alloc (.cells #[.int .i64 0, .string ⟨#[]⟩, .string ⟨#[]⟩, .string ⟨#[]⟩, .string ⟨#[]⟩, .string ⟨#[]⟩, .int .u8 0, .int .i64 0, .int .i64 0, .int .i64 0, .int .i64 0, .int .i64 0] 55)
      have hge : w1.heap.size ≤ w1.drew.heap.size := k0.b.size
      refine hK.out _ _ (HSS.out _ k1) (fun hHeld => ?_)
      clear hK K
      try simp only [Act.put, List.setIfInBounds_toArray, List.set_cons_zero, List.set_cons_succ]
      refine wpAnyH_ready (rs := [1]) (by kernel_rfl) (by simp) ?_
      refine AllReadyH.cons (o := { dst := some 19, op := Op.call { callee := Callee.value (Operand.func 75), args := #[Operand.tmp 18], argTypes := #[22] }, type := 3, pos := "head.go:86", after := #[{ on := 0, ground := Ground.data }], guard := none }) rfl (fun K hK => ?_) AllReadyH.nil
      go_simp
      go_at_call 75
      refine (formOf_w ad cap zs _ hb hl hc hc2 (HSR.out _ k1) (HLA.out _ k1)).mono ?_
      rintro e x2 ⟨rfl, rfl⟩
      go_wp2_with fail
      refine hK.out _ _ (HSS.out _ k1) (fun hHeld => ?_)
      clear hK K
      try simp only [Act.put, List.setIfInBounds_toArray, List.set_cons_zero, List.set_cons_succ]
      refine wpAnyH_ready (rs := [7]) (by kernel_rfl) (by simp) ?_
      refine AllReadyH.cons (o := { dst := some 25, op := Op.call { callee := Callee.value (Operand.func 76), args := #[Operand.tmp 23, Operand.tmp 24], argTypes := #[22, 85] }, type := 9, pos := "head.go:86", after := #[{ on := 5, ground := Ground.data }, { on := 6, ground := Ground.data }, { on := 1, ground := Ground.chain }], guard := none }) rfl (fun K hK => ?_) AllReadyH.nil
      go_simp
      go_at_call 76
      refine (tx_w ad cap zs 0 100 w1 _ hb hl hc hc2 (HSR.out _ k1) k1 (by omega)).mono ?_
      rintro e x3 ⟨rfl, k3, st⟩
      have hg3 := st _ _ hg1
      clear st
      go_wp2_with fail
      refine hK.out _ _ (HSS.out _ k3) (fun hHeld => ?_)
      clear hK K
      try simp only [Act.put, List.setIfInBounds_toArray, List.set_cons_zero, List.set_cons_succ]
      refine wpAnyH_ready (rs := [10]) (by kernel_rfl) (by simp) ?_
      refine AllReadyH.cons (o := { dst := some 28, op := Op.call { callee := Callee.value (Operand.func 76), args := #[Operand.tmp 26, Operand.tmp 27], argTypes := #[22, 85] }, type := 9, pos := "head.go:86", after := #[{ on := 8, ground := Ground.data }, { on := 9, ground := Ground.data }, { on := 7, ground := Ground.chain }], guard := none }) rfl (fun K hK => ?_) AllReadyH.nil
      go_simp
      go_at_call 76
      refine (tx_w ad cap zs 157 257 w1 _ hb hl hc hc2 (HSR.out _ k3) k3 (by omega)).mono ?_
      rintro e x4 ⟨rfl, k4, st⟩
      have hg4 := st _ _ hg3
      clear st
      go_wp2_with fail
      refine hK.out _ _ (HSS.out _ k4) (fun hHeld => ?_)
      clear hK K
      try simp only [Act.put, List.setIfInBounds_toArray, List.set_cons_zero, List.set_cons_succ]
      refine wpAnyH_take (i := 11) (oi := { dst := some 29, op := Op.build 55 #[(0, Operand.tmp 19), (6, Operand.tmp 22), (1, Operand.tmp 25), (2, Operand.tmp 28)], type := 55, pos := "head.go:86", after := #[{ on := 1, ground := Ground.data }, { on := 4, ground := Ground.data }, { on := 7, ground := Ground.data }, { on := 10, ground := Ground.data }], guard := none }) (v := ?_) rfl (by kernel_rfl) (by kernel_rfl) (by kernel_rfl) (fun _ _ _ h => h) (Or.inl ⟨by rfl, ?_⟩) (by assumption) ?_
      rotate_left 1
      · (intro W hSw; obtain ⟨_, _, _, _, _, _⟩ := hSw; go_simp; try with_reducible rfl)
      try simp only [Act.put, List.setIfInBounds_toArray, List.set_cons_zero, List.set_cons_succ]
      refine wpAnyH_ready (rs := [13]) (by kernel_rfl) (by simp) ?_
      refine AllReadyH.cons (o := { dst := none, op := Op.store 55 (Operand.tmp 4) (Operand.tmp 29), type := 0, pos := "head.go:86", after := #[{ on := 12, ground := Ground.data }, { on := 11, ground := Ground.data }, { on := 10, ground := Ground.chain }, { on := 0, ground := Ground.phase }, { on := 1, ground := Ground.phase }, { on := 2, ground := Ground.phase }, { on := 3, ground := Ground.phase }, { on := 4, ground := Ground.phase }, { on := 5, ground := Ground.phase }, { on := 6, ground := Ground.phase }, { on := 7, ground := Ground.phase }, { on := 8, ground := Ground.phase }, { on := 9, ground := Ground.phase }, { on := 10, ground := Ground.phase }, { on := 11, ground := Ground.phase }, { on := 12, ground := Ground.phase }], guard := none }) rfl (fun K hK => ?_) AllReadyH.nil
      rw [if_pos (by rfl)]
      refine wp_store_row 55 _ _ rfl _ _ rfl rfl 55 _ hg4 rfl rfl (by simp [Value.oneCell']) ?_
      have k5 := k4.setRow hge hg4 (hd1 zs)
      have hg5 := setRow_heap _ _ _ (hd1 zs) _ _ hg4
      refine hK.out _ _ (HSS.out _ k5) (fun hHeld => ?_)
      clear hK K
      try simp only [Act.put, List.setIfInBounds_toArray, List.set_cons_zero, List.set_cons_succ]
      refine wpAnyH_done (by kernel_rfl) ?_ _
      go_wp2_with fail
      go_meet
      exact ⟨_, rfl, hge, hg5, k5⟩
  case rest =>
    obtain ⟨g, rfl, hge, hg, k⟩ := hcut
    go_wp2_with fail
    refine (numbers_w g wc).mono ?_
    rintro e w3 ⟨rfl, hw3⟩
    have k3 : Kp w1 w3 := by rw [hw3]; exact (k.alloc _).drew
    have g3 : w3.heap[g]? = some (.cells (hdN zs 0) 55 (0, 0)) := by
      rw [hw3]
      exact (Below.heap_alloc _ _ _ (lt_of_heap hg)).trans hg
    clear hw3 hg k
    unfold nums5
    go_wp2_with fail
    go_loopw [31] (fun t wz => ∃ k : Nat, k ≤ 5 ∧ t = .int .i64 (k : Int) ∧ Kp w1 wz ∧ wz.heap[g]? = some (.cells (hdN zs k) 55 (0, 0)) ∧ Hid (∀ j, j < k → eN zs j = 0)) (fun t _ => 5 - (intOf t).toNat)
    case atStart => exact ⟨0, by omega, rfl, k3, g3, fun j hj => absurd hj (by omega)⟩
    case round =>
      obtain ⟨k, hk, hi, kz, gz, HE⟩ := hrel
      clear k3 g3
      rcases (show k = 0 ∨ k = 1 ∨ k = 2 ∨ k = 3 ∨ k = 4 ∨ k = 5 by omega) with rfl | rfl | rfl | rfl | rfl | rfl
      · obtain rfl : _ = Value.int .i64 0 := hi
        have hla := HLA.out wr kz
        have hp0 := hla.f0
        have hp1 := hla.f1
        clear hla
        have hix := fun a0 a1 a2 a3 a4 W => idx56_0 a0 a1 a2 a3 a4 W
        have ka : Kp w1 (wr.alloc (.cells #[.int .i64 100, .int .i64 108] 85)) := kz.alloc _
        have ga : (wr.alloc (.cells #[.int .i64 100, .int .i64 108] 85)).heap[g]? = some (.cells (hdN zs 0) 55 (0, 0)) := (Below.heap_alloc _ _ _ (lt_of_heap gz)).trans gz
        have hpa0 := new_cell wr #[.int .i64 100, .int .i64 108] 85 0 _ rfl
        have hpa1 := new_cell wr #[.int .i64 100, .int .i64 108] 85 1 _ rfl
        have hcut : (Instr.slice 22 (.slice (some ad) 512 cap) (some (.int .i64 100)) (some (.int .i64 108)) none).run Tryz.prog (wr.alloc (.cells #[.int .i64 100, .int .i64 108] 85)) = .ok (.slice (some ⟨ad.block, ad.off + 100, none⟩) 8 (cap - 100)) (wr.alloc (.cells #[.int .i64 100, .int .i64 108] 85)) := run_cut _ ad 512 cap 100 108 (by omega) (by omega) (by omega) (by omega)
        have hlen : (fld zs 100 108).length = 8 := fld_length zs 100 108 (by rw [hl.out]; omega)
        have q := parse_w (some ⟨ad.block, ad.off + 100, none⟩) (cap - 100) (fld zs 100 108) (wr.alloc (.cells #[.int .i64 100, .int .i64 108] 85)) (by rw [hlen]; omega) (by omega) (bytes_fld (HSR.out _ ka) hb.out hl.out 100 108 (by omega) (by omega) (by omega))
        rw [hlen] at q
        have hcg : (wr.alloc (.cells #[.int .i64 100, .int .i64 108] 85)).cell? ⟨g, 7, none⟩ = some (.int .i64 0) := by simp [World.cell?, ga, hdN, nvl]
        have hfz : (wr.alloc (.cells #[.int .i64 100, .int .i64 108] 85)).frozen? ⟨g, 7, none⟩ = false := by simp [World.frozen?, ga]
        have HKA : Hid (Kp w1 (wr.alloc (.cells #[.int .i64 100, .int .i64 108] 85))) := ka
        have HGA : Hid ((wr.alloc (.cells #[.int .i64 100, .int .i64 108] 85)).heap[g]? = some (.cells (hdN zs 0) 55 (0, 0))) := ga
        have ra : (wr.alloc (.cells #[.int .i64 100, .int .i64 108] 85)).heap[w.heap.size]? = some (.cells hzero 55 (0, 0)) := (ka.b.block _ (lt_of_heap r1)).trans r1
        have HRA : Hid _ := ra
        have hEk : Hid (eN zs 0 = resE (parseO (fld zs 100 108))) := rfl
        have hVk : Hid (vN zs 0 = resN (parseO (fld zs 100 108))) := rfl
        clear ka ga kz gz ra hlen
        generalize resE (parseO (fld zs 100 108)) = ek at *
        generalize resN (parseO (fld zs 100 108)) = vk at *
        go_upto_region 10 with fail
        generalize hwa : wr.alloc (.cells #[.int .i64 100, .int .i64 108] 85) = wa at *
        clear hwa
        by_cases he : ek = 0
        · subst he
          have ks : Kp w1 (wa.setCell ⟨g, 7, none⟩ (.int .i64 vk)) := by
            rw [setCell_eq_setRow _ _ _ _ _ _ _ HGA.out]; exact HKA.out.setRow hge HGA.out _
          have gs : (wa.setCell ⟨g, 7, none⟩ (.int .i64 vk)).heap[g]? = some (.cells (hdN zs 1) 55 (0, 0)) := by
            rw [setCell_eq_setRow _ _ _ _ _ _ _ HGA.out, setRow_heap _ _ _ _ _ _ HGA.out]
            have := hVk.out
            simp [hdN, nvl, this]
          have hE2 : Hid (∀ j, j < 1 → eN zs j = 0) := fun j hj => by
            by_cases e : j = 0
            · subst e; exact hEk.out
            · exact HE.out j (by omega)
          have HKS : Hid _ := ks
          have HGS : Hid _ := gs
          clear ks gs
          go_wp2_with (go_at_call 77; refine q.mono ?_; rintro e w' ⟨rfl, rfl⟩)
          go_roundw
          case rel => exact ⟨1, by omega, by first | rfl | go_num, HKS.out, HGS.out, hE2.out⟩
          case measure => simp [intOf]
        · have kf : Kp w (wa.setRow w.heap.size hzero) := Kp.setRow ⟨b1.trans (HKA.out.b.mono b1.size)⟩ (Nat.le_refl _) HRA.out _
          have hf := setRow_heap _ _ _ hzero _ _ HRA.out
          have HNo : Hid (DecNo zs (.returned (.tuple #[.agg hzero, .int .i64 ek]))) := ⟨0, by omega, HE.out, by rw [hEk.out]; exact he, by rw [hEk.out]⟩
          have HKF : Hid _ := kf
          have HF : Hid _ := hf
          have HR2 : Hid (wa.heap[w.heap.size]? = some (.cells #[.int .i64 0, .string ⟨#[]⟩, .string ⟨#[]⟩, .string ⟨#[]⟩, .string ⟨#[]⟩, .string ⟨#[]⟩, .int .u8 0, .int .i64 0, .int .i64 0, .int .i64 0, .int .i64 0, .int .i64 0] 55 (0, 0))) := HRA.out
          clear kf hf
          go_wp2_with (first | (go_at_call 77; refine q.mono ?_; rintro e w' ⟨rfl, rfl⟩) | (refine wpList_store_row rfl 55 _ _ rfl _ _ rfl rfl 55 _ HR2.out rfl rfl (by simp [Value.oneCell']) ?_))
          have hld := run_loadVar_row _ _ _ 55 _ _ _ HF.out Tryz.underlying55 rfl inf25
          unfold hzero at hld
          exact bodyPost_ret (by rw [results_cell_tmp rfl]; simp [asAddr, hld, hzero]) rfl ⟨.inl HNo.out, HKF.out.b⟩
      · obtain rfl : _ = Value.int .i64 1 := hi
        have hla := HLA.out wr kz
        have hp0 := hla.f2
        have hp1 := hla.f3
        clear hla
        have hix := fun a0 a1 a2 a3 a4 W => idx56_1 a0 a1 a2 a3 a4 W
        have ka : Kp w1 (wr.alloc (.cells #[.int .i64 108, .int .i64 116] 85)) := kz.alloc _
        have ga : (wr.alloc (.cells #[.int .i64 108, .int .i64 116] 85)).heap[g]? = some (.cells (hdN zs 1) 55 (0, 0)) := (Below.heap_alloc _ _ _ (lt_of_heap gz)).trans gz
        have hpa0 := new_cell wr #[.int .i64 108, .int .i64 116] 85 0 _ rfl
        have hpa1 := new_cell wr #[.int .i64 108, .int .i64 116] 85 1 _ rfl
        have hcut : (Instr.slice 22 (.slice (some ad) 512 cap) (some (.int .i64 108)) (some (.int .i64 116)) none).run Tryz.prog (wr.alloc (.cells #[.int .i64 108, .int .i64 116] 85)) = .ok (.slice (some ⟨ad.block, ad.off + 108, none⟩) 8 (cap - 108)) (wr.alloc (.cells #[.int .i64 108, .int .i64 116] 85)) := run_cut _ ad 512 cap 108 116 (by omega) (by omega) (by omega) (by omega)
        have hlen : (fld zs 108 116).length = 8 := fld_length zs 108 116 (by rw [hl.out]; omega)
        have q := parse_w (some ⟨ad.block, ad.off + 108, none⟩) (cap - 108) (fld zs 108 116) (wr.alloc (.cells #[.int .i64 108, .int .i64 116] 85)) (by rw [hlen]; omega) (by omega) (bytes_fld (HSR.out _ ka) hb.out hl.out 108 116 (by omega) (by omega) (by omega))
        rw [hlen] at q
        have hcg : (wr.alloc (.cells #[.int .i64 108, .int .i64 116] 85)).cell? ⟨g, 8, none⟩ = some (.int .i64 0) := by simp [World.cell?, ga, hdN, nvl]
        have hfz : (wr.alloc (.cells #[.int .i64 108, .int .i64 116] 85)).frozen? ⟨g, 8, none⟩ = false := by simp [World.frozen?, ga]
        have HKA : Hid (Kp w1 (wr.alloc (.cells #[.int .i64 108, .int .i64 116] 85))) := ka
        have HGA : Hid ((wr.alloc (.cells #[.int .i64 108, .int .i64 116] 85)).heap[g]? = some (.cells (hdN zs 1) 55 (0, 0))) := ga
        have ra : (wr.alloc (.cells #[.int .i64 108, .int .i64 116] 85)).heap[w.heap.size]? = some (.cells hzero 55 (0, 0)) := (ka.b.block _ (lt_of_heap r1)).trans r1
        have HRA : Hid _ := ra
        have hEk : Hid (eN zs 1 = resE (parseO (fld zs 108 116))) := rfl
        have hVk : Hid (vN zs 1 = resN (parseO (fld zs 108 116))) := rfl
        clear ka ga kz gz ra hlen
        generalize resE (parseO (fld zs 108 116)) = ek at *
        generalize resN (parseO (fld zs 108 116)) = vk at *
        go_upto_region 10 with fail
        generalize hwa : wr.alloc (.cells #[.int .i64 108, .int .i64 116] 85) = wa at *
        clear hwa
        by_cases he : ek = 0
        · subst he
          have ks : Kp w1 (wa.setCell ⟨g, 8, none⟩ (.int .i64 vk)) := by
            rw [setCell_eq_setRow _ _ _ _ _ _ _ HGA.out]; exact HKA.out.setRow hge HGA.out _
          have gs : (wa.setCell ⟨g, 8, none⟩ (.int .i64 vk)).heap[g]? = some (.cells (hdN zs 2) 55 (0, 0)) := by
            rw [setCell_eq_setRow _ _ _ _ _ _ _ HGA.out, setRow_heap _ _ _ _ _ _ HGA.out]
            have := hVk.out
            simp [hdN, nvl, this]
          have hE2 : Hid (∀ j, j < 2 → eN zs j = 0) := fun j hj => by
            by_cases e : j = 1
            · subst e; exact hEk.out
            · exact HE.out j (by omega)
          have HKS : Hid _ := ks
          have HGS : Hid _ := gs
          clear ks gs
          go_wp2_with (go_at_call 77; refine q.mono ?_; rintro e w' ⟨rfl, rfl⟩)
          go_roundw
          case rel => exact ⟨2, by omega, by first | rfl | go_num, HKS.out, HGS.out, hE2.out⟩
          case measure => simp [intOf]
        · have kf : Kp w (wa.setRow w.heap.size hzero) := Kp.setRow ⟨b1.trans (HKA.out.b.mono b1.size)⟩ (Nat.le_refl _) HRA.out _
          have hf := setRow_heap _ _ _ hzero _ _ HRA.out
          have HNo : Hid (DecNo zs (.returned (.tuple #[.agg hzero, .int .i64 ek]))) := ⟨1, by omega, HE.out, by rw [hEk.out]; exact he, by rw [hEk.out]⟩
          have HKF : Hid _ := kf
          have HF : Hid _ := hf
          have HR2 : Hid (wa.heap[w.heap.size]? = some (.cells #[.int .i64 0, .string ⟨#[]⟩, .string ⟨#[]⟩, .string ⟨#[]⟩, .string ⟨#[]⟩, .string ⟨#[]⟩, .int .u8 0, .int .i64 0, .int .i64 0, .int .i64 0, .int .i64 0, .int .i64 0] 55 (0, 0))) := HRA.out
          clear kf hf
          go_wp2_with (first | (go_at_call 77; refine q.mono ?_; rintro e w' ⟨rfl, rfl⟩) | (refine wpList_store_row rfl 55 _ _ rfl _ _ rfl rfl 55 _ HR2.out rfl rfl (by simp [Value.oneCell']) ?_))
          have hld := run_loadVar_row _ _ _ 55 _ _ _ HF.out Tryz.underlying55 rfl inf25
          unfold hzero at hld
          exact bodyPost_ret (by rw [results_cell_tmp rfl]; simp [asAddr, hld, hzero]) rfl ⟨.inl HNo.out, HKF.out.b⟩
      · obtain rfl : _ = Value.int .i64 2 := hi
        have hla := HLA.out wr kz
        have hp0 := hla.f4
        have hp1 := hla.f5
        clear hla
        have hix := fun a0 a1 a2 a3 a4 W => idx56_2 a0 a1 a2 a3 a4 W
        have ka : Kp w1 (wr.alloc (.cells #[.int .i64 116, .int .i64 124] 85)) := kz.alloc _
        have ga : (wr.alloc (.cells #[.int .i64 116, .int .i64 124] 85)).heap[g]? = some (.cells (hdN zs 2) 55 (0, 0)) := (Below.heap_alloc _ _ _ (lt_of_heap gz)).trans gz
        have hpa0 := new_cell wr #[.int .i64 116, .int .i64 124] 85 0 _ rfl
        have hpa1 := new_cell wr #[.int .i64 116, .int .i64 124] 85 1 _ rfl
        have hcut : (Instr.slice 22 (.slice (some ad) 512 cap) (some (.int .i64 116)) (some (.int .i64 124)) none).run Tryz.prog (wr.alloc (.cells #[.int .i64 116, .int .i64 124] 85)) = .ok (.slice (some ⟨ad.block, ad.off + 116, none⟩) 8 (cap - 116)) (wr.alloc (.cells #[.int .i64 116, .int .i64 124] 85)) := run_cut _ ad 512 cap 116 124 (by omega) (by omega) (by omega) (by omega)
        have hlen : (fld zs 116 124).length = 8 := fld_length zs 116 124 (by rw [hl.out]; omega)
        have q := parse_w (some ⟨ad.block, ad.off + 116, none⟩) (cap - 116) (fld zs 116 124) (wr.alloc (.cells #[.int .i64 116, .int .i64 124] 85)) (by rw [hlen]; omega) (by omega) (bytes_fld (HSR.out _ ka) hb.out hl.out 116 124 (by omega) (by omega) (by omega))
        rw [hlen] at q
        have hcg : (wr.alloc (.cells #[.int .i64 116, .int .i64 124] 85)).cell? ⟨g, 9, none⟩ = some (.int .i64 0) := by simp [World.cell?, ga, hdN, nvl]
        have hfz : (wr.alloc (.cells #[.int .i64 116, .int .i64 124] 85)).frozen? ⟨g, 9, none⟩ = false := by simp [World.frozen?, ga]
        have HKA : Hid (Kp w1 (wr.alloc (.cells #[.int .i64 116, .int .i64 124] 85))) := ka
        have HGA : Hid ((wr.alloc (.cells #[.int .i64 116, .int .i64 124] 85)).heap[g]? = some (.cells (hdN zs 2) 55 (0, 0))) := ga
        have ra : (wr.alloc (.cells #[.int .i64 116, .int .i64 124] 85)).heap[w.heap.size]? = some (.cells hzero 55 (0, 0)) := (ka.b.block _ (lt_of_heap r1)).trans r1
        have HRA : Hid _ := ra
        have hEk : Hid (eN zs 2 = resE (parseO (fld zs 116 124))) := rfl
        have hVk : Hid (vN zs 2 = resN (parseO (fld zs 116 124))) := rfl
        clear ka ga kz gz ra hlen
        generalize resE (parseO (fld zs 116 124)) = ek at *
        generalize resN (parseO (fld zs 116 124)) = vk at *
        go_upto_region 10 with fail
        generalize hwa : wr.alloc (.cells #[.int .i64 116, .int .i64 124] 85) = wa at *
        clear hwa
        by_cases he : ek = 0
        · subst he
          have ks : Kp w1 (wa.setCell ⟨g, 9, none⟩ (.int .i64 vk)) := by
            rw [setCell_eq_setRow _ _ _ _ _ _ _ HGA.out]; exact HKA.out.setRow hge HGA.out _
          have gs : (wa.setCell ⟨g, 9, none⟩ (.int .i64 vk)).heap[g]? = some (.cells (hdN zs 3) 55 (0, 0)) := by
            rw [setCell_eq_setRow _ _ _ _ _ _ _ HGA.out, setRow_heap _ _ _ _ _ _ HGA.out]
            have := hVk.out
            simp [hdN, nvl, this]
          have hE2 : Hid (∀ j, j < 3 → eN zs j = 0) := fun j hj => by
            by_cases e : j = 2
            · subst e; exact hEk.out
            · exact HE.out j (by omega)
          have HKS : Hid _ := ks
          have HGS : Hid _ := gs
          clear ks gs
          go_wp2_with (go_at_call 77; refine q.mono ?_; rintro e w' ⟨rfl, rfl⟩)
          go_roundw
          case rel => exact ⟨3, by omega, by first | rfl | go_num, HKS.out, HGS.out, hE2.out⟩
          case measure => simp [intOf]
        · have kf : Kp w (wa.setRow w.heap.size hzero) := Kp.setRow ⟨b1.trans (HKA.out.b.mono b1.size)⟩ (Nat.le_refl _) HRA.out _
          have hf := setRow_heap _ _ _ hzero _ _ HRA.out
          have HNo : Hid (DecNo zs (.returned (.tuple #[.agg hzero, .int .i64 ek]))) := ⟨2, by omega, HE.out, by rw [hEk.out]; exact he, by rw [hEk.out]⟩
          have HKF : Hid _ := kf
          have HF : Hid _ := hf
          have HR2 : Hid (wa.heap[w.heap.size]? = some (.cells #[.int .i64 0, .string ⟨#[]⟩, .string ⟨#[]⟩, .string ⟨#[]⟩, .string ⟨#[]⟩, .string ⟨#[]⟩, .int .u8 0, .int .i64 0, .int .i64 0, .int .i64 0, .int .i64 0, .int .i64 0] 55 (0, 0))) := HRA.out
          clear kf hf
          go_wp2_with (first | (go_at_call 77; refine q.mono ?_; rintro e w' ⟨rfl, rfl⟩) | (refine wpList_store_row rfl 55 _ _ rfl _ _ rfl rfl 55 _ HR2.out rfl rfl (by simp [Value.oneCell']) ?_))
          have hld := run_loadVar_row _ _ _ 55 _ _ _ HF.out Tryz.underlying55 rfl inf25
          unfold hzero at hld
          exact bodyPost_ret (by rw [results_cell_tmp rfl]; simp [asAddr, hld, hzero]) rfl ⟨.inl HNo.out, HKF.out.b⟩
      · obtain rfl : _ = Value.int .i64 3 := hi
        have hla := HLA.out wr kz
        have hp0 := hla.f6
        have hp1 := hla.f7
        clear hla
        have hix := fun a0 a1 a2 a3 a4 W => idx56_3 a0 a1 a2 a3 a4 W
        have ka : Kp w1 (wr.alloc (.cells #[.int .i64 124, .int .i64 136] 85)) := kz.alloc _
        have ga : (wr.alloc (.cells #[.int .i64 124, .int .i64 136] 85)).heap[g]? = some (.cells (hdN zs 3) 55 (0, 0)) := (Below.heap_alloc _ _ _ (lt_of_heap gz)).trans gz
        have hpa0 := new_cell wr #[.int .i64 124, .int .i64 136] 85 0 _ rfl
        have hpa1 := new_cell wr #[.int .i64 124, .int .i64 136] 85 1 _ rfl
        have hcut : (Instr.slice 22 (.slice (some ad) 512 cap) (some (.int .i64 124)) (some (.int .i64 136)) none).run Tryz.prog (wr.alloc (.cells #[.int .i64 124, .int .i64 136] 85)) = .ok (.slice (some ⟨ad.block, ad.off + 124, none⟩) 12 (cap - 124)) (wr.alloc (.cells #[.int .i64 124, .int .i64 136] 85)) := run_cut _ ad 512 cap 124 136 (by omega) (by omega) (by omega) (by omega)
        have hlen : (fld zs 124 136).length = 12 := fld_length zs 124 136 (by rw [hl.out]; omega)
        have q := parse_w (some ⟨ad.block, ad.off + 124, none⟩) (cap - 124) (fld zs 124 136) (wr.alloc (.cells #[.int .i64 124, .int .i64 136] 85)) (by rw [hlen]; omega) (by omega) (bytes_fld (HSR.out _ ka) hb.out hl.out 124 136 (by omega) (by omega) (by omega))
        rw [hlen] at q
        have hcg : (wr.alloc (.cells #[.int .i64 124, .int .i64 136] 85)).cell? ⟨g, 10, none⟩ = some (.int .i64 0) := by simp [World.cell?, ga, hdN, nvl]
        have hfz : (wr.alloc (.cells #[.int .i64 124, .int .i64 136] 85)).frozen? ⟨g, 10, none⟩ = false := by simp [World.frozen?, ga]
        have HKA : Hid (Kp w1 (wr.alloc (.cells #[.int .i64 124, .int .i64 136] 85))) := ka
        have HGA : Hid ((wr.alloc (.cells #[.int .i64 124, .int .i64 136] 85)).heap[g]? = some (.cells (hdN zs 3) 55 (0, 0))) := ga
        have ra : (wr.alloc (.cells #[.int .i64 124, .int .i64 136] 85)).heap[w.heap.size]? = some (.cells hzero 55 (0, 0)) := (ka.b.block _ (lt_of_heap r1)).trans r1
        have HRA : Hid _ := ra
        have hEk : Hid (eN zs 3 = resE (parseO (fld zs 124 136))) := rfl
        have hVk : Hid (vN zs 3 = resN (parseO (fld zs 124 136))) := rfl
        clear ka ga kz gz ra hlen
        generalize resE (parseO (fld zs 124 136)) = ek at *
        generalize resN (parseO (fld zs 124 136)) = vk at *
        go_upto_region 10 with fail
        generalize hwa : wr.alloc (.cells #[.int .i64 124, .int .i64 136] 85) = wa at *
        clear hwa
        by_cases he : ek = 0
        · subst he
          have ks : Kp w1 (wa.setCell ⟨g, 10, none⟩ (.int .i64 vk)) := by
            rw [setCell_eq_setRow _ _ _ _ _ _ _ HGA.out]; exact HKA.out.setRow hge HGA.out _
          have gs : (wa.setCell ⟨g, 10, none⟩ (.int .i64 vk)).heap[g]? = some (.cells (hdN zs 4) 55 (0, 0)) := by
            rw [setCell_eq_setRow _ _ _ _ _ _ _ HGA.out, setRow_heap _ _ _ _ _ _ HGA.out]
            have := hVk.out
            simp [hdN, nvl, this]
          have hE2 : Hid (∀ j, j < 4 → eN zs j = 0) := fun j hj => by
            by_cases e : j = 3
            · subst e; exact hEk.out
            · exact HE.out j (by omega)
          have HKS : Hid _ := ks
          have HGS : Hid _ := gs
          clear ks gs
          go_wp2_with (go_at_call 77; refine q.mono ?_; rintro e w' ⟨rfl, rfl⟩)
          go_roundw
          case rel => exact ⟨4, by omega, by first | rfl | go_num, HKS.out, HGS.out, hE2.out⟩
          case measure => simp [intOf]
        · have kf : Kp w (wa.setRow w.heap.size hzero) := Kp.setRow ⟨b1.trans (HKA.out.b.mono b1.size)⟩ (Nat.le_refl _) HRA.out _
          have hf := setRow_heap _ _ _ hzero _ _ HRA.out
          have HNo : Hid (DecNo zs (.returned (.tuple #[.agg hzero, .int .i64 ek]))) := ⟨3, by omega, HE.out, by rw [hEk.out]; exact he, by rw [hEk.out]⟩
          have HKF : Hid _ := kf
          have HF : Hid _ := hf
          have HR2 : Hid (wa.heap[w.heap.size]? = some (.cells #[.int .i64 0, .string ⟨#[]⟩, .string ⟨#[]⟩, .string ⟨#[]⟩, .string ⟨#[]⟩, .string ⟨#[]⟩, .int .u8 0, .int .i64 0, .int .i64 0, .int .i64 0, .int .i64 0, .int .i64 0] 55 (0, 0))) := HRA.out
          clear kf hf
          go_wp2_with (first | (go_at_call 77; refine q.mono ?_; rintro e w' ⟨rfl, rfl⟩) | (refine wpList_store_row rfl 55 _ _ rfl _ _ rfl rfl 55 _ HR2.out rfl rfl (by simp [Value.oneCell']) ?_))
          have hld := run_loadVar_row _ _ _ 55 _ _ _ HF.out Tryz.underlying55 rfl inf25
          unfold hzero at hld
          exact bodyPost_ret (by rw [results_cell_tmp rfl]; simp [asAddr, hld, hzero]) rfl ⟨.inl HNo.out, HKF.out.b⟩
      · obtain rfl : _ = Value.int .i64 4 := hi
        have hla := HLA.out wr kz
        have hp0 := hla.f8
        have hp1 := hla.f9
        clear hla
        have hix := fun a0 a1 a2 a3 a4 W => idx56_4 a0 a1 a2 a3 a4 W
        have ka : Kp w1 (wr.alloc (.cells #[.int .i64 136, .int .i64 148] 85)) := kz.alloc _
        have ga : (wr.alloc (.cells #[.int .i64 136, .int .i64 148] 85)).heap[g]? = some (.cells (hdN zs 4) 55 (0, 0)) := (Below.heap_alloc _ _ _ (lt_of_heap gz)).trans gz
        have hpa0 := new_cell wr #[.int .i64 136, .int .i64 148] 85 0 _ rfl
        have hpa1 := new_cell wr #[.int .i64 136, .int .i64 148] 85 1 _ rfl
        have hcut : (Instr.slice 22 (.slice (some ad) 512 cap) (some (.int .i64 136)) (some (.int .i64 148)) none).run Tryz.prog (wr.alloc (.cells #[.int .i64 136, .int .i64 148] 85)) = .ok (.slice (some ⟨ad.block, ad.off + 136, none⟩) 12 (cap - 136)) (wr.alloc (.cells #[.int .i64 136, .int .i64 148] 85)) := run_cut _ ad 512 cap 136 148 (by omega) (by omega) (by omega) (by omega)
        have hlen : (fld zs 136 148).length = 12 := fld_length zs 136 148 (by rw [hl.out]; omega)
        have q := parse_w (some ⟨ad.block, ad.off + 136, none⟩) (cap - 136) (fld zs 136 148) (wr.alloc (.cells #[.int .i64 136, .int .i64 148] 85)) (by rw [hlen]; omega) (by omega) (bytes_fld (HSR.out _ ka) hb.out hl.out 136 148 (by omega) (by omega) (by omega))
        rw [hlen] at q
        have hcg : (wr.alloc (.cells #[.int .i64 136, .int .i64 148] 85)).cell? ⟨g, 11, none⟩ = some (.int .i64 0) := by simp [World.cell?, ga, hdN, nvl]
        have hfz : (wr.alloc (.cells #[.int .i64 136, .int .i64 148] 85)).frozen? ⟨g, 11, none⟩ = false := by simp [World.frozen?, ga]
        have HKA : Hid (Kp w1 (wr.alloc (.cells #[.int .i64 136, .int .i64 148] 85))) := ka
        have HGA : Hid ((wr.alloc (.cells #[.int .i64 136, .int .i64 148] 85)).heap[g]? = some (.cells (hdN zs 4) 55 (0, 0))) := ga
        have ra : (wr.alloc (.cells #[.int .i64 136, .int .i64 148] 85)).heap[w.heap.size]? = some (.cells hzero 55 (0, 0)) := (ka.b.block _ (lt_of_heap r1)).trans r1
        have HRA : Hid _ := ra
        have hEk : Hid (eN zs 4 = resE (parseO (fld zs 136 148))) := rfl
        have hVk : Hid (vN zs 4 = resN (parseO (fld zs 136 148))) := rfl
        clear ka ga kz gz ra hlen
        generalize resE (parseO (fld zs 136 148)) = ek at *
        generalize resN (parseO (fld zs 136 148)) = vk at *
        go_upto_region 10 with fail
        generalize hwa : wr.alloc (.cells #[.int .i64 136, .int .i64 148] 85) = wa at *
        clear hwa
        by_cases he : ek = 0
        · subst he
          have ks : Kp w1 (wa.setCell ⟨g, 11, none⟩ (.int .i64 vk)) := by
            rw [setCell_eq_setRow _ _ _ _ _ _ _ HGA.out]; exact HKA.out.setRow hge HGA.out _
          have gs : (wa.setCell ⟨g, 11, none⟩ (.int .i64 vk)).heap[g]? = some (.cells (hdN zs 5) 55 (0, 0)) := by
            rw [setCell_eq_setRow _ _ _ _ _ _ _ HGA.out, setRow_heap _ _ _ _ _ _ HGA.out]
            have := hVk.out
            simp [hdN, nvl, this]
          have hE2 : Hid (∀ j, j < 5 → eN zs j = 0) := fun j hj => by
            by_cases e : j = 4
            · subst e; exact hEk.out
            · exact HE.out j (by omega)
          have HKS : Hid _ := ks
          have HGS : Hid _ := gs
          clear ks gs
          go_wp2_with (go_at_call 77; refine q.mono ?_; rintro e w' ⟨rfl, rfl⟩)
          go_roundw
          case rel => exact ⟨5, by omega, by first | rfl | go_num, HKS.out, HGS.out, hE2.out⟩
          case measure => simp [intOf]
        · have kf : Kp w (wa.setRow w.heap.size hzero) := Kp.setRow ⟨b1.trans (HKA.out.b.mono b1.size)⟩ (Nat.le_refl _) HRA.out _
          have hf := setRow_heap _ _ _ hzero _ _ HRA.out
          have HNo : Hid (DecNo zs (.returned (.tuple #[.agg hzero, .int .i64 ek]))) := ⟨4, by omega, HE.out, by rw [hEk.out]; exact he, by rw [hEk.out]⟩
          have HKF : Hid _ := kf
          have HF : Hid _ := hf
          have HR2 : Hid (wa.heap[w.heap.size]? = some (.cells #[.int .i64 0, .string ⟨#[]⟩, .string ⟨#[]⟩, .string ⟨#[]⟩, .string ⟨#[]⟩, .string ⟨#[]⟩, .int .u8 0, .int .i64 0, .int .i64 0, .int .i64 0, .int .i64 0, .int .i64 0] 55 (0, 0))) := HRA.out
          clear kf hf
          go_wp2_with (first | (go_at_call 77; refine q.mono ?_; rintro e w' ⟨rfl, rfl⟩) | (refine wpList_store_row rfl 55 _ _ rfl _ _ rfl rfl 55 _ HR2.out rfl rfl (by simp [Value.oneCell']) ?_))
          have hld := run_loadVar_row _ _ _ 55 _ _ _ HF.out Tryz.underlying55 rfl inf25
          unfold hzero at hld
          exact bodyPost_ret (by rw [results_cell_tmp rfl]; simp [asAddr, hld, hzero]) rfl ⟨.inl HNo.out, HKF.out.b⟩
      · obtain rfl : _ = Value.int .i64 5 := hi
        have c0 : wr.cell? ⟨g, 0, none⟩ = some (.int .i64 (formL zs)) := by simp [World.cell?, gz, hdN]
        have hf3 : formL zs = 0 ∨ formL zs = 1 ∨ formL zs = 2 := by unfold formL; split; simp; split <;> simp
        have HEA : Hid (∀ j, j < 5 → eN zs j = 0) := HE.out
        rcases hf3 with hf | hf | hf
        · rw [hf] at c0
          have hC : hdN zs 5 = hdF zs := by simp [hdN, hdF, isU, notOld, hf, nvl]
          rw [hC] at gz
          clear hC
          have r5 : wr.heap[w.heap.size]? = some (.cells hzero 55 (0, 0)) := (kz.b.block _ (lt_of_heap r1)).trans r1
          have H5 : Hid (wr.heap[g]? = some (.cells (hdF zs) 55 (0, 0))) := gz
          have HR5 : Hid (wr.heap[w.heap.size]? = some (.cells hzero 55 (0, 0))) := r5
          have kf : Kp w (wr.setRow w.heap.size (hdF zs)) := Kp.setRow ⟨b1.trans (kz.b.mono b1.size)⟩ (Nat.le_refl _) r5 _
          have HKF : Hid (Kp w (wr.setRow w.heap.size (hdF zs))) := kf
          have HF : Hid ((wr.setRow w.heap.size (hdF zs)).heap[w.heap.size]? = some (.cells (hdF zs) 55 (0, 0))) := setRow_heap _ _ _ (hdF zs) _ _ r5
          have si : Hid ((Tryz.prog.info? 55).map (·.size) = some (hdF zs).size) := inf25
          have sj : Hid (hzero.size = (hdF zs).size) := rfl
          have sk : Hid ((hdF zs).all (·.oneCell') = true) := by show _ = _; simp [hdF, Value.oneCell']
          have HY : Hid (DecYes zs (.returned (.tuple #[.agg (hdF zs), .int .i64 0]))) := ⟨HEA.out, rfl⟩
          clear r5 kf
          generalize hdF zs = C at *
          go_wp2_with (first | (refine wpList_load_row rfl 55 _ rfl g rfl 55 C _ _ H5.out Tryz.underlying55 rfl si.out ?_) | (refine wpList_store_row rfl 55 _ _ rfl _ C rfl rfl 55 _ HR5.out si.out sj.out sk.out ?_))
          have hld := run_loadVar_row _ _ _ 55 _ _ _ HF.out Tryz.underlying55 rfl si.out
          exact bodyPost_ret (by rw [results_cell_tmp rfl]; simp [asAddr, hld]) rfl ⟨.inr HY.out, HKF.out.b⟩
        · rw [hf] at c0
          have HS2 : Hid (∀ W, Kp w1 W → Kp w1 W ∧ W.cell? ⟨4, 0, none⟩ = some (.int .i64 265) ∧ W.cell? ⟨4, 1, none⟩ = some (.int .i64 297) ∧ W.cell? ⟨5, 0, none⟩ = some (.int .i64 297) ∧ W.cell? ⟨5, 1, none⟩ = some (.int .i64 329)) := fun W k => by have l := HLA.out W k; exact ⟨k, l.u0, l.u1, l.g0, l.g1⟩
          go_wp2_with fail
          have k0 := kz.drew
          refine wp_region_held_drew (S := fun W => Kp w1 W ∧ W.cell? ⟨4, 0, none⟩ = some (.int .i64 265) ∧ W.cell? ⟨4, 1, none⟩ = some (.int .i64 297) ∧ W.cell? ⟨5, 0, none⟩ = some (.int .i64 297) ∧ W.cell? ⟨5, 1, none⟩ = some (.int .i64 329)) (by kernel_rfl) (HS2.out _ k0) (fun hHeld => ?_)
          refine wpAnyH_take (i := 0) (oi := { dst := some 59, op := Op.move (Operand.tmp 0), type := 22, pos := "head.go:96", after := #[], guard := none }) (v := ?_) rfl (by kernel_rfl) (by kernel_rfl) (by kernel_rfl) (fun _ _ _ h => h) (Or.inl ⟨by rfl, ?_⟩) (by assumption) ?_
          rotate_left 1
          · (intro W hSw; obtain ⟨_, _, _, _, _⟩ := hSw; go_simp; try with_reducible rfl)
          try simp only [Act.put, List.setIfInBounds_toArray, List.set_cons_zero, List.set_cons_succ]
          refine wpAnyH_take (i := 1) (oi := { dst := some 60, op := Op.load 85 (Operand.global 4), type := 85, pos := "head.go:96", after := #[], guard := none }) (v := ?_) rfl (by kernel_rfl) (by kernel_rfl) (by kernel_rfl) (fun _ _ _ h => h) (Or.inl ⟨by rfl, ?_⟩) (by assumption) ?_
          rotate_left 1
          · (intro W hSw; obtain ⟨_, _, _, _, _⟩ := hSw; go_simp; try with_reducible rfl)
          try simp only [Act.put, List.setIfInBounds_toArray, List.set_cons_zero, List.set_cons_succ]
          refine wpAnyH_take (i := 3) (oi := { dst := some 62, op := Op.move (Operand.tmp 0), type := 22, pos := "head.go:96", after := #[], guard := none }) (v := ?_) rfl (by kernel_rfl) (by kernel_rfl) (by kernel_rfl) (fun _ _ _ h => h) (Or.inl ⟨by rfl, ?_⟩) (by assumption) ?_
          rotate_left 1
          · (intro W hSw; obtain ⟨_, _, _, _, _⟩ := hSw; go_simp; try with_reducible rfl)
          try simp only [Act.put, List.setIfInBounds_toArray, List.set_cons_zero, List.set_cons_succ]
          refine wpAnyH_take (i := 4) (oi := { dst := some 63, op := Op.load 85 (Operand.global 5), type := 85, pos := "head.go:96", after := #[], guard := none }) (v := ?_) rfl (by kernel_rfl) (by kernel_rfl) (by kernel_rfl) (fun _ _ _ h => h) (Or.inl ⟨by rfl, ?_⟩) (by assumption) ?_
          rotate_left 1
          · (intro W hSw; obtain ⟨_, _, _, _, _⟩ := hSw; go_simp; try with_reducible rfl)
          try simp only [Act.put, List.setIfInBounds_toArray, List.set_cons_zero, List.set_cons_succ]
          refine wpAnyH_ready (rs := [2]) (by kernel_rfl) (by simp) ?_
          refine AllReadyH.cons (o := { dst := some 61, op := Op.call { callee := Callee.value (Operand.func 76), args := #[Operand.tmp 59, Operand.tmp 60], argTypes := #[22, 85] }, type := 9, pos := "head.go:96", after := #[{ on := 0, ground := Ground.data }, { on := 1, ground := Ground.data }], guard := none }) rfl (fun K hK => ?_) AllReadyH.nil
          go_simp
          go_at_call 76
          refine (tx_w ad cap zs 265 297 w1 _ hb hl hc hc2 (HSR.out _ k0) k0 (by omega)).mono ?_
          rintro e x1 ⟨rfl, k1, st⟩
          have g1 := st _ _ (show wr.drew.heap[g]? = _ from gz)
          clear st
          go_wp2_with fail
          refine hK.out _ _ (HS2.out _ k1) (fun hHeld => ?_)
          clear hK K
          try simp only [Act.put, List.setIfInBounds_toArray, List.set_cons_zero, List.set_cons_succ]
          refine wpAnyH_ready (rs := [5]) (by kernel_rfl) (by simp) ?_
          refine AllReadyH.cons (o := { dst := some 64, op := Op.call { callee := Callee.value (Operand.func 76), args := #[Operand.tmp 62, Operand.tmp 63], argTypes := #[22, 85] }, type := 9, pos := "head.go:96", after := #[{ on := 3, ground := Ground.data }, { on := 4, ground := Ground.data }, { on := 2, ground := Ground.chain }], guard := none }) rfl (fun K hK => ?_) AllReadyH.nil
          go_simp
          go_at_call 76
          refine (tx_w ad cap zs 297 329 w1 _ hb hl hc hc2 (HSR.out _ k1) k1 (by omega)).mono ?_
          rintro e x2 ⟨rfl, k2, st⟩
          have g2 := st _ _ g1
          clear st
          go_wp2_with fail
          refine hK.out _ _ (HS2.out _ k2) (fun hHeld => ?_)
          clear hK K
          try simp only [Act.put, List.setIfInBounds_toArray, List.set_cons_zero, List.set_cons_succ]
          refine wpAnyH_take (i := 6) (oi := { dst := some 65, op := Op.fieldAddr 55 (Operand.tmp 4) 4, type := 0, pos := "head.go:96", after := #[{ on := 0, ground := Ground.phase }, { on := 1, ground := Ground.phase }, { on := 2, ground := Ground.phase }, { on := 3, ground := Ground.textOnly Departure.lateStores }, { on := 4, ground := Ground.phase }, { on := 5, ground := Ground.phase }], guard := none }) (v := ?_) rfl (by kernel_rfl) (by kernel_rfl) (by kernel_rfl) (fun _ _ _ h => h) (Or.inl ⟨by rfl, ?_⟩) (by assumption) ?_
          rotate_left 1
          · (intro W hSw; obtain ⟨_, _, _, _, _⟩ := hSw; go_simp; try with_reducible rfl)
          try simp only [Act.put, List.setIfInBounds_toArray, List.set_cons_zero, List.set_cons_succ]
          have c4 : x2.cell? ⟨g, 4, none⟩ = some (.string ⟨#[]⟩) := by simp [World.cell?, g2, hdN]
          have f4 : x2.frozen? ⟨g, 4, none⟩ = false := by simp [World.frozen?, g2]
          have e3 := setCell_eq_setRow x2 g 4 _ _ _ (.string (tx zs 265 297)) g2
          have k3 := k2.setRow hge g2 ((hdN zs 5).setIfInBounds 4 (.string (tx zs 265 297)))
          have g3 := setRow_heap _ _ _ ((hdN zs 5).setIfInBounds 4 (.string (tx zs 265 297))) _ _ g2
          rw [← e3] at k3 g3
          clear e3
          refine wpAnyH_ready (rs := [7]) (by kernel_rfl) (by simp) ?_
          refine AllReadyH.cons (o := { dst := none, op := Op.store 9 (Operand.tmp 65) (Operand.tmp 61), type := 0, pos := "head.go:96", after := #[{ on := 6, ground := Ground.data }, { on := 2, ground := Ground.data }, { on := 5, ground := Ground.chain }, { on := 0, ground := Ground.phase }, { on := 1, ground := Ground.phase }, { on := 2, ground := Ground.phase }, { on := 3, ground := Ground.textOnly Departure.lateStores }, { on := 4, ground := Ground.phase }, { on := 5, ground := Ground.phase }], guard := none }) rfl (fun K hK => ?_) AllReadyH.nil
          go_simp
          refine hK.out _ _ (HS2.out _ k3) (fun hHeld => ?_)
          clear hK K
          try simp only [Act.put, List.setIfInBounds_toArray, List.set_cons_zero, List.set_cons_succ]
          generalize x2.setCell ⟨g, 4, none⟩ (.string (tx zs 265 297)) = x3 at *
          refine wpAnyH_take (i := 8) (oi := { dst := some 66, op := Op.fieldAddr 55 (Operand.tmp 4) 5, type := 0, pos := "head.go:96", after := #[{ on := 0, ground := Ground.phase }, { on := 1, ground := Ground.phase }, { on := 2, ground := Ground.phase }, { on := 3, ground := Ground.phase }, { on := 4, ground := Ground.phase }, { on := 5, ground := Ground.phase }, { on := 6, ground := Ground.phase }, { on := 7, ground := Ground.phase }], guard := none }) (v := ?_) rfl (by kernel_rfl) (by kernel_rfl) (by kernel_rfl) (fun _ _ _ h => h) (Or.inl ⟨by rfl, ?_⟩) (by assumption) ?_
          rotate_left 1
          · (intro W hSw; obtain ⟨_, _, _, _, _⟩ := hSw; go_simp; try with_reducible rfl)
          try simp only [Act.put, List.setIfInBounds_toArray, List.set_cons_zero, List.set_cons_succ]
          have c5 : x3.cell? ⟨g, 5, none⟩ = some (.string ⟨#[]⟩) := by simp [World.cell?, g3, hdN]
          have f5 : x3.frozen? ⟨g, 5, none⟩ = false := by simp [World.frozen?, g3]
          have e4 := setCell_eq_setRow x3 g 5 _ _ _ (.string (tx zs 297 329)) g3
          have k4 := k3.setRow hge g3 (((hdN zs 5).setIfInBounds 4 (.string (tx zs 265 297))).setIfInBounds 5 (.string (tx zs 297 329)))
          have g4 := setRow_heap _ _ _ (((hdN zs 5).setIfInBounds 4 (.string (tx zs 265 297))).setIfInBounds 5 (.string (tx zs 297 329))) _ _ g3
          rw [← e4] at k4 g4
          clear e4
          refine wpAnyH_ready (rs := [9]) (by kernel_rfl) (by simp) ?_
          refine AllReadyH.cons (o := { dst := none, op := Op.store 9 (Operand.tmp 66) (Operand.tmp 64), type := 0, pos := "head.go:96", after := #[{ on := 8, ground := Ground.data }, { on := 5, ground := Ground.data }, { on := 7, ground := Ground.chain }, { on := 0, ground := Ground.phase }, { on := 1, ground := Ground.phase }, { on := 2, ground := Ground.phase }, { on := 3, ground := Ground.phase }, { on := 4, ground := Ground.phase }, { on := 5, ground := Ground.phase }, { on := 6, ground := Ground.phase }, { on := 7, ground := Ground.phase }], guard := none }) rfl (fun K hK => ?_) AllReadyH.nil
          go_simp
          refine hK.out _ _ (HS2.out _ k4) (fun hHeld => ?_)
          clear hK K
          try simp only [Act.put, List.setIfInBounds_toArray, List.set_cons_zero, List.set_cons_succ]
          refine wpAnyH_done (by kernel_rfl) ?_ _
          generalize x3.setCell ⟨g, 5, none⟩ (.string (tx zs 297 329)) = x4 at *
          have c00 : x4.cell? ⟨g, 0, none⟩ = some (.int .i64 1) := by simp [World.cell?, g4, hdN, hf]
          clear c4 f4 c5 f5 hHeld
          have lp := HLA.out x4 k4
          have p0 := lp.p0
          have p1 := lp.p1
          clear lp
          have qp := tx_w ad cap zs 345 500 w1 x4 hb hl hc hc2 (HSR.out _ k4) k4 (by omega)
          go_wp2_with fail
          refine qp.mono ?_
          rintro e x5 ⟨rfl, k5, st⟩
          have g5 := st _ _ g4
          clear st p0 p1 qp
          have c3 : x5.cell? ⟨g, 3, none⟩ = some (.string ⟨#[]⟩) := by simp [World.cell?, g5, hdN]
          have f3 : x5.frozen? ⟨g, 3, none⟩ = false := by simp [World.frozen?, g5]
          have e6 := setCell_eq_setRow x5 g 3 _ _ _ (.string (tx zs 345 500)) g5
          have k6 := k5.setRow hge g5 ((((hdN zs 5).setIfInBounds 4 (.string (tx zs 265 297))).setIfInBounds 5 (.string (tx zs 297 329))).setIfInBounds 3 (.string (tx zs 345 500)))
          have g6 := setRow_heap _ _ _ ((((hdN zs 5).setIfInBounds 4 (.string (tx zs 265 297))).setIfInBounds 5 (.string (tx zs 297 329))).setIfInBounds 3 (.string (tx zs 345 500))) _ _ g5
          rw [← e6] at k6 g6
          clear e6
          have hC : (((hdN zs 5).setIfInBounds 4 (.string (tx zs 265 297))).setIfInBounds 5 (.string (tx zs 297 329))).setIfInBounds 3 (.string (tx zs 345 500)) = hdF zs := by simp [hdN, hdF, isU, notOld, hf, nvl]
          rw [hC] at g6
          clear hC
          have r5 : (x5.setCell ⟨g, 3, none⟩ (.string (tx zs 345 500))).heap[w.heap.size]? = some (.cells hzero 55 (0, 0)) := (k6.b.block _ (lt_of_heap r1)).trans r1
          have H5 : Hid ((x5.setCell ⟨g, 3, none⟩ (.string (tx zs 345 500))).heap[g]? = some (.cells (hdF zs) 55 (0, 0))) := g6
          have HR5 : Hid ((x5.setCell ⟨g, 3, none⟩ (.string (tx zs 345 500))).heap[w.heap.size]? = some (.cells hzero 55 (0, 0))) := r5
          have kf : Kp w ((x5.setCell ⟨g, 3, none⟩ (.string (tx zs 345 500))).setRow w.heap.size (hdF zs)) := Kp.setRow ⟨b1.trans (k6.b.mono b1.size)⟩ (Nat.le_refl _) r5 _
          have HKF : Hid (Kp w ((x5.setCell ⟨g, 3, none⟩ (.string (tx zs 345 500))).setRow w.heap.size (hdF zs))) := kf
          have HF : Hid (((x5.setCell ⟨g, 3, none⟩ (.string (tx zs 345 500))).setRow w.heap.size (hdF zs)).heap[w.heap.size]? = some (.cells (hdF zs) 55 (0, 0))) := setRow_heap _ _ _ (hdF zs) _ _ r5
          have si : Hid ((Tryz.prog.info? 55).map (·.size) = some (hdF zs).size) := inf25
          have sj : Hid (hzero.size = (hdF zs).size) := rfl
          have sk : Hid ((hdF zs).all (·.oneCell') = true) := by show _ = _; simp [hdF, Value.oneCell']
          have HY : Hid (DecYes zs (.returned (.tuple #[.agg (hdF zs), .int .i64 0]))) := ⟨HEA.out, rfl⟩
          clear r5 kf
          generalize hdF zs = C at *
          go_wp2_with (first | (refine wpList_load_row rfl 55 _ rfl g rfl 55 C _ _ H5.out Tryz.underlying55 rfl si.out ?_) | (refine wpList_store_row rfl 55 _ _ rfl _ C rfl rfl 55 _ HR5.out si.out sj.out sk.out ?_))
          have hld := run_loadVar_row _ _ _ 55 _ _ _ HF.out Tryz.underlying55 rfl si.out
          exact bodyPost_ret (by rw [results_cell_tmp rfl]; simp [asAddr, hld]) rfl ⟨.inr HY.out, HKF.out.b⟩
        · rw [hf] at c0
          have HS2 : Hid (∀ W, Kp w1 W → Kp w1 W ∧ W.cell? ⟨4, 0, none⟩ = some (.int .i64 265) ∧ W.cell? ⟨4, 1, none⟩ = some (.int .i64 297) ∧ W.cell? ⟨5, 0, none⟩ = some (.int .i64 297) ∧ W.cell? ⟨5, 1, none⟩ = some (.int .i64 329)) := fun W k => by have l := HLA.out W k; exact ⟨k, l.u0, l.u1, l.g0, l.g1⟩
          go_wp2_with fail
          have k0 := kz.drew
          refine wp_region_held_drew (S := fun W => Kp w1 W ∧ W.cell? ⟨4, 0, none⟩ = some (.int .i64 265) ∧ W.cell? ⟨4, 1, none⟩ = some (.int .i64 297) ∧ W.cell? ⟨5, 0, none⟩ = some (.int .i64 297) ∧ W.cell? ⟨5, 1, none⟩ = some (.int .i64 329)) (by kernel_rfl) (HS2.out _ k0) (fun hHeld => ?_)
          refine wpAnyH_take (i := 0) (oi := { dst := some 59, op := Op.move (Operand.tmp 0), type := 22, pos := "head.go:96", after := #[], guard := none }) (v := ?_) rfl (by kernel_rfl) (by kernel_rfl) (by kernel_rfl) (fun _ _ _ h => h) (Or.inl ⟨by rfl, ?_⟩) (by assumption) ?_
          rotate_left 1
          · (intro W hSw; obtain ⟨_, _, _, _, _⟩ := hSw; go_simp; try with_reducible rfl)
          try simp only [Act.put, List.setIfInBounds_toArray, List.set_cons_zero, List.set_cons_succ]
          refine wpAnyH_take (i := 1) (oi := { dst := some 60, op := Op.load 85 (Operand.global 4), type := 85, pos := "head.go:96", after := #[], guard := none }) (v := ?_) rfl (by kernel_rfl) (by kernel_rfl) (by kernel_rfl) (fun _ _ _ h => h) (Or.inl ⟨by rfl, ?_⟩) (by assumption) ?_
          rotate_left 1
          · (intro W hSw; obtain ⟨_, _, _, _, _⟩ := hSw; go_simp; try with_reducible rfl)
          try simp only [Act.put, List.setIfInBounds_toArray, List.set_cons_zero, List.set_cons_succ]
          refine wpAnyH_take (i := 3) (oi := { dst := some 62, op := Op.move (Operand.tmp 0), type := 22, pos := "head.go:96", after := #[], guard := none }) (v := ?_) rfl (by kernel_rfl) (by kernel_rfl) (by kernel_rfl) (fun _ _ _ h => h) (Or.inl ⟨by rfl, ?_⟩) (by assumption) ?_
          rotate_left 1
          · (intro W hSw; obtain ⟨_, _, _, _, _⟩ := hSw; go_simp; try with_reducible rfl)
          try simp only [Act.put, List.setIfInBounds_toArray, List.set_cons_zero, List.set_cons_succ]
          refine wpAnyH_take (i := 4) (oi := { dst := some 63, op := Op.load 85 (Operand.global 5), type := 85, pos := "head.go:96", after := #[], guard := none }) (v := ?_) rfl (by kernel_rfl) (by kernel_rfl) (by kernel_rfl) (fun _ _ _ h => h) (Or.inl ⟨by rfl, ?_⟩) (by assumption) ?_
          rotate_left 1
          · (intro W hSw; obtain ⟨_, _, _, _, _⟩ := hSw; go_simp; try with_reducible rfl)
          try simp only [Act.put, List.setIfInBounds_toArray, List.set_cons_zero, List.set_cons_succ]
          refine wpAnyH_ready (rs := [2]) (by kernel_rfl) (by simp) ?_
          refine AllReadyH.cons (o := { dst := some 61, op := Op.call { callee := Callee.value (Operand.func 76), args := #[Operand.tmp 59, Operand.tmp 60], argTypes := #[22, 85] }, type := 9, pos := "head.go:96", after := #[{ on := 0, ground := Ground.data }, { on := 1, ground := Ground.data }], guard := none }) rfl (fun K hK => ?_) AllReadyH.nil
          go_simp
          go_at_call 76
          refine (tx_w ad cap zs 265 297 w1 _ hb hl hc hc2 (HSR.out _ k0) k0 (by omega)).mono ?_
          rintro e x1 ⟨rfl, k1, st⟩
          have g1 := st _ _ (show wr.drew.heap[g]? = _ from gz)
          clear st
          go_wp2_with fail
          refine hK.out _ _ (HS2.out _ k1) (fun hHeld => ?_)
          clear hK K
          try simp only [Act.put, List.setIfInBounds_toArray, List.set_cons_zero, List.set_cons_succ]
          refine wpAnyH_ready (rs := [5]) (by kernel_rfl) (by simp) ?_
          refine AllReadyH.cons (o := { dst := some 64, op := Op.call { callee := Callee.value (Operand.func 76), args := #[Operand.tmp 62, Operand.tmp 63], argTypes := #[22, 85] }, type := 9, pos := "head.go:96", after := #[{ on := 3, ground := Ground.data }, { on := 4, ground := Ground.data }, { on := 2, ground := Ground.chain }], guard := none }) rfl (fun K hK => ?_) AllReadyH.nil
          go_simp
          go_at_call 76
          refine (tx_w ad cap zs 297 329 w1 _ hb hl hc hc2 (HSR.out _ k1) k1 (by omega)).mono ?_
          rintro e x2 ⟨rfl, k2, st⟩
          have g2 := st _ _ g1
          clear st
          go_wp2_with fail
          refine hK.out _ _ (HS2.out _ k2) (fun hHeld => ?_)
          clear hK K
          try simp only [Act.put, List.setIfInBounds_toArray, List.set_cons_zero, List.set_cons_succ]
          refine wpAnyH_take (i := 6) (oi := { dst := some 65, op := Op.fieldAddr 55 (Operand.tmp 4) 4, type := 0, pos := "head.go:96", after := #[{ on := 0, ground := Ground.phase }, { on := 1, ground := Ground.phase }, { on := 2, ground := Ground.phase }, { on := 3, ground := Ground.textOnly Departure.lateStores }, { on := 4, ground := Ground.phase }, { on := 5, ground := Ground.phase }], guard := none }) (v := ?_) rfl (by kernel_rfl) (by kernel_rfl) (by kernel_rfl) (fun _ _ _ h => h) (Or.inl ⟨by rfl, ?_⟩) (by assumption) ?_
          rotate_left 1
          · (intro W hSw; obtain ⟨_, _, _, _, _⟩ := hSw; go_simp; try with_reducible rfl)
          try simp only [Act.put, List.setIfInBounds_toArray, List.set_cons_zero, List.set_cons_succ]
          have c4 : x2.cell? ⟨g, 4, none⟩ = some (.string ⟨#[]⟩) := by simp [World.cell?, g2, hdN]
          have f4 : x2.frozen? ⟨g, 4, none⟩ = false := by simp [World.frozen?, g2]
          have e3 := setCell_eq_setRow x2 g 4 _ _ _ (.string (tx zs 265 297)) g2
          have k3 := k2.setRow hge g2 ((hdN zs 5).setIfInBounds 4 (.string (tx zs 265 297)))
          have g3 := setRow_heap _ _ _ ((hdN zs 5).setIfInBounds 4 (.string (tx zs 265 297))) _ _ g2
          rw [← e3] at k3 g3
          clear e3
          refine wpAnyH_ready (rs := [7]) (by kernel_rfl) (by simp) ?_
          refine AllReadyH.cons (o := { dst := none, op := Op.store 9 (Operand.tmp 65) (Operand.tmp 61), type := 0, pos := "head.go:96", after := #[{ on := 6, ground := Ground.data }, { on := 2, ground := Ground.data }, { on := 5, ground := Ground.chain }, { on := 0, ground := Ground.phase }, { on := 1, ground := Ground.phase }, { on := 2, ground := Ground.phase }, { on := 3, ground := Ground.textOnly Departure.lateStores }, { on := 4, ground := Ground.phase }, { on := 5, ground := Ground.phase }], guard := none }) rfl (fun K hK => ?_) AllReadyH.nil
          go_simp
          refine hK.out _ _ (HS2.out _ k3) (fun hHeld => ?_)
          clear hK K
          try simp only [Act.put, List.setIfInBounds_toArray, List.set_cons_zero, List.set_cons_succ]
          generalize x2.setCell ⟨g, 4, none⟩ (.string (tx zs 265 297)) = x3 at *
          refine wpAnyH_take (i := 8) (oi := { dst := some 66, op := Op.fieldAddr 55 (Operand.tmp 4) 5, type := 0, pos := "head.go:96", after := #[{ on := 0, ground := Ground.phase }, { on := 1, ground := Ground.phase }, { on := 2, ground := Ground.phase }, { on := 3, ground := Ground.phase }, { on := 4, ground := Ground.phase }, { on := 5, ground := Ground.phase }, { on := 6, ground := Ground.phase }, { on := 7, ground := Ground.phase }], guard := none }) (v := ?_) rfl (by kernel_rfl) (by kernel_rfl) (by kernel_rfl) (fun _ _ _ h => h) (Or.inl ⟨by rfl, ?_⟩) (by assumption) ?_
          rotate_left 1
          · (intro W hSw; obtain ⟨_, _, _, _, _⟩ := hSw; go_simp; try with_reducible rfl)
          try simp only [Act.put, List.setIfInBounds_toArray, List.set_cons_zero, List.set_cons_succ]
          have c5 : x3.cell? ⟨g, 5, none⟩ = some (.string ⟨#[]⟩) := by simp [World.cell?, g3, hdN]
          have f5 : x3.frozen? ⟨g, 5, none⟩ = false := by simp [World.frozen?, g3]
          have e4 := setCell_eq_setRow x3 g 5 _ _ _ (.string (tx zs 297 329)) g3
          have k4 := k3.setRow hge g3 (((hdN zs 5).setIfInBounds 4 (.string (tx zs 265 297))).setIfInBounds 5 (.string (tx zs 297 329)))
          have g4 := setRow_heap _ _ _ (((hdN zs 5).setIfInBounds 4 (.string (tx zs 265 297))).setIfInBounds 5 (.string (tx zs 297 329))) _ _ g3
          rw [← e4] at k4 g4
          clear e4
          refine wpAnyH_ready (rs := [9]) (by kernel_rfl) (by simp) ?_
          refine AllReadyH.cons (o := { dst := none, op := Op.store 9 (Operand.tmp 66) (Operand.tmp 64), type := 0, pos := "head.go:96", after := #[{ on := 8, ground := Ground.data }, { on := 5, ground := Ground.data }, { on := 7, ground := Ground.chain }, { on := 0, ground := Ground.phase }, { on := 1, ground := Ground.phase }, { on := 2, ground := Ground.phase }, { on := 3, ground := Ground.phase }, { on := 4, ground := Ground.phase }, { on := 5, ground := Ground.phase }, { on := 6, ground := Ground.phase }, { on := 7, ground := Ground.phase }], guard := none }) rfl (fun K hK => ?_) AllReadyH.nil
          go_simp
          refine hK.out _ _ (HS2.out _ k4) (fun hHeld => ?_)
          clear hK K
          try simp only [Act.put, List.setIfInBounds_toArray, List.set_cons_zero, List.set_cons_succ]
          refine wpAnyH_done (by kernel_rfl) ?_ _
          generalize x3.setCell ⟨g, 5, none⟩ (.string (tx zs 297 329)) = x4 at *
          have c00 : x4.cell? ⟨g, 0, none⟩ = some (.int .i64 2) := by simp [World.cell?, g4, hdN, hf]
          clear c4 f4 c5 f5 hHeld
          have hC : ((hdN zs 5).setIfInBounds 4 (.string (tx zs 265 297))).setIfInBounds 5 (.string (tx zs 297 329)) = hdF zs := by simp [hdN, hdF, isU, notOld, hf, nvl]
          rw [hC] at g4
          clear hC
          have r5 : x4.heap[w.heap.size]? = some (.cells hzero 55 (0, 0)) := (k4.b.block _ (lt_of_heap r1)).trans r1
          have H5 : Hid (x4.heap[g]? = some (.cells (hdF zs) 55 (0, 0))) := g4
          have HR5 : Hid (x4.heap[w.heap.size]? = some (.cells hzero 55 (0, 0))) := r5
          have kf : Kp w (x4.setRow w.heap.size (hdF zs)) := Kp.setRow ⟨b1.trans (k4.b.mono b1.size)⟩ (Nat.le_refl _) r5 _
          have HKF : Hid (Kp w (x4.setRow w.heap.size (hdF zs))) := kf
          have HF : Hid ((x4.setRow w.heap.size (hdF zs)).heap[w.heap.size]? = some (.cells (hdF zs) 55 (0, 0))) := setRow_heap _ _ _ (hdF zs) _ _ r5
          have si : Hid ((Tryz.prog.info? 55).map (·.size) = some (hdF zs).size) := inf25
          have sj : Hid (hzero.size = (hdF zs).size) := rfl
          have sk : Hid ((hdF zs).all (·.oneCell') = true) := by show _ = _; simp [hdF, Value.oneCell']
          have HY : Hid (DecYes zs (.returned (.tuple #[.agg (hdF zs), .int .i64 0]))) := ⟨HEA.out, rfl⟩
          clear r5 kf
          generalize hdF zs = C at *
          go_wp2_with (first | (refine wpList_load_row rfl 55 _ rfl g rfl 55 C _ _ H5.out Tryz.underlying55 rfl si.out ?_) | (refine wpList_store_row rfl 55 _ _ rfl _ C rfl rfl 55 _ HR5.out si.out sj.out sk.out ?_))
          have hld := run_loadVar_row _ _ _ 55 _ _ _ HF.out Tryz.underlying55 rfl si.out
          exact bodyPost_ret (by rw [results_cell_tmp rfl]; simp [asAddr, hld]) rfl ⟨.inr HY.out, HKF.out.b⟩

end Go.Proofs.YtnmmaedngdibeaaGreatDoor.H
