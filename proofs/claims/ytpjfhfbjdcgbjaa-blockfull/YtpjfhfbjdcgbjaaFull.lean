/-
  The law BlockFull holds: it returns true for every number of blocks and all bytes.
-/
import Derived.Test.YtpjfhfbjdcgbjaaRows
import Derived.Test.YtpjfhfbjdcgbjaaFull0
import Derived.ProofKit
import Derived.OpenShut
import Derived.ShutString
import Derived.ChangeOld
import Derived.Below
import Derived.Deep.RegionHeld3
namespace Go.Proofs.Ytpjfhfbjdcgbjaa.blockFull
open Go.ChangeShapes Go.WideShapes Go.ChangeAt Go.RowKit
set_option linter.unusedVariables false
set_option linter.unusedSimpArgs false

theorem make46 (w : World) : (Instr.makeMap 46 none).run Try.prog w = .ok (.map (some w.heap.size)) (w.alloc (.map #[] 0)) := rfl

theorem elem_bool (x : Bool) : plainElem (H := Unit) Try.prog 4 (.bool x) = some (.lit (.bool x), []) := plainElem_bool Try.underlying4 x

theorem bool_inv {v : Value} {y : DataW Unit × List MemPlace} (h : plainElem (H := Unit) Try.prog 4 v = some y) : ∃ c, v = .bool c := by
  unfold plainElem at h
  rw [Try.underlying4] at h
  cases v <;> simp at h
  exact ⟨_, rfl⟩

theorem key_of3 (x : Int) (h : (Lit.int .i64 x).wf = true) : keyOf Try.prog 3 (.int .i64 x) = some (.int .i64 x) := by
  simp [keyOf, Try.underlying3, mapKey, h]

theorem key_inv3 {key : Value} {kl : Lit} (h : keyOf Try.prog 3 key = some kl) : ∃ x, key = .int .i64 x := by
  obtain ⟨x, hx, _⟩ := Maps.keyOf_int_inv Try.underlying3 h
  exact ⟨x, hx⟩

theorem wf_nat (n : Nat) (h : n ≤ 9223372036854775807) : (Lit.int .i64 (n : Int)).wf = true := by
  have e1 : IntKind.i64.min = -9223372036854775808 := by decide
  have e2 : IntKind.i64.max = 9223372036854775807 := by decide
  simp [Lit.wf, e1, e2]
  omega

/-- a key that isn't there -/
theorem look_no {w : World} {gm n : Nat} {D : DataW Unit} (h : w.ownsMap Try.prog 3 (plainElem Try.prog 4) gm n D) (i : Nat) (hi : i ≤ 9223372036854775807) (hn : Maps.has D (.int .i64 (i : Int)) = false) :
    (Instr.lookup 46 (.map (some gm)) (.int .i64 (i : Int)) false).run Try.prog w = .ok (.bool false) w := by
  obtain ⟨v, ps, hr, hv⟩ := h.lookup key3 Try.underlying46 (z := .bool false) (by kernel_rfl) (elem_bool false) (key_of3 i (wf_nat i hi))
  rw [Maps.atKey_of_not_has hn] at hv
  obtain ⟨c, rfl⟩ := bool_inv hv
  rw [elem_bool] at hv
  have : c = false := by simpa using congrArg (fun o => o.map (·.1)) hv
  rw [this] at hr
  exact hr

theorem ranges_lt {w : World} {b r n : Nat} {D : DataW Unit} {left : Lit → Bool} {cnt : Nat} (h : w.ranges Try.prog 3 (plainElem Try.prog 4) b r n D left cnt) : b < w.heap.size ∧ r < w.heap.size := by
  obtain ⟨es, clock, since, seen, c0, hb, F, hs, hD, hr, q⟩ := h
  exact ⟨lt_of_heap hb, lt_of_heap hr⟩

theorem keeps_map {p S F gm : Nat} {w w' : World} (hk : Keeps p S F w w') (h : gm < w.heap.size) (h1 : gm ≠ p) (h2 : gm ≠ S) (h3 : gm ≠ F) : w'.heap[gm]? = w.heap[gm]? := hk.block gm h h1 h2 h3

set_option maxRecDepth 20000 in
set_option maxHeartbeats 8000000 in
theorem walk_in (n : Nat) (hn : n ≤ 50) (a : Option Addr) (cap : Nat) (zs : List Int) (w : World) (hl : zs.length ≤ 64) (hs : Src w a zs) :
    Calls Try.prog 4 #[.int .i64 (n : Int), .slice a zs.length cap] w fun e w' => e = .returned (.bool true) ∧ Below w.heap.size w w' := by
  have mm := make46
  have HS : Hid (∀ W, Below w.heap.size w W → Src W a zs) := fun W h => hs.grow h
  have hzl : Hid (zs.length ≤ 64) := hl
  clear hs
  generalize hzn : zs.length = ln at *
  have HZ : Hid (zs.length = ln) := hzn
  clear hzn
  go_enter Try.func4, Try.ntmps4
  go_wp2_with (go_at_call 9; refine (head_ok _).mono ?_; rintro e w1 ⟨rfl, hb1⟩)
  refine (new_yes n w1 (by omega)).mono ?_
  rintro e w2 ⟨p, S, F, rfl, hA, hb2, hp, hS, hF⟩
  have bb2 : Below w.heap.size w w2 := hb1.trans (hb2.mono hb1.size)
  have e1 := hb1.size
  have hp' : w.heap.size ≤ p := by omega
  have hS' : w.heap.size ≤ S := by omega
  have hF' : w.heap.size ≤ F := by omega
  have KB : Hid (∀ W W', Below w.heap.size w W → Keeps p S F W W' → Below w.heap.size w W') := fun W W' h k => h.trans (k.below h.size hp' hS' hF')
  have HA2 : Hid (Ar w2 p S F (blank n) (down n)) := hA
  clear hA hb1 hb2 e1
  go_wp2_with fail
  go_loopw [33] (fun t wr => ∃ (r : Nat) (ss : List Slot) (fr : List Nat), r ≤ 2 ∧ t = .int .i64 r ∧ Hid (Ar wr p S F ss fr) ∧ Hid (ss.length = n ∧ fr.length = n) ∧ Below w.heap.size w wr) (fun t _ => 2 - (intOf t).toNat)
  case atStart => exact ⟨0, _, _, by omega, rfl, HA2.out, ⟨blank_length n, down_length n⟩, bb2⟩
  case round =>
    obtain ⟨r, ss, fr, hr2, rfl, HA, HL, bb⟩ := hrel
    clear HA2 bb2
    by_cases hr : r < 2
    · have hfree := all_free HA.out.good (by rw [HL.out.1, HL.out.2])
      have hlt := HA.out.lt
      have m0 := World.ownsMap_made (H := Unit) wr Try.prog 3 (plainElem Try.prog 4)
      have HA0 : Hid (Ar (wr.alloc (.map #[] 0)) p S F ss fr) := HA.out.alloc _
      have bb0 : Below w.heap.size w (wr.alloc (.map #[] 0)) := bb.alloc bb.size _
      have HM0 : Hid (MapIs (.map []) ss) := mapIs_nil hfree
      have HO0 : Hid (Once ss) := fun i s hi => .inl (hfree i s hi)
      have gp : wr.heap.size ≠ p := by omega
      have gS : wr.heap.size ≠ S := by omega
      have gF : wr.heap.size ≠ F := by omega
      have gB : w.heap.size ≤ wr.heap.size := bb.size
      have M0 : Hid ((wr.alloc (.map #[] 0)).ownsMap Try.prog 3 (plainElem (H := Unit) Try.prog 4) wr.heap.size 0 (.map [])) := m0
      clear m0 hfree hlt HA bb
      go_wp2_with fail
      have hdec : decide ((r : Int) < 2) = true := by simp; omega
      try simp only [hdec]
      generalize wr.alloc (.map #[] 0) = wm at *
      generalize wr.heap.size = gm at *
      go_loopw [37] (fun t wr => ∃ (j : Nat) (ss : List Slot) (fr : List Nat) (D : DataW Unit), j ≤ n ∧ t = .int .i64 j ∧ Hid (Ar wr p S F ss fr) ∧ Hid (ss.length = n ∧ fr.length + j = n) ∧ Hid (Once ss) ∧ Hid (MapIs D ss) ∧ Hid (wr.ownsMap Try.prog 3 (plainElem Try.prog 4) gm j D) ∧ Below w.heap.size w wr) (fun t _ => n - (intOf t).toNat)
      case atStart => exact ⟨0, ss, fr, .map [], Nat.zero_le _, rfl, HA0.out, ⟨HL.out.1, by have := HL.out.2; omega⟩, HO0.out, HM0.out, M0.out, bb0⟩
      case round =>
        obtain ⟨j, ss, fr, D, hj, rfl, HA, HL, HO, HM, MP, bb⟩ := hrel
        clear HA0 HM0 HO0 M0 bb0
        by_cases hjn : j < n
        · obtain ⟨l, i, rfl⟩ : ∃ l i, fr = l ++ [i] := ⟨fr.dropLast, fr.getLast (by intro e; have := HL.out.2; simp [e] at this; omega), (List.dropLast_concat_getLast _).symm⟩
          have qt := take_yes l i HA.out
          have hgd := HA.out.good.take
          have hil : i < ss.length := lt_of_some hgd.2
          have hin : i < n := by have := HL.out.1; omega
          have hno : Maps.has D (.int .i64 (i : Int)) = false := by
            cases hh : Maps.has D (.int .i64 (i : Int)) with
            | false => rfl
            | true =>
              obtain ⟨i', s', e', h1, h2⟩ := (HM.out i).1 hh
              obtain rfl : i = i' := by omega
              rw [hgd.2] at h1
              cases h1
              exact absurd h2 (by decide)
          have HIL : Hid (i < ss.length) := hil
          clear hgd
          go_wp2_with fail
          refine qt.mono ?_
          rintro e w3 ⟨rfl, hA3, hK3⟩
          have bb3 := KB.out _ _ bb hK3
          have hg3 : (ss.set i ⟨zeros 64, 1⟩)[i]? = some ⟨zeros 64, 1⟩ := by rw [set_get, if_pos ⟨rfl, HIL.out⟩]
          have hgm := MP.out.lt
          have m3 := owns_moved MP.out (keeps_map hK3 hgm gp gS gF)
          have qr := read_yes hA3 i _ hg3 (by decide) 0 64 (by omega)
          rw [show part (zeros 64) 0 64 = zeros 64 by decide +kernel] at qr
          have HA3 : Hid (Ar w3 p S F (ss.set i ⟨zeros 64, 1⟩) l) := hA3
          have HG3 : Hid ((ss.set i ⟨zeros 64, 1⟩)[i]? = some ⟨zeros 64, 1⟩) := hg3
          have M3 : Hid (w3.ownsMap Try.prog 3 (plainElem (H := Unit) Try.prog 4) gm j D) := m3
          clear qt hA3 hK3 hg3 m3 MP hgm
          go_wp2_with fail
          refine qr.mono ?_
          rintro e w4 ⟨rfl, hw4⟩
          have HA4 : Hid (Ar w4 p S F (ss.set i ⟨zeros 64, 1⟩) l) := by subst hw4; exact HA3.out.alloc _
          have M4 : Hid (w4.ownsMap Try.prog 3 (plainElem (H := Unit) Try.prog 4) gm j D) := by subst hw4; exact M3.out.alloc _
          have bb4 : Below w.heap.size w w4 := by subst hw4; exact bb3.alloc bb3.size _
          have sb : Src w4 (some ⟨w3.heap.size, 0, none⟩) (zeros 64) := by subst hw4; exact src_mark w3 (zeros 64) 5 (0, 0)
          have HSb : Hid (Src w4 (some ⟨w3.heap.size, 0, none⟩) (zeros 64)) := sb
          have lt3 := HA3.out.lt
          clear hw4 sb HA3 M3 qr bb3
          generalize w3.heap.size = gb at *
          have lk := look_no M4.out.drew i (by omega) hno
          have cb1 := conv_src w4.drew (some ⟨gb, 0, none⟩) (zeros 64) 64 64 (by decide +kernel) HSb.out
          have mk := make30 64 (by omega) w4.drew
          have bw5 : Below w4.drew.heap.size w4.drew (w4.drew.alloc (.cells (cellsOf (zeros 64)).toArray 5)) := (Below.refl _ _).alloc (Nat.le_refl _) _
          have cb2 := conv_src (w4.drew.alloc (.cells (cellsOf (zeros 64)).toArray 5)) (some ⟨gb, 0, none⟩) (zeros 64) 64 64 (by decide +kernel) (Src.grow (w := w4.drew) HSb.out bw5)
          have cz := conv_src (w4.drew.alloc (.cells (cellsOf (zeros 64)).toArray 5)) (some ⟨w4.heap.size, 0, none⟩) (zeros 64) 64 64 (by decide +kernel) (src_mark w4.drew (zeros 64) 5 (0, 0))
          have HC : Hid (∀ W, Keeps p S F (w4.drew.alloc (.cells (cellsOf (zeros 64)).toArray 5)) W → (convert 30 9 (.slice (some ⟨gb, 0, none⟩) 64 64)).run Try.prog W = .ok (.string (strOf (zeros 64))) W) := fun W hk => conv_src W (some ⟨gb, 0, none⟩) (zeros 64) 64 64 (by decide +kernel) ((Src.grow (w := w4.drew) HSb.out bw5).keeps hk (by simp; omega) (by simp; omega) (by simp; omega))
          clear lt3
          have bb5 : Below w.heap.size w (w4.drew.alloc (.cells (cellsOf (zeros 64)).toArray 5)) := bb4.drew.alloc bb4.size _
          have ha5 : Ar (w4.drew.alloc (.cells (cellsOf (zeros 64)).toArray 5)) p S F (ss.set i ⟨zeros 64, 1⟩) l := HA4.out.drew.alloc _
          have M5 : Hid ((w4.drew.alloc (.cells (cellsOf (zeros 64)).toArray 5)).ownsMap Try.prog 3 (plainElem (H := Unit) Try.prog 4) gm j D) := M4.out.drew.alloc _
          have qw := write_yes ha5 i _ HG3.out (by decide) 0 a zs cap (by have := hzl.out; rw [HZ.out]; omega) (HS.out _ bb5)
          rw [HZ.out] at qw
          change (Instr.makeSlice 30 (.int .i64 64) (.int .i64 64)).run Try.prog w4.drew = .ok (.slice (some ⟨w4.heap.size, 0, none⟩) 64 64) (w4.drew.alloc (.cells (cellsOf (zeros 64)).toArray 5)) at mk
          generalize w4.drew.alloc (.cells (cellsOf (zeros 64)).toArray 5) = w5 at *
          generalize strOf (zeros 64) = sz at *
          have hZL : Hid ((splice (zeros 64) 0 zs).length = 64) := by
            show _ = _
            have := hzl.out
            simp [splice, zeros]
            have := HZ.out
            omega
          clear bw5 ha5
          go_wp2_with fail
          refine wp_region_held_drew (S := fun W => (convert 30 9 (.slice (some ⟨gb, 0, none⟩) 64 64)).run Try.prog W = .ok (.string sz) W) (by kernel_rfl) cb1 (fun hHeld => ?_)
          refine wpAnyH_take (i := 0) (oi := { dst := some 50, op := Op.move (Operand.tmp 9), type := 25, pos := "law.go:139", after := #[], guard := none }) (v := ?_) rfl (by kernel_rfl) (by kernel_rfl) (by kernel_rfl) (fun _ _ _ h => h) (Or.inl ⟨by rfl, ?_⟩) (by assumption) ?_
          rotate_left 1
          · (intro W hSw; (try dsimp only at hSw); go_simp; try with_reducible rfl)
          try simp only [Act.put, List.setIfInBounds_toArray, List.set_cons_zero, List.set_cons_succ]
          refine wpAnyH_take (i := 1) (oi := { dst := some 51, op := Op.binOp BinOp.neq 25 (Operand.tmp 50) (Operand.const (Value.int IntKind.i64 0)) 25, type := 4, pos := "law.go:139", after := #[{ on := 0, ground := Ground.data }], guard := none }) (v := ?_) rfl (by kernel_rfl) (by kernel_rfl) (by kernel_rfl) (fun _ _ _ h => h) (Or.inl ⟨by rfl, ?_⟩) (by assumption) ?_
          rotate_left 1
          · (intro W hSw; (try dsimp only at hSw); go_simp; try with_reducible rfl)
          try simp only [Act.put, List.setIfInBounds_toArray, List.set_cons_zero, List.set_cons_succ]
          refine wpAnyH_take (i := 2) (oi := { dst := some 52, op := Op.move (Operand.tmp 51), type := 4, pos := "law.go:139", after := #[{ on := 1, ground := Ground.data }], guard := none }) (v := ?_) rfl (by kernel_rfl) (by kernel_rfl) (by kernel_rfl) (fun _ _ _ h => h) (Or.inl ⟨by rfl, ?_⟩) (by assumption) ?_
          rotate_left 1
          · (intro W hSw; (try dsimp only at hSw); go_simp; try with_reducible rfl)
          try simp only [Act.put, List.setIfInBounds_toArray, List.set_cons_zero, List.set_cons_succ]
          refine wpAnyH_take (i := 3) (oi := { dst := some 53, op := Op.move (Operand.tmp 11), type := 25, pos := "law.go:139", after := #[{ on := 2, ground := Ground.guard }], guard := some (2, false) }) (v := ?_) rfl (by kernel_rfl) (by kernel_rfl) (by kernel_rfl) (fun _ _ _ h => h) (Or.inl ⟨by rfl, ?_⟩) (by assumption) ?_
          rotate_left 1
          · (intro W hSw; (try dsimp only at hSw); go_simp; try with_reducible rfl)
          try simp only [Act.put, List.setIfInBounds_toArray, List.set_cons_zero, List.set_cons_succ]
          refine wpAnyH_take (i := 4) (oi := { dst := some 54, op := Op.binOp BinOp.neq 25 (Operand.tmp 53) (Operand.const (Value.int IntKind.i64 0)) 25, type := 4, pos := "law.go:139", after := #[{ on := 3, ground := Ground.data }, { on := 2, ground := Ground.guard }], guard := some (2, false) }) (v := ?_) rfl (by kernel_rfl) (by kernel_rfl) (by kernel_rfl) (fun _ _ _ h => h) (Or.inl ⟨by rfl, ?_⟩) (by assumption) ?_
          rotate_left 1
          · (intro W hSw; (try dsimp only at hSw); go_simp; try with_reducible rfl)
          try simp only [Act.put, List.setIfInBounds_toArray, List.set_cons_zero, List.set_cons_succ]
          refine wpAnyH_take (i := 5) (oi := { dst := some 55, op := Op.pick (Operand.tmp 52) (Operand.const (Value.bool true)) (Operand.tmp 54), type := 4, pos := "law.go:139", after := #[{ on := 2, ground := Ground.data }, { on := 4, ground := Ground.data }], guard := none }) (v := ?_) rfl (by kernel_rfl) (by kernel_rfl) (by kernel_rfl) (fun _ _ _ h => h) (Or.inl ⟨by rfl, ?_⟩) (by assumption) ?_
          rotate_left 1
          · (intro W hSw; (try dsimp only at hSw); go_simp; try with_reducible rfl)
          try simp only [Act.put, List.setIfInBounds_toArray, List.set_cons_zero, List.set_cons_succ]
          refine wpAnyH_take (i := 6) (oi := { dst := some 56, op := Op.move (Operand.tmp 55), type := 4, pos := "law.go:139", after := #[{ on := 5, ground := Ground.data }, { on := 2, ground := Ground.chain }], guard := none }) (v := ?_) rfl (by kernel_rfl) (by kernel_rfl) (by kernel_rfl) (fun _ _ _ h => h) (Or.inl ⟨by rfl, ?_⟩) (by assumption) ?_
          rotate_left 1
          · (intro W hSw; (try dsimp only at hSw); go_simp; try with_reducible rfl)
          try simp only [Act.put, List.setIfInBounds_toArray, List.set_cons_zero, List.set_cons_succ]
          refine wpAnyH_take (i := 7) (oi := { dst := some 57, op := Op.move (Operand.tmp 7), type := 46, pos := "law.go:139", after := #[{ on := 6, ground := Ground.guard }], guard := some (6, false) }) (v := ?_) rfl (by kernel_rfl) (by kernel_rfl) (by kernel_rfl) (fun _ _ _ h => h) (Or.inl ⟨by rfl, ?_⟩) (by assumption) ?_
          rotate_left 1
          · (intro W hSw; (try dsimp only at hSw); go_simp; try with_reducible rfl)
          try simp only [Act.put, List.setIfInBounds_toArray, List.set_cons_zero, List.set_cons_succ]
          refine wpAnyH_take (i := 8) (oi := { dst := some 58, op := Op.move (Operand.tmp 8), type := 3, pos := "law.go:139", after := #[{ on := 6, ground := Ground.guard }], guard := some (6, false) }) (v := ?_) rfl (by kernel_rfl) (by kernel_rfl) (by kernel_rfl) (fun _ _ _ h => h) (Or.inl ⟨by rfl, ?_⟩) (by assumption) ?_
          rotate_left 1
          · (intro W hSw; (try dsimp only at hSw); go_simp; try with_reducible rfl)
          try simp only [Act.put, List.setIfInBounds_toArray, List.set_cons_zero, List.set_cons_succ]
          refine wpAnyH_ready (rs := [9]) (by kernel_rfl) (by simp) ?_
          refine AllReadyH.cons (o := { dst := some 59, op := Op.lookup 46 (Operand.tmp 57) (Operand.tmp 58) false, type := 4, pos := "law.go:139", after := #[{ on := 7, ground := Ground.data }, { on := 8, ground := Ground.data }, { on := 6, ground := Ground.guard }], guard := some (6, false) }) rfl (fun K hK => ?_) AllReadyH.nil
          go_simp
          refine hK.out _ _ (by exact cb1) (fun hHeld => ?_)
          clear hK K
          try simp only [Act.put, List.setIfInBounds_toArray, List.set_cons_zero, List.set_cons_succ]
          refine wpAnyH_take (i := 10) (oi := { dst := some 60, op := Op.pick (Operand.tmp 56) (Operand.const (Value.bool true)) (Operand.tmp 59), type := 4, pos := "law.go:139", after := #[{ on := 6, ground := Ground.data }, { on := 9, ground := Ground.data }], guard := none }) (v := ?_) rfl (by kernel_rfl) (by kernel_rfl) (by kernel_rfl) (fun _ _ _ h => h) (Or.inl ⟨by rfl, ?_⟩) (by assumption) ?_
          rotate_left 1
          · (intro W hSw; (try dsimp only at hSw); go_simp; try with_reducible rfl)
          try simp only [Act.put, List.setIfInBounds_toArray, List.set_cons_zero, List.set_cons_succ]
          refine wpAnyH_take (i := 11) (oi := { dst := some 61, op := Op.move (Operand.tmp 60), type := 4, pos := "law.go:139", after := #[{ on := 10, ground := Ground.data }, { on := 6, ground := Ground.chain }], guard := none }) (v := ?_) rfl (by kernel_rfl) (by kernel_rfl) (by kernel_rfl) (fun _ _ _ h => h) (Or.inl ⟨by rfl, ?_⟩) (by assumption) ?_
          rotate_left 1
          · (intro W hSw; (try dsimp only at hSw); go_simp; try with_reducible rfl)
          try simp only [Act.put, List.setIfInBounds_toArray, List.set_cons_zero, List.set_cons_succ]
          refine wpAnyH_take (i := 12) (oi := { dst := some 62, op := Op.move (Operand.tmp 10), type := 30, pos := "law.go:139", after := #[{ on := 11, ground := Ground.guard }], guard := some (11, false) }) (v := ?_) rfl (by kernel_rfl) (by kernel_rfl) (by kernel_rfl) (fun _ _ _ h => h) (Or.inl ⟨by rfl, ?_⟩) (by assumption) ?_
          rotate_left 1
          · (intro W hSw; (try dsimp only at hSw); go_simp; try with_reducible rfl)
          try simp only [Act.put, List.setIfInBounds_toArray, List.set_cons_zero, List.set_cons_succ]
          refine wpAnyH_take (i := 13) (oi := { dst := some 63, op := Op.convert 30 9 (Operand.tmp 62), type := 9, pos := "law.go:139", after := #[{ on := 12, ground := Ground.data }, { on := 11, ground := Ground.guard }], guard := some (11, false) }) (v := ?_) rfl (by kernel_rfl) (by kernel_rfl) (by kernel_rfl) (fun _ _ _ h => h) (Or.inl ⟨by rfl, ?_⟩) (by assumption) ?_
          rotate_left 1
          · (intro W hSw; (try dsimp only at hSw); go_simp; try with_reducible rfl)
          try simp only [Act.put, List.setIfInBounds_toArray, List.set_cons_zero, List.set_cons_succ]
          refine wpAnyH_ready (rs := [14]) (by kernel_rfl) (by simp) ?_
          refine AllReadyH.cons (o := { dst := some 64, op := Op.makeSlice 30 (Operand.const (Value.int IntKind.i64 64)) (Operand.const (Value.int IntKind.i64 64)), type := 30, pos := "law.go:139", after := #[{ on := 11, ground := Ground.guard }], guard := some (11, false) }) rfl (fun K hK => ?_) AllReadyH.nil
          go_simp
          refine hK.out _ _ (by exact cb2) (fun hHeld => ?_)
          clear hK K
          try simp only [Act.put, List.setIfInBounds_toArray, List.set_cons_zero, List.set_cons_succ]
          refine wpAnyH_ready (rs := [15]) (by kernel_rfl) (by simp) ?_
          refine AllReadyH.cons (o := { dst := some 65, op := Op.convert 30 9 (Operand.tmp 64), type := 9, pos := "law.go:139", after := #[{ on := 14, ground := Ground.data }, { on := 11, ground := Ground.guard }], guard := some (11, false) }) rfl (fun K hK => ?_) AllReadyH.nil
          go_simp
          refine hK.out _ _ (by exact cb2) (fun hHeld => ?_)
          clear hK K
          try simp only [Act.put, List.setIfInBounds_toArray, List.set_cons_zero, List.set_cons_succ]
          refine wpAnyH_take (i := 16) (oi := { dst := some 66, op := Op.binOp BinOp.neq 9 (Operand.tmp 63) (Operand.tmp 65) 9, type := 4, pos := "law.go:139", after := #[{ on := 13, ground := Ground.data }, { on := 15, ground := Ground.data }, { on := 11, ground := Ground.guard }], guard := some (11, false) }) (v := ?_) rfl (by kernel_rfl) (by kernel_rfl) (by kernel_rfl) (fun _ _ _ h => h) (Or.inl ⟨by rfl, ?_⟩) (by assumption) ?_
          rotate_left 1
          · (intro W hSw; (try dsimp only at hSw); go_simp; try with_reducible rfl)
          try simp only [Act.put, List.setIfInBounds_toArray, List.set_cons_zero, List.set_cons_succ]
          refine wpAnyH_take (i := 17) (oi := { dst := some 67, op := Op.pick (Operand.tmp 61) (Operand.const (Value.bool true)) (Operand.tmp 66), type := 4, pos := "law.go:139", after := #[{ on := 11, ground := Ground.data }, { on := 16, ground := Ground.data }], guard := none }) (v := ?_) rfl (by kernel_rfl) (by kernel_rfl) (by kernel_rfl) (fun _ _ _ h => h) (Or.inl ⟨by rfl, ?_⟩) (by assumption) ?_
          rotate_left 1
          · (intro W hSw; (try dsimp only at hSw); go_simp; try with_reducible rfl)
          try simp only [Act.put, List.setIfInBounds_toArray, List.set_cons_zero, List.set_cons_succ]
          refine wpAnyH_take (i := 18) (oi := { dst := some 68, op := Op.move (Operand.tmp 67), type := 4, pos := "law.go:139", after := #[{ on := 17, ground := Ground.data }, { on := 11, ground := Ground.chain }], guard := none }) (v := ?_) rfl (by kernel_rfl) (by kernel_rfl) (by kernel_rfl) (fun _ _ _ h => h) (Or.inl ⟨by rfl, ?_⟩) (by assumption) ?_
          rotate_left 1
          · (intro W hSw; (try dsimp only at hSw); go_simp; try with_reducible rfl)
          try simp only [Act.put, List.setIfInBounds_toArray, List.set_cons_zero, List.set_cons_succ]
          refine wpAnyH_take (i := 19) (oi := { dst := some 69, op := Op.move (Operand.tmp 5), type := 24, pos := "law.go:139", after := #[{ on := 18, ground := Ground.guard }], guard := some (18, false) }) (v := ?_) rfl (by kernel_rfl) (by kernel_rfl) (by kernel_rfl) (fun _ _ _ h => h) (Or.inl ⟨by rfl, ?_⟩) (by assumption) ?_
          rotate_left 1
          · (intro W hSw; (try dsimp only at hSw); go_simp; try with_reducible rfl)
          try simp only [Act.put, List.setIfInBounds_toArray, List.set_cons_zero, List.set_cons_succ]
          refine wpAnyH_take (i := 20) (oi := { dst := some 70, op := Op.move (Operand.tmp 8), type := 3, pos := "law.go:139", after := #[{ on := 18, ground := Ground.guard }], guard := some (18, false) }) (v := ?_) rfl (by kernel_rfl) (by kernel_rfl) (by kernel_rfl) (fun _ _ _ h => h) (Or.inl ⟨by rfl, ?_⟩) (by assumption) ?_
          rotate_left 1
          · (intro W hSw; (try dsimp only at hSw); go_simp; try with_reducible rfl)
          try simp only [Act.put, List.setIfInBounds_toArray, List.set_cons_zero, List.set_cons_succ]
          refine wpAnyH_take (i := 21) (oi := { dst := some 71, op := Op.move (Operand.tmp 1), type := 30, pos := "law.go:139", after := #[{ on := 18, ground := Ground.guard }], guard := some (18, false) }) (v := ?_) rfl (by kernel_rfl) (by kernel_rfl) (by kernel_rfl) (fun _ _ _ h => h) (Or.inl ⟨by rfl, ?_⟩) (by assumption) ?_
          rotate_left 1
          · (intro W hSw; (try dsimp only at hSw); go_simp; try with_reducible rfl)
          try simp only [Act.put, List.setIfInBounds_toArray, List.set_cons_zero, List.set_cons_succ]
          refine wpAnyH_ready (rs := [22]) (by kernel_rfl) (by simp) ?_
          refine AllReadyH.cons (o := { dst := some 72, op := Op.call { callee := Callee.value (Operand.func 12), args := #[Operand.tmp 69, Operand.tmp 70, Operand.const (Value.int IntKind.i64 0), Operand.tmp 71], argTypes := #[24, 3, 3, 30] }, type := 25, pos := "law.go:139", after := #[{ on := 19, ground := Ground.data }, { on := 20, ground := Ground.data }, { on := 21, ground := Ground.data }, { on := 18, ground := Ground.chain }, { on := 18, ground := Ground.guard }], guard := some (18, false) }) rfl (fun K hK => ?_) AllReadyH.nil
          go_simp
          go_at_call 12
          refine qw.mono ?_
          rintro e w6 ⟨rfl, hA6, hK6⟩
          go_wp2_with fail
          refine hK.out _ _ (by exact HC.out _ hK6) (fun hHeld => ?_)
          clear hK K
          try simp only [Act.put, List.setIfInBounds_toArray, List.set_cons_zero, List.set_cons_succ]
          refine wpAnyH_take (i := 23) (oi := { dst := some 73, op := Op.binOp BinOp.neq 25 (Operand.tmp 72) (Operand.const (Value.int IntKind.i64 0)) 25, type := 4, pos := "law.go:139", after := #[{ on := 22, ground := Ground.data }, { on := 18, ground := Ground.guard }], guard := some (18, false) }) (v := ?_) rfl (by kernel_rfl) (by kernel_rfl) (by kernel_rfl) (fun _ _ _ h => h) (Or.inl ⟨by rfl, ?_⟩) (by assumption) ?_
          rotate_left 1
          · (intro W hSw; (try dsimp only at hSw); go_simp; try with_reducible rfl)
          try simp only [Act.put, List.setIfInBounds_toArray, List.set_cons_zero, List.set_cons_succ]
          refine wpAnyH_take (i := 24) (oi := { dst := some 74, op := Op.pick (Operand.tmp 68) (Operand.const (Value.bool true)) (Operand.tmp 73), type := 4, pos := "law.go:139", after := #[{ on := 18, ground := Ground.data }, { on := 23, ground := Ground.data }], guard := none }) (v := ?_) rfl (by kernel_rfl) (by kernel_rfl) (by kernel_rfl) (fun _ _ _ h => h) (Or.inl ⟨by rfl, ?_⟩) (by assumption) ?_
          rotate_left 1
          · (intro W hSw; (try dsimp only at hSw); go_simp; try with_reducible rfl)
          try simp only [Act.put, List.setIfInBounds_toArray, List.set_cons_zero, List.set_cons_succ]
          refine wpAnyH_done (by kernel_rfl) ?_ _
          have hA7 : Ar w6 p S F (ss.set i ⟨splice (zeros 64) 0 zs, 1⟩) l := by rw [List.set_set] at hA6; exact hA6
          have bb6 := KB.out _ _ bb5 hK6
          have m6 := owns_moved M5.out (keeps_map hK6 M5.out.lt gp gS gF)
          have hmaps := m6.isMap
          have HA6 : Hid (Ar w6 p S F (ss.set i ⟨splice (zeros 64) 0 zs, 1⟩) l) := hA7
          have M6 : Hid (w6.ownsMap Try.prog 3 (plainElem (H := Unit) Try.prog 4) gm j D) := m6
          clear hA6 hA7 hK6 m6 M5 HC lk cb1 mk cb2 cz qw hHeld hZL bb5
          go_wp2_with (at_mapUpdate; refine wpList_mapUpdate_own _ rfl _ _ _ 46 rfl 3 4 key3 Try.underlying46 _ gm j D rfl M6.out ?d1 _ _ (.int .i64 (i : Int)) rfl rfl (key_of3 i (wf_nat i (by omega))) (.lit (.bool true)) [] (elem_bool true) ?_)
          case d1 => unfold maxLen; omega
          · intro w7 m7 g7
            have bb7 : Below w.heap.size w w7 := bb6.grown g7 bb6.size fun q hq => by cases hq; exact gB
            have lt6 := HA6.out.lt
            have hA7 : Ar w7 p S F (ss.set i ⟨splice (zeros 64) 0 zs, 1⟩) l := HA6.out.moved (g7.block p lt6.1 (fun e => gp (by injection e with e; exact e.symm))) (g7.block S lt6.2.1 (fun e => gS (by injection e with e; exact e.symm))) (g7.block F lt6.2.2 (fun e => gF (by injection e with e; exact e.symm)))
            have hl7 : l.length + (j + 1) = n := by have := HL.out.2; simp at this; omega
            have hs7 : (ss.set i ⟨splice (zeros 64) 0 zs, 1⟩).length = n := by rw [List.length_set]; exact HL.out.1
            clear g7 lt6
            go_wp2
            go_roundw
            case rel => exact ⟨j + 1, ss.set i ⟨splice (zeros 64) 0 zs, 1⟩, l, D.put (.int .i64 (i : Int)) (.lit (.bool true)), by omega, by go_num, hA7, ⟨hs7, hl7⟩, once_set HO.out i _ (.inr rfl), MapIs.put HM.out hmaps HIL.out rfl _, m7, bb7⟩
            case measure => simp [intOf]; omega
        · have hfr : fr = [] := List.eq_nil_of_length_eq_zero (by have := HL.out.2; omega)
          subst hfr
          have qt := take_no HA.out
          have qf := free_w HA.out
          have hltA := HA.out.lt
          have hltM := MP.out.lt
          go_wp2_with (first | (go_at_call 11; refine qt.mono ?_; rintro e w' ⟨rfl, rfl⟩) | (go_at_call 16; refine qf.mono ?_; rintro e w' ⟨rfl, rfl⟩) | (at_range; refine wpList_range_own _ rfl _ 46 rfl 3 4 key3 Try.underlying46 _ gm j D rfl MP.out ?_))
          intro w6 r6 g6 s6
          have bb6 : Below w.heap.size w w6 := bb.grown g6 bb.size (fun k hk => by cases hk)
          have A6 : Hid (Ar w6 p S F ss []) := HA.out.moved (g6.block p hltA.1 (fun e => by cases e)) (g6.block S hltA.2.1 (fun e => by cases e)) (g6.block F hltA.2.2 (fun e => by cases e))
          have rp : wr.heap.size ≠ p := by omega
          have rS : wr.heap.size ≠ S := by omega
          have rF : wr.heap.size ≠ F := by omega
          have rB : w.heap.size ≤ wr.heap.size := bb.size
          have R6 : Hid (w6.ranges Try.prog 3 (plainElem (H := Unit) Try.prog 4) gm wr.heap.size j D (Maps.has D) (Maps.size D)) := r6
          clear r6 g6 s6 qt qf hltA hltM HA MP bb
          generalize wr.heap.size = rr at *
          go_wp2_with fail
          go_loopw [14] (fun _ wz => ∃ (left : Lit → Bool) (cnt : Nat) (ss : List Slot) (fr : List Nat), Hid (wz.ranges Try.prog 3 (plainElem (H := Unit) Try.prog 4) gm rr j D left cnt) ∧ Hid (Ar wz p S F ss fr) ∧ Hid (ss.length = n) ∧ Hid (Once ss) ∧ Hid (∀ x : Int, left (.int .i64 x) = true ↔ IsHeld ss x) ∧ Below w.heap.size w wz) (fun _ wz => wz.rangeLeft gm rr)
          case atStart => exact ⟨_, _, ss, [], R6.out, A6.out, HL.out.1, HO.out, HM.out, bb6⟩
          case round =>
            obtain ⟨left, cnt, ss, fr, HR, HA, HL, HO, HM, bb⟩ := hrel
            have HCnt : Hid (wr.rangeLeft gm rr = cnt) := HR.out.left_eq
            clear R6 A6 bb6
            go_wp2_with (at_next; refine wpList_next_ranges _ rfl _ rfl 3 key3 (plainElem Try.prog 4) (Value.int .i64) (fun v : Value => v) (fun key kl h => key_inv3 h) (fun v y h => ⟨v, rfl⟩) gm rr j D left cnt rfl HR.out ?hd ?hm)
            case hd =>
              intro h0 hl
              have hfree : ∀ (i : Nat) (s : Slot), ss[i]? = some s → s.holds = 0 := by
                intro i s hi
                rcases HO.out i s hi with h | h
                · exact h
                · have := (HM.out i).2 ⟨i, s, rfl, hi, h⟩
                  rw [hl] at this
                  cases this
              have hfl := free_all HA.out.good hfree
              rw [HL.out] at hfl
              clear HR HCnt hl
              go_wp2
              go_roundw
              case rel => exact ⟨r + 1, ss, fr, by omega, by go_num, HA.out, ⟨HL.out, hfl⟩, bb⟩
              case measure => simp [intOf]; omega
            case hm =>
              intro x c kl y1 y2 w7 cnt' hkey hlk hv hat hrg hlt' hgr hsz hen
              obtain ⟨x', ex, rfl, _⟩ := Maps.keyOf_int_inv Try.underlying3 hkey
              cases ex
              obtain ⟨i, s, rfl, hi, hs1⟩ := (HM.out x).1 hlk
              have ltA := HA.out.lt
              have A7 : Ar w7 p S F ss fr := HA.out.moved (hgr.block p ltA.1 (fun e => rp (by injection e with e; exact e.symm))) (hgr.block S ltA.2.1 (fun e => rS (by injection e with e; exact e.symm))) (hgr.block F ltA.2.2 (fun e => rF (by injection e with e; exact e.symm)))
              have bb7 : Below w.heap.size w w7 := bb.grown hgr bb.size (fun k hk => by cases hk; exact rB)
              have qd := drop_last A7 i s hi hs1
              have HR7 : Hid (w7.ranges Try.prog 3 (plainElem (H := Unit) Try.prog 4) gm rr j D (fun z => left z && !z.sameKey (.int .i64 (i : Int))) cnt') := hrg
              have HI : Hid (ss[i]? = some s) := hi
              clear hrg hgr hv hat hkey hlk A7 ltA hs1 hi
              go_wp2_with fail
              refine qd.mono ?_
              rintro e w8 ⟨rfl, A8, K8⟩
              have hil := lt_of_some HI.out
              have bb8 := KB.out _ _ bb7 K8
              obtain ⟨gl, rl⟩ := ranges_lt HR7.out
              have R8 : Hid (w8.ranges Try.prog 3 (plainElem (H := Unit) Try.prog 4) gm rr j D (fun z => left z && !z.sameKey (.int .i64 (i : Int))) cnt') := ranges_moved HR7.out (keeps_map K8 gl gp gS gF) (keeps_map K8 rl rp rS rF)
              have hgone : Gone (ss.set i Slot.none) (i : Int) := by
                intro k s' e hk
                obtain rfl : i = k := by omega
                rw [set_get, if_pos ⟨rfl, hil⟩] at hk
                cases hk
                rfl
              have q2 := drop_no A8 (i : Int) hgone
              have q3 := holds_no A8 (i : Int) hgone
              have HA8 : Hid (Ar w8 p S F (ss.set i Slot.none) (fr ++ [i])) := A8
              have HIL : Hid (i < ss.length) := hil
              have hl8 := R8.out.left_eq
              have HM8 : Hid (w8.rangeLeft gm rr < wr.rangeLeft gm rr) := by
                show _ < _
                rw [hl8, HCnt.out]
                exact hlt'
              have HL8 : Hid ((ss.set i Slot.none).length = n) := by show _ = _; rw [List.length_set]; exact HL.out
              have HI8 : Hid (∀ x : Int, (left (.int .i64 x) && !(Lit.int .i64 x).sameKey (.int .i64 (i : Int))) = true ↔ IsHeld (ss.set i Slot.none) x) := by
                intro x
                by_cases c : x = (i : Int)
                · subst c
                  have : ¬ IsHeld (ss.set i Slot.none) (i : Int) := gone_set_same hil rfl
                  simp [Lit.sameKey, this]
                · rw [held_set_other c, ← HM.out x]
                  simp [Lit.sameKey, c]
              clear hl8 A8 K8 HR7 gl rl hil hgone qd bb7
              go_wp2_with (first | (go_at_call 14; refine q2.mono ?_; rintro e w' ⟨rfl, rfl⟩) | (go_at_call 18; refine q3.mono ?_; rintro e w' ⟨rfl, rfl⟩))
              go_roundw
              case rel => exact ⟨_, cnt', _, _, R8.out, HA8.out, HL8.out, once_set HO.out i _ (.inl rfl), HI8.out, bb8⟩
              case measure => exact HM8.out
    · have qf := free_w HA.out
      have hfn : (fr.length : Int) = n := by have := HL.out.2; omega
      rw [hfn] at qf
      go_wp2_with (go_at_call 16; refine qf.mono ?_; rintro e w' ⟨rfl, rfl⟩)
      go_ret
      exact ⟨by first | rfl | simp, bb⟩

theorem walk_no (n : Int) (a : Option Addr) (l cap : Nat) (w : World) (h : n < 0 ∨ 50 < n ∨ 64 < l) :
    Calls Try.prog 4 #[.int .i64 n, .slice a l cap] w fun e w' => e = .returned (.bool true) ∧ Below w.heap.size w w' := by
  by_cases c1 : n < 0
  · go_enter Try.func4, Try.ntmps4
    go_wp2_with (go_at_call 9; refine (head_ok _).mono ?_; rintro e w1 ⟨rfl, hb1⟩)
    go_ret
    exact ⟨rfl, hb1⟩
  · by_cases c2 : 50 < n
    · go_enter Try.func4, Try.ntmps4
      go_wp2_with (go_at_call 9; refine (head_ok _).mono ?_; rintro e w1 ⟨rfl, hb1⟩)
      go_ret
      exact ⟨rfl, hb1⟩
    · have c3 : (64 : Int) < l := by omega
      go_enter Try.func4, Try.ntmps4
      go_wp2_with (go_at_call 9; refine (head_ok _).mono ?_; rintro e w1 ⟨rfl, hb1⟩)
      go_ret
      exact ⟨rfl, hb1⟩

theorem walk (n : Int) (a : Option Addr) (l cap : Nat) (zs : List Int) (w : World) (wn : (Lit.int .i64 n).wf = true) (hr : IsRow .u8 w a l cap zs) :
    Calls Try.prog 4 #[.int .i64 n, .slice a l cap] w fun e w' => e = .returned (.bool true) ∧ Below w.heap.size w w' := by
  obtain ⟨hs, hl, _, _⟩ := row_src hr
  by_cases c : n < 0 ∨ 50 < n ∨ 64 < l
  · exact walk_no n a l cap w c
  · obtain ⟨k, rfl⟩ : ∃ k : Nat, n = (k : Int) := ⟨n.toNat, by omega⟩
    have := walk_in k (by omega) a cap (zs.take l) w (by omega) hs
    rw [hl] at this
    exact this

theorem own : ownKnob Try.prog.godebug = none := by kernel_rfl
theorem laidOut : laidOutB Try.prog = true := by kernel_rfl
set_option maxRecDepth 100000 in
theorem lifted (os : Os) (started : os.Started) (H : Type) (enc : TypeId × Value → H) :
    ReturnsInHanded {} Try.checked os 4 .any (Rows.blockFullSpec.pre6 enc Try.prog Try.f4 Rows.blockFullRow.domain false) (Rows.blockFullSpec.post enc Try.prog Try.f4 false true false false) := by
  refine returnsInHanded_of_change (C := Try.checked) own started (by kernel_rfl) Try.func4
    (ChangeSpec.witness6 (enc := enc) (C := Try.checked) false ⟨#[], #[.int .i64 0, .slice none 0 0], []⟩ 8 (by kernel_rfl) (by kernel_rfl) (by kernel_rfl) (by kernel_rfl)) ?_
  intro W base args ds gs before hval0 hW hcnd _
  have hval : ∀ (j : Nat) t v, Try.f4.params[j]? = some t → args[j]? = some v → Value.okWide Try.prog W .any base t v := hval0
  have hW' := hW
  obtain ⟨p, q, hA0, hV, rfl, hfz, hnd⟩ := hW
  have hA : DataW.TrodAll enc Try.prog W 0 (fun _ => true) true Try.f4.params.toList args.toList ds p := hA0
  rw [Try.params4] at hA hval
  obtain ⟨v0, vs0, d0, ds0, p0, q0, hargs, rfl, rfl, h0, r0⟩ := trodAll_cons hA
  obtain ⟨v1, vs1, d1, ds1, p1, q1, rfl, rfl, rfl, h1, r1⟩ := trodAll_cons r0
  obtain ⟨rfl, rfl, rfl⟩ := trodAll_nil r1
  obtain rfl : args = #[v0, v1] := by cases args; simp_all
  obtain ⟨rfl, rfl⟩ := trodVars_none hV
  obtain ⟨a0, rfl, rfl, rfl, w0⟩ := open_int Try.underlying3 (hval 0 3 v0 rfl rfl) h0
  obtain ⟨a1, len1, cap1, rfl⟩ := okWide_slice Try.underlying30 (hval 1 30 v1 rfl rfl)
  have k1 := h1
  have lt1 : ∀ x ∈ p1, x.block < W.heap.size := by obtain ⟨m, hm⟩ := k1; exact DataW.trod_lt m _ _ _ hm
  obtain ⟨z1, w1⟩ : ∃ zs, IsRow .u8 W a1 len1 cap1 zs := by
    obtain ⟨fuel, hf⟩ := h1
    rcases open_ints Try.underlying30 Try.underlying5 (by kernel_rfl) hf with ⟨hcs, _⟩ | ⟨x, l, c, zs, hcs, _, hl, hm, hz, _, hcell, hwz⟩
    · simp [Value.cells] at hcs
      obtain ⟨rfl, rfl, rfl⟩ := hcs
      exact ⟨[], .inl ⟨rfl, rfl, rfl, rfl⟩⟩
    · simp [Value.cells] at hcs
      obtain ⟨rfl, rfl, rfl⟩ := hcs
      exact ⟨zs, .inr ⟨_, rfl, hl, hm, by simpa using hz, hcell, hwz⟩⟩
  clear hA0 hval0
  refine (walk a0 a1 len1 cap1 z1 W w0 w1).mono fun e W' ⟨he, bel⟩ => ?_
  subst he
  exact ⟨_, rfl, _, _, _, [], _, [], hW', trodAll_mk1 (shut_bool Try.underlying4 _), (trodAll_cons_mk (shut_int Try.underlying3 w0) (trodAll_cons_mk (Below.trod laidOut (by kernel_rfl) (of_decide_eq_true (by kernel_rfl)) k1 bel lt1) trodAll_mk0)), rfl, bel.frame _, fun h => by cases h⟩

theorem over : Rows.blockFullRow.holds Try.pinned (OpenSpec.ofChange Rows.blockFullSpec) :=
  OpenClaim.holds_of_wide 4 Try.f4 rfl rfl rfl rfl rfl rfl rfl ⟨rfl, rfl, rfl, rfl, rfl⟩ rfl rfl rfl rfl rfl (by kernel_rfl) Try.func4 (by kernel_rfl)
    (of_decide_eq_true (by kernel_rfl)) (by unfold Func.isWrapper; first | (rw [if_pos (by decide +kernel)]; kernel_rfl) | (rw [if_neg (by decide +kernel)]; exact ⟨rfl, rfl⟩))
    (fun os started H enc _ => lifted os started H enc)

end Go.Proofs.Ytpjfhfbjdcgbjaa.blockFull
namespace Go.Proofs.Ytpjfhfbjdcgbjaa
theorem blockFull_holds : Rows.BlockFullSaid := blockFull.over
#print axioms blockFull_holds
end Go.Proofs.Ytpjfhfbjdcgbjaa
