/-
  The laws' head 'keeps': true, whatever the world; below what was there nothing turns.
-/
import Derived.Test.YtpjfhfbjdcgbjabWrap
import Derived.Lib.SlBytesConst
namespace Go.Proofs.Ytpjfhfbjdcgbjab
open Go.RowKit
set_option linter.unusedVariables false
set_option linter.unusedSimpArgs false

theorem src_mark_at (w : World) (zs : List Int) (t : TypeId) (m : Nat × Nat) (C : Array Value) (h : C = (cellsOf zs).toArray) : Src (w.alloc (.cells C t m)) (some ⟨w.heap.size, 0, none⟩) zs := by
  subst h; exact src_row zs [] (heap_alloc_new w _)

theorem blank_inv (n : Nat) (fr : List Nat) (h : Good (blank n) fr) : Inv (blank n) fr [] := inv_new n _ _ h fun s hs => by
  have := List.eq_of_mem_replicate hs
  rw [this]; rfl

theorem tot_le (M : Nat) : ∀ (cs : List Ct) (z : Int), (∀ c ∈ cs, c.1.length ≤ M) → tot cs z ≤ cs.length * M
  | [], z, _ => by simp [tot]
  | c :: r, z, h => by
    have h1 := tot_le M r z (fun d hd => h d (by simp [hd]))
    have h2 : c.1.count z ≤ c.1.length := List.count_le_length
    have h3 := h c (by simp)
    simp only [tot, List.length_cons, Nat.add_mul, Nat.one_mul]
    omega

theorem Inv.small {ss : List Slot} {fr : List Nat} {cs : List Ct} (h : Inv ss fr cs) (M : Nat) (hM : ∀ c ∈ cs, c.1.length ≤ M) : ∀ s ∈ ss, s.holds ≤ cs.length * M := by
  intro s hs
  obtain ⟨i, hi, e⟩ := List.getElem_of_mem hs
  have := h.acc i s (by rw [List.getElem?_eq_getElem hi, e])
  rw [this]
  exact tot_le M cs _ hM

theorem down_len (n : Nat) : (down n).length = n := by simp [down]

theorem need_w (n : Nat) (w : World) (hn : n ≤ 1152921504606846976) :
    Calls Try.prog 13 #[.int .i64 (n : Int)] w fun e w' => e = .returned (.int .i64 (need n : Int)) ∧ w = w' := by
  go_enter Try.func13, Try.ntmps13
  go_wp2
  go_ret
  refine ⟨?_, rfl⟩
  simp
  unfold need
  omega

theorem blank_un (n : Nat) : Un (blank n) := fun s hs => by
  have := List.eq_of_mem_replicate hs
  rw [this]; simp [Slot.none]

/-- a store of two cells into a variable -/
theorem two_cells {w : World} {g : Nat} {x y : Value} (h : w.heap[g]? = some (.cells #[x, y] 35 (0, 0))) : w.cell? ⟨g, 0, none⟩ = some x ∧ w.cell? ⟨g, 1, none⟩ = some y ∧ w.frozen? ⟨g, 0, none⟩ = false ∧ w.frozen? ⟨g, 1, none⟩ = false :=
  ⟨by simp [World.cell?, h], by simp [World.cell?, h], by simp [World.frozen?, h], by simp [World.frozen?, h]⟩

theorem two_set {w : World} {g : Nat} {x y : Value} (h : w.heap[g]? = some (.cells #[x, y] 35 (0, 0))) (u t : Value) : ((w.setCell ⟨g, 0, none⟩ u).setCell ⟨g, 1, none⟩ t).heap[g]? = some (.cells #[u, t] 35 (0, 0)) ∧ ∀ k, k ≠ g → ((w.setCell ⟨g, 0, none⟩ u).setCell ⟨g, 1, none⟩ t).heap[k]? = w.heap[k]? :=
  ⟨by rw [setCell_eq_setRow w _ 0 _ _ _ _ h, setCell_eq_setRow _ _ 1 _ _ _ _ (setRow_heap _ _ _ _ _ _ h), setRow_heap _ _ _ _ _ _ (setRow_heap _ _ _ _ _ _ h)]; simp, fun k hk => by rw [Below.heap_setCell _ _ _ _ hk, Below.heap_setCell _ _ _ _ hk]⟩

set_option maxRecDepth 100000 in
set_option maxHeartbeats 8000000 in
theorem keeps_ok (w : World) : Calls Try.prog 9 #[] w fun e w' => e = .returned (.bool true) ∧ Below w.heap.size w w' := by
  go_enter Try.func9, Try.ntmps9
  go_wp2_with fail
  refine (new_yes 3 w (by decide)).mono ?_
  rintro e w1 ⟨p, S, F, rfl, A1, B1, gp, gS, gF⟩
  obtain ⟨lp, lS, lF⟩ := A1.lt
  have I1 : Inv (blank 3) (down 3) [([], [])] := (blank_inv 3 _ A1.good).begin
  have kc := Lib.run_convert_bytes_const (P := Try.prog) w1 30 5 #[.int .u8 97, .int .u8 98, .int .u8 99] 3 3 Try.underlying30 Try.underlying5
  have q : Calls Try.prog 12 #[.pointer (some ⟨p, 0, none⟩), .agg #[.slice none 0 0, .int .i64 0], .slice (some ⟨w1.heap.size, 0, none⟩) 3 3] (w1.alloc (.cells #[.int .u8 97, .int .u8 98, .int .u8 99] 5 (3, 4))) fun e w' => ∃ (a' : Option Addr) (c' : Nat) (ids3 : List Int) (ss3 : List Slot) (fr3 : List Nat),
      e = .returned (.tuple #[.agg #[.slice a' ids3.length c', .int .i64 3], .int .i64 0]) ∧ Own w' (w1.heap.size + 1) (.slice a' ids3.length c') ids3 ∧ Ar w' p S F ss3 fr3 ∧ Keeps p S F (w1.alloc (.cells #[.int .u8 97, .int .u8 98, .int .u8 99] 5 (3, 4))) w' ∧ Inv ss3 fr3 [(ids3, [97, 98, 99])] ∧ fr3.length = 2 := by
    refine (app_inv (A1.alloc _) I1 none 0 0 (own_nil _ _) (some ⟨w1.heap.size, 0, none⟩) [97, 98, 99] 3 (by decide) (by decide) (src_mark_at w1 [97, 98, 99] 5 (3, 4) _ rfl) (fun _ ad e => by cases e; exact ⟨by show w1.heap.size ≠ p; omega, by show w1.heap.size ≠ S; omega, by show w1.heap.size ≠ F; omega⟩) (by decide +kernel)).mono ?_
    rintro e w' ⟨a', c', ids3, ss3, fr3, he, O, A, K, I, f, _⟩
    refine ⟨a', c', ids3, ss3, fr3, he, by rw [World.size_alloc] at O; exact O, A, K, I, ?_⟩
    have hs : isShared (blank 3) [] 0 = false := by decide +kernel
    rw [down_len] at f
    simp only [List.length_nil, hs] at f
    simp [need] at f
    omega
  go_wp2_with fail
  refine q.mono ?_
  rintro e w2 ⟨a1, c1, ids1, ss1, fr1, rfl, O1, A2, K2, I2, f2⟩
  clear q kc I1 A1
  have s2 : w1.heap.size + 1 ≤ w2.heap.size := by have := K2.size; simpa using this
  have B2 : Below w.heap.size w w2 := (B1.alloc (by omega) _).trans (K2.below (by simp; omega) gp gS gF)
  have L1 : Hid (ids1.length = 1) := by have := (I2.lies (ids1, [97, 98, 99]) (by simp)).len; simpa [need, Hid] using this
  -- the variable c
  have g3 := heap_alloc_new w2 (.cells #[.slice a1 ids1.length c1, .int .i64 3] 35)
  have A3 := A2.alloc (.cells #[.slice a1 ids1.length c1, .int .i64 3] 35)
  have O3 := O1.grow (below_box w2 (.cells #[.slice a1 ids1.length c1, .int .i64 3] 35))
  have B3 := B2.alloc B2.size (.cells #[.slice a1 ids1.length c1, .int .i64 3] 35)
  have s3 : w2.heap.size + 1 ≤ (w2.alloc (.cells #[.slice a1 ids1.length c1, .int .i64 3] 35)).heap.size := by simp
  generalize hv3 : w2.alloc (.cells #[.slice a1 ids1.length c1, .int .i64 3] 35) = w3 at *
  obtain ⟨u0, u1, u2, u3, _⟩ := O3.use
  have q := share_ok A3 a1 c1 ids1 3 u1 (by have := L1.out; omega) u2 (fun b off e => by have := u3 b off e; exact ⟨by omega, by omega, by omega⟩) (I2.lies (ids1, [97, 98, 99]) (by simp)).held (fun s hs => by have := I2.small 1 (fun c hc => by simp at hc; subst hc; simp; have := L1.out; omega) s hs; have := L1.out; simp at *; omega)
  clear u0 u1 u2 u3
  obtain ⟨k30, k31, k32, k33⟩ := two_cells g3
  go_wp2_with fail
  refine q.mono ?_
  rintro e w4 ⟨a2, c2, rfl, O4, A4, K4⟩
  clear q
  have I4 : Inv (holdF ss1 ids1) fr1 [(ids1, [97, 98, 99]), (ids1, [97, 98, 99])] := I2.share A4.good
  have g4 : w4.heap[w2.heap.size]? = some (.cells #[.slice a1 ids1.length c1, .int .i64 3] 35 (0, 0)) := (K4.block _ (lt_of_heap g3) (by omega) (by omega) (by omega)).trans g3
  have O1' := O3.keeps K4 (by omega) (by omega) (by omega)
  have B4 : Below w.heap.size w w4 := B3.trans (K4.below B3.size gp gS gF)
  have s4 := K4.size
  clear O1 O3 A3 K4 g3 I2 K2 A2 B2 B3 hv3 k30 k31 k32 k33
  -- the variable d
  have g5 := heap_alloc_new w4 (.cells #[.slice a2 ids1.length c2, .int .i64 3] 35)
  have bx5 := below_box w4 (.cells #[.slice a2 ids1.length c2, .int .i64 3] 35)
  have A5 := A4.grow bx5
  have g4 := heap_below bx5 g4
  have O1' := O1'.grow bx5
  have O4 := O4.grow bx5
  have B5 := B4.alloc B4.size (.cells #[.slice a2 ids1.length c2, .int .i64 3] 35)
  have s5 : w4.heap.size + 1 ≤ (w4.alloc (.cells #[.slice a2 ids1.length c2, .int .i64 3] 35)).heap.size := by simp
  generalize hv5 : w4.alloc (.cells #[.slice a2 ids1.length c2, .int .i64 3] 35) = w5 at *
  have kc := Lib.run_convert_bytes_const (P := Try.prog) w5 30 5 #[.int .u8 100, .int .u8 101] 2 2 Try.underlying30 Try.underlying5
  have bx6 := below_box w5 (.cells #[.int .u8 100, .int .u8 101] 5 (2, 3))
  have A6 := A5.grow bx6
  have O6 := O1'.grow bx6
  have hsh : isShared (holdF ss1 ids1) ids1 ([97, 98, 99] : List Int).length = true := by have := I4.twice; simpa [isOpen] using this
  have hcan : canCode (holdF ss1 ids1) fr1 ids1 3 2 = 0 := I4.can 2 (by decide) (by rw [if_pos hsh]; simp [need, f2])
  have q : Calls Try.prog 12 #[.pointer (some ⟨p, 0, none⟩), .agg #[.slice a1 ids1.length c1, .int .i64 3], .slice (some ⟨w5.heap.size, 0, none⟩) 2 2] (w5.alloc (.cells #[.int .u8 100, .int .u8 101] 5 (2, 3))) fun e w' => ∃ (a' : Option Addr) (c' : Nat) (ids3 : List Int) (ss3 : List Slot) (fr3 : List Nat),
      e = .returned (.tuple #[.agg #[.slice a' ids3.length c', .int .i64 5], .int .i64 0]) ∧ Own w' (w5.heap.size + 1) (.slice a' ids3.length c') ids3 ∧ Ar w' p S F ss3 fr3 ∧ Keeps p S F (w5.alloc (.cells #[.int .u8 100, .int .u8 101] 5 (2, 3))) w' ∧ Inv ss3 fr3 [(ids3, [97, 98, 99, 100, 101]), (ids1, [97, 98, 99])] ∧ Hid (fr3.length = 1) := by
    refine (app_inv A6 I4 a1 c1 _ O6 (some ⟨w5.heap.size, 0, none⟩) [100, 101] 2 (by decide) (by decide) (src_mark_at w5 [100, 101] 5 (2, 3) _ rfl) (fun _ ad e => by cases e; exact ⟨by show w5.heap.size ≠ p; omega, by show w5.heap.size ≠ S; omega, by show w5.heap.size ≠ F; omega⟩) hcan).mono ?_
    rintro e w' ⟨a', c', ids3, ss3, fr3, he, O, A, K, I, f, _⟩
    refine ⟨a', c', ids3, ss3, fr3, he, by rw [World.size_alloc] at O; exact O, A, K, I, ?_⟩
    show fr3.length = 1
    rw [if_pos hsh] at f
    simp [need, f2] at f
    omega
  clear hsh hcan O6
  have k4 := two_cells g4
  obtain ⟨k40, k41, k42, k43⟩ := k4
  have HG4 : Hid _ := g4
  have HG5 : Hid _ := g5
  clear g4 g5
  go_wp2_with fail
  refine q.mono ?_
  rintro e w7 ⟨a3, c3, ids3, ss3, fr3, rfl, O7, A7, K7, I7, f7⟩
  clear q kc k40 k41 k42 k43 hv5
  have s7 := K7.size
  rw [World.size_alloc] at s7
  have s5' := lt_of_heap HG5.out
  have s4' := lt_of_heap HG4.out
  have g47 := (K7.block _ (by simp; omega) (by omega) (by omega) (by omega)).trans (heap_alloc (.cells #[.int .u8 100, .int .u8 101] 5 (2, 3)) HG4.out)
  have g57 := (K7.block _ (by simp; omega) (by omega) (by omega) (by omega)).trans (heap_alloc (.cells #[.int .u8 100, .int .u8 101] 5 (2, 3)) HG5.out)
  have O47 := (O4.grow bx6).keeps K7 (by omega) (by omega) (by omega)
  have B7 : Below w.heap.size w w7 := (B5.alloc B5.size _).trans (K7.below (by have := B5.size; simp; omega) gp gS gF)
  clear HG4 HG5 O4 O1' bx6 K7 A6 A5 B5 I4 A4
  obtain ⟨k40, k41, k42, k43⟩ := two_cells g47
  obtain ⟨g48, e8⟩ := two_set g47 (.slice a3 ids3.length c3) (.int .i64 5)
  have A8 := A7.moved (w' := ((w7.setCell ⟨w2.heap.size, 0, none⟩ (.slice a3 ids3.length c3)).setCell ⟨w2.heap.size, 1, none⟩ (.int .i64 5))) (e8 p (by omega)) (e8 S (by omega)) (e8 F (by omega))
  have O8 := O7.moved (W' := ((w7.setCell ⟨w2.heap.size, 0, none⟩ (.slice a3 ids3.length c3)).setCell ⟨w2.heap.size, 1, none⟩ (.int .i64 5))) fun g h1 h2 _ => e8 g (by omega)
  have O48 := O47.moved (W' := ((w7.setCell ⟨w2.heap.size, 0, none⟩ (.slice a3 ids3.length c3)).setCell ⟨w2.heap.size, 1, none⟩ (.int .i64 5))) fun g h1 h2 _ => e8 g (by omega)
  have g58 := (e8 w4.heap.size (by omega)).trans g57
  have B8 : Below w.heap.size w ((w7.setCell ⟨w2.heap.size, 0, none⟩ (.slice a3 ids3.length c3)).setCell ⟨w2.heap.size, 1, none⟩ (.int .i64 5)) := (B7.setCell (by show w.heap.size ≤ w2.heap.size; omega) _).setCell (by show w.heap.size ≤ w2.heap.size; omega) _
  have s8 : w7.heap.size ≤ ((w7.setCell ⟨w2.heap.size, 0, none⟩ (.slice a3 ids3.length c3)).setCell ⟨w2.heap.size, 1, none⟩ (.int .i64 5)).heap.size := by simp [World.setCell]
  clear e8 A7 O7 O47 g57 B7
  generalize hv8 : (w7.setCell ⟨w2.heap.size, 0, none⟩ (.slice a3 ids3.length c3)).setCell ⟨w2.heap.size, 1, none⟩ (.int .i64 5) = w8 at *
  have q1 := read_ext A8 a3 c3 ids3 [97, 98, 99, 100, 101] (I7.lies (ids3, [97, 98, 99, 100, 101]) (by simp)) O8.use.2.1 (by decide) 1 3 (by decide)
  obtain ⟨m0, m1, m2, m3⟩ := two_cells g48
  have HG5 : Hid _ := g58
  have HG4 : Hid _ := g48
  clear g48 g58 g47
  go_wp2_with fail
  refine q1.mono ?_
  rintro e w9 ⟨g9, c9, rfl, R9, _, b9⟩
  clear q1 m0 m1 m2 m3 k40 k41 k42 k43 hv8
  have g59 := heap_below b9 HG5.out
  have q2 := read_ext (A8.grow b9) a2 c2 ids1 [97, 98, 99] (I7.lies (ids1, [97, 98, 99]) (by simp)) (O48.grow b9).use.2.1 (by decide) 0 3 (by decide)
  obtain ⟨m0, m1, m2, m3⟩ := two_cells g59
  clear g59 HG5 HG4
  go_wp2_with fail
  refine q2.mono ?_
  rintro e w10 ⟨g10, c10, rfl, R10, _, b10⟩
  clear q2 m0 m1 m2 m3
  have b810 := b9.trans (b10.mono b9.size)
  have A10 := A8.grow b810
  have B10 := B8.trans (b810.mono B8.size)
  have S9 := (R9.moved (W' := w10) fun g h1 h2 => b10.block g h2).use.2
  have S10 := R10.use.2
  rw [show part [97, 98, 99, 100, 101] 1 3 = [98, 99, 100] from rfl] at S9
  rw [show part [97, 98, 99] 0 3 = [97, 98, 99] from rfl] at S10
  have v1 := conv_src w10 _ _ 3 c9 rfl S9
  have v2 := conv_src w10 _ _ 3 c10 rfl S10
  rw [show strOf [98, 99, 100] = ⟨#[98, 99, 100]⟩ from rfl] at v1
  rw [show strOf [97, 98, 99] = ⟨#[97, 98, 99]⟩ from rfl] at v2
  have q3 := free_w A10
  rw [f7.out] at q3
  clear A8 A10 O8 O48 R9 R10 S9 S10 I7 b9 b10 b810 B8
  go_wp2_with fail
  refine q3.mono ?_
  rintro e w' ⟨rfl, rfl⟩
  go_wp2
  go_ret
  exact ⟨rfl, B10⟩

end Go.Proofs.Ytpjfhfbjdcgbjab
