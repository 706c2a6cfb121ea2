/-
  UsageGrows: its drawn region by an invariant.
-/
import Derived.Test.YtojnniacmmcddaaDoorGg
import Derived.Test.YtojnniacmmcddaaDoorU2
import Derived.Deep.RegionHeld3
namespace Go.Proofs.YtojnniacmmcddaaDoor
open Go.RowKit
open Go.Lib hiding intOf
set_option linter.unusedVariables false
set_option linter.unusedSimpArgs false

theorem wpOp_shut {P : Program} {ops : Array Oper} {Q : Exit → Act → World → Prop} {i : Nat} {o : Oper} {K : Act → World → Prop} {a : Act} {w : World} (ho : ops[i]? = some o)
    (h : ∀ K' : Act → World → Prop, Shut (∀ a w, K a w → K' a w) → if Region.wanted o (yielded ops a.tmps) = true then Oper.wp P o a w K' Q else K' (a.put o.dst undef) w) : wpOp P ops Q i K a w :=
  wpOp_step ho (fun K' hK => h K' hK)

theorem wpOp_list {P : Program} {ops : Array Oper} {Q : Exit → Act → World → Prop} {i : Nat} {o : Oper} {K : Act → World → Prop} {a : Act} {w : World} (ho : ops[i]? = some o)
    (h : ∀ Q' : Exit → Act → World → Prop, (∀ a w, K a w → Q' .normal a w) → wpList P ops Q' [o] a w) : wpOp P ops Q i K a w := by
  have h1 := h (fun e a w => match e with | .normal => K a w | .exit n => Q (.exit n) a w | .goto l => Q (.goto l) a w | .ret => Q .ret a w | .panic c => Q (.panic c) a w | .outgrown => Q .outgrown a w) (fun a w hk => hk)
  unfold wpList at h1
  unfold wpOp
  rw [ho]
  show if Region.wanted o (yielded ops a.tmps) = true then _ else _
  split
  · rename_i hw
    rw [if_pos hw] at h1
    rcases h1 with h1 | h1
    · refine .inl ?_
      unfold Oper.wp at h1 ⊢
      generalize (execOp a.eval o).run P w = r at h1 ⊢
      cases r with
      | ok n w' =>
        cases n <;> simp only [Oper.upon] at h1 ⊢ <;> first
          | exact h1
          | exact Calls.mono h1 (fun e w'' he => by cases e <;> exact he)
      | halt x w' => cases x <;> simp only [Oper.upon] at h1 ⊢ <;> exact h1
    · exact .inr h1
  · rename_i hw
    rw [if_neg hw] at h1
    exact h1

structure Fx (B0 : Nat) (w5 : World) (X : List Tg) (x : Tg) (u v : Us) (L2 : List Rw) (nx2 : Int) (b1 b2 b4 b6 b7 b8 b9 b10 b11 b12 b13 : Bool) (v49 v50 v52 v54 v55 v56 v57 v10 v11 : Value) (W : World) : Prop where
  fB : Below B0 w5 W
  f1 : b1 = true → v49 = .agg #[.int .i64 (u.b : Int), .int .i64 (u.n : Int), .int .i64 (u.d : Int), .int .i64 (u.l : Int)]
  f2 : b2 = true → b4 = false → ∃ g, v50 = .slice (some ⟨g, 0, none⟩) 0 0 ∧ B0 ≤ g ∧ W.heap[g]? = some (.cells #[] 59 (0, 0))
  f4 : b4 = true → b7 = false → Ot W B0 v52 X
  f6 : b6 = true → b7 = false → ∃ g, v54 = .slice (some ⟨g, 0, none⟩) 1 1 ∧ B0 ≤ g ∧ W.heap[g]? = some (.cells #[.string (bs x.p), .string (bs x.t), .int .i64 x.k, .int .i64 x.z] 59 (0, 0))
  f7 : b7 = true → b8 = false → Ot W B0 v55 (X ++ [x])
  f8 : b8 = true → b9 = false → Tm W v56 L2 nx2
  f9 : b9 = true → v57 = .agg #[.int .i64 (v.b : Int), .int .i64 (v.n : Int), .int .i64 (v.d : Int), .int .i64 (v.l : Int)]
  f10 : b10 = true → ∃ g, v10 = .pointer (some ⟨g, 0, none⟩) ∧ B0 ≤ g ∧ W.heap[g]? = some (.cells (if b12 = true then #[.int .i64 (u.b : Int), .int .i64 (u.n : Int), .int .i64 (u.d : Int), .int .i64 (u.l : Int)] else #[.int .i64 0, .int .i64 0, .int .i64 0, .int .i64 0]) 54 (0, 0))
  f11 : b11 = true → ∃ g, v11 = .pointer (some ⟨g, 0, none⟩) ∧ B0 ≤ g ∧ W.heap[g]? = some (.cells (if b13 = true then #[.int .i64 (v.b : Int), .int .i64 (v.n : Int), .int .i64 (v.d : Int), .int .i64 (v.l : Int)] else #[.int .i64 0, .int .i64 0, .int .i64 0, .int .i64 0]) 54 (0, 0))
  f12 : b10 = true → b11 = true → v10 ≠ v11
  o7 : b7 = true → b4 = true
  o8 : b8 = true → b7 = true
  o9 : b9 = true → b8 = true
  o12 : b12 = true → b9 = true ∧ b10 = true ∧ b11 = true
  o13 : b13 = true → b12 = true

theorem blk_lt {W : World} {g : Nat} {o : Obj} (h : W.heap[g]? = some o) : g < W.heap.size := (Array.getElem?_eq_some_iff.1 h).1
theorem ts_one {W : World} {g : Nat} {x : Tg} (h : W.heap[g]? = some (.cells #[.string (bs x.p), .string (bs x.t), .int .i64 x.k, .int .i64 x.z] 59 (0, 0))) : Ts W (some ⟨g, 0, none⟩) [x] := by
  refine .inr ⟨g, 0, rfl, blk_lt h, fun i y hy => ?_⟩
  cases i with
  | zero =>
    have e : y = x := by simpa using hy.symm
    subst e
    intro j v hv
    rw [cells_of h]
    simpa [Tg.cs] using hv
  | succ i => simp at hy
theorem blk_keep {W W' : World} {g : Nat} {o : Obj} (h : W.heap[g]? = some o) (b : Below W.heap.size W W') : W'.heap[g]? = some o := (b.block g (Array.getElem?_eq_some_iff.1 h).1).trans h

theorem Fx.next {B0 : Nat} {w5 : World} {X : List Tg} {x : Tg} {u v : Us} {L2 : List Rw} {nx2 : Int} {b1 b2 b4 b6 b7 b8 b9 b10 b11 b12 b13 : Bool} {v49 v50 v52 v54 v55 v56 v57 v10 v11 : Value} {W W' : World} (h : Fx B0 w5 X x u v L2 nx2 b1 b2 b4 b6 b7 b8 b9 b10 b11 b12 b13 v49 v50 v52 v54 v55 v56 v57 v10 v11 W) (b : Below W.heap.size W W') (hB : B0 ≤ W.heap.size) : Fx B0 w5 X x u v L2 nx2 b1 b2 b4 b6 b7 b8 b9 b10 b11 b12 b13 v49 v50 v52 v54 v55 v56 v57 v10 v11 W' :=
  { h with
    fB := h.fB.trans (b.mono hB)
    f2 := fun h1 h2 => let ⟨g, e1, e2, e3⟩ := h.f2 h1 h2; ⟨g, e1, e2, blk_keep e3 b⟩
    f4 := fun h1 h2 => (h.f4 h1 h2).below b
    f6 := fun h1 h2 => let ⟨g, e1, e2, e3⟩ := h.f6 h1 h2; ⟨g, e1, e2, blk_keep e3 b⟩
    f7 := fun h1 h2 => (h.f7 h1 h2).below b
    f8 := fun h1 h2 => (h.f8 h1 h2).below b
    f10 := fun h1 => let ⟨g, e1, e2, e3⟩ := h.f10 h1; ⟨g, e1, e2, blk_keep e3 b⟩
    f11 := fun h1 => let ⟨g, e1, e2, e3⟩ := h.f11 h1; ⟨g, e1, e2, blk_keep e3 b⟩ }

theorem Fx.lt {B0 : Nat} {w5 : World} {X : List Tg} {x : Tg} {u v : Us} {L2 : List Rw} {nx2 : Int} {b1 b2 b4 b6 b7 b8 b9 b10 b11 b12 b13 : Bool} {v49 v50 v52 v54 v55 v56 v57 v10 v11 : Value} {W : World} (h : Fx B0 w5 X x u v L2 nx2 b1 b2 b4 b6 b7 b8 b9 b10 b11 b12 b13 v49 v50 v52 v54 v55 v56 v57 v10 v11 W) (hB : B0 ≤ w5.heap.size) : B0 ≤ W.heap.size := Nat.le_trans hB h.fB.size

set_option maxRecDepth 20000 in
set_option maxHeartbeats 8000000 in
theorem reg10 (s1 s2 s4 s5 s6 s8 s9 s10 s11 s12 s13 s14 s15 s16 s17 s18 s19 s20 s21 s22 s23 s24 s25 s26 s27 s28 s29 s30 s31 s32 s33 s34 s35 s36 s37 s38 s39 s40 s41 s42 s43 s44 s45 s46 s47 s48 s49 s50 s51 s52 s53 s54 s55 s56 s57 s58 s59 s60 s61 s62 s63 s64 s65 s66 s67 s68 s69 s70 s71 s72 s73 s74 s75 s76 s77 s78 s79 s80 s81 s82 s83 s84 s85 s86 s87 s88 s89 s90 s91 : Value) (ds : List Deferred) (Q : Exit → Act → World → Prop) (ad0 : Option Addr) (cap0 : Nat) (X : List Tg) (x : Tg) (ad : Option Addr) (n cap : Nat) (nx : Int) (g7 gx : Nat) (u v : Us) (L2 : List Rw) (nx2 : Int) (w5 : World)
    (hX : Ts w5 ad0 X) (hnil0 : ad0 = none → cap0 = 0) (hlX : X.length ≤ 40)
    (HS : Hid (∀ W, Below w5.heap.size w5 W → (∀ k, W.cell? ⟨g7, k, none⟩ = (#[.slice ad n cap, .int .i64 nx] : Array Value)[k]?) ∧ (∀ k, W.cell? ⟨gx, k, none⟩ = (#[.string (bs x.p), .string (bs x.t), .int .i64 x.k, .int .i64 x.z] : Array Value)[k]?)))
    (KU : Hid (∀ W, Below w5.heap.size w5 W → Calls Tryd.prog 20 #[.agg #[.slice ad n cap, .int .i64 nx]] W fun e w' => e = .returned (.agg #[.int .i64 (u.b : Int), .int .i64 (u.n : Int), .int .i64 (u.d : Int), .int .i64 (u.l : Int)]) ∧ Below W.heap.size W w'))
    (KP : Hid (∀ W vv, Ot W w5.heap.size vv (X ++ [x]) → Below w5.heap.size w5 W → Calls Tryd.prog 19 #[vv] W fun e w' => ∃ v', e = .returned v' ∧ Tm w' v' L2 nx2 ∧ Below W.heap.size W w'))
    (KV : Hid (∀ W vv, Tm W vv L2 nx2 → Below w5.heap.size w5 W → Calls Tryd.prog 20 #[vv] W fun e w' => e = .returned (.agg #[.int .i64 (v.b : Int), .int .i64 (v.n : Int), .int .i64 (v.d : Int), .int .i64 (v.l : Int)]) ∧ Below W.heap.size W w'))
    (HP : Hid (∀ c a (d : Nat) v w, Q (.panic c) (Act.put a (some d) v) w → Q (.panic c) a w))
    (hQ : ∀ v50 v52 v54 v55 v56 g10 g11 W, W.heap[g10]? = some (.cells #[.int .i64 (u.b : Int), .int .i64 (u.n : Int), .int .i64 (u.d : Int), .int .i64 (u.l : Int)] 54 (0, 0)) → W.heap[g11]? = some (.cells #[.int .i64 (v.b : Int), .int .i64 (v.n : Int), .int .i64 (v.d : Int), .int .i64 (v.l : Int)] 54 (0, 0)) → Below w5.heap.size w5 W → Q .normal { tmps := #[.slice ad0 X.length cap0, s1, s2, .pointer (some ⟨gx, 0, none⟩), s4, s5, s6, .pointer (some ⟨g7, 0, none⟩), s8, s9, .pointer (some ⟨g10, 0, none⟩), .pointer (some ⟨g11, 0, none⟩), s12, s13, s14, s15, s16, s17, s18, s19, s20, s21, s22, s23, s24, s25, s26, s27, s28, s29, s30, s31, s32, s33, s34, s35, s36, s37, s38, s39, s40, s41, s42, s43, s44, s45, s46, s47, .agg #[.slice ad n cap, .int .i64 nx], .agg #[.int .i64 (u.b : Int), .int .i64 (u.n : Int), .int .i64 (u.d : Int), .int .i64 (u.l : Int)], v50, .slice ad0 X.length cap0, v52, .agg #[.string (bs x.p), .string (bs x.t), .int .i64 x.k, .int .i64 x.z], v54, v55, v56, .agg #[.int .i64 (v.b : Int), .int .i64 (v.n : Int), .int .i64 (v.d : Int), .int .i64 (v.l : Int)], s58, s59, s60, s61, s62, s63, s64, s65, s66, s67, s68, s69, s70, s71, s72, s73, s74, s75, s76, s77, s78, s79, s80, s81, s82, s83, s84, s85, s86, s87, s88, s89, s90, s91], defers := ds } W) :
    (Code.region 10 ops10 true).wp Tryd.prog Q { tmps := #[.slice ad0 X.length cap0, s1, s2, .pointer (some ⟨gx, 0, none⟩), s4, s5, s6, .pointer (some ⟨g7, 0, none⟩), s8, s9, s10, s11, s12, s13, s14, s15, s16, s17, s18, s19, s20, s21, s22, s23, s24, s25, s26, s27, s28, s29, s30, s31, s32, s33, s34, s35, s36, s37, s38, s39, s40, s41, s42, s43, s44, s45, s46, s47, s48, s49, s50, s51, s52, s53, s54, s55, s56, s57, s58, s59, s60, s61, s62, s63, s64, s65, s66, s67, s68, s69, s70, s71, s72, s73, s74, s75, s76, s77, s78, s79, s80, s81, s82, s83, s84, s85, s86, s87, s88, s89, s90, s91], defers := ds } w5 := by
  have HX : Hid (Ts w5 ad0 X) := hX
  have HQ : Hid (∀ v50 v52 v54 v55 v56 g10 g11 W, W.heap[g10]? = some (.cells #[.int .i64 (u.b : Int), .int .i64 (u.n : Int), .int .i64 (u.d : Int), .int .i64 (u.l : Int)] 54 (0, 0)) → W.heap[g11]? = some (.cells #[.int .i64 (v.b : Int), .int .i64 (v.n : Int), .int .i64 (v.d : Int), .int .i64 (v.l : Int)] 54 (0, 0)) → Below w5.heap.size w5 W → Q .normal { tmps := #[.slice ad0 X.length cap0, s1, s2, .pointer (some ⟨gx, 0, none⟩), s4, s5, s6, .pointer (some ⟨g7, 0, none⟩), s8, s9, .pointer (some ⟨g10, 0, none⟩), .pointer (some ⟨g11, 0, none⟩), s12, s13, s14, s15, s16, s17, s18, s19, s20, s21, s22, s23, s24, s25, s26, s27, s28, s29, s30, s31, s32, s33, s34, s35, s36, s37, s38, s39, s40, s41, s42, s43, s44, s45, s46, s47, .agg #[.slice ad n cap, .int .i64 nx], .agg #[.int .i64 (u.b : Int), .int .i64 (u.n : Int), .int .i64 (u.d : Int), .int .i64 (u.l : Int)], v50, .slice ad0 X.length cap0, v52, .agg #[.string (bs x.p), .string (bs x.t), .int .i64 x.k, .int .i64 x.z], v54, v55, v56, .agg #[.int .i64 (v.b : Int), .int .i64 (v.n : Int), .int .i64 (v.d : Int), .int .i64 (v.l : Int)], s58, s59, s60, s61, s62, s63, s64, s65, s66, s67, s68, s69, s70, s71, s72, s73, s74, s75, s76, s77, s78, s79, s80, s81, s82, s83, s84, s85, s86, s87, s88, s89, s90, s91], defers := ds } W) := hQ
  clear hX hQ
  have h0 := HS.out _ ((Below.refl w5.heap.size w5).drew)
  have hsz : w5.drew.heap.size = w5.heap.size := rfl
  refine wp_region_held_drew (S := fun W : World => (∀ k, W.cell? ⟨g7, k, none⟩ = (#[.slice ad n cap, .int .i64 nx] : Array Value)[k]?) ∧ (∀ k, W.cell? ⟨gx, k, none⟩ = (#[.string (bs x.p), .string (bs x.t), .int .i64 x.k, .int .i64 x.z] : Array Value)[k]?)) (by kernel_rfl) h0 (fun hHeld => ?_)
  refine wpAnyH_take (i := 0) (oi := { dst := some 48, op := Op.load 26 (Operand.tmp 7), type := 26, pos := "law.go:182", after := #[], guard := none}) (v := ?_) rfl (by kernel_rfl) (by kernel_rfl) (by kernel_rfl) (fun c a w h => HP.out _ _ _ _ _ h) (Or.inl ⟨by rfl, ?_⟩) (by assumption) ?_
  rotate_left 1
  · (intro W hSw; obtain ⟨hSw, hSw2⟩ := hSw; go_simp; try with_reducible rfl)
  (try simp only [Act.put, List.setIfInBounds_toArray, List.set_cons_zero, List.set_cons_succ])
  refine wpAnyH_take (i := 3) (oi := {dst := some 51, op := Op.move (Operand.tmp 0), type := 50, pos := "law.go:182", after := #[], guard := none}) (v := ?_) rfl (by kernel_rfl) (by kernel_rfl) (by kernel_rfl) (fun c a w h => HP.out _ _ _ _ _ h) (Or.inl ⟨by rfl, ?_⟩) (by assumption) ?_
  rotate_left 1
  · (intro W hSw; obtain ⟨hSw, hSw2⟩ := hSw; go_simp; try with_reducible rfl)
  (try simp only [Act.put, List.setIfInBounds_toArray, List.set_cons_zero, List.set_cons_succ])
  refine wpAnyH_take (i := 5) (oi := {dst := some 53, op := Op.load 59 (Operand.tmp 3), type := 59, pos := "law.go:182", after := #[], guard := none}) (v := ?_) rfl (by kernel_rfl) (by kernel_rfl) (by kernel_rfl) (fun c a w h => HP.out _ _ _ _ _ h) (Or.inl ⟨by rfl, ?_⟩) (by assumption) ?_
  rotate_left 1
  · (intro W hSw; obtain ⟨hSw, hSw2⟩ := hSw; go_simp; try with_reducible rfl)
  (try simp only [Act.put, List.setIfInBounds_toArray, List.set_cons_zero, List.set_cons_succ])
  have hsz0 : w5.heap.size ≤ w5.heap.size := Nat.le_refl _
  refine wpAnyH_inv (fun listed a W => ∃ (b1 b2 b4 b6 b7 b8 b9 b10 b11 b12 b13 : Bool) (v49 v50 v52 v54 v55 v56 v57 v10 v11 : Value), listed = #[true, b1, b2, true, b4, true, b6, b7, b8, b9, b10, b11, b12, b13] ∧ a = { tmps := #[.slice ad0 X.length cap0, s1, s2, .pointer (some ⟨gx, 0, none⟩), s4, s5, s6, .pointer (some ⟨g7, 0, none⟩), s8, s9, v10, v11, s12, s13, s14, s15, s16, s17, s18, s19, s20, s21, s22, s23, s24, s25, s26, s27, s28, s29, s30, s31, s32, s33, s34, s35, s36, s37, s38, s39, s40, s41, s42, s43, s44, s45, s46, s47, .agg #[.slice ad n cap, .int .i64 nx], v49, v50, .slice ad0 X.length cap0, v52, .agg #[.string (bs x.p), .string (bs x.t), .int .i64 x.k, .int .i64 x.z], v54, v55, v56, v57, s58, s59, s60, s61, s62, s63, s64, s65, s66, s67, s68, s69, s70, s71, s72, s73, s74, s75, s76, s77, s78, s79, s80, s81, s82, s83, s84, s85, s86, s87, s88, s89, s90, s91], defers := ds } ∧ Fx w5.heap.size w5 X x u v L2 nx2 b1 b2 b4 b6 b7 b8 b9 b10 b11 b12 b13 v49 v50 v52 v54 v55 v56 v57 v10 v11 W) ?_ _ _ _ _ (by decide) ⟨false, false, false, false, false, false, false, false, false, false, false, s49, s50, s52, s54, s55, s56, s57, s10, s11, rfl, rfl, ?_⟩
  rotate_left 1
  · exact { fB := (Below.refl _ _).drew, f1 := fun h => (nomatch h), f2 := fun h => (nomatch h), f4 := fun h => (nomatch h), f6 := fun h => (nomatch h), f7 := fun h => (nomatch h), f8 := fun h => (nomatch h), f9 := fun h => (nomatch h), f10 := fun h => (nomatch h), f11 := fun h => (nomatch h), f12 := fun h => (nomatch h), o7 := fun h => (nomatch h), o8 := fun h => (nomatch h), o9 := fun h => (nomatch h), o12 := fun h => (nomatch h), o13 := fun h => (nomatch h) }
  rintro listed a W ⟨b1, b2, b4, b6, b7, b8, b9, b10, b11, b12, b13, v49, v50, v52, v54, v55, v56, v57, v10, v11, rfl, rfl, F⟩
  have hlt := F.lt hsz0
  constructor
  · intro hr
    have hr2 := (rdy b1 b2 b4 b6 b7 b8 b9 b10 b11 b12 b13).symm.trans hr
    clear hr
    cases b1 with | false => simp at hr2 | true =>
    cases b2 with | false => simp at hr2 | true =>
    cases b4 with | false => simp at hr2 | true =>
    cases b6 with | false => simp at hr2 | true =>
    cases b7 with | false => simp at hr2 | true =>
    cases b8 with | false => simp at hr2 | true =>
    cases b9 with | false => simp at hr2 | true =>
    cases b10 with | false => simp at hr2 | true =>
    cases b11 with | false => simp at hr2 | true =>
    cases b12 with | false => simp at hr2 | true =>
    cases b13 with | false => simp at hr2 | true =>
    obtain ⟨g10, rfl, h10, e10⟩ := F.f10 rfl
    obtain ⟨g11, rfl, h11, e11⟩ := F.f11 rfl
    obtain rfl := F.f1 rfl
    obtain rfl := F.f9 rfl
    exact HQ.out _ _ _ _ _ _ _ _ e10 e11 F.fB
  · intro i hi
    rw [rdy] at hi
    have hi2 := hi
    clear hi
    simp only [List.mem_append, List.not_mem_nil, false_or] at hi2
    have hm : ∀ (c : Bool) (k : Nat), i ∈ (if c = true then [k] else []) → c = true ∧ i = k := fun c k h => by
      cases c
      · simp at h
      · simpa using h
    rcases hi2 with ((((((((((hi | hi) | hi) | hi) | hi) | hi) | hi) | hi) | hi) | hi) | hi) <;> obtain ⟨hc, rfl⟩ := hm _ _ hi <;> clear hi hm
    · have e1 : b1 = false := by simpa using hc
      subst e1
      refine wpOp_shut (o := {dst := some 49, op := Op.call { callee := Callee.value (Operand.func 20), args := #[Operand.tmp 48], argTypes := #[26] }, type := 54, pos := "law.go:182", after := #[{ on := 0, ground := Ground.data }], guard := none}) rfl (fun K hK => ?_)
      go_simp
      go_at_call 20
      refine (KU.out _ F.fB).mono ?_
      rintro e w' ⟨rfl, k⟩
      go_wp2_with fail
      have F2 : Fx w5.heap.size w5 X x u v L2 nx2 true b2 b4 b6 b7 b8 b9 b10 b11 b12 b13 (.agg #[.int .i64 (u.b : Int), .int .i64 (u.n : Int), .int .i64 (u.d : Int), .int .i64 (u.l : Int)]) v50 v52 v54 v55 v56 v57 v10 v11 w' := { F.next k hlt with f1 := fun _ => rfl }
      (try simp only [Act.put, List.setIfInBounds_toArray, List.set_cons_zero, List.set_cons_succ])
      exact hK.out _ _ ⟨HS.out _ F2.fB, true, b2, b4, b6, b7, b8, b9, b10, b11, b12, b13, _, v50, v52, v54, v55, v56, v57, v10, v11, rfl, rfl, F2⟩
    · have e1 : b2 = false := by simpa using hc
      subst e1
      refine wpOp_shut (o := {dst := some 50, op := Op.buildSlice 50 0 #[], type := 50, pos := "law.go:182", after := #[], guard := none}) rfl (fun K hK => ?_)
      go_simp
      have k := below_box W (.cells #[] 59)
      have F2 : Fx w5.heap.size w5 X x u v L2 nx2 b1 true b4 b6 b7 b8 b9 b10 b11 b12 b13 v49 (.slice (some ⟨W.heap.size, 0, none⟩) 0 0) v52 v54 v55 v56 v57 v10 v11 (W.alloc (.cells #[] 59)) := { F.next k hlt with f2 := fun _ _ => ⟨_, rfl, hlt, heap_alloc_new W _⟩ }
      (try simp only [Act.put, List.setIfInBounds_toArray, List.set_cons_zero, List.set_cons_succ])
      exact hK.out _ _ ⟨HS.out _ F2.fB, b1, true, b4, b6, b7, b8, b9, b10, b11, b12, b13, v49, _, v52, v54, v55, v56, v57, v10, v11, rfl, rfl, F2⟩
    · have e1 : b4 = false := by cases b4 <;> simp_all
      have e2 : b2 = true := by cases b2 <;> simp_all
      have e3 : b1 = true := by cases b1 <;> simp_all
      subst e1 e2 e3
      obtain ⟨g, rfl, hg, eg⟩ := F.f2 rfl rfl
      refine wpOp_list (o := {dst := some 52, op := Op.call { callee := Callee.builtin Builtin.append, args := #[Operand.tmp 50, Operand.tmp 51], argTypes := #[50, 50] }, type := 50, pos := "law.go:182", after := #[{ on := 2, ground := Ground.data }, { on := 3, ground := Ground.data }, { on := 1, ground := Ground.chain }], guard := none}) rfl (fun Q' hK => ?_)
      have hO : Ot W w5.heap.size (.slice (some ⟨g, 0, none⟩) 0 0) [] := ⟨rfl, .inr ⟨g, 0, #[], rfl, hg, eg, Nat.le_refl _, Nat.zero_le _, rfl, rfl⟩⟩
      refine wpList_things rfl (Operand.tmp 50) (Operand.tmp 51) rfl w5.heap.size _ [] rfl hO hlt ad0 cap0 X rfl (HX.out.below F.fB) hnil0 (by simp; omega) ?_
      intro v' w' hO' hb' hk'
      have F2 : Fx w5.heap.size w5 X x u v L2 nx2 true true true b6 b7 b8 b9 b10 b11 b12 b13 v49 (.slice (some ⟨g, 0, none⟩) 0 0) v' v54 v55 v56 v57 v10 v11 w' := by
        have e7 : b7 = false := by cases b7 with | false => rfl | true => exact nomatch F.o7 rfl
        subst e7
        have e8 : b8 = false := by cases b8 with | false => rfl | true => exact nomatch F.o8 rfl
        subst e8
        have ne : ∀ m C t, W.heap[m]? = some (.cells C t (0, 0)) → (C.size ≠ 0 ∨ t ≠ 59) → (Value.slice (some ⟨g, 0, none⟩) 0 0).ownBlock ≠ some m := fun m C t hm hC he => by
          have hgm : g = m := by simpa [Value.ownBlock] using he
          subst hgm
          rw [eg] at hm
          injection hm with hm
          injection hm with h1 h2
          subst h1 h2
          rcases hC with h | h
          · exact h rfl
          · exact h rfl
        exact { F with
          fB := F.fB.trans hb'
          f2 := fun _ h => (nomatch h)
          f4 := fun _ _ => hO'
          f6 := fun h1 h2 => let ⟨g6, e1, e2, e3⟩ := F.f6 h1 h2; ⟨g6, e1, e2, (hk' g6 (blk_lt e3) (ne g6 _ _ e3 (.inl (by simp)))).trans e3⟩
          f7 := fun h => (nomatch h)
          f8 := fun h => (nomatch h)
          f10 := fun h1 => let ⟨g6, e1, e2, e3⟩ := F.f10 h1; ⟨g6, e1, e2, (hk' g6 (blk_lt e3) (ne g6 _ _ e3 (.inr (by decide)))).trans e3⟩
          f11 := fun h1 => let ⟨g6, e1, e2, e3⟩ := F.f11 h1; ⟨g6, e1, e2, (hk' g6 (blk_lt e3) (ne g6 _ _ e3 (.inr (by decide)))).trans e3⟩
          o7 := fun h => (nomatch h) }
      (try simp only [Act.put, List.setIfInBounds_toArray, List.set_cons_zero, List.set_cons_succ])
      exact hK _ _ ⟨HS.out _ F2.fB, true, true, true, b6, b7, b8, b9, b10, b11, b12, b13, v49, _, _, v54, v55, v56, v57, v10, v11, rfl, rfl, F2⟩
    · have e1 : b6 = false := by simpa using hc
      subst e1
      refine wpOp_shut (o := {dst := some 54, op := Op.buildSlice 50 1 #[(0, Operand.tmp 53)], type := 50, pos := "law.go:182", after := #[{ on := 5, ground := Ground.data }], guard := none}) rfl (fun K hK => ?_)
      go_simp
      have k := below_box W (.cells #[.string (bs x.p), .string (bs x.t), .int .i64 x.k, .int .i64 x.z] 59)
      have F2 : Fx w5.heap.size w5 X x u v L2 nx2 b1 b2 b4 true b7 b8 b9 b10 b11 b12 b13 v49 v50 v52 (.slice (some ⟨W.heap.size, 0, none⟩) 1 1) v55 v56 v57 v10 v11 (W.alloc (.cells #[.string (bs x.p), .string (bs x.t), .int .i64 x.k, .int .i64 x.z] 59)) := { F.next k hlt with f6 := fun _ _ => ⟨_, rfl, hlt, heap_alloc_new W _⟩ }
      (try simp only [Act.put, List.setIfInBounds_toArray, List.set_cons_zero, List.set_cons_succ])
      exact hK.out _ _ ⟨HS.out _ F2.fB, b1, b2, b4, true, b7, b8, b9, b10, b11, b12, b13, v49, v50, v52, _, v55, v56, v57, v10, v11, rfl, rfl, F2⟩
    · have e1 : b7 = false := by cases b7 <;> simp_all
      have e2 : b4 = true := by cases b4 <;> simp_all
      have e3 : b6 = true := by cases b6 <;> simp_all
      subst e1 e2 e3
      obtain ⟨g, rfl, hg, eg⟩ := F.f6 rfl rfl
      have hO := F.f4 rfl rfl
      refine wpOp_list (o := {dst := some 55, op := Op.call { callee := Callee.builtin Builtin.append, args := #[Operand.tmp 52, Operand.tmp 54], argTypes := #[50, 50] }, type := 50, pos := "law.go:182", after := #[{ on := 4, ground := Ground.data }, { on := 6, ground := Ground.data }, { on := 4, ground := Ground.chain }], guard := none}) rfl (fun Q' hK => ?_)
      refine wpList_things rfl (Operand.tmp 52) (Operand.tmp 54) rfl w5.heap.size _ X rfl hO hlt (some ⟨g, 0, none⟩) 1 [x] rfl (ts_one eg) (fun h => (nomatch h)) (by simp; omega) ?_
      intro v' w' hO' hb' hk'
      have F2 : Fx w5.heap.size w5 X x u v L2 nx2 b1 b2 true true true b8 b9 b10 b11 b12 b13 v49 v50 v52 (.slice (some ⟨g, 0, none⟩) 1 1) v' v56 v57 v10 v11 w' := by
        have e8 : b8 = false := by cases b8 with | false => rfl | true => exact nomatch F.o8 rfl
        subst e8
        have ne : ∀ m C t, W.heap[m]? = some (.cells C t (0, 0)) → t ≠ 59 → v52.ownBlock ≠ some m := fun m C t hm hC he => by
          rcases hO.2 with ⟨e1, _⟩ | ⟨g', cp, cur, e1, _, e3, _⟩
          · subst e1; simp [Value.ownBlock] at he
          · subst e1
            have hgm : g' = m := by simpa [Value.ownBlock] using he
            subst hgm
            rw [e3] at hm
            injection hm with hm
            injection hm with h1 h2
            exact hC h2.symm
        exact { F with
          fB := F.fB.trans hb'
          f2 := fun _ h => (nomatch h)
          f4 := fun _ h => (nomatch h)
          f6 := fun _ h => (nomatch h)
          f7 := fun _ _ => hO'
          f8 := fun h => (nomatch h)
          f10 := fun h1 => let ⟨g6, e1, e2, e3⟩ := F.f10 h1; ⟨g6, e1, e2, (hk' g6 (blk_lt e3) (ne g6 _ _ e3 (by decide))).trans e3⟩
          f11 := fun h1 => let ⟨g6, e1, e2, e3⟩ := F.f11 h1; ⟨g6, e1, e2, (hk' g6 (blk_lt e3) (ne g6 _ _ e3 (by decide))).trans e3⟩
          o7 := fun _ => rfl
          o8 := fun h => (nomatch h) }
      (try simp only [Act.put, List.setIfInBounds_toArray, List.set_cons_zero, List.set_cons_succ])
      exact hK _ _ ⟨HS.out _ F2.fB, b1, b2, true, true, true, b8, b9, b10, b11, b12, b13, v49, v50, v52, _, _, v56, v57, v10, v11, rfl, rfl, F2⟩
    · have e1 : b8 = false := by cases b8 <;> simp_all
      have e2 : b7 = true := by cases b7 <;> simp_all
      subst e1 e2
      have hO := F.f7 rfl rfl
      have KP2 := KP.out _ _ hO F.fB
      refine wpOp_shut (o := {dst := some 56, op := Op.call { callee := Callee.value (Operand.func 19), args := #[Operand.tmp 55], argTypes := #[50] }, type := 26, pos := "law.go:182", after := #[{ on := 7, ground := Ground.data }, { on := 7, ground := Ground.chain }], guard := none}) rfl (fun K hK => ?_)
      go_simp
      go_at_call 19
      refine KP2.mono ?_
      rintro e w' ⟨v', rfl, hT, k⟩
      go_wp2_with fail
      have F2 : Fx w5.heap.size w5 X x u v L2 nx2 b1 b2 b4 b6 true true b9 b10 b11 b12 b13 v49 v50 v52 v54 v55 v' v57 v10 v11 w' := { F.next k hlt with f7 := fun _ h => (nomatch h), f8 := fun _ _ => hT, o8 := fun _ => rfl, o9 := fun h => (nomatch (F.o9 h)) }
      (try simp only [Act.put, List.setIfInBounds_toArray, List.set_cons_zero, List.set_cons_succ])
      exact hK.out _ _ ⟨HS.out _ F2.fB, b1, b2, b4, b6, true, true, b9, b10, b11, b12, b13, v49, v50, v52, v54, v55, _, v57, v10, v11, rfl, rfl, F2⟩
    · have e1 : b9 = false := by cases b9 <;> simp_all
      have e2 : b8 = true := by cases b8 <;> simp_all
      subst e1 e2
      have hT := F.f8 rfl rfl
      have KV2 := KV.out _ _ hT F.fB
      refine wpOp_shut (o := {dst := some 57, op := Op.call { callee := Callee.value (Operand.func 20), args := #[Operand.tmp 56], argTypes := #[26] }, type := 54, pos := "law.go:182", after := #[{ on := 8, ground := Ground.data }, { on := 8, ground := Ground.chain }], guard := none}) rfl (fun K hK => ?_)
      go_simp
      go_at_call 20
      refine KV2.mono ?_
      rintro e w' ⟨rfl, k⟩
      go_wp2_with fail
      have F2 : Fx w5.heap.size w5 X x u v L2 nx2 b1 b2 b4 b6 b7 true true b10 b11 b12 b13 v49 v50 v52 v54 v55 v56 (.agg #[.int .i64 (v.b : Int), .int .i64 (v.n : Int), .int .i64 (v.d : Int), .int .i64 (v.l : Int)]) v10 v11 w' := { F.next k hlt with f8 := fun _ h => (nomatch h), f9 := fun _ => rfl, o9 := fun _ => rfl, o12 := fun h => (nomatch (F.o12 h).1) }
      (try simp only [Act.put, List.setIfInBounds_toArray, List.set_cons_zero, List.set_cons_succ])
      exact hK.out _ _ ⟨HS.out _ F2.fB, b1, b2, b4, b6, b7, true, true, b10, b11, b12, b13, v49, v50, v52, v54, v55, v56, _, v10, v11, rfl, rfl, F2⟩
    · have e1 : b10 = false := by simpa using hc
      subst e1
      have e2 : b12 = false := by cases b12 with | false => rfl | true => exact nomatch (F.o12 rfl).2.1
      subst e2
      refine wpOp_shut (o := {dst := some 10, op := Op.alloc 54, type := 0, pos := "law.go:182", after := #[], guard := none}) rfl (fun K hK => ?_)
      go_simp
      have k := below_box W (.cells #[.int .i64 0, .int .i64 0, .int .i64 0, .int .i64 0] 54)
      have Fn := F.next k hlt
      have F2 : Fx w5.heap.size w5 X x u v L2 nx2 b1 b2 b4 b6 b7 b8 b9 true b11 false b13 v49 v50 v52 v54 v55 v56 v57 (.pointer (some ⟨W.heap.size, 0, none⟩)) v11 (W.alloc (.cells #[.int .i64 0, .int .i64 0, .int .i64 0, .int .i64 0] 54)) :=
        { Fn with
          f10 := fun _ => ⟨_, rfl, hlt, heap_alloc_new W _⟩
          f12 := fun _ h11 h => by obtain ⟨g11, e1, _, e3⟩ := F.f11 h11; have hl := blk_lt e3; rw [e1] at h; injection h with h; injection h with h; injection h with h; omega
          o12 := fun h => (nomatch h) }
      (try simp only [Act.put, List.setIfInBounds_toArray, List.set_cons_zero, List.set_cons_succ])
      exact hK.out _ _ ⟨HS.out _ F2.fB, b1, b2, b4, b6, b7, b8, b9, true, b11, false, b13, v49, v50, v52, v54, v55, v56, v57, _, v11, rfl, rfl, F2⟩
    · have e1 : b11 = false := by simpa using hc
      subst e1
      have e2 : b13 = false := by cases b13 with | false => rfl | true => exact nomatch (F.o12 (F.o13 rfl)).2.2
      subst e2
      refine wpOp_shut (o := {dst := some 11, op := Op.alloc 54, type := 0, pos := "law.go:182", after := #[], guard := none}) rfl (fun K hK => ?_)
      go_simp
      have k := below_box W (.cells #[.int .i64 0, .int .i64 0, .int .i64 0, .int .i64 0] 54)
      have Fn := F.next k hlt
      have F2 : Fx w5.heap.size w5 X x u v L2 nx2 b1 b2 b4 b6 b7 b8 b9 b10 true b12 false v49 v50 v52 v54 v55 v56 v57 v10 (.pointer (some ⟨W.heap.size, 0, none⟩)) (W.alloc (.cells #[.int .i64 0, .int .i64 0, .int .i64 0, .int .i64 0] 54)) :=
        { Fn with
          f11 := fun _ => ⟨_, rfl, hlt, heap_alloc_new W _⟩
          f12 := fun h10 _ h => by obtain ⟨g10, e1, _, e3⟩ := F.f10 h10; have hl := blk_lt e3; rw [e1] at h; injection h with h; injection h with h; injection h with h; omega
          o12 := fun h => (nomatch (F.o12 h).2.2) }
      (try simp only [Act.put, List.setIfInBounds_toArray, List.set_cons_zero, List.set_cons_succ])
      exact hK.out _ _ ⟨HS.out _ F2.fB, b1, b2, b4, b6, b7, b8, b9, b10, true, b12, false, v49, v50, v52, v54, v55, v56, v57, v10, _, rfl, rfl, F2⟩
    · have e0 : b12 = false := by cases b12 <;> simp_all
      have e_b10 : b10 = true := by cases b10 <;> simp_all
      have e_b1 : b1 = true := by cases b1 <;> simp_all
      have e_b9 : b9 = true := by cases b9 <;> simp_all
      have e_b11 : b11 = true := by cases b11 <;> simp_all
      subst e0 e_b10 e_b1 e_b9 e_b11
      have e8 := F.o9 rfl
      subst e8
      have e7 := F.o8 rfl
      subst e7
      have e4 := F.o7 rfl
      subst e4
      have e13 : b13 = false := by cases b13 with | false => rfl | true => exact nomatch F.o13 rfl
      subst e13
      have hne := F.f12 rfl rfl
      obtain ⟨g10, rfl, h10, q10⟩ := F.f10 rfl
      obtain ⟨g11, rfl, h11, q11⟩ := F.f11 rfl
      have hgg : g10 ≠ g11 := fun h => hne (by rw [h])
      obtain rfl := F.f1 rfl
      refine wpOp_list (o := {dst := none, op := Op.store 54 (Operand.tmp 10) (Operand.tmp 49), type := 0, pos := "law.go:182", after := #[{ on := 10, ground := Ground.data }, { on := 1, ground := Ground.data }, { on := 9, ground := Ground.chain }, { on := 0, ground := Ground.phase }, { on := 1, ground := Ground.phase }, { on := 2, ground := Ground.textOnly Departure.lateStores }, { on := 3, ground := Ground.textOnly Departure.lateStores }, { on := 4, ground := Ground.textOnly Departure.lateStoresUnsure }, { on := 5, ground := Ground.textOnly Departure.lateStores }, { on := 6, ground := Ground.textOnly Departure.lateStores }, { on := 7, ground := Ground.textOnly Departure.lateStoresUnsure }, { on := 8, ground := Ground.textOnly Departure.lateStoresUnsure }, { on := 9, ground := Ground.textOnly Departure.lateStoresUnsure }, { on := 10, ground := Ground.phase }, { on := 11, ground := Ground.phase }], guard := none}) rfl (fun Q' hK => ?_)
      refine wpList_store_row rfl 54 _ _ rfl g10 #[.int .i64 (u.b : Int), .int .i64 (u.n : Int), .int .i64 (u.d : Int), .int .i64 (u.l : Int)] rfl rfl 54 _ q10 (by kernel_rfl) rfl (by simp [Value.oneCell']) ?_
      have F2 : Fx w5.heap.size w5 X x u v L2 nx2 true b2 true b6 true true true true true true false (.agg #[.int .i64 (u.b : Int), .int .i64 (u.n : Int), .int .i64 (u.d : Int), .int .i64 (u.l : Int)]) v50 v52 v54 v55 v56 v57 (.pointer (some ⟨g10, 0, none⟩)) (.pointer (some ⟨g11, 0, none⟩)) (W.setRow g10 #[.int .i64 (u.b : Int), .int .i64 (u.n : Int), .int .i64 (u.d : Int), .int .i64 (u.l : Int)]) :=
        { F with
          fB := below_setRow F.fB h10 _
          f2 := fun _ h => (nomatch h)
          f4 := fun _ h => (nomatch h)
          f6 := fun _ h => (nomatch h)
          f7 := fun _ h => (nomatch h)
          f8 := fun _ h => (nomatch h)
          f10 := fun _ => ⟨g10, rfl, h10, setRow_heap _ _ _ _ _ _ q10⟩
          f11 := fun _ => ⟨g11, rfl, h11, (setRow_other _ _ _ _ hgg.symm).trans q11⟩
          o12 := fun _ => ⟨rfl, rfl, rfl⟩
          o13 := fun h => (nomatch h) }
      (try simp only [Act.put, List.setIfInBounds_toArray, List.set_cons_zero, List.set_cons_succ])
      exact hK _ _ ⟨HS.out _ F2.fB, true, b2, true, b6, true, true, true, true, true, true, false, _, v50, v52, v54, v55, v56, v57, _, _, rfl, rfl, F2⟩
    · have e0 : b13 = false := by cases b13 <;> simp_all
      have e_b11 : b11 = true := by cases b11 <;> simp_all
      have e_b9 : b9 = true := by cases b9 <;> simp_all
      have e_b12 : b12 = true := by cases b12 <;> simp_all
      have e_b1 : b1 = true := by cases b1 <;> simp_all
      have e_b2 : b2 = true := by cases b2 <;> simp_all
      have e_b4 : b4 = true := by cases b4 <;> simp_all
      have e_b6 : b6 = true := by cases b6 <;> simp_all
      have e_b7 : b7 = true := by cases b7 <;> simp_all
      have e_b8 : b8 = true := by cases b8 <;> simp_all
      have e_b10 : b10 = true := by cases b10 <;> simp_all
      subst e0 e_b11 e_b9 e_b12 e_b1 e_b2 e_b4 e_b6 e_b7 e_b8 e_b10
      have hne := F.f12 rfl rfl
      obtain ⟨g10, rfl, h10, q10⟩ := F.f10 rfl
      obtain ⟨g11, rfl, h11, q11⟩ := F.f11 rfl
      have hgg : g10 ≠ g11 := fun h => hne (by rw [h])
      obtain rfl := F.f9 rfl
      refine wpOp_list (o := {dst := none, op := Op.store 54 (Operand.tmp 11) (Operand.tmp 57), type := 0, pos := "law.go:182", after := #[{ on := 11, ground := Ground.data }, { on := 9, ground := Ground.data }, { on := 12, ground := Ground.chain }, { on := 0, ground := Ground.phase }, { on := 1, ground := Ground.phase }, { on := 2, ground := Ground.phase }, { on := 3, ground := Ground.phase }, { on := 4, ground := Ground.phase }, { on := 5, ground := Ground.phase }, { on := 6, ground := Ground.phase }, { on := 7, ground := Ground.phase }, { on := 8, ground := Ground.phase }, { on := 9, ground := Ground.phase }, { on := 10, ground := Ground.phase }, { on := 11, ground := Ground.phase }, { on := 12, ground := Ground.phase }], guard := none }) rfl (fun Q' hK => ?_)
      refine wpList_store_row rfl 54 _ _ rfl g11 #[.int .i64 (v.b : Int), .int .i64 (v.n : Int), .int .i64 (v.d : Int), .int .i64 (v.l : Int)] rfl rfl 54 _ q11 (by kernel_rfl) rfl (by simp [Value.oneCell']) ?_
      have F2 : Fx w5.heap.size w5 X x u v L2 nx2 true true true true true true true true true true true v49 v50 v52 v54 v55 v56 (.agg #[.int .i64 (v.b : Int), .int .i64 (v.n : Int), .int .i64 (v.d : Int), .int .i64 (v.l : Int)]) (.pointer (some ⟨g10, 0, none⟩)) (.pointer (some ⟨g11, 0, none⟩)) (W.setRow g11 #[.int .i64 (v.b : Int), .int .i64 (v.n : Int), .int .i64 (v.d : Int), .int .i64 (v.l : Int)]) :=
        { F with
          fB := below_setRow F.fB h11 _
          f2 := fun _ h => (nomatch h)
          f4 := fun _ h => (nomatch h)
          f6 := fun _ h => (nomatch h)
          f7 := fun _ h => (nomatch h)
          f8 := fun _ h => (nomatch h)
          f10 := fun _ => ⟨g10, rfl, h10, (setRow_other _ _ _ _ hgg).trans q10⟩
          f11 := fun _ => ⟨g11, rfl, h11, setRow_heap _ _ _ _ _ _ q11⟩
          o12 := fun _ => ⟨rfl, rfl, rfl⟩
          o13 := fun _ => rfl }
      (try simp only [Act.put, List.setIfInBounds_toArray, List.set_cons_zero, List.set_cons_succ])
      exact hK _ _ ⟨HS.out _ F2.fB, true, true, true, true, true, true, true, true, true, true, true, v49, v50, v52, v54, v55, v56, _, _, _, rfl, rfl, F2⟩

end Go.Proofs.YtojnniacmmcddaaDoor
