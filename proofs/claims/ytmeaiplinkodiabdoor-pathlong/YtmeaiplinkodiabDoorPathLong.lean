/-
  The card of the law PathLong holds: it returns true for every input, the variables of the library that it lists being as the program text lays them.
-/
import Derived.Test.YtmeaiplinkodiabDoorLaid
import Derived.Test.YtmeaiplinkodiabDoorCards
import Derived.Test.YtmeaiplinkodiabDoorTie
import Derived.Test.YtmeaiplinkodiabDoorCleans
import Derived.Test.YtmeaiplinkodiabDoorBy
namespace Go.Proofs.YtmeaiplinkodiabDoor.pathLong
open Go.ChangeShapes Go.WideShapes Go.RowKit
set_option linter.unusedVariables false
set_option linter.unusedSimpArgs false

/-- the first i bytes are set -/
def Fill (f : Nat → UInt8) (i n : Nat) (l : List UInt8) : Prop := l.length = n ∧ ∀ k, k < i → l[k]? = some (f k)
theorem Fill.start (f : Nat → UInt8) (n : Nat) : Fill f 0 n (List.replicate n 0) := ⟨by simp, fun k hk => absurd hk (Nat.not_lt_zero k)⟩
theorem Fill.next {f : Nat → UInt8} {i n : Nat} {l : List UInt8} (h : Fill f i n l) (hi : i < n) (c : UInt8) (hc : c = f i) : Fill f (i + 1) n (l.set i c) := by
  refine ⟨by rw [List.length_set]; exact h.1, fun k hk => ?_⟩
  rw [List.getElem?_set]
  by_cases e : i = k
  · subst e; rw [if_pos rfl, if_pos (by rw [h.1]; exact hi), hc]
  · rw [if_neg e]; exact h.2 k (by omega)
theorem Fill.all {f : Nat → UInt8} {n : Nat} {l m : List UInt8} (h : Fill f n n l) (hm : m.length = n) (hf : ∀ k, k < n → m[k]? = some (f k)) : l = m := by
  apply List.ext_getElem?
  intro k
  by_cases hk : k < n
  · rw [h.2 k hk, hf k hk]
  · rw [List.getElem?_eq_none (by rw [h.1]; omega), List.getElem?_eq_none (by rw [hm]; omega)]
def fa (k : Nat) : UInt8 := if k % 2 = 1 then 47 else 97
def fb (_ : Nat) : UInt8 := 98
theorem Fill.alt {n : Nat} {l : List UInt8} (h : Fill fa n n l) : l = YtmeaiplinkodiabDoor.alt n := h.all (alt_length n) fun k hk => by
  rw [List.getElem?_eq_getElem (by rw [alt_length]; exact hk), alt_get]; rfl
theorem Fill.bb {n : Nat} {l : List UInt8} (h : Fill fb n n l) : l = List.replicate n 98 := h.all (by simp) fun k hk => by simp [hk, fb]

/-- one store -/
theorem fill_set {f : Nat → UInt8} {w : World} {g i n : Nat} {l : List UInt8} (h : By w g l) (hf : Fill f i n l) (hi : i < n) (c : UInt8) (v : Int) (hv : v = (c.toNat : Int)) :
    (∃ x : Int, w.cell? ⟨g, i, none⟩ = some (.int .u8 x)) ∧ w.frozen? ⟨g, i, none⟩ = false ∧ By (w.setCell ⟨g, i, none⟩ (.int .u8 v)) g (l.set i c) := by
  subst hv
  exact ⟨⟨_, h.cell i (by rw [hf.1]; exact hi)⟩, h.frozen i, h.set i c⟩

set_option maxHeartbeats 4000000 in
theorem walk_z (n p : Nat) (z1 z2 : Int) (C1 : Hid (z1 = 0 ∧ n ≤ 4000 ∨ z1 = 2 ∧ 4000 < n)) (C2 : Hid (z2 = 0 ∧ p ≤ 255 ∨ z2 = 2 ∧ 255 < p)) (w : World) (h1 : 3990 ≤ n) (h2 : n ≤ 4010) (h3 : 250 ≤ p) (h4 : p ≤ 260)
    (q0 : Calls Tryd.prog 9 #[] w fun e w' => e = .returned (.bool true) ∧ Below w.heap.size w w')
    (KA : Hid (∀ W, Below w.heap.size w W → Calls Tryd.prog 10 #[.string (bs (YtmeaiplinkodiabDoor.alt n))] W fun e w' => ∃ v, e = .returned (.tuple #[v, .int .i64 z1]) ∧ Below W.heap.size W w'))
    (KB : Hid (∀ W, Below w.heap.size w W → Calls Tryd.prog 10 #[.string (bs (List.replicate p 98))] W fun e w' => ∃ v, e = .returned (.tuple #[v, .int .i64 z2]) ∧ Below W.heap.size W w')) :
    Calls Tryd.prog 3 #[.int .i64 n, .int .i64 p] w fun e w' => e = .returned (.bool true) ∧ Below w.heap.size w w' := by
  have hmk := fun W => run_make_row' (P := Tryd.prog) 23 5 (.int .u8 0) 1 Tryd.underlying23 info_u8 rfl .i64 .i64 n (by omega) (by omega) W
  have hmk2 := fun W => run_make_row' (P := Tryd.prog) 23 5 (.int .u8 0) 1 Tryd.underlying23 info_u8 rfl .i64 .i64 p (by omega) (by omega) W
  have k1 : ¬ (n : Int) < 3990 := by omega
  go_enter Tryd.func3, Tryd.ntmps3
  go_wp2_with (first
    | (go_at_call 9; refine q0.mono ?_; rintro e w0 ⟨rfl, b00⟩))
  have f0 : Hid (By (w0.alloc (.cells (madeCells #[.int .u8 0] n) 5)) w0.heap.size (List.replicate n 0)) := hid (By.fresh w0 n)
  have b01 := b00.alloc b00.size (.cells (madeCells #[.int .u8 0] n) 5)
  have hG : w.heap.size ≤ w0.heap.size := b00.size
  generalize hW1 : w0.alloc (.cells (madeCells #[.int .u8 0] n) 5) = W1 at *
  generalize hGG : w0.heap.size = G at *
  clear hW1 hGG b00
  go_loopg [33] n (fun g u wr => ∃ (i : Nat) (l : List UInt8), i + g = n ∧ u = .int .i64 i ∧ Hid (By wr G l) ∧ Hid (Fill fa i n l) ∧ Below w.heap.size w wr)
  case atStart => exact ⟨0, _, by omega, rfl, f0, hid (Fill.start _ _), b01⟩
  case round =>
    obtain ⟨i, l, hig, rfl, hby, hfl, hbe⟩ := hrel
    clear f0 b01
    by_cases hlt : i < n
    · obtain ⟨⟨x, hx⟩, hfz, hb1⟩ := fill_set hby.out hfl.out hlt 97 97 rfl
      have Hb1 := hid hb1
      have hx2 : (wr.setCell ⟨G, i, none⟩ (.int .u8 97)).cell? ⟨G, i, none⟩ = some (.int .u8 97) := World.cell?_setCell_same _ _ _ hx
      have hfz2 : (wr.setCell ⟨G, i, none⟩ (.int .u8 97)).frozen? ⟨G, i, none⟩ = false := by rw [World.frozen?_setCell]; exact hfz
      have Hb2 : Hid (By ((wr.setCell ⟨G, i, none⟩ (.int .u8 97)).setCell ⟨G, i, none⟩ (.int .u8 47)) G ((l.set i 97).set i 47)) := hid (hb1.set i 47)
      have be1 := hbe.setCell (p := ⟨G, i, none⟩) hG (.int .u8 97)
      have be2 := be1.setCell (p := ⟨G, i, none⟩) hG (.int .u8 47)
      clear hb1
      by_cases hodd : i % 2 = 1
      · have c1 : (i : Int).tmod 2 = 1 := by rw [Int.tmod_eq_emod_of_nonneg (by omega)]; omega
        have c2 : (i : Int) % 2 = 1 := by omega
        go_wp2_with fail
        go_roundg (n - (i + 1))
        case rel => exact ⟨i + 1, _, by omega, by simp, Hb2, hid (by rw [List.set_set]; exact hfl.out.next hlt 47 (by simp [fa, hodd])), be2⟩
        case measure => omega
      · have c1 : (i : Int).tmod 2 = 0 := by rw [Int.tmod_eq_emod_of_nonneg (by omega)]; omega
        have c2 : (i : Int) % 2 = 0 := by omega
        go_wp2_with fail
        go_roundg (n - (i + 1))
        case rel => exact ⟨i + 1, _, by omega, by simp, Hb1, hid (hfl.out.next hlt 97 (by simp [fa, hodd])), be1⟩
        case measure => omega
    · obtain rfl : i = n := by omega
      obtain rfl := hfl.out.alt
      have hcv := hby.out.str i
      rw [alt_length] at hcv
      go_wp2_with (first
        | (go_at_call 10; refine (KA.out _ hbe).mono ?_; rintro e w3 ⟨v, rfl, b3⟩; have b03 := hbe.trans (b3.mono hbe.size))
        )
      have f2 : Hid (By (w3.alloc (.cells (madeCells #[.int .u8 0] p) 5)) w3.heap.size (List.replicate p 0)) := hid (By.fresh w3 p)
      have b04 := b03.alloc b03.size (.cells (madeCells #[.int .u8 0] p) 5)
      have hG3 : w.heap.size ≤ w3.heap.size := b03.size
      generalize hW3 : w3.alloc (.cells (madeCells #[.int .u8 0] p) 5) = W3 at *
      generalize hG4 : w3.heap.size = G3 at *
      clear hW3 hG4 b03 b3 hcv hby hbe
      go_loopg [56] p (fun g u wr => ∃ (j : Nat) (l : List UInt8), j + g = p ∧ u = .int .i64 j ∧ Hid (By wr G3 l) ∧ Hid (Fill fb j p l) ∧ Below w.heap.size w wr)
      case atStart => exact ⟨0, _, by omega, rfl, f2, hid (Fill.start _ _), b04⟩
      case round =>
        obtain ⟨j, l, hjg, rfl, hby, hfl, hbe⟩ := hrel
        clear f2 b04
        by_cases hlt : j < p
        · obtain ⟨⟨x, hx⟩, hfz, hb1⟩ := fill_set hby.out hfl.out hlt 98 98 rfl
          have Hb1 := hid hb1
          have be1 := hbe.setCell (p := ⟨G3, j, none⟩) hG3 (.int .u8 98)
          clear hb1
          go_wp2_with fail
          go_roundg (p - (j + 1))
          case rel => exact ⟨j + 1, _, by omega, by simp, Hb1, hid (hfl.out.next hlt 98 rfl), be1⟩
          case measure => omega
        · obtain rfl : j = p := by omega
          obtain rfl := hfl.out.bb
          have hcv := hby.out.str j
          rw [List.length_replicate] at hcv
          have bf := hbe
          rcases C1.out with ⟨rfl, c1⟩ | ⟨rfl, c1⟩
          · have d1 : (i : Int) ≤ 4000 := by omega
            rcases C2.out with ⟨rfl, c2⟩ | ⟨rfl, c2⟩
            · have d2 : (j : Int) ≤ 255 := by omega
              clear C1 C2
              go_wp2_with (first
                | (go_at_call 10; refine (KB.out _ bf).mono ?_; rintro e w5 ⟨v5, rfl, b5⟩; have b05 := bf.trans (b5.mono bf.size)))
              go_ret
              exact ⟨by simp <;> omega, b05⟩
            · have d2 : ¬ (j : Int) ≤ 255 := by omega
              clear C1 C2
              go_wp2_with (first
                | (go_at_call 10; refine (KB.out _ bf).mono ?_; rintro e w5 ⟨v5, rfl, b5⟩; have b05 := bf.trans (b5.mono bf.size)))
              go_ret
              exact ⟨by simp <;> omega, b05⟩
          · have d1 : ¬ (i : Int) ≤ 4000 := by omega
            rcases C2.out with ⟨rfl, c2⟩ | ⟨rfl, c2⟩
            · have d2 : (j : Int) ≤ 255 := by omega
              clear C1 C2
              go_wp2_with (first
                | (go_at_call 10; refine (KB.out _ bf).mono ?_; rintro e w5 ⟨v5, rfl, b5⟩; have b05 := bf.trans (b5.mono bf.size)))
              go_ret
              exact ⟨by simp <;> omega, b05⟩
            · have d2 : ¬ (j : Int) ≤ 255 := by omega
              clear C1 C2
              go_wp2_with (first
                | (go_at_call 10; refine (KB.out _ bf).mono ?_; rintro e w5 ⟨v5, rfl, b5⟩; have b05 := bf.trans (b5.mono bf.size)))
              go_ret
              exact ⟨by simp <;> omega, b05⟩

theorem walk_in (n p : Nat) (w : World) (hm : Ml w) (h1 : 3990 ≤ n) (h2 : n ≤ 4010) (h3 : 250 ≤ p) (h4 : p ≤ 260) :
    Calls Tryd.prog 3 #[.int .i64 n, .int .i64 p] w fun e w' => e = .returned (.bool true) ∧ Below w.heap.size w w' := by
  refine walk_z n p (if n ≤ 4000 then 0 else 2) (if p ≤ 255 then 0 else 2) (hid (by split <;> simp <;> omega)) (hid (by split <;> simp <;> omega)) w h1 h2 h3 h4 (cleans_w w hm) (hid fun W hb => ?_) (hid fun W hb => ?_)
  · have := clean_sl (YtmeaiplinkodiabDoor.alt n) (by rw [alt_length]; omega) W (hm.below hb)
    rw [alt_err n (by omega)] at this
    refine this.mono ?_
    rintro e w' ⟨ad, c, rfl, _, _, _, hb⟩
    exact ⟨_, rfl, hb⟩
  · have := clean_sl (List.replicate p 98) (by simp; omega) W (hm.below hb)
    rw [bb_err p (by omega) (by omega)] at this
    refine this.mono ?_
    rintro e w' ⟨ad, c, rfl, _, _, _, hb⟩
    exact ⟨_, rfl, hb⟩

set_option maxHeartbeats 1000000 in
theorem walk_out (a b : Int) (w : World) (hm : Ml w) (h : ¬ ((3990 ≤ a ∧ a ≤ 4010) ∧ 250 ≤ b ∧ b ≤ 260)) :
    Calls Tryd.prog 3 #[.int .i64 a, .int .i64 b] w fun e w' => e = .returned (.bool true) ∧ Below w.heap.size w w' := by
  have q0 := cleans_w w hm
  clear hm
  by_cases c1 : a < 3990
  · clear h
    go_enter Tryd.func3, Tryd.ntmps3
    go_wp2_with (first
      | (go_at_call 9; refine q0.mono ?_; rintro e w0 ⟨rfl, b00⟩))
    go_ret
    exact ⟨rfl, b00⟩
  · by_cases c2 : 4010 < a
    · clear h
      go_enter Tryd.func3, Tryd.ntmps3
      go_wp2_with (first
        | (go_at_call 9; refine q0.mono ?_; rintro e w0 ⟨rfl, b00⟩))
      go_ret
      exact ⟨rfl, b00⟩
    · by_cases c3 : b < 250
      · clear h
        go_enter Tryd.func3, Tryd.ntmps3
        go_wp2_with (first
          | (go_at_call 9; refine q0.mono ?_; rintro e w0 ⟨rfl, b00⟩))
        go_ret
        exact ⟨rfl, b00⟩
      · have c4 : 260 < b := by omega
        clear h
        go_enter Tryd.func3, Tryd.ntmps3
        go_wp2_with (first
          | (go_at_call 9; refine q0.mono ?_; rintro e w0 ⟨rfl, b00⟩))
        go_ret
        exact ⟨rfl, b00⟩

theorem walk (a0 a1 : Int) (w : World) (hm : Ml w) :
    Calls Tryd.prog 3 #[.int .i64 a0, .int .i64 a1] w fun e w' => e = .returned (.bool true) ∧ Below w.heap.size w w' := by
  by_cases h : (3990 ≤ a0 ∧ a0 ≤ 4010) ∧ 250 ≤ a1 ∧ a1 ≤ 260
  · obtain ⟨n, rfl⟩ : ∃ n : Nat, a0 = n := ⟨a0.toNat, by omega⟩
    obtain ⟨p, rfl⟩ : ∃ p : Nat, a1 = p := ⟨a1.toNat, by omega⟩
    exact walk_in n p w hm (by omega) (by omega) (by omega) (by omega)
  · exact walk_out a0 a1 w hm h

set_option maxRecDepth 100000 in
theorem lifted (os : Os) (started : os.Started) (H : Type) (enc : TypeId × Value → H) :
    ReturnsInHanded {} Tryd.checked os 3 .any (fun w args => (Rows.pathLongSpec.pre enc Tryd.prog Tryd.f3 [] false w args ∧ laidMetH Tryd.prog two w) ∧ sizedMet enc Tryd.prog Tryd.f3 (OpenSpec.ofChange Rows.pathLongSpec) false w args)
      (Rows.pathLongSpec.post enc Tryd.prog Tryd.f3 false true false false) := by
  refine handed_shaped (C := Tryd.checked) (X := fun w _ => laidMetH Tryd.prog two w) (fun _ _ _ hh h => h.of_heap hh) own started (by kernel_rfl) Tryd.func3
    (ChangeSpec.witness_at (enc := enc) (C := Tryd.checked) (os := os) (X := fun w _ => laidMetH Tryd.prog two w) false
      (start os)
      #[.int .i64 0, .int .i64 0] 8 rfl (by kernel_rfl) (by kernel_rfl) (by kernel_rfl) (by kernel_rfl) (by kernel_rfl) (laidMet_of_run' 8 (by kernel_rfl) (by kernel_rfl))) ?_
  intro W base args ds gs before hval0 hW hsz hsh
  have hval : ∀ (j : Nat) t v, Tryd.f3.params[j]? = some t → args[j]? = some v → Value.okWide Tryd.prog W .any base t v := hval0
  have hW' := hW
  obtain ⟨p, q, hA0, hV0, rfl, hfz, hnd⟩ := hW
  have hA : DataW.TrodAll enc Tryd.prog W 0 (fun _ => true) true Tryd.f3.params.toList args.toList ds p := hA0
  have hV : DataW.TrodVars enc Tryd.prog W (fun _ => true) [] gs q := hV0
  rw [Tryd.params3] at hA hval
  obtain ⟨v0, vs0, d0, ds0, p0, q0, hargs, rfl, rfl, h0, r0⟩ := trodAll_cons hA
  obtain ⟨v1, vs1, d1, ds1, p1, q1, rfl, rfl, rfl, h1, r1⟩ := trodAll_cons r0
  obtain ⟨rfl, rfl, rfl⟩ := trodAll_nil r1
  obtain rfl : args = #[v0, v1] := by cases args; simp_all
  obtain ⟨rfl, rfl⟩ : gs = [] ∧ q = [] := by
    cases gs with
    | nil => exact ⟨rfl, hV⟩
    | cons g r => exact absurd hV (by intro h; cases h)
  obtain ⟨a0, rfl, rfl, rfl, w0⟩ := open_int Tryd.underlying3 (hval 0 3 v0 rfl rfl) h0
  obtain ⟨a1, rfl, rfl, rfl, w1⟩ := open_int Tryd.underlying3 (hval 1 3 v1 rfl rfl) h1
  clear hA0 hval0
  refine (walk a0 a1 W (shaped hsh)).mono fun e W' ⟨he, st⟩ => ?_
  subst he
  exact ⟨_, rfl, _, _, _, [], _, [], hW', trodAll_mk1 (shut_bool Tryd.underlying4 _), (trodAll_cons_mk (shut_int Tryd.underlying3 w0) (trodAll_cons_mk (shut_int Tryd.underlying3 w1) trodAll_mk0)), rfl, st.frame _, fun h => by cases h⟩

theorem over : Rows.PathLongSaid :=
  OpenClaim.holds_of_wide 3 Tryd.f3 rfl rfl rfl rfl rfl rfl rfl ⟨rfl, rfl, rfl, rfl, rfl⟩ rfl rfl rfl rfl rfl (by kernel_rfl) Tryd.func3 (by kernel_rfl)
    (of_decide_eq_true (by kernel_rfl)) (by unfold Func.isWrapper; rw [if_neg (of_decide_eq_false (by kernel_rfl))]; exact ⟨rfl, rfl⟩)
    (fun os started H enc _ => lifted os started H enc)

theorem carded : Rows.PathLongCardSaid :=
  Claim7.holds_tied_plain_at .later [] _ _ _ _
    over (fun _ h => by cases h) (by kernel_rfl) (fun _ h => by cases h) pathLong_row_tie rfl ⟨rfl, rfl⟩ (by kernel_rfl) rfl
    (fun f fn hf hfn => by
      obtain rfl : f = 3 := Option.some.inj ((show Tryd.prog.funcNamed Tryd.f3.name = some 3 by kernel_rfl).symm.trans hf) |>.symm
      obtain rfl : fn = Tryd.f3 := (Option.some.inj (Tryd.func3.symm.trans hfn)).symm
      refine ⟨by kernel_rfl, fun j t ht => ?_⟩
      have hall : ∀ t ∈ Tryd.f3.params, Tryd.prog.wantsStandIn t = false := by
        rw [Tryd.params3]
        intro t ht
        simp at ht
        subst ht; kernel_rfl
      exact hall t (Array.mem_of_getElem? ht))
    (by kernel_rfl)

end Go.Proofs.YtmeaiplinkodiabDoor.pathLong
namespace Go.Proofs.YtmeaiplinkodiabDoor
theorem pathLong_holds : Rows.PathLongCardSaid := pathLong.carded
#print axioms pathLong_holds
end Go.Proofs.YtmeaiplinkodiabDoor
