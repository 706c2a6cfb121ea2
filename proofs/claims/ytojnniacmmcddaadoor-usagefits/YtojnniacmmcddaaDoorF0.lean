/-
  The law UsageFits, its walk.
-/
import Derived.Test.YtojnniacmmcddaaDoorA0
import Derived.Deep.DeepCutAuto
namespace Go.Proofs.YtojnniacmmcddaaDoor
open Go.RowKit
open Go.Lib hiding intOf
set_option linter.unusedVariables false
set_option linter.unusedSimpArgs false

structure B4 (w W : World) (T C D : Array Value) (a b c : TypeId) (g : Nat) (E : Array Value) (f : TypeId) : Prop where
  b3 : B3 w W T C D a b c
  box : W.heap[g]? = some (.cells E f (0, 0))
  glt : g < W.heap.size
theorem B4.next {w W W' : World} {T C D E : Array Value} {a b c f : TypeId} {g : Nat} (h : B4 w W T C D a b c g E f) (k : Below W.heap.size W W') : B4 w W' T C D a b c g E f :=
  ⟨h.b3.next k, (k.block g h.glt).trans h.box, Nat.lt_of_lt_of_le h.glt k.size⟩

set_option maxRecDepth 20000 in
set_option maxHeartbeats 2000000 in
theorem fits_law (b1 n1 d1 l1 b2 n2 d2 l2 lb ln ld ll lx ly lz : Int) (w : World) (hm : Ml w) :
    Calls Tryd.prog 6 #[.agg #[.int .i64 b1, .int .i64 n1, .int .i64 d1, .int .i64 l1], .agg #[.int .i64 b2, .int .i64 n2, .int .i64 d2, .int .i64 l2], .agg #[.int .i64 lb, .int .i64 ln, .int .i64 ld, .int .i64 ll, .int .i64 lx, .int .i64 ly, .int .i64 lz]] w fun e w' => e = .returned (.bool true) ∧ Below w.heap.size w w' := by
  have KM : Hid (∀ W, Below w.heap.size w W → Calls Tryd.prog 18 #[] W fun e w' => e = .returned (.bool true) ∧ Below W.heap.size W w') := fun W hb => measures_w W (hm.below hb)
  obtain ⟨ft, hft⟩ : ∃ ft : Int → Int → Int → Int → Bool, ∀ b n d l, ft b n d l = decide (b ≤ lb ∧ n ≤ ln ∧ d ≤ ld ∧ l ≤ ll) := ⟨_, fun _ _ _ _ => rfl⟩
  have Hft : Hid (∀ b n d l, ft b n d l = decide (b ≤ lb ∧ n ≤ ln ∧ d ≤ ld ∧ l ≤ ll)) := hft
  have KF : Hid (∀ W (b n d l : Int), Calls Tryd.prog 25 #[.agg #[.int .i64 b, .int .i64 n, .int .i64 d, .int .i64 l], .agg #[.int .i64 lb, .int .i64 ln, .int .i64 ld, .int .i64 ll, .int .i64 lx, .int .i64 ly, .int .i64 lz]] W fun e w' => e = .returned (.bool (ft b n d l)) ∧ Below W.heap.size W w') := fun W b n d l => by
    show Calls _ _ _ _ _
    rw [hft]; exact fits_w b n d l lb ln ld ll lx ly lz W
  have H0 := B3.mk0 w #[.int .i64 b1, .int .i64 n1, .int .i64 d1, .int .i64 l1] #[.int .i64 b2, .int .i64 n2, .int .i64 d2, .int .i64 l2] #[.int .i64 lb, .int .i64 ln, .int .i64 ld, .int .i64 ll, .int .i64 lx, .int .i64 ly, .int .i64 lz] 54 54 64
  clear hm hft
  go_enter Tryd.func6, Tryd.ntmps6
  go_upto_region 3 with (go_at_call 18; refine (KM.out _ H0.bel).mono ?_; rintro e w1 ⟨rfl, k1⟩; have H1 : Hid (B3 w w1 _ _ _ _ _ _) := H0.next k1)
  have c1 := cells_of H1.out.one
  have c2 := cells_of H1.out.two
  have c3 := cells_of H1.out.thr
  clear H0 KM k1
  go_upto_region 5 with fail
  all_goals try (go_ret; exact ⟨rfl, H1.out.bel⟩)
  have KP : Hid (∀ W, Calls Tryd.prog 24 #[.agg #[.int .i64 b1, .int .i64 n1, .int .i64 d1, .int .i64 l1], .agg #[.int .i64 b2, .int .i64 n2, .int .i64 d2, .int .i64 l2]] W fun e w' => e = .returned (.agg #[.int .i64 (b1 + b2), .int .i64 (n1 + n2), .int .i64 (max d1 d2), .int .i64 (max l1 l2)]) ∧ Below W.heap.size W w') := fun W => plus_w b1 n1 d1 l1 b2 n2 d2 l2 W (by omega) (by omega)
  have hD : ∃ D, max d1 d2 = D ∧ ¬ D < d1 ∧ ¬ D < d2 ∧ (D = d1 ∨ D = d2) := ⟨_, rfl, by omega, by omega, by omega⟩
  obtain ⟨D, hD1, hD2, hD3, hD4⟩ := hD
  rw [hD1] at KP
  have HD : Hid (max d1 d2 = D) := hD1
  clear hD1
  go_cut [7] (fun s7 wx => ∃ g : Nat, s7 = .pointer (some ⟨g, 0, none⟩) ∧ Hid (wx.heap[g]? = some (.cells #[.int .i64 (b1 + b2), .int .i64 (n1 + n2), .int .i64 D, .int .i64 (max l1 l2)] 54 (0, 0))) ∧ Hid (B3 w wx #[.int .i64 b1, .int .i64 n1, .int .i64 d1, .int .i64 l1] #[.int .i64 b2, .int .i64 n2, .int .i64 d2, .int .i64 l2] #[.int .i64 lb, .int .i64 ln, .int .i64 ld, .int .i64 ll, .int .i64 lx, .int .i64 ly, .int .i64 lz] 54 54 64) ∧ g < wx.heap.size)
  case first =>
    go_wp2_with (go_at_call 24; refine (KP.out _).mono ?_; rintro e w2 ⟨rfl, k2⟩; have H2 : Hid (B3 w w2 _ _ _ _ _ _) := H1.out.next k2)
    go_meet
    case rel => exact ⟨w2.heap.size, rfl, heap_alloc_new w2 _, H2.out.next (below_box w2 _), by rw [size_box]; omega⟩
  case rest =>
    obtain ⟨g, rfl, Q2, H2, hg⟩ := hcut
    clear c1 c2 c3 H1 KP
    have c0 := cells_of Q2.out
    have c1 := cells_of H2.out.one
    have c2 := cells_of H2.out.two
    have c3 := cells_of H2.out.thr
    go_upto_region 6 with fail
    go_cut [107] (fun s107 wx => s107 = .bool false ∧ wc = wx)
    case first =>
      rcases hD4 with rfl | rfl
      · go_wp2_with fail
        go_meet
        case rel => exact ⟨rfl, rfl⟩
      · by_cases he : D = d1
        · subst he
          go_wp2_with fail
          go_meet
          case rel => exact ⟨rfl, rfl⟩
        · go_wp2_with fail
          go_meet
          case rel => exact ⟨rfl, rfl⟩
    case rest =>
      obtain ⟨rfl, rfl⟩ := hcut
      have HQ : Hid (ft (b1 + b2) (n1 + n2) D (max l1 l2) = true → ft b1 n1 d1 l1 = true ∧ ft b2 n2 d2 l2 = true) := (by
        show _ → _
        rw [Hft.out, Hft.out, Hft.out]
        intro h
        have h := of_decide_eq_true h
        exact ⟨decide_eq_true ⟨by omega, by omega, by omega, by omega⟩, decide_eq_true ⟨by omega, by omega, by omega, by omega⟩⟩)
      clear hD2 hD3 hD4 HD
      generalize max l1 l2 = M at *
      go_upto_region 8 with fail
      go_cut [8] (fun s8 wx => s8 = .bool (ft b1 n1 d1 l1) ∧ wc = wx)
      case first =>
        have hP := Hft.out b1 n1 d1 l1
        by_cases h1 : b1 ≤ lb
        · by_cases h2 : n1 ≤ ln
          · by_cases h3 : d1 ≤ ld
            · by_cases h4 : l1 ≤ ll
              · rw [decide_eq_true (⟨h1, h2, h3, h4⟩ : b1 ≤ lb ∧ n1 ≤ ln ∧ d1 ≤ ld ∧ l1 ≤ ll)] at hP
                go_wp2_with fail
                go_meet
                case rel => exact ⟨by rw [hP], rfl⟩
              · rw [decide_eq_false (fun h => h4 h.2.2.2 : ¬ (b1 ≤ lb ∧ n1 ≤ ln ∧ d1 ≤ ld ∧ l1 ≤ ll))] at hP
                go_wp2_with fail
                go_meet
                case rel => exact ⟨by rw [hP], rfl⟩
            · rw [decide_eq_false (fun h => h3 h.2.2.1 : ¬ (b1 ≤ lb ∧ n1 ≤ ln ∧ d1 ≤ ld ∧ l1 ≤ ll))] at hP
              go_wp2_with fail
              go_meet
              case rel => exact ⟨by rw [hP], rfl⟩
          · rw [decide_eq_false (fun h => h2 h.2.1 : ¬ (b1 ≤ lb ∧ n1 ≤ ln ∧ d1 ≤ ld ∧ l1 ≤ ll))] at hP
            go_wp2_with fail
            go_meet
            case rel => exact ⟨by rw [hP], rfl⟩
        · rw [decide_eq_false (fun h => h1 h.1 : ¬ (b1 ≤ lb ∧ n1 ≤ ln ∧ d1 ≤ ld ∧ l1 ≤ ll))] at hP
          go_wp2_with fail
          go_meet
          case rel => exact ⟨by rw [hP], rfl⟩
      case rest =>
        obtain ⟨rfl, rfl⟩ := hcut
        clear Hft
        have L : Hid (B4 w wc #[.int .i64 b1, .int .i64 n1, .int .i64 d1, .int .i64 l1] #[.int .i64 b2, .int .i64 n2, .int .i64 d2, .int .i64 l2] #[.int .i64 lb, .int .i64 ln, .int .i64 ld, .int .i64 ll, .int .i64 lx, .int .i64 ly, .int .i64 lz] 54 54 64 g #[.int .i64 (b1 + b2), .int .i64 (n1 + n2), .int .i64 D, .int .i64 M] 54) := ⟨H2.out, Q2.out, hg⟩
        generalize hS : b1 + b2 = SB at *
        generalize hN : n1 + n2 = SN at *
        clear hS hN
        cases hP : ft b1 n1 d1 l1 with
        | true =>
          cases hR : ft b2 n2 d2 l2 with
          | true =>
            cases hQ : ft SB SN D M with
            | true =>
              go_wp2_with (go_at_call 25; refine (KF.out _ _ _ _ _).mono ?_; rintro e wN ⟨rfl, bN⟩; have L : Hid (B4 w wN _ _ _ _ _ _ _ _ _) := L.out.next bN; have m0 := cells_of L.out.box; have m1 := cells_of L.out.b3.one; have m2 := cells_of L.out.b3.two; have m3 := cells_of L.out.b3.thr)
              go_ret
              exact ⟨rfl, L.out.b3.bel⟩
            | false =>
              go_wp2_with (go_at_call 25; refine (KF.out _ _ _ _ _).mono ?_; rintro e wN ⟨rfl, bN⟩; have L : Hid (B4 w wN _ _ _ _ _ _ _ _ _) := L.out.next bN; have m0 := cells_of L.out.box; have m1 := cells_of L.out.b3.one; have m2 := cells_of L.out.b3.two; have m3 := cells_of L.out.b3.thr)
              go_ret
              exact ⟨rfl, L.out.b3.bel⟩
          | false =>
            have hQ : ft SB SN D M = false := by
              cases h : ft SB SN D M with
              | false => rfl
              | true => have := (HQ.out h).2; rw [hR] at this; cases this
            go_wp2_with (go_at_call 25; refine (KF.out _ _ _ _ _).mono ?_; rintro e wN ⟨rfl, bN⟩; have L : Hid (B4 w wN _ _ _ _ _ _ _ _ _) := L.out.next bN; have m0 := cells_of L.out.box; have m1 := cells_of L.out.b3.one; have m2 := cells_of L.out.b3.two; have m3 := cells_of L.out.b3.thr)
            go_ret
            exact ⟨rfl, L.out.b3.bel⟩
        | false =>
          have hQ : ft SB SN D M = false := by
            cases h : ft SB SN D M with
            | false => rfl
            | true => have := (HQ.out h).1; rw [hP] at this; cases this
          go_wp2_with (go_at_call 25; refine (KF.out _ _ _ _ _).mono ?_; rintro e wN ⟨rfl, bN⟩; have L : Hid (B4 w wN _ _ _ _ _ _ _ _ _) := L.out.next bN; have m0 := cells_of L.out.box; have m1 := cells_of L.out.b3.one; have m2 := cells_of L.out.b3.two; have m3 := cells_of L.out.b3.thr)
          go_ret
          exact ⟨rfl, L.out.b3.bel⟩

end Go.Proofs.YtojnniacmmcddaaDoor
