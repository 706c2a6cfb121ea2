/-
  The laws' walks: AskOne.
-/
import Derived.Test.YtojbfdlgjjghjaaDoorKKs
import Derived.Deep.DeepCutAuto
import Derived.Deep.CutBlock
namespace Go.Proofs.YtojbfdlgjjghjaaDoor.K
open Go.RowKit
open Go.Lib hiding intOf
set_option linter.unusedVariables false
set_option linter.unusedSimpArgs false

theorem idx_last (s : ByteArray) (h : 0 < s.size) (m : Nat) (hm : s.size = m + 1) (W : World) : (Instr.index 9 (.string s) (.int .i64 (m : Int))).run Tryd.prog W = .ok (.int .u8 ((s.data.toList[s.size - 1]'(by show s.size - 1 < s.size; omega)).toNat : Int)) W := by
  rw [run_index_string W 9 s .i64 (m : Int) Tryd.underlying9, dif_pos ⟨by omega, by omega⟩]
  have gt : ∀ j (hj : j < s.data.toList.length) (hj2 : j < s.size), s[j]'hj2 = s.data.toList[j]'hj := fun j hj hj2 => by simp [ByteArray.getElem_eq_getElem_data]
  have e : m = s.size - 1 := by omega
  subst e
  simp only [Int.toNat_natCast]
  rw [gt]

/-- what the last byte of a text is, and what that makes of it -/
theorem last_of {a : Ak} {s s' : ByteArray} (h : Stb a s s') (m : Nat) (hm : s'.size = m + 1) : ∃ x : UInt8, ((∀ W, (Instr.index 9 (.string s') (.int .i64 (m : Int))).run Tryd.prog W = .ok (.int .u8 (x.toNat : Int)) W) ∧ True) ∧
    ((x.toNat : Int) = 32 → a.p = ⟨#[]⟩ → Stb a s (s'.extract 0 m)) ∧ (¬ (x.toNat : Int) = 32 → s' = finB a s) ∧ (¬ a.p = ⟨#[]⟩ → s' = finB a s) := by
  have hz : 0 < s'.size := by omega
  refine ⟨_, ⟨idx_last s' hz m hm, trivial⟩, fun hx hp => ?_, fun hx => ?_, fun hp => h.path hp⟩
  · have hc : s'.data.toList[s'.size - 1]'(by show s'.size - 1 < s'.size; omega) = 32 := UInt8.toNat_inj.mp (by rw [show (32 : UInt8).toNat = 32 from rfl]; omega)
    have := h.next hz hc hp
    rw [show s'.size - 1 = m by omega] at this
    exact this
  · refine h.other hz fun hc => hx ?_
    rw [hc]; rfl

theorem bytes_ne {x y : ByteArray} (h : ¬ x = y) : (x.toList == y.toList) = false := by
  rw [ByteArray.toList_eq, ByteArray.toList_eq]
  refine beq_eq_false_iff_ne.mpr fun e => h ?_
  have e1 := arr_eta x
  rw [e, arr_eta y] at e1
  exact e1.symm

set_option maxRecDepth 20000 in
set_option maxHeartbeats 8000000 in
theorem one_in (s1 s2 : ByteArray) (z1 : s1.size ≤ 20000) (z2 : s2.size ≤ 20000) (a1 a2 : Ak) (b1 b2 : List UInt8) (h1 : decP s1 = .inr (a1, b1)) (h2 : decP s2 = .inr (a2, b2)) (w : World) (ht : Vs w) :
    Calls Tryd.prog 4 #[.string s1, .string s2] w fun e w' => e = .returned (.bool true) ∧ Below w.heap.size w w' := by
  have q0 := asks_w w ht
  have HX1 : Hid (∀ W, Below w.heap.size w W → Calls Tryd.prog 10 #[.string s1] W fun e w' => (∃ d, e = .returned (.tuple #[.agg (a1.cells d), .int .i64 0]) ∧ DatAt w' d b1) ∧ Below W.heap.size W w') := fun W b => by
    have := decode_w s1 (by omega) W (ht.below b)
    rw [h1] at this
    exact this
  have HX2 : Hid (∀ W, Below w.heap.size w W → Calls Tryd.prog 10 #[.string s2] W fun e w' => (∃ d, e = .returned (.tuple #[.agg (a2.cells d), .int .i64 0]) ∧ DatAt w' d b2) ∧ Below W.heap.size W w') := fun W b => by
    have := decode_w s2 (by omega) W (ht.below b)
    rw [h2] at this
    exact this
  have HP : Hid (finB a1 s1 = finB a2 s2 ↔ a1 = a2 ∧ b1 = b2) := one_plain h1 h2
  clear h1 h2 ht
  have HA1 : Hid (Stb a1 s1 s1) := Stb.start a1 s1
  have HA2 : Hid (Stb a2 s2 s2) := Stb.start a2 s2
  simp only [Ak.cells] at HX1 HX2
  go_enter Tryd.func4, Tryd.ntmps4
  go_upto_region 6 with (first
    | (go_at_call 9; refine q0.mono ?_; rintro e w1 ⟨rfl, b1'⟩)
    | (go_at_call 10; refine (HX1.out _ b1').mono ?_; rintro e w2 ⟨⟨d1, rfl, hd1⟩, b2'⟩; obtain ⟨ad1, n1, rfl⟩ := hd1.shape))
  have c12 := b1'.trans (b2'.mono b1'.size)
  have c13 := c12.alloc c12.size (.cells #[.int .i64 a1.k, .int .i64 a1.t, .int .i64 a1.n, .int .i64 a1.c, .string a1.p, .slice ad1 n1 n1] 25)
  have e1 := hd1.below ((Below.refl _ w2).alloc (Nat.le_refl _) (.cells #[.int .i64 a1.k, .int .i64 a1.t, .int .i64 a1.n, .int .i64 a1.c, .string a1.p, .slice ad1 n1 n1] 25))
  have x1 : Box (w2.alloc (.cells #[.int .i64 a1.k, .int .i64 a1.t, .int .i64 a1.n, .int .i64 a1.c, .string a1.p, .slice ad1 n1 n1] 25)) w2.heap.size #[.int .i64 a1.k, .int .i64 a1.t, .int .i64 a1.n, .int .i64 a1.c, .string a1.p, .slice ad1 n1 n1] := heap_alloc_new w2 _
  clear q0 HX1 b1' b2' c12 hd1
  generalize hg1 : w2.heap.size = g1 at *
  generalize hW3 : World.alloc _ _ = W3 at *
  clear hW3 hg1
  have hg1 := x1.lt
  have E1 := hid e1
  have X1 := hid x1
  clear e1 x1
  go_upto_region 7 with (go_at_call 10; refine (HX2.out _ c13).mono ?_; rintro e w4 ⟨⟨d2, rfl, hd2⟩, b4'⟩; obtain ⟨ad2, n2, rfl⟩ := hd2.shape)
  have c14 := c13.trans (b4'.mono c13.size)
  have c15 := c14.alloc c14.size (.cells #[.int .i64 a2.k, .int .i64 a2.t, .int .i64 a2.n, .int .i64 a2.c, .string a2.p, .slice ad2 n2 n2] 25)
  have bb : Below W3.heap.size W3 (w4.alloc (.cells #[.int .i64 a2.k, .int .i64 a2.t, .int .i64 a2.n, .int .i64 a2.c, .string a2.p, .slice ad2 n2 n2] 25)) := b4'.alloc b4'.size _
  have e2 := hd2.below ((Below.refl _ w4).alloc (Nat.le_refl _) (.cells #[.int .i64 a2.k, .int .i64 a2.t, .int .i64 a2.n, .int .i64 a2.c, .string a2.p, .slice ad2 n2 n2] 25))
  have e1 := E1.out.below bb
  have x1 := X1.out.below bb hg1
  have x2 : Box (w4.alloc (.cells #[.int .i64 a2.k, .int .i64 a2.t, .int .i64 a2.n, .int .i64 a2.c, .string a2.p, .slice ad2 n2 n2] 25)) w4.heap.size #[.int .i64 a2.k, .int .i64 a2.t, .int .i64 a2.n, .int .i64 a2.c, .string a2.p, .slice ad2 n2 n2] := heap_alloc_new w4 _
  clear HX2 b4' c14 hd2 E1 X1 bb c13
  generalize w4.heap.size = g2 at *
  generalize World.alloc _ _ = W5 at *
  have y1 := x1.cell
  have y2 := x2.cell
  have hg1' := x1.lt
  have hg2' := x2.lt
  have hcv1 := e1.bytes.str
  have hcv2 := e2.bytes.str
  have HB5 := hid c15
  clear x1 x2 e1 e2 c15 hg1
  go_upto_block 0 with fail
  go_cut [0] (fun t0 wx => Hid (t0 = .string (finB a1 s1)) ∧ wx = W5)
  case first =>
    go_wp2_with fail
    go_loopw [0] (fun t0 wr => ∃ s', Hid (Stb a1 s1 s') ∧ t0 = .string s' ∧ wr = W5) (fun t0 _ => match t0 with | .string s => s.size | _ => 0)
    case atStart => exact ⟨s1, HA1, rfl, rfl⟩
    case round =>
      obtain ⟨s', hst, rfl, rfl⟩ := hrel
      rcases Nat.eq_zero_or_pos s'.size with hz | hz
      · have hr := hid (hst.out.none hz)
        go_wp2
        go_meet
        case rel => exact ⟨hid (congrArg Value.string hr.out), rfl⟩
      · obtain ⟨m, hm⟩ : ∃ m, s'.size = m + 1 := ⟨s'.size - 1, by omega⟩
        obtain ⟨x, ⟨hi, -⟩, hnx, hot, hpt⟩ := last_of hst.out m hm
        replace hnx := hid hnx
        replace hot := hid hot
        replace hpt := hid hpt
        have hsz := hid hm
        clear hz
        have hb : m < 20000 := by have := hst.out.2.2; omega
        have hpos : (0 : Int) < (m : Int) + 1 := by omega
        have hwr : wrap64 (m : Int) = m := by unfold wrap64; omega
        have hwr1 : wrap64 ((m : Int) + 1 - 1) = m := by rw [show (m : Int) + 1 - 1 = m by omega]; exact hwr
        by_cases hx : (x.toNat : Int) = 32
        · by_cases hp : a1.p = ⟨#[]⟩
          · go_wp2
            refine ⟨⟨_, hid (hnx.out hx hp), rfl, trivial⟩, ?_⟩
            have hq := hsz.out
            show (s'.extract 0 m).size < s'.size
            rw [ByteArray.size_extract]
            omega
          · have hpe : a1.p.toList.isEmpty = false := by rw [← decide_eq_emptyBytes]; exact decide_eq_false hp
            go_wp2
            go_meet
            case rel => exact ⟨hid (congrArg Value.string (hpt.out hp)), rfl⟩
        · go_wp2
          go_meet
          case rel => exact ⟨hid (congrArg Value.string (hot.out hx)), rfl⟩
  case rest =>
    obtain ⟨hF1, rfl⟩ := hcut
    obtain rfl := hF1.out
    clear hF1 HA1
    go_upto_block 2 with fail
    go_cut [1] (fun t1 wx => Hid (t1 = .string (finB a2 s2)) ∧ wx = wc)
    case first =>
      go_wp2_with fail
      go_loopw [1] (fun t1 wr => ∃ s', Hid (Stb a2 s2 s') ∧ t1 = .string s' ∧ wr = wc) (fun t1 _ => match t1 with | .string s => s.size | _ => 0)
      case atStart => exact ⟨s2, HA2, rfl, rfl⟩
      case round =>
        obtain ⟨s', hst, rfl, rfl⟩ := hrel
        rcases Nat.eq_zero_or_pos s'.size with hz | hz
        · have hr := hid (hst.out.none hz)
          go_wp2
          go_meet
          case rel => exact ⟨hid (congrArg Value.string hr.out), rfl⟩
        · obtain ⟨m, hm⟩ : ∃ m, s'.size = m + 1 := ⟨s'.size - 1, by omega⟩
          obtain ⟨x, ⟨hi, -⟩, hnx, hot, hpt⟩ := last_of hst.out m hm
          replace hnx := hid hnx
          replace hot := hid hot
          replace hpt := hid hpt
          have hsz := hid hm
          clear hz
          have hb : m < 20000 := by have := hst.out.2.2; omega
          have hpos : (0 : Int) < (m : Int) + 1 := by omega
          have hwr : wrap64 (m : Int) = m := by unfold wrap64; omega
          have hwr1 : wrap64 ((m : Int) + 1 - 1) = m := by rw [show (m : Int) + 1 - 1 = m by omega]; exact hwr
          by_cases hx : (x.toNat : Int) = 32
          · by_cases hp : a2.p = ⟨#[]⟩
            · go_wp2
              refine ⟨⟨_, hid (hnx.out hx hp), rfl, trivial⟩, ?_⟩
              have hq := hsz.out
              show (s'.extract 0 m).size < s'.size
              rw [ByteArray.size_extract]
              omega
            · have hpe : a2.p.toList.isEmpty = false := by rw [← decide_eq_emptyBytes]; exact decide_eq_false hp
              go_wp2
              go_meet
              case rel => exact ⟨hid (congrArg Value.string (hpt.out hp)), rfl⟩
          · go_wp2
            go_meet
            case rel => exact ⟨hid (congrArg Value.string (hot.out hx)), rfl⟩
    case rest =>
      obtain ⟨hF2, rfl⟩ := hcut
      obtain rfl := hF2.out
      clear hF2 HA2
      generalize finB a1 s1 = F1 at *
      generalize finB a2 s2 = F2 at *
      by_cases ek : a1.k = a2.k
      · skip
        by_cases et : a1.t = a2.t
        · skip
          by_cases en : a1.n = a2.n
          · skip
            by_cases ec : a1.c = a2.c
            · skip
              by_cases ep : a1.p = a2.p
              · skip
                by_cases eb : b1 = b2
                · obtain rfl : a1 = a2 := by cases a1; cases a2; simp_all
                  obtain rfl := eb
                  obtain rfl := HP.out.mpr ⟨rfl, rfl⟩
                  clear ek et en ec ep HP
                  go_wp2
                  go_ret
                  exact ⟨rfl, HB5.out⟩
                · have hF : ¬ F1 = F2 := fun e => eb (HP.out.mp e).2
                  have hbl : (b1 == b2) = false := beq_eq_false_iff_ne.mpr eb
                  clear HP
                  have hFl := bytes_ne hF
                  go_wp2
                  go_ret
                  exact ⟨rfl, HB5.out⟩
              · have hF : ¬ F1 = F2 := fun e => ep (by rw [(HP.out.mp e).1])
                have hpl := bytes_ne ep
                clear HP
                have hFl := bytes_ne hF
                go_wp2
                go_ret
                exact ⟨rfl, HB5.out⟩
            · have hF : ¬ F1 = F2 := fun e => ec (by rw [(HP.out.mp e).1])
              clear HP
              have hFl := bytes_ne hF
              go_wp2
              go_ret
              exact ⟨rfl, HB5.out⟩
          · have hF : ¬ F1 = F2 := fun e => en (by rw [(HP.out.mp e).1])
            clear HP
            have hFl := bytes_ne hF
            go_wp2
            go_ret
            exact ⟨rfl, HB5.out⟩
        · have hF : ¬ F1 = F2 := fun e => et (by rw [(HP.out.mp e).1])
          clear HP
          have hFl := bytes_ne hF
          go_wp2
          go_ret
          exact ⟨rfl, HB5.out⟩
      · have hF : ¬ F1 = F2 := fun e => ek (by rw [(HP.out.mp e).1])
        clear HP
        have hFl := bytes_ne hF
        go_wp2
        go_ret
        exact ⟨rfl, HB5.out⟩
theorem one_ee (s1 s2 : ByteArray) (z1 : s1.size ≤ 20000) (z2 : s2.size ≤ 20000) (x1 : Int) (n1 : ¬ x1 = 0) (h1 : decP s1 = .inl x1) (x2 : Int) (n2 : ¬ x2 = 0) (h2 : decP s2 = .inl x2) (w : World) (ht : Vs w) :
    Calls Tryd.prog 4 #[.string s1, .string s2] w fun e w' => e = .returned (.bool true) ∧ Below w.heap.size w w' := by
  have q0 := asks_w w ht
  have HX1 : Hid (∀ W, Below w.heap.size w W → Calls Tryd.prog 10 #[.string s1] W fun e w' => e = .returned (.tuple #[.agg #[.int .i64 0, .int .i64 0, .int .i64 0, .int .i64 0, .string ⟨#[]⟩, .slice none 0 0], .int .i64 x1]) ∧ Below W.heap.size W w') := fun W b => by
    have := decode_w s1 (by omega) W (ht.below b)
    rw [h1] at this
    exact this
  have HX2 : Hid (∀ W, Below w.heap.size w W → Calls Tryd.prog 10 #[.string s2] W fun e w' => e = .returned (.tuple #[.agg #[.int .i64 0, .int .i64 0, .int .i64 0, .int .i64 0, .string ⟨#[]⟩, .slice none 0 0], .int .i64 x2]) ∧ Below W.heap.size W w') := fun W b => by
    have := decode_w s2 (by omega) W (ht.below b)
    rw [h2] at this
    exact this
  clear h1 h2 ht
  go_enter Tryd.func4, Tryd.ntmps4
  go_upto_region 6 with (first
    | (go_at_call 9; refine q0.mono ?_; rintro e w1 ⟨rfl, b1'⟩)
    | (go_at_call 10; refine (HX1.out _ b1').mono ?_; rintro e w2 ⟨rfl, b2'⟩))
  have c12 := b1'.trans (b2'.mono b1'.size)
  have c13 := c12.alloc c12.size (.cells #[.int .i64 0, .int .i64 0, .int .i64 0, .int .i64 0, .string ⟨#[]⟩, .slice none 0 0] 25)
  clear q0 HX1 b1' b2' c12
  generalize w2.heap.size = g1 at *
  generalize World.alloc _ _ = W3 at *
  go_upto_region 7 with (go_at_call 10; refine (HX2.out _ c13).mono ?_; rintro e w4 ⟨rfl, b4'⟩)
  have c14 := c13.trans (b4'.mono c13.size)
  have c15 := hid (c14.alloc c14.size (.cells #[.int .i64 0, .int .i64 0, .int .i64 0, .int .i64 0, .string ⟨#[]⟩, .slice none 0 0] 25))
  clear HX2 b4' c14 c13
  go_wp2
  go_ret
  exact ⟨by first | rfl | simp, c15.out⟩

theorem one_eo (s1 s2 : ByteArray) (z1 : s1.size ≤ 20000) (z2 : s2.size ≤ 20000) (x1 : Int) (n1 : ¬ x1 = 0) (h1 : decP s1 = .inl x1) (a2 : Ak) (b2 : List UInt8) (h2 : decP s2 = .inr (a2, b2)) (w : World) (ht : Vs w) :
    Calls Tryd.prog 4 #[.string s1, .string s2] w fun e w' => e = .returned (.bool true) ∧ Below w.heap.size w w' := by
  have q0 := asks_w w ht
  have HX1 : Hid (∀ W, Below w.heap.size w W → Calls Tryd.prog 10 #[.string s1] W fun e w' => e = .returned (.tuple #[.agg #[.int .i64 0, .int .i64 0, .int .i64 0, .int .i64 0, .string ⟨#[]⟩, .slice none 0 0], .int .i64 x1]) ∧ Below W.heap.size W w') := fun W b => by
    have := decode_w s1 (by omega) W (ht.below b)
    rw [h1] at this
    exact this
  have HX2 : Hid (∀ W, Below w.heap.size w W → Calls Tryd.prog 10 #[.string s2] W fun e w' => (∃ d, e = .returned (.tuple #[.agg (a2.cells d), .int .i64 0]) ∧ DatAt w' d b2) ∧ Below W.heap.size W w') := fun W b => by
    have := decode_w s2 (by omega) W (ht.below b)
    rw [h2] at this
    exact this
  clear h1 h2 ht
  simp only [Ak.cells] at HX2
  go_enter Tryd.func4, Tryd.ntmps4
  go_upto_region 6 with (first
    | (go_at_call 9; refine q0.mono ?_; rintro e w1 ⟨rfl, b1'⟩)
    | (go_at_call 10; refine (HX1.out _ b1').mono ?_; rintro e w2 ⟨rfl, b2'⟩))
  have c12 := b1'.trans (b2'.mono b1'.size)
  have c13 := c12.alloc c12.size (.cells #[.int .i64 0, .int .i64 0, .int .i64 0, .int .i64 0, .string ⟨#[]⟩, .slice none 0 0] 25)
  clear q0 HX1 b1' b2' c12
  generalize w2.heap.size = g1 at *
  generalize World.alloc _ _ = W3 at *
  go_upto_region 7 with (go_at_call 10; refine (HX2.out _ c13).mono ?_; rintro e w4 ⟨⟨d2, rfl, hd2⟩, b4'⟩; obtain ⟨ad2, n2, rfl⟩ := hd2.shape)
  have c14 := c13.trans (b4'.mono c13.size)
  have c15 := hid (c14.alloc c14.size (.cells #[.int .i64 a2.k, .int .i64 a2.t, .int .i64 a2.n, .int .i64 a2.c, .string a2.p, .slice ad2 n2 n2] 25))
  clear HX2 b4' c14 c13 hd2
  go_wp2
  go_ret
  exact ⟨by first | rfl | simp, c15.out⟩

theorem one_oe (s1 s2 : ByteArray) (z1 : s1.size ≤ 20000) (z2 : s2.size ≤ 20000) (a1 : Ak) (b1 : List UInt8) (h1 : decP s1 = .inr (a1, b1)) (x2 : Int) (n2 : ¬ x2 = 0) (h2 : decP s2 = .inl x2) (w : World) (ht : Vs w) :
    Calls Tryd.prog 4 #[.string s1, .string s2] w fun e w' => e = .returned (.bool true) ∧ Below w.heap.size w w' := by
  have q0 := asks_w w ht
  have HX1 : Hid (∀ W, Below w.heap.size w W → Calls Tryd.prog 10 #[.string s1] W fun e w' => (∃ d, e = .returned (.tuple #[.agg (a1.cells d), .int .i64 0]) ∧ DatAt w' d b1) ∧ Below W.heap.size W w') := fun W b => by
    have := decode_w s1 (by omega) W (ht.below b)
    rw [h1] at this
    exact this
  have HX2 : Hid (∀ W, Below w.heap.size w W → Calls Tryd.prog 10 #[.string s2] W fun e w' => e = .returned (.tuple #[.agg #[.int .i64 0, .int .i64 0, .int .i64 0, .int .i64 0, .string ⟨#[]⟩, .slice none 0 0], .int .i64 x2]) ∧ Below W.heap.size W w') := fun W b => by
    have := decode_w s2 (by omega) W (ht.below b)
    rw [h2] at this
    exact this
  clear h1 h2 ht
  simp only [Ak.cells] at HX1
  go_enter Tryd.func4, Tryd.ntmps4
  go_upto_region 6 with (first
    | (go_at_call 9; refine q0.mono ?_; rintro e w1 ⟨rfl, b1'⟩)
    | (go_at_call 10; refine (HX1.out _ b1').mono ?_; rintro e w2 ⟨⟨d1, rfl, hd1⟩, b2'⟩; obtain ⟨ad1, n1, rfl⟩ := hd1.shape))
  have c12 := b1'.trans (b2'.mono b1'.size)
  have c13 := c12.alloc c12.size (.cells #[.int .i64 a1.k, .int .i64 a1.t, .int .i64 a1.n, .int .i64 a1.c, .string a1.p, .slice ad1 n1 n1] 25)
  clear q0 HX1 b1' b2' c12 hd1
  generalize w2.heap.size = g1 at *
  generalize World.alloc _ _ = W3 at *
  go_upto_region 7 with (go_at_call 10; refine (HX2.out _ c13).mono ?_; rintro e w4 ⟨rfl, b4'⟩)
  have c14 := c13.trans (b4'.mono c13.size)
  have c15 := hid (c14.alloc c14.size (.cells #[.int .i64 0, .int .i64 0, .int .i64 0, .int .i64 0, .string ⟨#[]⟩, .slice none 0 0] 25))
  clear HX2 b4' c14 c13
  go_wp2
  go_ret
  exact ⟨by first | rfl | simp, c15.out⟩

/-- AskOne -/
theorem one_walk (s1 s2 : ByteArray) (w : World) (ht : Vs w) (hz1 : s1.size ≤ 9223372036854775807) (hz2 : s2.size ≤ 9223372036854775807) :
    Calls Tryd.prog 4 #[.string s1, .string s2] w fun e w' => e = .returned (.bool true) ∧ Below w.heap.size w w' := by
  by_cases hg : s1.size ≤ 20000 ∧ s2.size ≤ 20000
  · have ne : ∀ {s x}, decP s = .inl x → ¬ x = 0 := fun h => by have := dec_err h; omega
    cases h1 : decP s1 with
    | inl x1 =>
      cases h2 : decP s2 with
      | inl x2 => exact one_ee s1 s2 hg.1 hg.2 x1 (ne h1) h1 x2 (ne h2) h2 w ht
      | inr p2 => exact one_eo s1 s2 hg.1 hg.2 x1 (ne h1) h1 p2.1 p2.2 h2 w ht
    | inr p1 =>
      cases h2 : decP s2 with
      | inl x2 => exact one_oe s1 s2 hg.1 hg.2 p1.1 p1.2 h1 x2 (ne h2) h2 w ht
      | inr p2 => exact one_in s1 s2 hg.1 hg.2 p1.1 p2.1 p1.2 p2.2 h1 h2 w ht
  · have q0 := asks_w w ht
    clear ht
    have HG : (20000 : Int) < s1.size ∨ (¬ (20000 : Int) < s1.size ∧ (20000 : Int) < s2.size) := by omega
    clear hg
    rcases HG with h1 | ⟨h1, h2⟩
    all_goals
      go_enter Tryd.func4, Tryd.ntmps4
      go_wp2_with (go_at_call 9; refine q0.mono ?_; rintro e w1 ⟨rfl, b1⟩)
      go_ret
      exact ⟨rfl, b1⟩
end Go.Proofs.YtojbfdlgjjghjaaDoor.K
