/-
  The law BlockOwn returns true for every bytes and every place; no condition.
-/
import Derived.Test.YtpjfhfbjdcgbjaaRows
import Derived.Test.YtpjfhfbjdcgbjaaCut
import Derived.ProofKit
import Derived.OpenShut
import Derived.ShutString
import Derived.ChangeOld
import Derived.Below
import Derived.OwnWalk
import Derived.Laws.AppendOwnNone
namespace Go.Proofs.Ytpjfhfbjdcgbjaa.blockOwn
open Go.ChangeShapes Go.WideShapes Go.ChangeAt Go.RowKit
set_option linter.unusedVariables false
set_option linter.unusedSimpArgs false

def Row (w : World) (g n : Nat) : Prop := ∃ cur : Array Value, w.heap[g]? = some (.cells cur 5 (0, 0)) ∧ n ≤ cur.size ∧ ∀ j, j < n → ∃ z, cur[j]? = some (.int .u8 z)

structure Bump (w wr : World) (p S F : Nat) (B : List Int) (g n : Nat) : Prop where
  ar : Ar wr p S F [⟨B, 1⟩] []
  row : Row wr g n
  below : Below w.heap.size w wr
  hp : w.heap.size ≤ p
  hS : w.heap.size ≤ S
  hF : w.heap.size ≤ F
  hg : w.heap.size ≤ g
  gp : g ≠ p
  gS : g ≠ S
  gF : g ≠ F

theorem Bump.cell {w wr : World} {p S F : Nat} {B : List Int} {g n : Nat} (h : Bump w wr p S F B g n) (m : Nat) (hm : m < n) : ∃ z, wr.cell? ⟨g, m, none⟩ = some (.int .u8 z) ∧ wr.frozen? ⟨g, m, none⟩ = false := by
  obtain ⟨cur, h1, h2, h3⟩ := h.row
  obtain ⟨z, hz⟩ := h3 m hm
  exact ⟨z, by simp only [World.cell?, h1]; simpa using hz, by simp [World.frozen?, h1]⟩

theorem Bump.set {w wr : World} {p S F : Nat} {B : List Int} {g n : Nat} (h : Bump w wr p S F B g n) (m : Nat) (hm : m < n) (z : Int) : Bump w (wr.setCell ⟨g, m, none⟩ (.int .u8 z)) p S F B g n := by
  refine ⟨h.ar.moved (Below.heap_setCell _ _ _ _ h.gp.symm) (Below.heap_setCell _ _ _ _ h.gS.symm) (Below.heap_setCell _ _ _ _ h.gF.symm), ?_, h.below.setCell h.hg _, h.hp, h.hS, h.hF, h.hg, h.gp, h.gS, h.gF⟩
  obtain ⟨cur, h1, h2, h3⟩ := h.row
  refine ⟨cur.setIfInBounds m (.int .u8 z), ?_, by simpa using h2, fun j hj => ?_⟩
  · rw [setCell_eq_setRow wr g m cur 5 _ _ h1, setRow_heap wr g _ _ _ _ h1]
  · by_cases e : m = j
    · subst e
      exact ⟨z, by rw [Array.getElem?_setIfInBounds, if_pos rfl, if_pos (by omega)]⟩
    · obtain ⟨z', hz'⟩ := h3 j hj
      exact ⟨z', by rw [Array.getElem?_setIfInBounds_ne e]; exact hz'⟩

theorem Bump.alloc {w wr : World} {p S F : Nat} {B : List Int} {g n : Nat} (h : Bump w wr p S F B g n) (zs : List Int) : Bump w (wr.alloc (.cells (cellsOf zs).toArray 5)) p S F B wr.heap.size zs.length := by
  have hl := h.ar.lt
  refine ⟨h.ar.alloc _, ⟨_, heap_alloc_new wr _, by simp [cellsOf], fun j hj => ⟨zs[j], by simp [cellsOf, hj]⟩⟩, h.below.alloc h.below.size _, h.hp, h.hS, h.hF, h.below.size, by omega, by omega, by omega⟩

set_option maxHeartbeats 2000000 in
theorem walk_yes (k : Nat) (a : Option Addr) (cap : Nat) (zs : List Int) (w : World) (hkz : k + zs.length ≤ 64) (hn : a = none → zs.length = 0 ∧ cap = 0) (hsrc : Src w a zs) :
    Calls Try.prog 5 #[.slice a zs.length cap, .int .i64 (k : Int)] w fun e w' => e = .returned (.bool true) ∧ Below w.heap.size w w' := by
  have hk1 : ¬ (64 : Int) < (k : Int) := by omega
  have hk2 : ¬ (64 : Int) - (k : Int) < (zs.length : Int) := by omega
  have i5 : ∃ i, Try.prog.info? 5 = some i ∧ i.size = 1 ∧ i.bytes = 1 ∧ i.zero = some (.int .u8 0) := by
    have a : (Try.prog.info? 5).map (fun i => (i.size, i.bytes)) = some (1, 1) := by kernel_rfl
    have b : (Try.prog.info? 5).bind (fun i => i.zero) = some (.int .u8 0) := by kernel_rfl
    cases h : Try.prog.info? 5 with
    | none => rw [h] at a; simp at a
    | some i => rw [h] at a b; simp at a b; exact ⟨i, rfl, a.1, a.2, b⟩
  obtain ⟨i0, hi0, hi1, hi2, hi3⟩ := i5
  go_enter Try.func5, Try.ntmps5
  go_wp2_with fail
  refine (head_ok w).mono ?_
  rintro e w0 ⟨rfl, hb0⟩
  go_wp2_with fail
  refine (new_yes 1 w0 (by decide)).mono ?_
  rintro e w1 ⟨p, S, F, rfl, hA, hB, g1, g2, g3⟩
  have ht := take_yes [] 0 (ss := blank 1) (w := w1) (p := p) (S := S) (F := F) hA
  go_wp2_with fail
  refine ht.mono ?_
  rintro e w2 ⟨rfl, hA2, hK2⟩
  clear ht hA
  have hA2 : Ar w2 p S F [⟨zeros 64, 1⟩] [] := hA2
  have s0 := hb0.size
  have b1 := hb0.trans (hB.mono s0)
  have b2 := b1.trans (hK2.below b1.size (by omega) (by omega) (by omega))
  have g1 : w.heap.size ≤ p := by omega
  have g2 : w.heap.size ≤ S := by omega
  have g3 : w.heap.size ≤ F := by omega
  clear hb0 hB s0 b1 hK2
  have hown : (w2.alloc (.cells #[] 5)).ownsRow w2.heap.size 5 1 (.slice (some ⟨w2.heap.size, 0, none⟩) 0 0) 0 [] := ⟨rfl, .inr ⟨_, 0, #[], rfl, Nat.le_refl _, heap_alloc_new w2 _, Nat.le_refl _, by unfold maxLen; omega, rfl, rfl⟩⟩
  have bA : Below w2.heap.size w2 (w2.alloc (.cells #[] 5)) := (Below.refl _ w2).alloc (Nat.le_refl _) _
  have hl2 := hA2.lt
  cases a with
  | none =>
    obtain ⟨h0, rfl⟩ := hn rfl
    obtain rfl : zs = [] := List.eq_nil_of_length_eq_zero h0
    go_wp2_with (at_builtin; refine wpList_append_own_none rfl _ _ 30 rfl w2.heap.size 5 i0 1 Try.underlying30 hi0 _ _ _ rfl hown rfl ?_)
    have hA3 := hA2.alloc (.cells #[] 5)
    have b3 := b2.alloc b2.size (.cells #[] 5)
    have hw := write_yes hA3 0 ⟨zeros 64, 1⟩ rfl (by simp) k (some ⟨w2.heap.size, 0, none⟩) [] 0 hkz (fun h => by simp at h)
    refine hw.mono ?_
    rintro e w4 ⟨rfl, hA4, hK4⟩
    clear hw
    have hA4 : Ar w4 p S F [⟨splice (zeros 64) k [], 1⟩] [] := hA4
    have R4 : Row w4 w2.heap.size 0 := ⟨#[], by rw [hK4.block _ (by simp) (by omega) (by omega) (by omega)]; exact heap_alloc_new w2 _, by simp, fun j hj => by omega⟩
    have b4 := b3.trans (hK4.below b3.size g1 g2 g3)
    have gg : w.heap.size ≤ w2.heap.size := b2.size
    have gp : w2.heap.size ≠ p := by omega
    have gS : w2.heap.size ≠ S := by omega
    have gF : w2.heap.size ≠ F := by omega
    clear hA2 hA3 b3 hK4 hown bA b2 hl2
    generalize w2.heap.size = g at *
    have hO : Bump w w4 p S F (splice (zeros 64) k []) g 0 := ⟨hA4, R4, b4, g1, g2, g3, gg, gp, gS, gF⟩
    have hBl : Hid ((splice (zeros 64) k []).length = 64) := by show _ = _; rw [length_splice _ _ _ (by rw [zeros_length]; omega), zeros_length]
    have hpart : Hid (part (splice (zeros 64) k []) k 0 = []) := part_splice _ _ _ (by rw [zeros_length]; omega)
    generalize splice (zeros 64) k [] = B at *
    clear hA4 R4 b4 gg gp gS gF
    go_wp2_with fail
    go_loopw [11, 51] (fun _ x wr => ∃ m : Nat, m ≤ 0 ∧ x = .int .i64 (m : Int) ∧ Bump w wr p S F B g 0) (fun _ x _ => 0 - (intOf x).toNat)
    case atStart => exact ⟨0, by omega, rfl, hO⟩
    case round =>
      clear hO
      obtain ⟨m, hm, rfl, hO⟩ := hrel
      by_cases hlt : m < 0
      · exact absurd hlt (by omega)
      · obtain rfl : m = 0 := by omega
        have q1 := read_yes hO.ar 0 ⟨B, 1⟩ rfl (by simp) k 0 hkz
        rw [hpart.out] at q1
        go_wp2_with fail
        refine q1.mono ?_
        rintro e w5 ⟨rfl, h5⟩
        clear q1
        have hO2 : Bump w w5 p S F B wr.heap.size 0 := by rw [h5]; exact hO.alloc []
        clear h5 hO
        generalize wr.heap.size = g2 at *
        go_wp2_with fail
        go_loopw [14, 72] (fun _ x wr => ∃ m : Nat, m ≤ 0 ∧ x = .int .i64 (m : Int) ∧ Bump w wr p S F B g2 0) (fun _ x _ => 0 - (intOf x).toNat)
        case atStart => exact ⟨0, by omega, rfl, hO2⟩
        case round =>
          clear hO2
          obtain ⟨m, hm, rfl, hO⟩ := hrel
          by_cases hlt : m < 0
          · exact absurd hlt (by omega)
          · obtain rfl : m = 0 := by omega
            have q1 := read_yes hO.ar 0 ⟨B, 1⟩ rfl (by simp) k 0 hkz
            rw [hpart.out] at q1
            go_wp2_with fail
            refine q1.mono ?_
            rintro e w6 ⟨rfl, h6⟩
            clear q1
            have b6 : Below w.heap.size w w6 := by rw [h6]; exact hO.below.alloc hO.below.size _
            have cv1 := conv_src w6 _ [] 0 0 rfl (by rw [h6]; exact src_alloc _ _ _)
            have cv2 := conv_src w6 _ [] 0 0 rfl (hsrc.grow b6)
            clear h6 hO
            go_wp2
            go_ret
            exact ⟨by simp, b6⟩
  | some ad =>
    go_wp2_with (at_builtin; refine wpList_append_own _ rfl _ _ 30 rfl w2.heap.size 5 i0 (.int .u8 0) 1 1 Try.underlying30 hi0 hi3 hi1 hi2 rfl (by decide) _ _ _ rfl hown ad zs.length cap (cellsOf zs) rfl ?d0 ?d1 ?d2 ?d3 ?d4 ?d5 ?_)
    case d0 => rw [cellsOf_length, Nat.mul_one]
    case d1 =>
      intro j v hv
      have hj : 0 < zs.length := by
        have := (List.getElem?_eq_some_iff.1 hv).1
        rw [cellsOf_length] at this; omega
      obtain ⟨ad', e1, h2⟩ := (hsrc.grow (b2.alloc b2.size (.cells #[] 5))) hj
      cases e1
      exact h2 j v hv
    case d2 => exact oneCell_bytes zs
    case d3 => unfold maxLen; omega
    case d4 => omega
    case d5 => simp
    · intro v' w3 hown' hgrow hh
      have b3' : Below w2.heap.size w2 w3 := bA.grown hgrow (by simp) (fun k hk => by simp [Value.ownBlock] at hk; omega)
      have hA3 : Ar w3 p S F [⟨zeros 64, 1⟩] [] := hA2.moved (b3'.block _ hl2.1) (b3'.block _ hl2.2.1) (b3'.block _ hl2.2.2)
      have b3 := b2.trans (b3'.mono b2.size)
      obtain ⟨g, c', cur, rfl, gge, hg3, hnc, hmax, hcs, htk⟩ : ∃ g c' cur, v' = .slice (some ⟨g, 0, none⟩) zs.length c' ∧ w2.heap.size ≤ g ∧ w3.heap[g]? = some (.cells cur 5 (0, 0)) ∧ zs.length ≤ c' ∧ c' ≤ maxLen ∧ cur.size = c' ∧ cur.toList.take zs.length = cellsOf zs := by
        rcases hown'.2 with ⟨e1, e2⟩ | ⟨g, c', cur, e1, e2, e3, e4, e5, e6, e7⟩
        · exact (hh e1).elim
        · exact ⟨g, c', cur, by simpa using e1, e2, e3, by simpa using e4, e5, by simpa using e6, by simpa using e7⟩
      have R3 : Row w3 g zs.length := ⟨cur, hg3, by omega, fun j hj => by
        have : (cur.toList.take zs.length)[j]? = (cellsOf zs)[j]? := by rw [htk]
        rw [List.getElem?_take, if_pos hj] at this
        refine ⟨zs[j], ?_⟩
        rw [← Array.getElem?_toList, this]
        simp [cellsOf, hj]⟩
      have hs3 : Src w3 (some ⟨g, 0, none⟩) zs := by
        intro h0
        refine ⟨_, rfl, fun j v hv => ?_⟩
        have e1 : (⟨g, 0, none⟩ : Addr).add j = ⟨g, j, none⟩ := by unfold Addr.add; split <;> simp_all
        have hj : j < zs.length := by
          have := (List.getElem?_eq_some_iff.1 hv).1
          rwa [cellsOf_length] at this
        rw [e1]
        simp only [World.cell?, hg3]
        have : (cur.toList.take zs.length)[j]? = (cellsOf zs)[j]? := by rw [htk]
        rw [List.getElem?_take, if_pos hj] at this
        rw [← hv, ← this]
        simp
      have hw := write_yes hA3 0 ⟨zeros 64, 1⟩ rfl (by simp) k (some ⟨g, 0, none⟩) zs c' hkz hs3
      have gl := lt_of_heap hg3
      clear hown' hgrow hh hg3 hnc hmax hcs htk hs3 hown bA b3'
      go_wp2_with fail
      refine hw.mono ?_
      rintro e w4 ⟨rfl, hA4, hK4⟩
      clear hw
      have hA4 : Ar w4 p S F [⟨splice (zeros 64) k zs, 1⟩] [] := hA4
      have gp : g ≠ p := by omega
      have gS : g ≠ S := by omega
      have gF : g ≠ F := by omega
      have R4 : Row w4 g zs.length := by
        obtain ⟨cur, r1, r2⟩ := R3
        exact ⟨cur, by rw [hK4.block _ gl gp gS gF]; exact r1, r2⟩
      have b4 := b3.trans (hK4.below b3.size g1 g2 g3)
      have gg : w.heap.size ≤ g := by have := b2.size; omega
      clear hA2 hA3 b3 hK4 b2 hl2 gge R3 gl
      have hO : Bump w w4 p S F (splice (zeros 64) k zs) g zs.length := ⟨hA4, R4, b4, g1, g2, g3, gg, gp, gS, gF⟩
      have hBl : Hid ((splice (zeros 64) k zs).length = 64) := by show _ = _; rw [length_splice _ _ _ (by rw [zeros_length]; omega), zeros_length]
      have hpart : Hid (part (splice (zeros 64) k zs) k zs.length = zs) := part_splice _ _ _ (by rw [zeros_length]; omega)
      generalize splice (zeros 64) k zs = B at *
      clear hA4 R4 b4 gg gp gS gF
      go_wp2_with fail
      go_loopw [11, 51] (fun _ x wr => ∃ m : Nat, m ≤ zs.length ∧ x = .int .i64 (m : Int) ∧ Bump w wr p S F B g zs.length) (fun _ x _ => zs.length - (intOf x).toNat)
      case atStart => exact ⟨0, by omega, rfl, hO⟩
      case round =>
        clear hO
        obtain ⟨m, hm, rfl, hO⟩ := hrel
        by_cases hlt : m < zs.length
        · obtain ⟨z, hc, hf⟩ := hO.cell m hlt
          go_wp2
          go_roundw
          case rel => exact ⟨m + 1, by omega, by go_num, hO.set m hlt _⟩
          case measure => simp [intOf]; omega
        · obtain rfl : m = zs.length := by omega
          have q1 := read_yes hO.ar 0 ⟨B, 1⟩ rfl (by simp) k zs.length hkz
          rw [hpart.out] at q1
          go_wp2_with fail
          refine q1.mono ?_
          rintro e w5 ⟨rfl, h5⟩
          clear q1
          have hO2 : Bump w w5 p S F B wr.heap.size zs.length := by rw [h5]; exact hO.alloc zs
          clear h5 hO
          generalize wr.heap.size = g2 at *
          go_wp2_with fail
          go_loopw [14, 72] (fun _ x wr => ∃ m : Nat, m ≤ zs.length ∧ x = .int .i64 (m : Int) ∧ Bump w wr p S F B g2 zs.length) (fun _ x _ => zs.length - (intOf x).toNat)
          case atStart => exact ⟨0, by omega, rfl, hO2⟩
          case round =>
            clear hO2
            obtain ⟨m, hm, rfl, hO⟩ := hrel
            by_cases hlt : m < zs.length
            · obtain ⟨z, hc, hf⟩ := hO.cell m hlt
              go_wp2
              go_roundw
              case rel => exact ⟨m + 1, by omega, by go_num, hO.set m hlt _⟩
              case measure => simp [intOf]; omega
            · obtain rfl : m = zs.length := by omega
              have q1 := read_yes hO.ar 0 ⟨B, 1⟩ rfl (by simp) k zs.length hkz
              rw [hpart.out] at q1
              go_wp2_with fail
              refine q1.mono ?_
              rintro e w6 ⟨rfl, h6⟩
              clear q1
              have b6 : Below w.heap.size w w6 := by rw [h6]; exact hO.below.alloc hO.below.size _
              have cv1 := conv_src w6 _ zs zs.length zs.length rfl (by rw [h6]; exact src_alloc _ _ _)
              have cv2 := conv_src w6 _ zs zs.length cap rfl (hsrc.grow b6)
              clear h6 hO
              go_wp2
              go_ret
              exact ⟨by simp, b6⟩

theorem walk_no (k : Int) (a : Option Addr) (l cap : Nat) (w : World) (wk : -9223372036854775808 ≤ k ∧ k ≤ 9223372036854775807) (h : k < 0 ∨ 64 < k ∨ 64 - k < (l : Int)) :
    Calls Try.prog 5 #[.slice a l cap, .int .i64 k] w fun e w' => e = .returned (.bool true) ∧ Below w.heap.size w w' := by
  by_cases c1 : k < 0
  · go_enter Try.func5, Try.ntmps5
    go_wp2_with (go_at_call 9; refine (head_ok _).mono ?_; rintro e w1 ⟨rfl, hb1⟩)
    go_ret
    exact ⟨rfl, hb1⟩
  · by_cases c2 : 64 < k
    · go_enter Try.func5, Try.ntmps5
      go_wp2_with (go_at_call 9; refine (head_ok _).mono ?_; rintro e w1 ⟨rfl, hb1⟩)
      go_ret
      exact ⟨rfl, hb1⟩
    · have c3 : 64 - k < (l : Int) := by omega
      go_enter Try.func5, Try.ntmps5
      go_wp2_with (go_at_call 9; refine (head_ok _).mono ?_; rintro e w1 ⟨rfl, hb1⟩)
      go_ret
      exact ⟨rfl, hb1⟩

theorem walk (a : Option Addr) (l cap : Nat) (zs : List Int) (n : Int) (w : World) (hr : IsRow .u8 w a l cap zs) (wn : (Lit.int .i64 n).wf = true) :
    Calls Try.prog 5 #[.slice a l cap, .int .i64 n] w fun e w' => e = .returned (.bool true) ∧ Below w.heap.size w w' := by
  obtain ⟨hs, hl, hcap, _⟩ := row_src hr
  by_cases c : n < 0 ∨ 64 < n ∨ 64 - n < (l : Int)
  · exact walk_no n a l cap w (bounds_i64 wn) c
  · obtain ⟨k, rfl⟩ : ∃ k : Nat, n = (k : Int) := ⟨n.toNat, by omega⟩
    have := walk_yes k a cap (zs.take l) w (by omega) (fun e => by
      rcases hr with ⟨_, h1, h2, _⟩ | ⟨x, h1, _⟩
      · omega
      · rw [e] at h1; cases h1) hs
    rw [hl] at this
    exact this

theorem own : ownKnob Try.prog.godebug = none := by kernel_rfl
theorem laidOut : laidOutB Try.prog = true := by kernel_rfl
set_option maxRecDepth 100000 in
theorem lifted (os : Os) (started : os.Started) (H : Type) (enc : TypeId × Value → H) :
    ReturnsInHanded {} Try.checked os 5 .any (Rows.blockOwnSpec.pre6 enc Try.prog Try.f5 Rows.blockOwnRow.domain false) (Rows.blockOwnSpec.post enc Try.prog Try.f5 false true false false) := by
  refine returnsInHanded_of_change (C := Try.checked) own started (by kernel_rfl) Try.func5
    (ChangeSpec.witness6 (enc := enc) (C := Try.checked) false ⟨#[], #[.slice none 0 0, .int .i64 0], []⟩ 8 (by kernel_rfl) (by kernel_rfl) (by kernel_rfl) (by kernel_rfl)) ?_
  intro W base args ds gs before hval0 hW hcnd _
  have hval : ∀ (j : Nat) t v, Try.f5.params[j]? = some t → args[j]? = some v → Value.okWide Try.prog W .any base t v := hval0
  have hW' := hW
  obtain ⟨p, q, hA0, hV, rfl, hfz, hnd⟩ := hW
  have hA : DataW.TrodAll enc Try.prog W 0 (fun _ => true) true Try.f5.params.toList args.toList ds p := hA0
  rw [Try.params5] at hA hval
  obtain ⟨v0, vs0, d0, ds0, p0, q0, hargs, rfl, rfl, h0, r0⟩ := trodAll_cons hA
  obtain ⟨v1, vs1, d1, ds1, p1, q1, rfl, rfl, rfl, h1, r1⟩ := trodAll_cons r0
  obtain ⟨rfl, rfl, rfl⟩ := trodAll_nil r1
  obtain rfl : args = #[v0, v1] := by cases args; simp_all
  obtain ⟨rfl, rfl⟩ := trodVars_none hV
  obtain ⟨a0, len0, cap0, rfl⟩ := okWide_slice Try.underlying30 (hval 0 30 v0 rfl rfl)
  have k0 := h0
  have lt0 : ∀ x ∈ p0, x.block < W.heap.size := by obtain ⟨m, hm⟩ := k0; exact DataW.trod_lt m _ _ _ hm
  obtain ⟨z0, w0⟩ : ∃ zs, IsRow .u8 W a0 len0 cap0 zs := by
    obtain ⟨fuel, hf⟩ := h0
    rcases open_ints Try.underlying30 Try.underlying5 (by kernel_rfl) hf with ⟨hcs, _⟩ | ⟨x, l, c, zs, hcs, _, hl, hm, hz, _, hcell, hwz⟩
    · simp [Value.cells] at hcs
      obtain ⟨rfl, rfl, rfl⟩ := hcs
      exact ⟨[], .inl ⟨rfl, rfl, rfl, rfl⟩⟩
    · simp [Value.cells] at hcs
      obtain ⟨rfl, rfl, rfl⟩ := hcs
      exact ⟨zs, .inr ⟨_, rfl, hl, hm, by simpa using hz, hcell, hwz⟩⟩
  obtain ⟨a1, rfl, rfl, rfl, w1⟩ := open_int Try.underlying3 (hval 1 3 v1 rfl rfl) h1
  clear hA0 hval0
  refine (walk a0 len0 cap0 z0 a1 W w0 w1).mono fun e W' ⟨he, bel⟩ => ?_
  subst he
  exact ⟨_, rfl, _, _, _, [], _, [], hW', trodAll_mk1 (shut_bool Try.underlying4 _), (trodAll_cons_mk (Below.trod laidOut (by kernel_rfl) (of_decide_eq_true (by kernel_rfl)) k0 bel lt0) (trodAll_cons_mk (shut_int Try.underlying3 w1) trodAll_mk0)), rfl, bel.frame _, fun h => by cases h⟩

theorem over : Rows.blockOwnRow.holds Try.pinned (OpenSpec.ofChange Rows.blockOwnSpec) :=
  OpenClaim.holds_of_wide 5 Try.f5 rfl rfl rfl rfl rfl rfl rfl ⟨rfl, rfl, rfl, rfl, rfl⟩ rfl rfl rfl rfl rfl (by kernel_rfl) Try.func5 (by kernel_rfl)
    (of_decide_eq_true (by kernel_rfl)) (by unfold Func.isWrapper; first | (rw [if_pos (by decide +kernel)]; kernel_rfl) | (rw [if_neg (by decide +kernel)]; exact ⟨rfl, rfl⟩))
    (fun os started H enc _ => lifted os started H enc)

end Go.Proofs.Ytpjfhfbjdcgbjaa.blockOwn
namespace Go.Proofs.Ytpjfhfbjdcgbjaa
theorem blockOwn_holds : Rows.BlockOwnSaid := blockOwn.over
#print axioms blockOwn_holds
end Go.Proofs.Ytpjfhfbjdcgbjaa
