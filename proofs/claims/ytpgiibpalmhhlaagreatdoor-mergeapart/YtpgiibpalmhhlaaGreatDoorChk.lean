/-
  Contracts: path.checkText, path.Sound.
-/
import Derived.Test.YtpgiibpalmhhlaaGreatDoorShelf
import Derived.Test.YtpgiibpalmhhlaaGreatDoorChk0
import Derived.Laws.Runes
import Derived.WalkMore
import Derived.Lib.Walk
import Derived.Deep.LoopGhost
namespace Go.Proofs.YtpgiibpalmhhlaaGreatDoor
open Go.RowKit Go.Lib
set_option linter.unusedVariables false
set_option linter.unusedSimpArgs false

theorem iterAt_below {B : Nat} {a w : World} {k : Nat} {s : ByteArray} {pos : Nat} (h : Below B a w) (hk : B ≤ k) : Below B a (w.iterAt k s pos) := by
  refine ⟨h.os, h.tape, h.output, ?_, fun j hj => ?_⟩
  · have := h.size
    simpa [World.iterAt] using this
  · rw [← h.block j hj]
    simp [World.iterAt, Array.getElem?_setIfInBounds, show ¬ k = j by omega]

theorem fffd_prefix (s : ByteArray) (i : Nat) (W : World) : Calls Tryz.prog 64 #[.string (s.extract i s.size), .string ⟨#[239, 191, 189]⟩] W fun e w' => e = .returned (.bool (Lib.hasPrefix (s.data.toList.drop i) [239, 191, 189])) ∧ w' = W := by
  have := Tryz.strings_HasPrefix (s.extract i s.size) ⟨#[239, 191, 189]⟩ W
  rwa [Lib.extract_to_end] at this

set_option maxRecDepth 100000 in
set_option maxHeartbeats 2000000 in
theorem check_w (s : ByteArray) (hs : s.size ≤ 4000) (w : World) :
    Calls Tryz.prog 63 #[.string s] w fun e w' => e = .returned (.int .i64 (chk s.data.toList)) ∧ Below w.heap.size w w' := by
  have hsz : s.data.toList.length = s.size := (Lib.size_eq s).symm
  have HZ : Hid (s.data.toList.length = s.size) := hsz
  clear hsz
  go_enter Tryz.func63, Tryz.ntmps63
  go_wp2_with fail
  go_loopg [3] s.size (fun g t3 wx => ∃ (i : Nat) (e : Int), i + g = s.size ∧ t3 = .int .i64 e ∧ Hid (wx.heap[w.heap.size]? = some (.stringIter s i)) ∧ Below w.heap.size w wx ∧ Hid (Ck s.data.toList i e))
  case atStart => exact ⟨0, 0, by omega, rfl, World.iter_heap w s 0, (Below.refl _ _).alloc (Nat.le_refl _) _, Ck.start _⟩
  case round =>
    obtain ⟨i, e, hig, rfl, HK, bb, HC⟩ := hrel
    have hk := HK.out
    have hklt : w.heap.size < wr.heap.size := (Array.getElem?_eq_some_iff.1 hk).1
    by_cases hi : i < s.size
    · obtain ⟨x, hx⟩ : ∃ x : UInt8, s[i]'hi = x := ⟨_, rfl⟩
      have hL : i < s.data.toList.length := by rw [HZ.out]; exact hi
      have hxl : s.data.toList.drop i = x :: s.data.toList.drop (i + 1) := by
        rw [← hx, List.drop_eq_getElem_cons hL]; rfl
      have Hx0 : Hid (s.data.toList[i] = x) := by rw [← hx]; rfl
      have HL : Hid (i < s.data.toList.length) := hL
      by_cases hx128 : x.toNat < 128
      · have hnx := fun ty => Lib.run_next_ascii_at (P := Tryz.prog) wr w.heap.size s i ty hk hi (by rw [hx]; exact hx128)
        rw [hx] at hnx
        have hk2 := Lib.iterAt_heap wr w.heap.size s i (i + 1) hk
        have bb2 : Below w.heap.size w (wr.iterAt w.heap.size s (i + 1)) := iterAt_below bb (Nat.le_refl _)
        have HK2 : Hid ((wr.iterAt w.heap.size s (i + 1)).heap[w.heap.size]? = some (.stringIter s (i + 1))) := hk2
        have hd : decodeL (s.data.toList.drop i) = (x.toNat, 1) := by rw [hxl]; exact decodeL_ascii _ _ hx128
        have hx65 : ¬ ((x.toNat : Int) = 65533) := by omega
        by_cases h0 : x.toNat = 0
        · have hz : ((x.toNat : Nat) : Int) = 0 := by omega
          have H101 : Hid (chk s.data.toList = 101) := chk_nul HL.out (by rw [Hx0.out]; exact UInt8.toNat_inj.1 h0)
          rw [hz] at hnx
          clear hk hk2 hd hxl Hx0 hL HC hx65 hx
          generalize wr.iterAt w.heap.size s (i + 1) = w2 at *
          go_wp2_with fail
          go_ret
          exact ⟨by rw [H101.out]; rfl, bb2⟩
        · have hz : ¬ ((x.toNat : Nat) : Int) = 0 := by omega
          have HC2 : Hid (Ck s.data.toList (i + 1) e) := by
            have := HC.out.good HL.out (by rw [hd, hxl]; simp; exact fun e => h0 (by rw [← e]; rfl)) (by rw [hd]; simp; omega)
            rwa [hd] at this
          clear hk hk2 hd hxl Hx0 hL HC hx
          generalize wr.iterAt w.heap.size s (i + 1) = w2 at *
          go_wp2_with fail
          go_roundg (s.size - (i + 1))
          case measure => omega
          case rel => exact ⟨i + 1, e, by omega, rfl, HK2, bb2, HC2⟩
      · have hne : s.data.toList.drop i ≠ [] := by rw [hxl]; simp
        obtain ⟨d1, d2, d3, d4, d5⟩ := sign_high (s.data.toList.drop i) hne (by rw [hxl]; simp; omega)
        have hnx := fun ty => Lib.run_next_any_at (P := Tryz.prog) wr w.heap.size s i ty hk hi
        rw [decode_drop] at hnx
        have hgood := HC.out.good HL.out d4
        have hbad := HC.out.bad HL.out d4
        have hq := fun W => fffd_prefix s i W
        have hdl : (s.data.toList.drop i).length = s.size - i := by rw [List.length_drop, HZ.out]
        generalize hn : (decodeL (s.data.toList.drop i)).2 = n at *
        generalize (decodeL (s.data.toList.drop i)).1 = r at *
        have hk2 := Lib.iterAt_heap wr w.heap.size s i (i + n) hk
        have bb2 : Below w.heap.size w (wr.iterAt w.heap.size s (i + n)) := iterAt_below bb (Nat.le_refl _)
        have HK2 : Hid ((wr.iterAt w.heap.size s (i + n)).heap[w.heap.size]? = some (.stringIter s (i + n))) := hk2
        have hr0 : ¬ ((r : Int) = 0) := by omega
        have hn1 : 1 ≤ n := d2
        have hn2 : i + n ≤ s.size := by omega
        by_cases h65 : r = 65533
        · subst h65
          rcases d5 rfl with ⟨p1, p2⟩ | ⟨p1, p2⟩
          · rw [p1] at hq
            have HC2 : Hid (Ck s.data.toList (i + n) e) := hgood (by omega)
            clear hk hk2 hxl Hx0 hL HC hx hgood hbad d4 d5 hne hdl hn p1 d3 p2
            generalize wr.iterAt w.heap.size s (i + n) = w2 at *
            go_wp2_with (go_at_call 64; refine (hq _).mono ?_; rintro e w' ⟨rfl, hw⟩; rw [hw])
            go_roundg (s.size - (i + n))
            case measure => omega
            case rel => exact ⟨i + n, e, by omega, rfl, HK2, bb2, HC2⟩
          · rw [p1] at hq
            have HC2 : Hid (Ck s.data.toList (i + n) 102) := hbad ⟨rfl, p2⟩
            clear hk hk2 hxl Hx0 hL HC hx hgood hbad d4 d5 hne hdl hn p1 d3 p2
            generalize wr.iterAt w.heap.size s (i + n) = w2 at *
            go_wp2_with (go_at_call 64; refine (hq _).mono ?_; rintro e w' ⟨rfl, hw⟩; rw [hw])
            go_roundg (s.size - (i + n))
            case measure => omega
            case rel => exact ⟨i + n, 102, by omega, rfl, HK2, bb2, HC2⟩
        · have h65' : ¬ ((r : Int) = 65533) := by omega
          have HC2 : Hid (Ck s.data.toList (i + n) e) := hgood (by omega)
          clear hk hk2 hxl Hx0 hL HC hx hgood hbad d4 d5 hne hdl hn d3 h65
          generalize wr.iterAt w.heap.size s (i + n) = w2 at *
          go_wp2_with fail
          go_roundg (s.size - (i + n))
          case measure => omega
          case rel => exact ⟨i + n, e, by omega, rfl, HK2, bb2, HC2⟩
    · have hnx := fun ty => Lib.run_next_end_at (P := Tryz.prog) wr w.heap.size s i ty hk hi
      have HF : Hid (chk s.data.toList = e) := HC.out.fin (by rw [HZ.out]; exact hi)
      clear hk HC
      go_wp2_with fail
      go_ret
      exact ⟨by rw [HF.out]; rfl, bb⟩

end Go.Proofs.YtpgiibpalmhhlaaGreatDoor
