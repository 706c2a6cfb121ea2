/-
  The laws' walks: AskData.
-/
import Derived.Test.YtojbfdlgjjghjaaDoorKKp
namespace Go.Proofs.YtojbfdlgjjghjaaDoor.K
open Go.RowKit
open Go.Lib hiding intOf
set_option linter.unusedVariables false
set_option linter.unusedSimpArgs false

/-- a line as bytes of one's own -/
theorem bw_cell (W : World) (s : ByteArray) (i : Nat) (hi : i < s.size) : (Lib.bytesWorld W 5 s).cell? ⟨W.heap.size, i, none⟩ = some (.int .u8 ((s.data.toList[i]'hi).toNat : Int)) := by
  rw [Lib.bytesWorld_cell W 5 s i hi, List.getD_eq_getElem?_getD, List.getElem?_eq_getElem (show i < s.data.toList.length from hi)]
  rfl
theorem bw_froz (W : World) (s : ByteArray) (i : Nat) (hi : i < s.size) : (Lib.bytesWorld W 5 s).frozen? ⟨W.heap.size, i, none⟩ = false := by
  have h := Lib.bytesWorld_at_new W 5 s
  have hs : s.size ≤ (Lib.bytesCells W 5 s).size := by unfold Lib.bytesCells; simp only [Array.size_append, Array.size_map, Array.size_replicate]; exact Nat.le_add_right _ _
  simp [World.frozen?, h]
  omega
theorem bw_set (W : World) (s : ByteArray) (j : Nat) (hj : j < s.size) (x : UInt8) (i : Nat) (hi : i < (s.data.toList.set j x).length) : ((Lib.bytesWorld W 5 s).setCell ⟨W.heap.size, j, none⟩ (.int .u8 (x.toNat : Int))).cell? ⟨W.heap.size, 0 + i, none⟩ = some (.int .u8 ((s.data.toList.set j x)[i].toNat : Int)) := by
  rw [Nat.zero_add]
  have hi' : i < s.size := by rw [List.length_set] at hi; exact hi
  have h := Lib.bytesWorld_at_new W 5 s
  have hc := bw_cell W s i hi'
  rw [setCell_eq_setRow _ W.heap.size j _ _ _ (.int .u8 (x.toNat : Int)) h]
  have h2 := setRow_heap (Lib.bytesWorld W 5 s) W.heap.size _ ((Lib.bytesCells W 5 s).setIfInBounds j (.int .u8 (x.toNat : Int))) _ _ h
  simp only [World.cell?, h2] at hc ⊢
  simp only [World.cell?, h] at hc
  rw [List.getElem_set]
  by_cases e : j = i
  · subst e
    have hs : s.size ≤ (Lib.bytesCells W 5 s).size := by unfold Lib.bytesCells; simp only [Array.size_append, Array.size_map, Array.size_replicate]; exact Nat.le_add_right _ _
    have hlt : j < (Lib.bytesCells W 5 s).size := by omega
    simp [hlt]
  · rw [if_neg e]
    simp only [Option.isSome_none, Bool.false_eq_true, if_false] at hc ⊢
    rw [Array.getElem?_setIfInBounds_ne e]
    exact hc

set_option maxRecDepth 20000 in
set_option maxHeartbeats 8000000 in
theorem data_in (d : Value) (bs : List UInt8) (hl : bs.length ≤ 3000) (at_ : Int) (x : UInt8) (w : World) (ht : Vs w) (hd : BytesIn w d bs) :
    Calls Tryd.prog 7 #[d, .int .i64 at_, .int .u8 (x.toNat : Int)] w fun e w' => e = .returned (.bool true) ∧ Below w.heap.size w w' := by
  have q0 := asks_w w ht
  obtain ⟨ad, c, hdd⟩ := hd.shape
  have HE : Hid (∀ W, Below w.heap.size w W → Calls Tryd.prog 13 #[.agg #[.int .i64 2, .int .i64 1, .int .i64 7, .int .i64 0, .string ⟨#[]⟩, d]] W fun e w' => e = .returned (.string (lineD bs)) ∧ Below W.heap.size W w') := fun W b => encode_w ⟨2, 1, 7, 0, ⟨#[]⟩⟩ d bs 2 (by omega) (by omega) rfl (fun f hf => by rcases hf with rfl | rfl | rfl <;> simp [Ak.get]) (Nat.zero_le _) (by omega) W (hd.below b) (ht.below b)
  have hls := lineD_size bs hl
  have HD : Hid (∀ W, Below w.heap.size w W → Calls Tryd.prog 10 #[.string (lineD bs)] W fun e w' => DecOk W w' e (.inr (⟨2, 1, 7, 0, ⟨#[]⟩⟩, bs)) ∧ Below W.heap.size W w') := fun W b => by
    have := decode_w (lineD bs) (by omega) W (ht.below b)
    rw [decD bs hl] at this
    exact this
  have HS : Hid (∀ W, Below w.heap.size w W → (convert 23 9 d).run Tryd.prog W = .ok (.string ⟨bs.toArray⟩) W) := fun W b => (hd.below b).str
  have HX : Hid (∀ W s, s.size ≤ 16384 → Below w.heap.size w W → Calls Tryd.prog 10 #[.string s] W fun e w' => DecOk W w' e (decP s) ∧ Below W.heap.size W w') := fun W s hs b => decode_w s (by omega) W (ht.below b)
  have HLd : Hid (bs.length ≠ 0 → decP ((lineD bs).extract 0 ((lineD bs).size - 1)) = .inl 200) := fun h => dec_cut bs (fun e => h (by rw [e]; rfl)) hl
  have HLs : Hid (bs.length ≠ 0 → ∀ j, j < 2 * bs.length → (isHex (x.toNat : Int) = true → ∃ b, decP ⟨((lineD bs).data.toList.set (9 + j) x).toArray⟩ = .inr (⟨2, 1, 7, 0, ⟨#[]⟩⟩, b)) ∧ (isHex (x.toNat : Int) = false → decP ⟨((lineD bs).data.toList.set (9 + j) x).toArray⟩ = .inl 200)) := fun h j hj => dec_set bs (fun e => h (by rw [e]; rfl)) hl j hj x
  have HLz : Hid (bs.length ≠ 0 → (lineD bs).size = 9 + 2 * bs.length) := fun h => by
    rw [lineD_eq bs (fun e => h (by rw [e]; rfl)), ByteArray.size_append, ByteArray.size_append]
    show 8 + (1 + (sp bs).toArray.size) = _
    simp [sp_length]; omega
  simp only [DecOk, Ak.cells] at HD
  subst hdd
  clear hd ht
  generalize hline : lineD bs = line at *
  have c30 : ¬ (3000 : Int) < bs.length := by omega
  go_enter Tryd.func7, Tryd.ntmps7
  go_upto_region 7 with (first
    | (go_at_call 9; refine q0.mono ?_; rintro e w1 ⟨rfl, b1⟩)
    | (go_at_call 13; refine (HE.out _ b1).mono ?_; rintro e w2 ⟨rfl, b2⟩; have b12 := b1.trans (b2.mono b1.size))
    | (go_at_call 10; refine (HD.out _ b12).mono ?_; rintro e w3 ⟨⟨d3, rfl, hd3⟩, b3⟩; obtain ⟨ad3, n3, rfl⟩ := hd3.shape))
  have b13 := b12.trans (b3.mono b12.size)
  have b14 := b13.alloc b13.size (.cells #[.int .i64 2, .int .i64 1, .int .i64 7, .int .i64 0, .string ⟨#[]⟩, .slice ad3 n3 n3] 25)
  have hcv1 := (hd3.bytes.below ((Below.refl _ w3).alloc (Nat.le_refl _) (.cells #[.int .i64 2, .int .i64 1, .int .i64 7, .int .i64 0, .string ⟨#[]⟩, .slice ad3 n3 n3] 25))).str
  have hcv2 := HS.out _ b14
  have HB14 := hid b14
  clear q0 HE HD HS b1 b2 b12 b3 b13 hd3
  have hb4 := b14.size
  generalize (⟨bs.toArray⟩ : ByteArray) = bst at *
  clear hline
  generalize bs.length = n at *
  go_upto_region 9 with fail
  clear hcv1 hcv2
  generalize World.alloc _ _ = W4 at *
  by_cases n0 : n = 0
  · subst n0
    go_wp2_with fail
    go_ret
    exact ⟨rfl, HB14.out⟩
  have n1 : ((n : Int) == 0) = false := by simp; omega
  by_cases a0 : at_ < 0
  · go_wp2_with fail
    go_ret
    exact ⟨rfl, HB14.out⟩
  by_cases a1 : 2 * (n : Int) ≤ at_
  · go_wp2_with fail
    go_ret
    exact ⟨rfl, HB14.out⟩
  obtain ⟨j, rfl⟩ : ∃ j : Nat, at_ = j := ⟨at_.toNat, by omega⟩
  have hj : j < 2 * n := by omega
  have hz := HLz.out n0
  have hcut := HLd.out n0
  have hst := HLs.out n0 j hj
  obtain ⟨m, hm⟩ : ∃ m, line.size = m + 1 := ⟨line.size - 1, by omega⟩
  rw [hm, Nat.add_sub_cancel] at hcut
  have HZ : Hid (line.size = m + 1 ∧ line.size = 9 + 2 * n) := ⟨hm, hz⟩
  have hmi : (line.size : Int) = (m : Int) + 1 := by omega
  have q1 := HX.out W4 (line.extract 0 m) (by rw [ByteArray.size_extract]; omega) b14
  rw [hcut] at q1
  simp only [DecOk, Ak.cells, Ak.zero] at q1
  have hcv3 := fun W => Lib.run_convert_string_bytes (P := Tryd.prog) W 9 23 5 line Tryd.underlying9 Tryd.underlying23 Tryd.underlying5
  have HST : Hid _ := hst
  clear hcut hst hz hm HLz HLd HLs
  go_upto_region 12 with (go_at_call 10; refine q1.mono ?_; rintro e w5 ⟨rfl, b5⟩)
  have b15 := (b14.trans (b5.mono b14.size)).alloc (b14.trans (b5.mono b14.size)).size (.cells #[.int .i64 0, .int .i64 0, .int .i64 0, .int .i64 0, .string ⟨#[]⟩, .slice none 0 0] 25)
  generalize World.alloc _ _ = W5 at *
  clear b5 q1 b14 HB14
  go_upto_region 13 with fail
  have b16 : Below w.heap.size w (Lib.bytesWorld W5 5 line) := b15.trans ((Lib.bytesWorld_below _ _ _).mono b15.size)
  have hcell := bw_cell W5 line (9 + j) (by have := HZ.out; omega)
  have hfroz := bw_froz W5 line (9 + j) (by have := HZ.out; omega)
  have b17 : Below w.heap.size w ((Lib.bytesWorld W5 5 line).setCell ⟨W5.heap.size, 9 + j, none⟩ (.int .u8 (x.toNat : Int))) := b16.setCell (p := ⟨W5.heap.size, 9 + j, none⟩) b15.size _
  have hlen : (line.data.toList.set (9 + j) x).length = line.size := List.length_set ..
  have hcv4 := bytes_str (g := W5.heap.size) (o := 0) (fun i hi => bw_set W5 line (9 + j) (by have := HZ.out; omega) x i hi) (grownCap W5 line.size 0 5)
  rw [hlen] at hcv4
  have q2 := HX.out _ (⟨(line.data.toList.set (9 + j) x).toArray⟩ : ByteArray) (by show (line.data.toList.set (9 + j) x).toArray.size ≤ _; rw [List.size_toArray, hlen]; omega) b17
  have hxr := x.toNat_lt
  have hjz : (9 : Int) + j < line.size := by have := HZ.out; omega
  have hlow : W5.heap.size < (Lib.bytesWorld W5 5 line).heap.size := by rw [Lib.bytesWorld_size]; omega
  generalize (⟨(line.data.toList.set (9 + j) x).toArray⟩ : ByteArray) = line2 at *
  clear HX hcv3 b15 b16 hlen
  cases hh : isHex (x.toNat : Int) with
  | true =>
    obtain ⟨b, hb⟩ := HST.out.1 hh
    rw [hb] at q2
    simp only [DecOk, Ak.cells] at q2
    go_upto_region 15 with (go_at_call 10; refine q2.mono ?_; rintro e w7 ⟨⟨d7, rfl, hd7⟩, b7⟩; obtain ⟨ad7, n7, rfl⟩ := hd7.shape)
    have b8 := (b17.trans (b7.mono b17.size)).alloc (b17.trans (b7.mono b17.size)).size (.cells #[.int .i64 2, .int .i64 1, .int .i64 7, .int .i64 0, .string ⟨#[]⟩, .slice ad7 n7 n7] 25)
    have HB8 := hid b8
    clear q2 b7 b8 b17 hd7 hcell hfroz hcv4 HST HZ
    have hx : (48 ≤ (x.toNat : Int) ∧ (x.toNat : Int) ≤ 57) ∨ (¬ (x.toNat : Int) ≤ 57 ∧ 48 ≤ (x.toNat : Int) ∧ 97 ≤ (x.toNat : Int) ∧ (x.toNat : Int) ≤ 102) := by
      unfold isHex at hh
      simp at hh
      omega
    clear hh
    generalize (x.toNat : Int) = xi at *
    rcases hx with ⟨h1, h2⟩ | ⟨h1, h2, h3, h4⟩
    all_goals
      go_wp2_with fail
      go_ret
      exact ⟨by first | rfl | simp, HB8.out⟩
  | false =>
    rw [HST.out.2 hh] at q2
    simp only [DecOk, Ak.cells, Ak.zero] at q2
    go_upto_region 15 with (go_at_call 10; refine q2.mono ?_; rintro e w7 ⟨rfl, b7⟩)
    have b8 := (b17.trans (b7.mono b17.size)).alloc (b17.trans (b7.mono b17.size)).size (.cells #[.int .i64 0, .int .i64 0, .int .i64 0, .int .i64 0, .string ⟨#[]⟩, .slice none 0 0] 25)
    have HB8 := hid b8
    clear q2 b7 b8 b17 hcell hfroz hcv4 HST HZ
    have hx : (¬ 48 ≤ (x.toNat : Int) ∧ ¬ 97 ≤ (x.toNat : Int)) ∨ (48 ≤ (x.toNat : Int) ∧ ¬ (x.toNat : Int) ≤ 57 ∧ ¬ 97 ≤ (x.toNat : Int)) ∨ (48 ≤ (x.toNat : Int) ∧ ¬ (x.toNat : Int) ≤ 57 ∧ 97 ≤ (x.toNat : Int) ∧ ¬ (x.toNat : Int) ≤ 102) := by
      unfold isHex at hh
      simp at hh
      omega
    clear hh
    generalize (x.toNat : Int) = xi at *
    rcases hx with ⟨h1, h2⟩ | ⟨h1, h2, h3⟩ | ⟨h1, h2, h3, h4⟩
    all_goals
      go_wp2_with fail
      go_ret
      exact ⟨by first | rfl | simp, HB8.out⟩

/-- AskData -/
theorem data_walk (d : Value) (bs : List UInt8) (at_ xi : Int) (hx : 0 ≤ xi ∧ xi ≤ 255) (w : World) (ht : Vs w) (hd : BytesIn w d bs) :
    Calls Tryd.prog 7 #[d, .int .i64 at_, .int .u8 xi] w fun e w' => e = .returned (.bool true) ∧ Below w.heap.size w w' := by
  by_cases hl : bs.length ≤ 3000
  · have e : ((UInt8.ofNat xi.toNat).toNat : Int) = xi := by rw [UInt8.toNat_ofNat']; omega
    have := data_in d bs hl at_ (UInt8.ofNat xi.toNat) w ht hd
    rw [e] at this
    exact this
  · have q0 := asks_w w ht
    obtain ⟨ad, c, rfl⟩ := hd.shape
    have c30 : (3000 : Int) < bs.length := by omega
    clear ht hd hl
    generalize bs.length = n at *
    go_enter Tryd.func7, Tryd.ntmps7
    go_wp2_with (go_at_call 9; refine q0.mono ?_; rintro e w1 ⟨rfl, b1⟩)
    go_ret
    exact ⟨rfl, b1⟩
end Go.Proofs.YtojbfdlgjjghjaaDoor.K
