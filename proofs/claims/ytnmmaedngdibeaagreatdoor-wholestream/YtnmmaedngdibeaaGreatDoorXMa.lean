/-
  Texts in one: XAny, XCut, XFirst, XFirst2, XDec.
-/
import Derived.Test.YtnmmaedngdibeaaGreatDoorXRune
import Derived.Lib.OthersKept
import Derived.Test.YtnmmaedngdibeaaGreatDoorXCheck
import Derived.Laws.BytesString
import Derived.Lib.SlBytesConst
import Derived.Laws.ResultCell
import Derived.Laws.Rows
import Derived.Laws.AppendOwn
import Derived.OwnWalk
namespace Go.Proofs.YtnmmaedngdibeaaGreatDoor.X
open Go.RowKit
set_option linter.unusedVariables false
set_option linter.unusedSimpArgs false

theorem decode_cover (s : ByteArray) (pos : Nat) (h : pos < s.size) (ha : 128 ≤ (s[pos]'h).toNat) :
    1 ≤ (Utf8.decode s pos).2 ∧ pos + (Utf8.decode s pos).2 ≤ s.size ∧ ∀ k, k < (Utf8.decode s pos).2 → 128 ≤ (s.get! (pos + k)).toNat := by
  have hn : ¬ (s[pos]'h).toNat < 128 := by omega
  have e0 := get_at s pos h
  have g0 : 128 ≤ (s.get! (pos + 0)).toNat := by rw [e0]; exact ha
  have key : ∀ k, k < 1 → 128 ≤ (s.get! (pos + k)).toNat := by
    intro k hk
    obtain rfl : k = 0 := by omega
    exact g0
  simp only [Utf8.decode, e0, hn, if_false]
  split
  · rename_i c
    simp only [Bool.and_eq_true, decide_eq_true_eq, beq_iff_eq] at c
    split
    · refine ⟨by simp, by simp; omega, fun k hk => ?_⟩
      simp only at hk
      match k, hk with
      | 0, _ => exact g0
      | 1, _ => omega
    · exact ⟨by simp, by simp; omega, key⟩
  · split
    · rename_i c
      simp only [Bool.and_eq_true, decide_eq_true_eq, beq_iff_eq] at c
      split
      · refine ⟨by simp, by simp; omega, fun k hk => ?_⟩
        simp only at hk
        match k, hk with
        | 0, _ => exact g0
        | 1, _ => omega
        | 2, _ => omega
      · exact ⟨by simp, by simp; omega, key⟩
    · split
      · rename_i c
        simp only [Bool.and_eq_true, decide_eq_true_eq, beq_iff_eq] at c
        split
        · refine ⟨by simp, by simp; omega, fun k hk => ?_⟩
          simp only at hk
          match k, hk with
          | 0, _ => exact g0
          | 1, _ => omega
          | 2, _ => omega
          | 3, _ => omega
        · exact ⟨by simp, by simp; omega, key⟩
      · exact ⟨by simp, by simp; omega, key⟩

theorem noAny_high {s : ByteArray} {i n : Nat} (h : Lib.NoAny s.data.toList [61, 0, 10] i) (hc : ∀ k, k < n → 128 ≤ (s.get! (i + k)).toNat) : Lib.NoAny s.data.toList [61, 0, 10] (i + n) := by
  intro j b hj hb
  by_cases c : j < i
  · exact h j b c hb
  · have := hc (j - i) (by omega)
    rw [show i + (j - i) = j by omega] at this
    have hlt : j < s.size := by
      have := (List.getElem?_eq_some_iff.1 hb).1
      rwa [← Lib.size_eq] at this
    have e := get_at s j hlt
    simp only [Nat.add_zero] at e
    rw [e] at this
    have e2 := Lib.data_getElem? s j hlt
    rw [hb] at e2
    cases e2
    generalize s[j] = x at *
    have n1 : ¬ x = 61 := fun e => by subst e; exact absurd this (by decide)
    have n2 : ¬ x = 0 := fun e => by subst e; exact absurd this (by decide)
    have n3 : ¬ x = 10 := fun e => by subst e; exact absurd this (by decide)
    simp [n1, n2, n3]

theorem iterAt_below {B : Nat} {a w : World} {k : Nat} {s : ByteArray} {pos : Nat} (h : Below B a w) (hk : B ≤ k) : Below B a (w.iterAt k s pos) := by
  refine ⟨h.os, h.tape, h.output, ?_, fun j hj => ?_⟩
  · have := h.size
    simpa [World.iterAt] using this
  · rw [← h.block j hj]
    simp [World.iterAt, Array.getElem?_setIfInBounds, show ¬ k = j by omega]

set_option maxRecDepth 100000 in
set_option maxHeartbeats 4000000 in
theorem indexAny_short (s : ByteArray) (h8 : s.size ≤ 8) (w : World) :
    Calls Tryz.prog 70 #[.string s, .string ⟨#[61, 0, 10]⟩] w fun e w' => e = .returned (.int .i64 (Lib.indexAny s.data.toList [61, 0, 10])) ∧ Below w.heap.size w w' := by
  have h8z : decide ((8 : Int) < (s.size : Int)) = false := decide_eq_false (by omega)
  have hs : ∀ n W, Calls Tryz.prog 85 #[.int .i64 n] W fun e w' => e = .returned (.bool (decide (8 < n))) ∧ w' = W := fun n W => Tryz.strings_shouldUseASCIISet n W
  go_enter Tryz.func70, Tryz.ntmps70
  go_wp2_with (go_at_call 85; refine (hs _ _).mono ?_; rintro e w' ⟨rfl, hw⟩; rw [hw, h8z])
  go_loopg [9, 10] s.size (fun g _ _ wx => ∃ i : Nat, i + g = s.size ∧ wx.heap[w.heap.size]? = some (.stringIter s i) ∧ Below w.heap.size w wx ∧ Lib.NoAny s.data.toList [61, 0, 10] i)
  case atStart => exact ⟨0, by omega, World.iter_heap w s 0, (Below.refl _ _).alloc (Nat.le_refl _) _, Lib.NoAny.zero _ _⟩
  case round =>
    obtain ⟨i, hig, hk, bb, hno⟩ := hrel
    have HN : Aside (Lib.NoAny s.data.toList [61, 0, 10] i) := hno
    have HK : Hid (wr.heap[w.heap.size]? = some (.stringIter s i)) := hk
    have hklt : w.heap.size < wr.heap.size := (Array.getElem?_eq_some_iff.1 hk).1
    clear hno
    by_cases hi : i < s.size
    · obtain ⟨x, hx⟩ : ∃ x : UInt8, s[i]'hi = x := ⟨_, rfl⟩
      by_cases hx128 : x.toNat < 128
      · have hxl : s.data.toList[i]? = some x := by rw [← hx]; exact Lib.data_getElem? s i hi
        have hnx := fun ty => Lib.run_next_ascii_at (P := Tryz.prog) wr w.heap.size s i ty hk hi (by rw [hx]; exact hx128)
        rw [hx] at hnx
        have hk2 := Lib.iterAt_heap wr w.heap.size s i (i + 1) hk
        have bb2 : Below w.heap.size w (wr.iterAt w.heap.size s (i + 1)) := iterAt_below bb (Nat.le_refl _)
        have Hx : Aside (s.data.toList[i]? = some x) := hxl
        clear hxl hx hk
        have hcon := Lib.contains_iff_indexByte [61, 0, 10] x
        have hq : ∀ W, Calls Tryz.prog 84 #[.string ⟨#[61, 0, 10]⟩, .int .i32 (x.toNat : Int)] W fun e w' => e = .returned (.int .i64 (Lib.indexByte [61, 0, 10] x)) ∧ w' = W := fun W => by
          have := Tryz.strings_IndexRune_ascii ⟨#[61, 0, 10]⟩ (x.toNat : Int) W (by omega) (by omega)
          rwa [show ((x.toNat : Int)).toNat.toUInt8 = x by simp] at this
        generalize wr.iterAt w.heap.size s (i + 1) = w2 at *
        cases hin : ([61, 0, 10] : List UInt8).contains x
        · rw [hin] at hcon
          have hlt : ¬ ((0 : Int) ≤ Lib.indexByte [61, 0, 10] x) := of_decide_eq_false hcon.symm
          clear hcon
          go_wp2_with (go_at_call 84; refine (hq _).mono ?_; rintro e w' ⟨rfl, hw⟩; rw [hw])
          go_roundg (s.size - (i + 1))
          case measure => omega
          case rel => exact ⟨i + 1, by omega, hk2, bb2, HN.out.succ Hx.out hin⟩
        · rw [hin] at hcon
          have hge : (0 : Int) ≤ Lib.indexByte [61, 0, 10] x := of_decide_eq_true hcon.symm
          clear hcon
          go_wp2_with (go_at_call 84; refine (hq _).mono ?_; rintro e w' ⟨rfl, hw⟩; rw [hw])
          go_ret
          exact ⟨by rw [Lib.indexAny_hit HN.out Hx.out hin]; rfl, bb2⟩
      · obtain ⟨d1, d2, d3⟩ := decode_cover s i hi (by rw [hx]; omega)
        obtain ⟨r1, _⟩ := decode_high s i hi (by rw [hx]; omega)
        have hnx := fun ty => Lib.run_next_any_at (P := Tryz.prog) wr w.heap.size s i ty hk hi
        generalize hdw : (Utf8.decode s i).2 = n at *
        have HN2 : Aside (Lib.NoAny s.data.toList [61, 0, 10] (i + n)) := noAny_high HN.out d3
        have hk2 := Lib.iterAt_heap wr w.heap.size s i (i + n) hk
        have bb2 : Below w.heap.size w (wr.iterAt w.heap.size s (i + n)) := iterAt_below bb (Nat.le_refl _)
        have hq := fun W => rune_high ((Utf8.decode s i).1 : Int) (by omega) W
        generalize ((Utf8.decode s i).1 : Int) = r at *
        clear d3 hx hk hdw
        generalize wr.iterAt w.heap.size s (i + n) = w2 at *
        go_wp2_with (go_at_call 84; refine (hq _).mono ?_; rintro e w3 ⟨rfl, b3⟩)
        go_roundg (s.size - (i + n))
        case measure => omega
        case rel =>
          have hlt2 : w.heap.size < w2.heap.size := (Array.getElem?_eq_some_iff.1 hk2).1
          exact ⟨i + n, by omega, (b3.block _ hlt2).trans hk2, bb2.trans (b3.mono bb2.size), HN2.out⟩
    · obtain rfl : i = s.size := by omega
      have hnx := fun ty => Lib.run_next_end_at (P := Tryz.prog) wr w.heap.size s s.size ty hk hi
      clear hk
      go_wp2
      go_ret
      exact ⟨by rw [Lib.indexAny_none (by rw [← Lib.size_eq]; exact HN.out)]; rfl, bb⟩

theorem indexAny_w (s : ByteArray) (hs : s.size < 4294967281) (w : World) :
    Calls Tryz.prog 70 #[.string s, .string ⟨#[61, 0, 10]⟩] w fun e w' => e = .returned (.int .i64 (Lib.indexAny s.data.toList [61, 0, 10])) ∧ Below w.heap.size w w' := by
  by_cases h8 : s.size ≤ 8
  · exact indexAny_short s h8 w
  · refine (Tryz.strings_IndexAny_long (fun w => by kernel_rfl) s ⟨#[61, 0, 10]⟩ w (by decide) (by omega) hs (by decide) (by
      intro j b h
      match j, h with
      | 0, h => cases h; decide
      | 1, h => cases h; decide
      | 2, h => cases h; decide
      | j + 3, h => simp at h)).mono fun e w' ⟨h1, h2⟩ => ⟨h1, ?_⟩
    rw [h2]
    exact ((Below.refl _ _).alloc (Nat.le_refl _) _).alloc (by simp) _

theorem cany_all (k : ByteArray) (hs : k.size < 4294967281) : Cany k := by
  intro W
  have q := indexAny_w k hs W
  unfold badKey Lib.containsAny
  generalize Lib.indexAny k.data.toList [61, 0, 10] = z at *
  by_cases c : 0 ≤ z
  · rw [decide_eq_true c]
    go_enter Tryz.func52, Tryz.ntmps52
    go_wp2_with (go_at_call 70; refine q.mono ?_; rintro e w' ⟨rfl, hb⟩)
    go_ret
    exact ⟨by first | rfl | simp [c], hb⟩
  · rw [decide_eq_false c]
    go_enter Tryz.func52, Tryz.ntmps52
    go_wp2_with (go_at_call 70; refine q.mono ?_; rintro e w' ⟨rfl, hb⟩)
    go_ret
    exact ⟨by first | rfl | simp [c], hb⟩

/-- pax.Check at any record -/
theorem check_any (k v : ByteArray) (hk : k.size < 4294967281) (hv : v.size ≤ 281474976710656) (w : World) :
    Calls Tryz.prog 35 #[.agg #[.string k, .string v]] w fun e w' => e = .returned (.int .i64 (chk k v)) ∧ Below w.heap.size w w' :=
  check_w k v (by omega) hv (cany_all k hk) w

theorem indexAny_any : ∀ l : List UInt8, decide (0 ≤ Lib.indexAny l [61, 0, 10]) = l.any (fun b => b == 61 || b == 0 || b == 10)
  | [] => rfl
  | b :: l => by
    have ih := indexAny_any l
    have hg := Lib.indexAny_ge [61, 0, 10] l
    unfold Lib.indexAny
    have hc : ([61, 0, 10] : List UInt8).contains b = (b == 61 || b == 0 || b == 10) := by simp only [List.contains_cons, List.contains_nil, Bool.or_false, Bool.or_assoc]
    cases hb : (b == 61 || b == 0 || b == 10) with
    | true => rw [hc, hb]; simp [hb]
    | false =>
      rw [hc, hb]
      simp only [Bool.false_eq_true, if_false, List.any_cons, hb, Bool.false_or]
      rw [← ih]
      by_cases e : Lib.indexAny l [61, 0, 10] = -1
      · rw [e]; rfl
      · rw [if_neg (by simpa using e)]
        rw [decide_eq_true (show 0 ≤ Lib.indexAny l [61, 0, 10] + 1 by omega), decide_eq_true (show 0 ≤ Lib.indexAny l [61, 0, 10] by omega)]

theorem badKey_any (k : ByteArray) : badKey k = k.data.toList.any (fun b => b == 61 || b == 0 || b == 10) := indexAny_any _

end Go.Proofs.YtnmmaedngdibeaaGreatDoor.X

namespace Go.Proofs.YtnmmaedngdibeaaGreatDoor.X
open Go.RowKit
set_option linter.unusedVariables false
set_option linter.unusedSimpArgs false

/-- bytes lie at a place -/
def BytesAt (w : World) (b o : Nat) (bs : List UInt8) : Prop := ∀ i, i < bs.length → w.cell? ⟨b, o + i, none⟩ = some (.int .u8 ((bs.getD i 0).toNat : Int))

theorem BytesAt.below {w w' : World} {b o : Nat} {bs : List UInt8} (h : BytesAt w b o bs) (hb : Below w.heap.size w w') : BytesAt w' b o bs := fun i hi => (hb.cell (Lib.lt_of_cell (h i hi))).trans (h i hi)

theorem BytesAt.drop {w : World} {b o : Nat} {bs : List UInt8} (h : BytesAt w b o bs) (c : Nat) : BytesAt w b (o + c) (bs.drop c) := fun i hi => by
  have := h (c + i) (by simp at hi; omega)
  rw [← Nat.add_assoc] at this
  rw [this]
  simp [List.getD]

theorem BytesAt.take {w : World} {b o : Nat} {bs : List UInt8} (h : BytesAt w b o bs) (c : Nat) : BytesAt w b o (bs.take c) := fun i hi => by
  have := h i (by simp at hi; omega)
  rw [this]
  have hc : i < c := by simp at hi; omega
  simp [List.getD, List.getElem?_take, hc]

/-- as numbers -/
def ints (bs : List UInt8) : List Int := bs.map fun x => (x.toNat : Int)

theorem bytesOf_ints (bs : List UInt8) : Lib.bytesOf (ints bs) = bs := by
  unfold Lib.bytesOf ints
  rw [List.map_map]
  conv => rhs; rw [← List.map_id bs]
  apply List.map_congr_left
  intro x _
  simp

theorem ints_get (bs : List UInt8) (i : Nat) (h : i < bs.length) : (ints bs).getD i 0 = ((bs.getD i 0).toNat : Int) := by
  simp [ints, List.getD, List.getElem?_eq_getElem h]

theorem conv_str (w : World) (b o cap : Nat) (bs : List UInt8) (h : BytesAt w b o bs) :
    (convert 22 9 (.slice (some ⟨b, o, none⟩) bs.length cap)).run Tryz.prog w = .ok (.string ⟨bs.toArray⟩) w := by
  rw [run_convert_bytes_string w 22 9 5 _ _ _ Tryz.underlying22 Tryz.underlying5 Tryz.underlying9]
  have hl := run_loadCells_list (P := Tryz.prog) (w := w) ⟨b, o, none⟩ ((ints bs).map (Value.int .u8)) (fun j v hj => by
    simp only [List.getElem?_map, Option.map_eq_some_iff] at hj
    obtain ⟨z, hz, rfl⟩ := hj
    have hlt : j < (ints bs).length := (List.getElem?_eq_some_iff.1 hz).1
    have hlt' : j < bs.length := by simpa [ints] using hlt
    have := h j hlt'
    rw [← ints_get bs j hlt', List.getD, hz] at this
    by_cases h0 : j = 0
    · subst h0; simpa [Addr.add] using this
    · simpa [Addr.add, h0] using this)
  have := run_bytesToString (P := Tryz.prog) w ⟨b, o, none⟩ bs.length cap (ints bs) (by simpa [ints] using hl)
  rw [this]
  congr 2
  have e : ∀ (l : List UInt8) (r : ByteArray), (ints l).foldl (fun r n => r.push (UInt8.ofNat n.toNat)) r = ⟨r.data ++ l.toArray⟩ := by
    intro l
    induction l with
    | nil => intro r; simp [ints]
    | cons x l ih =>
      intro r
      have : ints (x :: l) = (x.toNat : Int) :: ints l := rfl
      rw [this, List.foldl_cons, ih]
      simp [ByteArray.push]
  have e2 := e bs ByteArray.empty
  simpa using e2

theorem conv_none (w : World) (ad : Option Addr) (cap : Nat) : (convert 22 9 (.slice ad 0 cap)).run Tryz.prog w = .ok (.string ⟨#[]⟩) w := by
  rw [run_convert_bytes_string w 22 9 5 _ _ _ Tryz.underlying22 Tryz.underlying5 Tryz.underlying9]
  cases ad with
  | none => rfl
  | some a => exact run_bytesToString w a 0 cap [] rfl

theorem elem36 : Tryz.prog.elem 22 = 5 := by kernel_rfl
theorem info5 : (Tryz.prog.info? 5).map (·.size) = some 1 := by kernel_rfl

/-- where a cut begins -/
def lowAt (b o cap c : Nat) : Option Addr := if cap = c then some ⟨b, o, none⟩ else some ⟨b, o + c, none⟩

theorem run_low (w : World) (b o n cap c : Nat) (h : c ≤ n) : (Instr.sliceAt 22 (.slice (some ⟨b, o, none⟩) n cap) (some (.int .i64 (c : Int))) none none).run Tryz.prog w = .ok (.slice (lowAt b o cap c) (n - c) (cap - c)) w := by
  rw [run_sliceAt_slice w 22 _ _ _ _ (by rw [elem36]; exact Tryz.underlying22)]
  have hi := info5
  cases hq : Tryz.prog.info? 5 with
  | none => simp [hq] at hi
  | some i =>
    have hs : i.size = 1 := by simpa [hq] using hi
    have hb : (Instr.sliceBound (.int .i64 (c : Int)) n .sliceB).run Tryz.prog w = .ok c w := by
      have := run_sliceBound (P := Tryz.prog) w .i64 (c : Int) n .sliceB (by omega) (by omega)
      simpa using this
    by_cases c0 : cap = c
    · simp [Instr.slice, run_underlying Tryz.underlying22, Instr.sliceBounds, sizeOf, typeInfo, hq, hs, hb, lowAt, c0]
    · simp [Instr.slice, run_underlying Tryz.underlying22, Instr.sliceBounds, sizeOf, typeInfo, hq, hs, hb, lowAt, c0, Addr.add]

theorem run_high (w : World) (a : Option Addr) (n cap c : Nat) (h : c ≤ cap) : (Instr.sliceAt 22 (.slice a n cap) none (some (.int .i64 (c : Int))) none).run Tryz.prog w = .ok (.slice a c cap) w := by
  rw [run_sliceAt_slice w 22 _ _ _ _ (by rw [elem36]; exact Tryz.underlying22)]
  have hi := info5
  cases hq : Tryz.prog.info? 5 with
  | none => simp [hq] at hi
  | some i =>
    have hb : (Instr.sliceBound (.int .i64 (c : Int)) cap .sliceAcap).run Tryz.prog w = .ok c w := by
      have := run_sliceBound (P := Tryz.prog) w .i64 (c : Int) cap .sliceAcap (by omega) (by omega)
      simpa using this
    cases a <;> simp [Instr.slice, run_underlying Tryz.underlying22, Instr.sliceBounds, sizeOf, typeInfo, hq, hb, Addr.add]

/-- both ends -/
theorem run_mid (w : World) (b o n cap c d : Nat) (h : c ≤ d) (hd : d ≤ cap) (hc : c < cap) : (Instr.sliceAt 22 (.slice (some ⟨b, o, none⟩) n cap) (some (.int .i64 (c : Int))) (some (.int .i64 (d : Int))) none).run Tryz.prog w = .ok (.slice (some ⟨b, o + c, none⟩) (d - c) (cap - c)) w := by
  rw [run_sliceAt_slice w 22 _ _ _ _ (by rw [elem36]; exact Tryz.underlying22)]
  have hi := info5
  cases hq : Tryz.prog.info? 5 with
  | none => simp [hq] at hi
  | some i =>
    have hs : i.size = 1 := by simpa [hq] using hi
    have hb : (Instr.sliceBound (.int .i64 (d : Int)) cap .sliceAcap).run Tryz.prog w = .ok d w := by
      have := run_sliceBound (P := Tryz.prog) w .i64 (d : Int) cap .sliceAcap (by omega) (by omega)
      simpa using this
    have hb2 : (Instr.sliceBound (.int .i64 (c : Int)) d .sliceB).run Tryz.prog w = .ok c w := by
      have := run_sliceBound (P := Tryz.prog) w .i64 (c : Int) d .sliceB (by omega) (by omega)
      simpa using this
    have c0 : ¬ cap = c := by omega
    simp [Instr.slice, run_underlying Tryz.underlying22, Instr.sliceBounds, sizeOf, typeInfo, hq, hs, hb, hb2, c0, Addr.add]

/-- the place of a byte, if it is there -/
def pos (bs : List UInt8) (c : UInt8) : Option Nat := if Lib.indexByte bs c < 0 then none else some (Lib.indexByte bs c).toNat

theorem indexByte_ge (c : UInt8) : ∀ l : List UInt8, -1 ≤ Lib.indexByte l c ∧ Lib.indexByte l c < l.length
  | [] => by simp [Lib.indexByte]
  | b :: l => by
    have ih := indexByte_ge c l
    unfold Lib.indexByte
    split
    · simp <;> omega
    · split
      · simp <;> omega
      · simp <;> omega

theorem pos_none {bs : List UInt8} {c : UInt8} (h : pos bs c = none) : Lib.indexByte bs c = -1 := by
  unfold pos at h
  have := indexByte_ge c bs
  split at h
  · omega
  · cases h

theorem pos_some {bs : List UInt8} {c : UInt8} {i : Nat} (h : pos bs c = some i) : Lib.indexByte bs c = i ∧ i < bs.length := by
  unfold pos at h
  have := indexByte_ge c bs
  split at h
  · cases h
  · cases h; omega

theorem cut_none (w : World) (b o cap : Nat) (bs : List UInt8) (g : Nat) (c : UInt8) (d : Nat) (h : BytesAt w b o bs) (hc : w.cell? ⟨g, 0, none⟩ = some (.int .u8 (c.toNat : Int))) (hp : pos bs c = none) :
    Calls Tryz.prog 100 #[.slice (some ⟨b, o, none⟩) bs.length cap, .slice (some ⟨g, 0, none⟩) 1 d] w fun e w' => e = .returned (.tuple #[.slice (some ⟨b, o, none⟩) bs.length cap, .slice none 0 0, .bool false]) ∧ w = w' := by
  have q := Tryz.bytes_Index_one b o bs.length cap g 0 d (ints bs) (c.toNat : Int) w (by simp [ints]) (fun i hi => by rw [ints_get bs i hi]; exact h i hi) hc
  rw [bytesOf_ints, show ((c.toNat : Int)).toNat.toUInt8 = c by simp, pos_none hp] at q
  generalize bs.length = n at *
  clear h hp
  go_enter Tryz.func100, Tryz.ntmps100
  go_wp2_with (go_at_call 117; refine q.mono ?_; rintro e w' ⟨rfl, rfl⟩)
  go_ret3
  exact ⟨rfl, rfl⟩

theorem cut_some (w : World) (b o cap : Nat) (bs : List UInt8) (g : Nat) (c : UInt8) (d : Nat) (h : BytesAt w b o bs) (hc : w.cell? ⟨g, 0, none⟩ = some (.int .u8 (c.toNat : Int))) (i : Nat) (hp : pos bs c = some i) (hcap : bs.length ≤ cap) (hbig : cap ≤ 9223372036854775807) :
    Calls Tryz.prog 100 #[.slice (some ⟨b, o, none⟩) bs.length cap, .slice (some ⟨g, 0, none⟩) 1 d] w fun e w' => e = .returned (.tuple #[.slice (some ⟨b, o, none⟩) i cap, .slice (lowAt b o cap (i + 1)) (bs.length - (i + 1)) (cap - (i + 1)), .bool true]) ∧ (w' = w ∨ w' = w.drew) := by
  have q := Tryz.bytes_Index_one b o bs.length cap g 0 d (ints bs) (c.toNat : Int) w (by simp [ints]) (fun i hi => by rw [ints_get bs i hi]; exact h i hi) hc
  obtain ⟨hp1, hp2⟩ := pos_some hp
  rw [bytesOf_ints, show ((c.toNat : Int)).toNat.toUInt8 = c by simp, hp1] at q
  generalize bs.length = n at *
  clear h hp hp1
  have r1 := fun W => run_high W (some ⟨b, o, none⟩) n cap i (by omega)
  have r2 := fun W => run_low W b o n cap (i + 1) (by omega)
  rw [show ((i + 1 : Nat) : Int) = (i : Int) + 1 by omega] at r2
  go_enter Tryz.func100, Tryz.ntmps100
  go_wp2_with (go_at_call 117; refine q.mono ?_; rintro e w' ⟨rfl, rfl⟩)
  go_region
  go_wp2
  go_ret3
  exact ⟨rfl, .inr rfl⟩

end Go.Proofs.YtnmmaedngdibeaaGreatDoor.X

namespace Go.Proofs.YtnmmaedngdibeaaGreatDoor.X
open Go.RowKit
set_option linter.unusedVariables false
set_option linter.unusedSimpArgs false

/-- what stands ahead of the first blank -/
def digs (bs : List UInt8) : List UInt8 := match pos bs 32 with | some i => bs.take i | none => bs

theorem cut32 (w : World) (b o cap : Nat) (bs : List UInt8) (g d : Nat) (h : BytesAt w b o bs) (hc : w.cell? ⟨g, 0, none⟩ = some (.int .u8 32)) (hcap : bs.length ≤ cap) (hbig : cap ≤ 9223372036854775807) :
    Calls Tryz.prog 100 #[.slice (some ⟨b, o, none⟩) bs.length cap, .slice (some ⟨g, 0, none⟩) 1 d] w fun e w' => (∃ v fl, e = .returned (.tuple #[.slice (some ⟨b, o, none⟩) (digs bs).length cap, v, .bool fl])) ∧ (w' = w ∨ w' = w.drew) := by
  unfold digs
  cases hp : pos bs 32 with
  | none => exact (cut_none w b o cap bs g 32 d h hc hp).mono fun e w' ⟨he, hw⟩ => ⟨⟨_, _, he⟩, .inl hw.symm⟩
  | some i =>
    obtain ⟨_, hi⟩ := pos_some hp
    have hl : (bs.take i).length = i := by simp; omega
    refine (cut_some w b o cap bs g 32 d h hc i hp hcap hbig).mono fun e w' ⟨he, hw⟩ => ⟨⟨.slice (lowAt b o cap (i + 1)) (bs.length - (i + 1)) (cap - (i + 1)), true, ?_⟩, hw⟩
    rw [he]
    simp only [hl]

theorem info28 : (Tryz.prog.info? 59).map (·.size) = some 2 := by kernel_rfl

/-- the block of a record -/
def Cell2 (w : World) (g : Nat) : Prop := ∃ x y, w.heap[g]? = some (.cells #[x, y] 59 (0, 0))

theorem Cell2.cells {w : World} {g : Nat} (h : Cell2 w g) : ∃ x y, w.cell? ⟨g, 0, none⟩ = some x ∧ w.cell? ⟨g, 1, none⟩ = some y ∧ w.frozen? ⟨g, 0, none⟩ = false ∧ w.frozen? ⟨g, 1, none⟩ = false := by
  obtain ⟨x, y, h⟩ := h
  exact ⟨x, y, by simp [World.cell?, h], by simp [World.cell?, h], by simp [World.frozen?, h], by simp [World.frozen?, h]⟩

theorem Cell2.lt {w : World} {g : Nat} (h : Cell2 w g) : g < w.heap.size := by
  obtain ⟨x, y, h⟩ := h
  exact (Array.getElem?_eq_some_iff.1 h).1

theorem Cell2.below {w w' : World} {g : Nat} (h : Cell2 w g) (hb : Below w.heap.size w w') : Cell2 w' g := by
  have hl := h.lt
  obtain ⟨x, y, h⟩ := h
  exact ⟨x, y, by rw [hb.block g hl]; exact h⟩

theorem Cell2.stored {w : World} {g : Nat} (h : Cell2 w g) (a b : Value) : ((w.setCell ⟨g, 0, none⟩ a).setCell ⟨g, 1, none⟩ b).heap[g]? = some (.cells #[a, b] 59 (0, 0)) := by
  obtain ⟨x, y, h⟩ := h
  have h1 := heap_setCell_same w g 0 #[x, y] 59 a h
  have h2 := heap_setCell_same _ g 1 _ 59 b h1
  simpa using h2

/-- what the first world is, behind two blocks of one's own -/
theorem two_new (w W : World) (x y z : Value) (hW : Below ((w.alloc (.cells #[x, y] 59)).alloc (.cells #[z] 5 (1, 2))).heap.size ((w.alloc (.cells #[x, y] 59)).alloc (.cells #[z] 5 (1, 2))) W) :
    Cell2 W w.heap.size ∧ W.cell? ⟨w.heap.size + 1, 0, none⟩ = some z ∧ Below w.heap.size w W := by
  have s2 : ((w.alloc (.cells #[x, y] 59)).alloc (.cells #[z] 5 (1, 2))).heap.size = w.heap.size + 1 + 1 := by simp
  have h0 : ((w.alloc (.cells #[x, y] 59)).alloc (.cells #[z] 5 (1, 2))).heap[w.heap.size]? = some (.cells #[x, y] 59 (0, 0)) := by
    rw [Below.heap_alloc _ _ _ (by simp)]
    exact heap_alloc_new w _
  refine ⟨⟨x, y, ?_⟩, ?_, ?_⟩
  · rw [hW.block w.heap.size (by omega)]; exact h0
  · have := hW.cell (p := ⟨w.heap.size + 1, 0, none⟩) (by show w.heap.size + 1 < _; omega)
    rw [this]
    have hn := heap_alloc_new (w.alloc (.cells #[x, y] 59)) (.cells #[z] 5 (1, 2))
    have hs : (w.alloc (.cells #[x, y] 59)).heap.size = w.heap.size + 1 := by simp
    rw [hs] at hn
    simp only [World.cell?]
    rw [hn]
    rfl
  · exact (((Below.refl w.heap.size w).alloc (Nat.le_refl _) _).alloc (by simp) _).trans (hW.mono (by omega))

/-- what a record at the beginning is: key, value, length; nothing: 0 -/
def firstP (bs : List UInt8) : List UInt8 × List UInt8 × Nat :=
  match nval ⟨(digs bs).toArray⟩ with
  | none => ([], [], 0)
  | some z =>
    if z ≤ (digs bs).length ∨ (bs.length : Int) < z then ([], [], 0)
    else if ¬ plen (z.toNat - (digs bs).length) = z.toNat ∨ ¬ bs.getD (z.toNat - 1) 0 = 10 then ([], [], 0)
    else match pos ((bs.drop ((digs bs).length + 1)).take (z.toNat - (digs bs).length - 2)) 61 with
      | none => ([], [], 0)
      | some i => (((bs.drop ((digs bs).length + 1)).take (z.toNat - (digs bs).length - 2)).take i, ((bs.drop ((digs bs).length + 1)).take (z.toNat - (digs bs).length - 2)).drop (i + 1), z.toNat)

theorem digs_le (bs : List UInt8) : (digs bs).length ≤ bs.length := by
  unfold digs
  split
  · simp; omega
  · exact Nat.le_refl _

theorem digs_at {w : World} {b o : Nat} {bs : List UInt8} (h : BytesAt w b o bs) : BytesAt w b o (digs bs) := by
  unfold digs
  split
  · exact h.take _
  · exact h

set_option maxHeartbeats 2000000 in
set_option maxRecDepth 20000 in
theorem first_nan (b o cap : Nat) (bs : List UInt8) (w : World) (hB : BytesAt w b o bs) (hcap : bs.length ≤ cap) (hbig : cap ≤ 9223372036854775807) (hlen : bs.length ≤ 281474976710656) (ht : Vs w) (hnv : nval ⟨(digs bs).toArray⟩ = none) :
    Calls Tryz.prog 118 #[.slice (some ⟨b, o, none⟩) bs.length cap] w fun e w' => e = .returned (.tuple #[.agg #[.string ⟨#[]⟩, .string ⟨#[]⟩], .int .i64 0]) ∧ Below w.heap.size w w' := by
  have hd := digs_le bs
  have hD : Hid (BytesAt w b o (digs bs)) := digs_at hB
  have HB : Hid (BytesAt w b o bs) := hB
  have HV : Hid (Vs w) := ht
  have q0 : ∀ W g, BytesAt W b o bs → W.cell? ⟨g, 0, none⟩ = some (.int .u8 32) → Calls Tryz.prog 100 #[.slice (some ⟨b, o, none⟩) bs.length cap, .slice (some ⟨g, 0, none⟩) 1 1] W fun e w' => (∃ v fl, e = .returned (.tuple #[.slice (some ⟨b, o, none⟩) (digs bs).length cap, v, .bool fl])) ∧ (w' = W ∨ w' = W.drew) := fun W g h1 h2 => cut32 W b o cap bs g 1 h1 h2 hcap hbig
  have qn : ∀ W, Vs W → Calls Tryz.prog 115 #[.string ⟨(digs bs).toArray⟩] W fun e w' => e = .returned (.tuple #[.int .i64 0, .int .i64 70]) ∧ Below W.heap.size W w' := fun W hv => by
    refine (number_w ⟨(digs bs).toArray⟩ (by show (digs bs).toArray.size ≤ _; simp; omega) W hv).mono ?_
    rintro e w' ⟨he, hb⟩
    rw [hnv] at he
    exact ⟨he, hb⟩
  have qc : ∀ W, BytesAt W b o (digs bs) → (convert 22 9 (.slice (some ⟨b, o, none⟩) (digs bs).length cap)).run Tryz.prog W = .ok (.string ⟨(digs bs).toArray⟩) W := fun W h => conv_str W b o cap (digs bs) h
  have NW : Hid (∀ (x y z : Value) (W : World), Below ((w.alloc (.cells #[x, y] 59)).alloc (.cells #[z] 5 (1, 2))).heap.size ((w.alloc (.cells #[x, y] 59)).alloc (.cells #[z] 5 (1, 2))) W → Cell2 W w.heap.size ∧ W.cell? ⟨w.heap.size + 1, 0, none⟩ = some z ∧ Below w.heap.size w W) := fun x y z W h => two_new w W x y z h
  generalize hds : (⟨(digs bs).toArray⟩ : ByteArray) = S at *
  clear hds hB ht hnv
  generalize hdl : (digs bs).length = D at *
  generalize hbl : bs.length = n at *
  have QC : Hid (∀ W, BytesAt W b o (digs bs) → (convert 22 9 (.slice (some ⟨b, o, none⟩) D cap)).run Tryz.prog W = .ok (.string S) W) := qc
  clear qc hdl hbl
  have cv1 : (convert 22 22 (.slice (some ⟨w.heap.size + 1, 0, none⟩) 1 1)).run Tryz.prog ((w.alloc (.cells #[.string ⟨#[]⟩, .string ⟨#[]⟩] 59)).alloc (.cells #[.int .u8 32] 5)) = .ok (.slice (some ⟨w.heap.size + 1, 0, none⟩) 1 1) ((w.alloc (.cells #[.string ⟨#[]⟩, .string ⟨#[]⟩] 59)).alloc (.cells #[.int .u8 32] 5 (1, 2))) := by
    have := Lib.run_convert_bytes_const (P := Tryz.prog) (w.alloc (.cells #[.string ⟨#[]⟩, .string ⟨#[]⟩] 59)) 22 5 #[.int .u8 32] 1 1 Tryz.underlying22 Tryz.underlying5
    simpa using this
  go_enter Tryz.func118, Tryz.ntmps118
  go_wp2_with fail
  have b0 := NW.out (.string ⟨#[]⟩) (.string ⟨#[]⟩) (.int .u8 32) _ (Below.refl _ _)
  generalize hw1 : ((w.alloc (.cells #[.string ⟨#[]⟩, .string ⟨#[]⟩] 59)).alloc (.cells #[.int .u8 32] 5 (1, 2))) = w1 at *
  refine (q0 w1 _ (HB.out.below b0.2.2) b0.2.1).mono ?_
  rintro e w2 ⟨⟨v, fl, rfl⟩, hw2⟩
  have b2 : Below w1.heap.size w1 w2 := by
    rcases hw2 with rfl | rfl
    · exact Below.refl _ _
    · exact (Below.refl _ _).drew
  clear hw2
  have bw2 : Below w.heap.size w w2 := by subst hw1; exact (NW.out _ _ _ _ b2).2.2
  have qc2 := QC.out w2 (hD.out.below bw2)
  go_wp2_with fail
  refine (qn w2 (HV.out.below bw2)).mono ?_
  rintro e w3 ⟨rfl, b3⟩
  have bb3 : Below w1.heap.size w1 w3 := b2.trans (b3.mono b2.size)
  have n3 : Cell2 w3 w.heap.size ∧ w3.cell? ⟨w.heap.size + 1, 0, none⟩ = some (.int .u8 32) ∧ Below w.heap.size w w3 := by subst hw1; exact NW.out _ _ _ _ bb3
  obtain ⟨c3, _, bw3⟩ := n3
  obtain ⟨x0, y0, f0, f1, f2, f3⟩ := c3.cells
  go_wp2
  have r1 := c3.stored (.string ⟨#[]⟩) (.string ⟨#[]⟩)
  exact bodyPost_ret (by rw [results_cell_tmp rfl]; simp [asAddr, run_loadVar_row _ _ _ 59 _ _ _ r1 Tryz.underlying59 rfl info28]) rfl ⟨rfl, (bw3.setCell (Nat.le_refl _) _).setCell (Nat.le_refl _) _⟩

set_option maxHeartbeats 2000000 in
set_option maxRecDepth 20000 in
theorem first_low (b o cap : Nat) (bs : List UInt8) (w : World) (hB : BytesAt w b o bs) (hcap : bs.length ≤ cap) (hbig : cap ≤ 9223372036854775807) (hlen : bs.length ≤ 281474976710656) (ht : Vs w) (z : Int) (hnv : nval ⟨(digs bs).toArray⟩ = some z) (hz : z ≤ (digs bs).length) :
    Calls Tryz.prog 118 #[.slice (some ⟨b, o, none⟩) bs.length cap] w fun e w' => e = .returned (.tuple #[.agg #[.string ⟨#[]⟩, .string ⟨#[]⟩], .int .i64 0]) ∧ Below w.heap.size w w' := by
  have hd := digs_le bs
  have hD : Hid (BytesAt w b o (digs bs)) := digs_at hB
  have HB : Hid (BytesAt w b o bs) := hB
  have HV : Hid (Vs w) := ht
  have q0 : ∀ W g, BytesAt W b o bs → W.cell? ⟨g, 0, none⟩ = some (.int .u8 32) → Calls Tryz.prog 100 #[.slice (some ⟨b, o, none⟩) bs.length cap, .slice (some ⟨g, 0, none⟩) 1 1] W fun e w' => (∃ v fl, e = .returned (.tuple #[.slice (some ⟨b, o, none⟩) (digs bs).length cap, v, .bool fl])) ∧ (w' = W ∨ w' = W.drew) := fun W g h1 h2 => cut32 W b o cap bs g 1 h1 h2 hcap hbig
  have qn : ∀ W, Vs W → Calls Tryz.prog 115 #[.string ⟨(digs bs).toArray⟩] W fun e w' => e = .returned (.tuple #[.int .i64 z, .int .i64 0]) ∧ Below W.heap.size W w' := fun W hv => by
    refine (number_w ⟨(digs bs).toArray⟩ (by show (digs bs).toArray.size ≤ _; simp; omega) W hv).mono ?_
    rintro e w' ⟨he, hb⟩
    rw [hnv] at he
    exact ⟨he, hb⟩
  have qc : ∀ W, BytesAt W b o (digs bs) → (convert 22 9 (.slice (some ⟨b, o, none⟩) (digs bs).length cap)).run Tryz.prog W = .ok (.string ⟨(digs bs).toArray⟩) W := fun W h => conv_str W b o cap (digs bs) h
  have NW : Hid (∀ (x y z : Value) (W : World), Below ((w.alloc (.cells #[x, y] 59)).alloc (.cells #[z] 5 (1, 2))).heap.size ((w.alloc (.cells #[x, y] 59)).alloc (.cells #[z] 5 (1, 2))) W → Cell2 W w.heap.size ∧ W.cell? ⟨w.heap.size + 1, 0, none⟩ = some z ∧ Below w.heap.size w W) := fun x y z W h => two_new w W x y z h
  generalize hds : (⟨(digs bs).toArray⟩ : ByteArray) = S at *
  clear hds hB ht hnv
  generalize hdl : (digs bs).length = D at *
  generalize hbl : bs.length = n at *
  have QC : Hid (∀ W, BytesAt W b o (digs bs) → (convert 22 9 (.slice (some ⟨b, o, none⟩) D cap)).run Tryz.prog W = .ok (.string S) W) := qc
  clear qc hdl hbl
  have cv1 : (convert 22 22 (.slice (some ⟨w.heap.size + 1, 0, none⟩) 1 1)).run Tryz.prog ((w.alloc (.cells #[.string ⟨#[]⟩, .string ⟨#[]⟩] 59)).alloc (.cells #[.int .u8 32] 5)) = .ok (.slice (some ⟨w.heap.size + 1, 0, none⟩) 1 1) ((w.alloc (.cells #[.string ⟨#[]⟩, .string ⟨#[]⟩] 59)).alloc (.cells #[.int .u8 32] 5 (1, 2))) := by
    have := Lib.run_convert_bytes_const (P := Tryz.prog) (w.alloc (.cells #[.string ⟨#[]⟩, .string ⟨#[]⟩] 59)) 22 5 #[.int .u8 32] 1 1 Tryz.underlying22 Tryz.underlying5
    simpa using this
  go_enter Tryz.func118, Tryz.ntmps118
  go_wp2_with fail
  have b0 := NW.out (.string ⟨#[]⟩) (.string ⟨#[]⟩) (.int .u8 32) _ (Below.refl _ _)
  generalize hw1 : ((w.alloc (.cells #[.string ⟨#[]⟩, .string ⟨#[]⟩] 59)).alloc (.cells #[.int .u8 32] 5 (1, 2))) = w1 at *
  refine (q0 w1 _ (HB.out.below b0.2.2) b0.2.1).mono ?_
  rintro e w2 ⟨⟨v, fl, rfl⟩, hw2⟩
  have b2 : Below w1.heap.size w1 w2 := by
    rcases hw2 with rfl | rfl
    · exact Below.refl _ _
    · exact (Below.refl _ _).drew
  clear hw2
  have bw2 : Below w.heap.size w w2 := by subst hw1; exact (NW.out _ _ _ _ b2).2.2
  have qc2 := QC.out w2 (hD.out.below bw2)
  go_wp2_with fail
  refine (qn w2 (HV.out.below bw2)).mono ?_
  rintro e w3 ⟨rfl, b3⟩
  have bb3 : Below w1.heap.size w1 w3 := b2.trans (b3.mono b2.size)
  have n3 : Cell2 w3 w.heap.size ∧ w3.cell? ⟨w.heap.size + 1, 0, none⟩ = some (.int .u8 32) ∧ Below w.heap.size w w3 := by subst hw1; exact NW.out _ _ _ _ bb3
  obtain ⟨c3, _, bw3⟩ := n3
  obtain ⟨x0, y0, f0, f1, f2, f3⟩ := c3.cells
  go_wp2
  have r1 := c3.stored (.string ⟨#[]⟩) (.string ⟨#[]⟩)
  exact bodyPost_ret (by rw [results_cell_tmp rfl]; simp [asAddr, run_loadVar_row _ _ _ 59 _ _ _ r1 Tryz.underlying59 rfl info28]) rfl ⟨rfl, (bw3.setCell (Nat.le_refl _) _).setCell (Nat.le_refl _) _⟩

set_option maxHeartbeats 2000000 in
set_option maxRecDepth 20000 in
theorem first_high (b o cap : Nat) (bs : List UInt8) (w : World) (hB : BytesAt w b o bs) (hcap : bs.length ≤ cap) (hbig : cap ≤ 9223372036854775807) (hlen : bs.length ≤ 281474976710656) (ht : Vs w) (z : Int) (hnv : nval ⟨(digs bs).toArray⟩ = some z) (hz0 : ¬ z ≤ (digs bs).length) (hz : (bs.length : Int) < z) :
    Calls Tryz.prog 118 #[.slice (some ⟨b, o, none⟩) bs.length cap] w fun e w' => e = .returned (.tuple #[.agg #[.string ⟨#[]⟩, .string ⟨#[]⟩], .int .i64 0]) ∧ Below w.heap.size w w' := by
  have hd := digs_le bs
  have hD : Hid (BytesAt w b o (digs bs)) := digs_at hB
  have HB : Hid (BytesAt w b o bs) := hB
  have HV : Hid (Vs w) := ht
  have q0 : ∀ W g, BytesAt W b o bs → W.cell? ⟨g, 0, none⟩ = some (.int .u8 32) → Calls Tryz.prog 100 #[.slice (some ⟨b, o, none⟩) bs.length cap, .slice (some ⟨g, 0, none⟩) 1 1] W fun e w' => (∃ v fl, e = .returned (.tuple #[.slice (some ⟨b, o, none⟩) (digs bs).length cap, v, .bool fl])) ∧ (w' = W ∨ w' = W.drew) := fun W g h1 h2 => cut32 W b o cap bs g 1 h1 h2 hcap hbig
  have qn : ∀ W, Vs W → Calls Tryz.prog 115 #[.string ⟨(digs bs).toArray⟩] W fun e w' => e = .returned (.tuple #[.int .i64 z, .int .i64 0]) ∧ Below W.heap.size W w' := fun W hv => by
    refine (number_w ⟨(digs bs).toArray⟩ (by show (digs bs).toArray.size ≤ _; simp; omega) W hv).mono ?_
    rintro e w' ⟨he, hb⟩
    rw [hnv] at he
    exact ⟨he, hb⟩
  have qc : ∀ W, BytesAt W b o (digs bs) → (convert 22 9 (.slice (some ⟨b, o, none⟩) (digs bs).length cap)).run Tryz.prog W = .ok (.string ⟨(digs bs).toArray⟩) W := fun W h => conv_str W b o cap (digs bs) h
  have NW : Hid (∀ (x y z : Value) (W : World), Below ((w.alloc (.cells #[x, y] 59)).alloc (.cells #[z] 5 (1, 2))).heap.size ((w.alloc (.cells #[x, y] 59)).alloc (.cells #[z] 5 (1, 2))) W → Cell2 W w.heap.size ∧ W.cell? ⟨w.heap.size + 1, 0, none⟩ = some z ∧ Below w.heap.size w W) := fun x y z W h => two_new w W x y z h
  generalize hds : (⟨(digs bs).toArray⟩ : ByteArray) = S at *
  clear hds hB ht hnv
  generalize hdl : (digs bs).length = D at *
  generalize hbl : bs.length = n at *
  have QC : Hid (∀ W, BytesAt W b o (digs bs) → (convert 22 9 (.slice (some ⟨b, o, none⟩) D cap)).run Tryz.prog W = .ok (.string S) W) := qc
  clear qc hdl hbl
  have cv1 : (convert 22 22 (.slice (some ⟨w.heap.size + 1, 0, none⟩) 1 1)).run Tryz.prog ((w.alloc (.cells #[.string ⟨#[]⟩, .string ⟨#[]⟩] 59)).alloc (.cells #[.int .u8 32] 5)) = .ok (.slice (some ⟨w.heap.size + 1, 0, none⟩) 1 1) ((w.alloc (.cells #[.string ⟨#[]⟩, .string ⟨#[]⟩] 59)).alloc (.cells #[.int .u8 32] 5 (1, 2))) := by
    have := Lib.run_convert_bytes_const (P := Tryz.prog) (w.alloc (.cells #[.string ⟨#[]⟩, .string ⟨#[]⟩] 59)) 22 5 #[.int .u8 32] 1 1 Tryz.underlying22 Tryz.underlying5
    simpa using this
  go_enter Tryz.func118, Tryz.ntmps118
  go_wp2_with fail
  have b0 := NW.out (.string ⟨#[]⟩) (.string ⟨#[]⟩) (.int .u8 32) _ (Below.refl _ _)
  generalize hw1 : ((w.alloc (.cells #[.string ⟨#[]⟩, .string ⟨#[]⟩] 59)).alloc (.cells #[.int .u8 32] 5 (1, 2))) = w1 at *
  refine (q0 w1 _ (HB.out.below b0.2.2) b0.2.1).mono ?_
  rintro e w2 ⟨⟨v, fl, rfl⟩, hw2⟩
  have b2 : Below w1.heap.size w1 w2 := by
    rcases hw2 with rfl | rfl
    · exact Below.refl _ _
    · exact (Below.refl _ _).drew
  clear hw2
  have bw2 : Below w.heap.size w w2 := by subst hw1; exact (NW.out _ _ _ _ b2).2.2
  have qc2 := QC.out w2 (hD.out.below bw2)
  go_wp2_with fail
  refine (qn w2 (HV.out.below bw2)).mono ?_
  rintro e w3 ⟨rfl, b3⟩
  have bb3 : Below w1.heap.size w1 w3 := b2.trans (b3.mono b2.size)
  have n3 : Cell2 w3 w.heap.size ∧ w3.cell? ⟨w.heap.size + 1, 0, none⟩ = some (.int .u8 32) ∧ Below w.heap.size w w3 := by subst hw1; exact NW.out _ _ _ _ bb3
  obtain ⟨c3, _, bw3⟩ := n3
  obtain ⟨x0, y0, f0, f1, f2, f3⟩ := c3.cells
  go_wp2
  have r1 := c3.stored (.string ⟨#[]⟩) (.string ⟨#[]⟩)
  exact bodyPost_ret (by rw [results_cell_tmp rfl]; simp [asAddr, run_loadVar_row _ _ _ 59 _ _ _ r1 Tryz.underlying59 rfl info28]) rfl ⟨rfl, (bw3.setCell (Nat.le_refl _) _).setCell (Nat.le_refl _) _⟩

set_option maxHeartbeats 2000000 in
set_option maxRecDepth 20000 in
theorem first_len (b o cap : Nat) (bs : List UInt8) (w : World) (hB : BytesAt w b o bs) (hcap : bs.length ≤ cap) (hbig : cap ≤ 9223372036854775807) (hlen : bs.length ≤ 281474976710656) (ht : Vs w) (M l : Nat) (hM : (digs bs).length + (l + 1) = M) (hMn : M ≤ bs.length) (hnv : nval ⟨(digs bs).toArray⟩ = some (M : Int)) (hp : ¬ plen (l + 1) = M) :
    Calls Tryz.prog 118 #[.slice (some ⟨b, o, none⟩) bs.length cap] w fun e w' => e = .returned (.tuple #[.agg #[.string ⟨#[]⟩, .string ⟨#[]⟩], .int .i64 0]) ∧ Below w.heap.size w w' := by
  have hd := digs_le bs
  have hD : Hid (BytesAt w b o (digs bs)) := digs_at hB
  have HB : Hid (BytesAt w b o bs) := hB
  have HV : Hid (Vs w) := ht
  have q0 : ∀ W g, BytesAt W b o bs → W.cell? ⟨g, 0, none⟩ = some (.int .u8 32) → Calls Tryz.prog 100 #[.slice (some ⟨b, o, none⟩) bs.length cap, .slice (some ⟨g, 0, none⟩) 1 1] W fun e w' => (∃ v fl, e = .returned (.tuple #[.slice (some ⟨b, o, none⟩) (digs bs).length cap, v, .bool fl])) ∧ (w' = W ∨ w' = W.drew) := fun W g h1 h2 => cut32 W b o cap bs g 1 h1 h2 hcap hbig
  have qn : ∀ W, Vs W → Calls Tryz.prog 115 #[.string ⟨(digs bs).toArray⟩] W fun e w' => e = .returned (.tuple #[.int .i64 (M : Int), .int .i64 0]) ∧ Below W.heap.size W w' := fun W hv => by
    refine (number_w ⟨(digs bs).toArray⟩ (by show (digs bs).toArray.size ≤ _; simp; omega) W hv).mono ?_
    rintro e w' ⟨he, hb⟩
    rw [hnv] at he
    exact ⟨he, hb⟩
  have qc : ∀ W, BytesAt W b o (digs bs) → (convert 22 9 (.slice (some ⟨b, o, none⟩) (digs bs).length cap)).run Tryz.prog W = .ok (.string ⟨(digs bs).toArray⟩) W := fun W h => conv_str W b o cap (digs bs) h
  have NW : Hid (∀ (x y z : Value) (W : World), Below ((w.alloc (.cells #[x, y] 59)).alloc (.cells #[z] 5 (1, 2))).heap.size ((w.alloc (.cells #[x, y] 59)).alloc (.cells #[z] 5 (1, 2))) W → Cell2 W w.heap.size ∧ W.cell? ⟨w.heap.size + 1, 0, none⟩ = some z ∧ Below w.heap.size w W) := fun x y z W h => two_new w W x y z h
  have rm : ∀ W : World, (Instr.sliceAt 22 (.slice (some ⟨b, o, none⟩) bs.length cap) (some (.int .i64 ((digs bs).length : Int))) (some (.int .i64 (M : Int))) none).run Tryz.prog W = .ok (.slice (some ⟨b, o + (digs bs).length, none⟩) (l + 1) (cap - (digs bs).length)) W := fun W => by
    have := run_mid W b o bs.length cap (digs bs).length M (by omega) (by omega) (by omega)
    rw [this, show M - (digs bs).length = l + 1 by omega]
  have HL : Hid (∀ W, Vs W → Calls Tryz.prog 37 #[.int .i64 ((l + 1 : Nat) : Int)] W fun ev w' => ev = .returned (.int .i64 (plen (l + 1))) ∧ Below W.heap.size W w') := fun W hv => length_w (l + 1) (by omega) W hv
  have z0 : ¬ (M : Int) ≤ ((digs bs).length : Int) := by omega
  have z1 : (M : Int) ≤ (bs.length : Int) := by omega
  have hlb : l ≤ 281474976710656 := by omega
  have hp2 : ¬ ((plen (l + 1) : Nat) : Int) = (M : Int) := by omega
  generalize hds : (⟨(digs bs).toArray⟩ : ByteArray) = S at *
  clear hds hB ht hnv
  generalize hdl : (digs bs).length = D at *
  generalize hbl : bs.length = n at *
  clear hM hp hMn
  generalize plen (l + 1) = Pl at *
  have QC : Hid (∀ W, BytesAt W b o (digs bs) → (convert 22 9 (.slice (some ⟨b, o, none⟩) D cap)).run Tryz.prog W = .ok (.string S) W) := qc
  clear qc hdl hbl
  have cv1 : (convert 22 22 (.slice (some ⟨w.heap.size + 1, 0, none⟩) 1 1)).run Tryz.prog ((w.alloc (.cells #[.string ⟨#[]⟩, .string ⟨#[]⟩] 59)).alloc (.cells #[.int .u8 32] 5)) = .ok (.slice (some ⟨w.heap.size + 1, 0, none⟩) 1 1) ((w.alloc (.cells #[.string ⟨#[]⟩, .string ⟨#[]⟩] 59)).alloc (.cells #[.int .u8 32] 5 (1, 2))) := by
    have := Lib.run_convert_bytes_const (P := Tryz.prog) (w.alloc (.cells #[.string ⟨#[]⟩, .string ⟨#[]⟩] 59)) 22 5 #[.int .u8 32] 1 1 Tryz.underlying22 Tryz.underlying5
    simpa using this
  go_enter Tryz.func118, Tryz.ntmps118
  go_wp2_with fail
  have b0 := NW.out (.string ⟨#[]⟩) (.string ⟨#[]⟩) (.int .u8 32) _ (Below.refl _ _)
  generalize hw1 : ((w.alloc (.cells #[.string ⟨#[]⟩, .string ⟨#[]⟩] 59)).alloc (.cells #[.int .u8 32] 5 (1, 2))) = w1 at *
  refine (q0 w1 _ (HB.out.below b0.2.2) b0.2.1).mono ?_
  rintro e w2 ⟨⟨v, fl, rfl⟩, hw2⟩
  have b2 : Below w1.heap.size w1 w2 := by
    rcases hw2 with rfl | rfl
    · exact Below.refl _ _
    · exact (Below.refl _ _).drew
  clear hw2
  have bw2 : Below w.heap.size w w2 := by subst hw1; exact (NW.out _ _ _ _ b2).2.2
  have qc2 := QC.out w2 (hD.out.below bw2)
  go_wp2_with fail
  refine (qn w2 (HV.out.below bw2)).mono ?_
  rintro e w3 ⟨rfl, b3⟩
  have bb3 : Below w1.heap.size w1 w3 := b2.trans (b3.mono b2.size)
  have n3 : Cell2 w3 w.heap.size ∧ w3.cell? ⟨w.heap.size + 1, 0, none⟩ = some (.int .u8 32) ∧ Below w.heap.size w w3 := by subst hw1; exact NW.out _ _ _ _ bb3
  obtain ⟨c3, _, bw3⟩ := n3
  obtain ⟨x0, y0, f0, f1, f2, f3⟩ := c3.cells
  have hq := HL.out w3 (HV.out.below bw3)
  go_wp2_with (go_at_call 37; refine hq.mono ?_; rintro e w4 ⟨rfl, b4⟩; have n4 : Cell2 w4 w.heap.size ∧ w4.cell? ⟨w.heap.size + 1, 0, none⟩ = some (.int .u8 32) ∧ Below w.heap.size w w4 := (by subst hw1; exact NW.out _ _ _ _ (bb3.trans (b4.mono bb3.size))); obtain ⟨c4, _, bw4⟩ := n4; obtain ⟨x1, y1, e0, e1, e2, e3⟩ := c4.cells)
  have r1 := c4.stored (.string ⟨#[]⟩) (.string ⟨#[]⟩)
  exact bodyPost_ret (by rw [results_cell_tmp rfl]; simp [asAddr, run_loadVar_row _ _ _ 59 _ _ _ r1 Tryz.underlying59 rfl info28]) rfl ⟨rfl, (bw4.setCell (Nat.le_refl _) _).setCell (Nat.le_refl _) _⟩

set_option maxHeartbeats 2000000 in
set_option maxRecDepth 20000 in
theorem first_last (b o cap : Nat) (bs : List UInt8) (w : World) (hB : BytesAt w b o bs) (hcap : bs.length ≤ cap) (hbig : cap ≤ 9223372036854775807) (hlen : bs.length ≤ 281474976710656) (ht : Vs w) (M l : Nat) (hM : (digs bs).length + (l + 1) = M) (hMn : M ≤ bs.length) (hnv : nval ⟨(digs bs).toArray⟩ = some (M : Int)) (hp : plen (l + 1) = M) (hl : ¬ bs.getD (M - 1) 0 = 10) :
    Calls Tryz.prog 118 #[.slice (some ⟨b, o, none⟩) bs.length cap] w fun e w' => e = .returned (.tuple #[.agg #[.string ⟨#[]⟩, .string ⟨#[]⟩], .int .i64 0]) ∧ Below w.heap.size w w' := by
  have hd := digs_le bs
  have hD : Hid (BytesAt w b o (digs bs)) := digs_at hB
  have HB : Hid (BytesAt w b o bs) := hB
  have HV : Hid (Vs w) := ht
  have q0 : ∀ W g, BytesAt W b o bs → W.cell? ⟨g, 0, none⟩ = some (.int .u8 32) → Calls Tryz.prog 100 #[.slice (some ⟨b, o, none⟩) bs.length cap, .slice (some ⟨g, 0, none⟩) 1 1] W fun e w' => (∃ v fl, e = .returned (.tuple #[.slice (some ⟨b, o, none⟩) (digs bs).length cap, v, .bool fl])) ∧ (w' = W ∨ w' = W.drew) := fun W g h1 h2 => cut32 W b o cap bs g 1 h1 h2 hcap hbig
  have qn : ∀ W, Vs W → Calls Tryz.prog 115 #[.string ⟨(digs bs).toArray⟩] W fun e w' => e = .returned (.tuple #[.int .i64 (M : Int), .int .i64 0]) ∧ Below W.heap.size W w' := fun W hv => by
    refine (number_w ⟨(digs bs).toArray⟩ (by show (digs bs).toArray.size ≤ _; simp; omega) W hv).mono ?_
    rintro e w' ⟨he, hb⟩
    rw [hnv] at he
    exact ⟨he, hb⟩
  have qc : ∀ W, BytesAt W b o (digs bs) → (convert 22 9 (.slice (some ⟨b, o, none⟩) (digs bs).length cap)).run Tryz.prog W = .ok (.string ⟨(digs bs).toArray⟩) W := fun W h => conv_str W b o cap (digs bs) h
  have NW : Hid (∀ (x y z : Value) (W : World), Below ((w.alloc (.cells #[x, y] 59)).alloc (.cells #[z] 5 (1, 2))).heap.size ((w.alloc (.cells #[x, y] 59)).alloc (.cells #[z] 5 (1, 2))) W → Cell2 W w.heap.size ∧ W.cell? ⟨w.heap.size + 1, 0, none⟩ = some z ∧ Below w.heap.size w W) := fun x y z W h => two_new w W x y z h
  have rm : ∀ W : World, (Instr.sliceAt 22 (.slice (some ⟨b, o, none⟩) bs.length cap) (some (.int .i64 ((digs bs).length : Int))) (some (.int .i64 (M : Int))) none).run Tryz.prog W = .ok (.slice (some ⟨b, o + (digs bs).length, none⟩) (l + 1) (cap - (digs bs).length)) W := fun W => by
    have := run_mid W b o bs.length cap (digs bs).length M (by omega) (by omega) (by omega)
    rw [this, show M - (digs bs).length = l + 1 by omega]
  have HL : Hid (∀ W, Vs W → Calls Tryz.prog 37 #[.int .i64 ((l + 1 : Nat) : Int)] W fun ev w' => ev = .returned (.int .i64 (plen (l + 1))) ∧ Below W.heap.size W w') := fun W hv => length_w (l + 1) (by omega) W hv
  have z0 : ¬ (M : Int) ≤ ((digs bs).length : Int) := by omega
  have z1 : (M : Int) ≤ (bs.length : Int) := by omega
  have hlb : l ≤ 281474976710656 := by omega
  rw [hp] at HL
  have HC : Hid (∀ W, BytesAt W b o bs → W.cell? ⟨b, o + (digs bs).length + l, none⟩ = some (.int .u8 ((bs.getD (M - 1) 0).toNat : Int))) := fun W h => by
    have := h (M - 1) (by omega)
    rwa [show o + (M - 1) = o + (digs bs).length + l by omega] at this
  have hl2 : ¬ (((bs.getD (M - 1) 0).toNat : Nat) : Int) = 10 := fun e => hl (by
    have e2 : (bs.getD (M - 1) 0).toNat = 10 := by omega
    exact UInt8.toNat_inj.1 e2)
  generalize hds : (⟨(digs bs).toArray⟩ : ByteArray) = S at *
  clear hds hB ht hnv
  generalize hdl : (digs bs).length = D at *
  generalize hbl : bs.length = n at *
  clear hM hp hMn hl
  generalize ((bs.getD (M - 1) 0).toNat : Int) = lb at *
  have QC : Hid (∀ W, BytesAt W b o (digs bs) → (convert 22 9 (.slice (some ⟨b, o, none⟩) D cap)).run Tryz.prog W = .ok (.string S) W) := qc
  clear qc hdl hbl
  have cv1 : (convert 22 22 (.slice (some ⟨w.heap.size + 1, 0, none⟩) 1 1)).run Tryz.prog ((w.alloc (.cells #[.string ⟨#[]⟩, .string ⟨#[]⟩] 59)).alloc (.cells #[.int .u8 32] 5)) = .ok (.slice (some ⟨w.heap.size + 1, 0, none⟩) 1 1) ((w.alloc (.cells #[.string ⟨#[]⟩, .string ⟨#[]⟩] 59)).alloc (.cells #[.int .u8 32] 5 (1, 2))) := by
    have := Lib.run_convert_bytes_const (P := Tryz.prog) (w.alloc (.cells #[.string ⟨#[]⟩, .string ⟨#[]⟩] 59)) 22 5 #[.int .u8 32] 1 1 Tryz.underlying22 Tryz.underlying5
    simpa using this
  go_enter Tryz.func118, Tryz.ntmps118
  go_wp2_with fail
  have b0 := NW.out (.string ⟨#[]⟩) (.string ⟨#[]⟩) (.int .u8 32) _ (Below.refl _ _)
  generalize hw1 : ((w.alloc (.cells #[.string ⟨#[]⟩, .string ⟨#[]⟩] 59)).alloc (.cells #[.int .u8 32] 5 (1, 2))) = w1 at *
  refine (q0 w1 _ (HB.out.below b0.2.2) b0.2.1).mono ?_
  rintro e w2 ⟨⟨v, fl, rfl⟩, hw2⟩
  have b2 : Below w1.heap.size w1 w2 := by
    rcases hw2 with rfl | rfl
    · exact Below.refl _ _
    · exact (Below.refl _ _).drew
  clear hw2
  have bw2 : Below w.heap.size w w2 := by subst hw1; exact (NW.out _ _ _ _ b2).2.2
  have qc2 := QC.out w2 (hD.out.below bw2)
  go_wp2_with fail
  refine (qn w2 (HV.out.below bw2)).mono ?_
  rintro e w3 ⟨rfl, b3⟩
  have bb3 : Below w1.heap.size w1 w3 := b2.trans (b3.mono b2.size)
  have n3 : Cell2 w3 w.heap.size ∧ w3.cell? ⟨w.heap.size + 1, 0, none⟩ = some (.int .u8 32) ∧ Below w.heap.size w w3 := by subst hw1; exact NW.out _ _ _ _ bb3
  obtain ⟨c3, _, bw3⟩ := n3
  obtain ⟨x0, y0, f0, f1, f2, f3⟩ := c3.cells
  have hq := HL.out w3 (HV.out.below bw3)
  go_wp2_with (go_at_call 37; refine hq.mono ?_; rintro e w4 ⟨rfl, b4⟩; have n4 : Cell2 w4 w.heap.size ∧ w4.cell? ⟨w.heap.size + 1, 0, none⟩ = some (.int .u8 32) ∧ Below w.heap.size w w4 := (by subst hw1; exact NW.out _ _ _ _ (bb3.trans (b4.mono bb3.size))); obtain ⟨c4, _, bw4⟩ := n4; obtain ⟨x1, y1, e0, e1, e2, e3⟩ := c4.cells; have hcl := HC.out w4 (HB.out.below bw4))
  have r1 := c4.stored (.string ⟨#[]⟩) (.string ⟨#[]⟩)
  exact bodyPost_ret (by rw [results_cell_tmp rfl]; simp [asAddr, run_loadVar_row _ _ _ 59 _ _ _ r1 Tryz.underlying59 rfl info28]) rfl ⟨rfl, (bw4.setCell (Nat.le_refl _) _).setCell (Nat.le_refl _) _⟩


theorem alloc1 (w : World) (z : Value) : (w.alloc (.cells #[z] 5 (1, 2))).cell? ⟨w.heap.size, 0, none⟩ = some z ∧ Below w.heap.size w (w.alloc (.cells #[z] 5 (1, 2))) := by
  have hn := heap_alloc_new w (.cells #[z] 5 (1, 2))
  refine ⟨?_, (Below.refl _ _).alloc (Nat.le_refl _) _⟩
  simp only [World.cell?]
  rw [hn]
  rfl

set_option maxHeartbeats 2000000 in
set_option maxRecDepth 20000 in
theorem first_nokey (b o cap : Nat) (bs : List UInt8) (w : World) (hB : BytesAt w b o bs) (hcap : bs.length ≤ cap) (hbig : cap ≤ 9223372036854775807) (hlen : bs.length ≤ 281474976710656) (ht : Vs w) (M m : Nat) (hM : (digs bs).length + (m + 1 + 1) = M) (hMn : M ≤ bs.length) (hnv : nval ⟨(digs bs).toArray⟩ = some (M : Int)) (hp : plen (m + 1 + 1) = M) (hl : bs.getD (M - 1) 0 = 10) (hx : pos ((bs.drop ((digs bs).length + 1)).take m) 61 = none) :
    Calls Tryz.prog 118 #[.slice (some ⟨b, o, none⟩) bs.length cap] w fun e w' => e = .returned (.tuple #[.agg #[.string ⟨#[]⟩, .string ⟨#[]⟩], .int .i64 0]) ∧ Below w.heap.size w w' := by
  have hd := digs_le bs
  have hD : Hid (BytesAt w b o (digs bs)) := digs_at hB
  have HB : Hid (BytesAt w b o bs) := hB
  have HV : Hid (Vs w) := ht
  have q0 : ∀ W g, BytesAt W b o bs → W.cell? ⟨g, 0, none⟩ = some (.int .u8 32) → Calls Tryz.prog 100 #[.slice (some ⟨b, o, none⟩) bs.length cap, .slice (some ⟨g, 0, none⟩) 1 1] W fun e w' => (∃ v fl, e = .returned (.tuple #[.slice (some ⟨b, o, none⟩) (digs bs).length cap, v, .bool fl])) ∧ (w' = W ∨ w' = W.drew) := fun W g h1 h2 => cut32 W b o cap bs g 1 h1 h2 hcap hbig
  have qn : ∀ W, Vs W → Calls Tryz.prog 115 #[.string ⟨(digs bs).toArray⟩] W fun e w' => e = .returned (.tuple #[.int .i64 (M : Int), .int .i64 0]) ∧ Below W.heap.size W w' := fun W hv => by
    refine (number_w ⟨(digs bs).toArray⟩ (by show (digs bs).toArray.size ≤ _; simp; omega) W hv).mono ?_
    rintro e w' ⟨he, hb⟩
    rw [hnv] at he
    exact ⟨he, hb⟩
  have qc : ∀ W, BytesAt W b o (digs bs) → (convert 22 9 (.slice (some ⟨b, o, none⟩) (digs bs).length cap)).run Tryz.prog W = .ok (.string ⟨(digs bs).toArray⟩) W := fun W h => conv_str W b o cap (digs bs) h
  have NW : Hid (∀ (x y z : Value) (W : World), Below ((w.alloc (.cells #[x, y] 59)).alloc (.cells #[z] 5 (1, 2))).heap.size ((w.alloc (.cells #[x, y] 59)).alloc (.cells #[z] 5 (1, 2))) W → Cell2 W w.heap.size ∧ W.cell? ⟨w.heap.size + 1, 0, none⟩ = some z ∧ Below w.heap.size w W) := fun x y z W h => two_new w W x y z h
  have rm : ∀ W : World, (Instr.sliceAt 22 (.slice (some ⟨b, o, none⟩) bs.length cap) (some (.int .i64 ((digs bs).length : Int))) (some (.int .i64 (M : Int))) none).run Tryz.prog W = .ok (.slice (some ⟨b, o + (digs bs).length, none⟩) (m + 1 + 1) (cap - (digs bs).length)) W := fun W => by
    have := run_mid W b o bs.length cap (digs bs).length M (by omega) (by omega) (by omega)
    rw [this, show M - (digs bs).length = m + 1 + 1 by omega]
  have HL : Hid (∀ W, Vs W → Calls Tryz.prog 37 #[.int .i64 ((m + 1 + 1 : Nat) : Int)] W fun ev w' => ev = .returned (.int .i64 (plen (m + 1 + 1))) ∧ Below W.heap.size W w') := fun W hv => length_w (m + 1 + 1) (by omega) W hv
  have z0 : ¬ (M : Int) ≤ ((digs bs).length : Int) := by omega
  have z1 : (M : Int) ≤ (bs.length : Int) := by omega
  have hlb : m ≤ 281474976710656 := by omega
  rw [hp] at HL
  have HC : Hid (∀ W, BytesAt W b o bs → W.cell? ⟨b, o + (digs bs).length + (m + 1), none⟩ = some (.int .u8 10)) := fun W h => by
    have := h (M - 1) (by omega)
    rw [hl] at this
    rwa [show o + (M - 1) = o + (digs bs).length + (m + 1) by omega] at this
  have HM : Hid (∀ W, BytesAt W b o bs → BytesAt W b (o + (digs bs).length + 1) ((bs.drop ((digs bs).length + 1)).take m)) := fun W h => by
    have := (h.drop ((digs bs).length + 1)).take m
    rwa [← Nat.add_assoc] at this
  have hml : ((bs.drop ((digs bs).length + 1)).take m).length = m := by simp; omega
  have rs : ∀ W : World, (Instr.sliceAt 22 (.slice (some ⟨b, o + (digs bs).length, none⟩) (m + 1 + 1) (cap - (digs bs).length)) (some (.int .i64 1)) (some (.int .i64 ((m : Int) + 1))) none).run Tryz.prog W = .ok (.slice (some ⟨b, o + (digs bs).length + 1, none⟩) m (cap - (digs bs).length - 1)) W := fun W => by
    have := run_mid W b (o + (digs bs).length) (m + 1 + 1) (cap - (digs bs).length) 1 (m + 1) (by omega) (by omega) (by omega)
    rw [show ((m + 1 : Nat) : Int) = (m : Int) + 1 by omega] at this
    simpa using this
  have cv2 : ∀ W : World, (convert 22 22 (.slice (some ⟨W.heap.size, 0, none⟩) 1 1)).run Tryz.prog (W.alloc (.cells #[.int .u8 61] 5)) = .ok (.slice (some ⟨W.heap.size, 0, none⟩) 1 1) (W.alloc (.cells #[.int .u8 61] 5 (1, 2))) := fun W => Lib.run_convert_bytes_const (P := Tryz.prog) W 22 5 #[.int .u8 61] 1 1 Tryz.underlying22 Tryz.underlying5
  have hcp : m + 1 + 1 ≤ cap - (digs bs).length := by omega
  have HX : Hid (m + 1 + 1 ≤ cap - (digs bs).length) := hcp
  have HQ : Hid (∀ W g, BytesAt W b (o + (digs bs).length + 1) ((bs.drop ((digs bs).length + 1)).take m) → W.cell? ⟨g, 0, none⟩ = some (.int .u8 61) → Calls Tryz.prog 100 #[.slice (some ⟨b, o + (digs bs).length + 1, none⟩) m (cap - (digs bs).length - 1), .slice (some ⟨g, 0, none⟩) 1 1] W fun e w' => e = .returned (.tuple #[.slice (some ⟨b, o + (digs bs).length + 1, none⟩) m (cap - (digs bs).length - 1), .slice none 0 0, .bool false]) ∧ W = w') := fun W g h1 h2 => by
    have := cut_none W b (o + (digs bs).length + 1) (cap - (digs bs).length - 1) _ g 61 1 h1 h2 hx
    rwa [hml] at this
  generalize hds : (⟨(digs bs).toArray⟩ : ByteArray) = S at *
  clear hds hB ht hnv
  generalize hdl : (digs bs).length = D at *
  generalize hbl : bs.length = n at *
  clear hM hp hMn hl hx hml
  generalize (bs.drop (D + 1)).take m = mid at *
  have QC : Hid (∀ W, BytesAt W b o (digs bs) → (convert 22 9 (.slice (some ⟨b, o, none⟩) D cap)).run Tryz.prog W = .ok (.string S) W) := qc
  clear qc hdl hbl
  have cv1 : (convert 22 22 (.slice (some ⟨w.heap.size + 1, 0, none⟩) 1 1)).run Tryz.prog ((w.alloc (.cells #[.string ⟨#[]⟩, .string ⟨#[]⟩] 59)).alloc (.cells #[.int .u8 32] 5)) = .ok (.slice (some ⟨w.heap.size + 1, 0, none⟩) 1 1) ((w.alloc (.cells #[.string ⟨#[]⟩, .string ⟨#[]⟩] 59)).alloc (.cells #[.int .u8 32] 5 (1, 2))) := by
    have := Lib.run_convert_bytes_const (P := Tryz.prog) (w.alloc (.cells #[.string ⟨#[]⟩, .string ⟨#[]⟩] 59)) 22 5 #[.int .u8 32] 1 1 Tryz.underlying22 Tryz.underlying5
    simpa using this
  go_enter Tryz.func118, Tryz.ntmps118
  go_wp2_with fail
  have b0 := NW.out (.string ⟨#[]⟩) (.string ⟨#[]⟩) (.int .u8 32) _ (Below.refl _ _)
  generalize hw1 : ((w.alloc (.cells #[.string ⟨#[]⟩, .string ⟨#[]⟩] 59)).alloc (.cells #[.int .u8 32] 5 (1, 2))) = w1 at *
  refine (q0 w1 _ (HB.out.below b0.2.2) b0.2.1).mono ?_
  rintro e w2 ⟨⟨v, fl, rfl⟩, hw2⟩
  have b2 : Below w1.heap.size w1 w2 := by
    rcases hw2 with rfl | rfl
    · exact Below.refl _ _
    · exact (Below.refl _ _).drew
  clear hw2
  have bw2 : Below w.heap.size w w2 := by subst hw1; exact (NW.out _ _ _ _ b2).2.2
  have qc2 := QC.out w2 (hD.out.below bw2)
  go_wp2_with fail
  refine (qn w2 (HV.out.below bw2)).mono ?_
  rintro e w3 ⟨rfl, b3⟩
  have bb3 : Below w1.heap.size w1 w3 := b2.trans (b3.mono b2.size)
  have n3 : Cell2 w3 w.heap.size ∧ w3.cell? ⟨w.heap.size + 1, 0, none⟩ = some (.int .u8 32) ∧ Below w.heap.size w w3 := by subst hw1; exact NW.out _ _ _ _ bb3
  obtain ⟨c3, _, bw3⟩ := n3
  obtain ⟨x0, y0, f0, f1, f2, f3⟩ := c3.cells
  have hq := HL.out w3 (HV.out.below bw3)
  go_wp2_with (go_at_call 37; refine hq.mono ?_; rintro e w4 ⟨rfl, b4⟩; have n4 : Cell2 w4 w.heap.size ∧ w4.cell? ⟨w.heap.size + 1, 0, none⟩ = some (.int .u8 32) ∧ Below w.heap.size w w4 := (by subst hw1; exact NW.out _ _ _ _ (bb3.trans (b4.mono bb3.size))); obtain ⟨c4, _, bw4⟩ := n4; obtain ⟨x1, y1, e0, e1, e2, e3⟩ := c4.cells; have hcl := HC.out w4 (HB.out.below bw4))
  have k5 := alloc1 w4 (.int .u8 61)
  generalize hw5 : w4.alloc (.cells #[.int .u8 61] 5 (1, 2)) = w5 at *
  have bw5 : Below w.heap.size w w5 := bw4.trans (k5.2.mono bw4.size)
  have m5 := HM.out w5 (HB.out.below bw5)
  refine (HQ.out w5 _ m5 k5.1).mono ?_
  rintro e w6 ⟨rfl, rfl⟩
  have c5 : Cell2 w5 w.heap.size := c4.below k5.2
  obtain ⟨x2, y2, d0, d1, d2, d3⟩ := c5.cells
  go_wp2
  have r1 := c5.stored (.string ⟨#[]⟩) (.string ⟨#[]⟩)
  exact bodyPost_ret (by rw [results_cell_tmp rfl]; simp [asAddr, run_loadVar_row _ _ _ 59 _ _ _ r1 Tryz.underlying59 rfl info28]) rfl ⟨rfl, (bw5.setCell (Nat.le_refl _) _).setCell (Nat.le_refl _) _⟩

set_option maxHeartbeats 2000000 in
set_option maxRecDepth 20000 in
theorem first_yes (b o cap : Nat) (bs : List UInt8) (w : World) (hB : BytesAt w b o bs) (hcap : bs.length ≤ cap) (hbig : cap ≤ 9223372036854775807) (hlen : bs.length ≤ 281474976710656) (ht : Vs w) (M m : Nat) (hM : (digs bs).length + (m + 1 + 1) = M) (hMn : M ≤ bs.length) (hnv : nval ⟨(digs bs).toArray⟩ = some (M : Int)) (hp : plen (m + 1 + 1) = M) (hl : bs.getD (M - 1) 0 = 10) (i : Nat) (hx : pos ((bs.drop ((digs bs).length + 1)).take m) 61 = some i) :
    Calls Tryz.prog 118 #[.slice (some ⟨b, o, none⟩) bs.length cap] w fun e w' => e = .returned (.tuple #[.agg #[.string ⟨(((bs.drop ((digs bs).length + 1)).take m).take i).toArray⟩, .string ⟨(((bs.drop ((digs bs).length + 1)).take m).drop (i + 1)).toArray⟩], .int .i64 M]) ∧ Below w.heap.size w w' := by
  have hd := digs_le bs
  have hD : Hid (BytesAt w b o (digs bs)) := digs_at hB
  have HB : Hid (BytesAt w b o bs) := hB
  have HV : Hid (Vs w) := ht
  have q0 : ∀ W g, BytesAt W b o bs → W.cell? ⟨g, 0, none⟩ = some (.int .u8 32) → Calls Tryz.prog 100 #[.slice (some ⟨b, o, none⟩) bs.length cap, .slice (some ⟨g, 0, none⟩) 1 1] W fun e w' => (∃ v fl, e = .returned (.tuple #[.slice (some ⟨b, o, none⟩) (digs bs).length cap, v, .bool fl])) ∧ (w' = W ∨ w' = W.drew) := fun W g h1 h2 => cut32 W b o cap bs g 1 h1 h2 hcap hbig
  have qn : ∀ W, Vs W → Calls Tryz.prog 115 #[.string ⟨(digs bs).toArray⟩] W fun e w' => e = .returned (.tuple #[.int .i64 (M : Int), .int .i64 0]) ∧ Below W.heap.size W w' := fun W hv => by
    refine (number_w ⟨(digs bs).toArray⟩ (by show (digs bs).toArray.size ≤ _; simp; omega) W hv).mono ?_
    rintro e w' ⟨he, hb⟩
    rw [hnv] at he
    exact ⟨he, hb⟩
  have qc : ∀ W, BytesAt W b o (digs bs) → (convert 22 9 (.slice (some ⟨b, o, none⟩) (digs bs).length cap)).run Tryz.prog W = .ok (.string ⟨(digs bs).toArray⟩) W := fun W h => conv_str W b o cap (digs bs) h
  have NW : Hid (∀ (x y z : Value) (W : World), Below ((w.alloc (.cells #[x, y] 59)).alloc (.cells #[z] 5 (1, 2))).heap.size ((w.alloc (.cells #[x, y] 59)).alloc (.cells #[z] 5 (1, 2))) W → Cell2 W w.heap.size ∧ W.cell? ⟨w.heap.size + 1, 0, none⟩ = some z ∧ Below w.heap.size w W) := fun x y z W h => two_new w W x y z h
  have rm : ∀ W : World, (Instr.sliceAt 22 (.slice (some ⟨b, o, none⟩) bs.length cap) (some (.int .i64 ((digs bs).length : Int))) (some (.int .i64 (M : Int))) none).run Tryz.prog W = .ok (.slice (some ⟨b, o + (digs bs).length, none⟩) (m + 1 + 1) (cap - (digs bs).length)) W := fun W => by
    have := run_mid W b o bs.length cap (digs bs).length M (by omega) (by omega) (by omega)
    rw [this, show M - (digs bs).length = m + 1 + 1 by omega]
  have HL : Hid (∀ W, Vs W → Calls Tryz.prog 37 #[.int .i64 ((m + 1 + 1 : Nat) : Int)] W fun ev w' => ev = .returned (.int .i64 (plen (m + 1 + 1))) ∧ Below W.heap.size W w') := fun W hv => length_w (m + 1 + 1) (by omega) W hv
  have z0 : ¬ (M : Int) ≤ ((digs bs).length : Int) := by omega
  have z1 : (M : Int) ≤ (bs.length : Int) := by omega
  have hlb : m ≤ 281474976710656 := by omega
  rw [hp] at HL
  have HC : Hid (∀ W, BytesAt W b o bs → W.cell? ⟨b, o + (digs bs).length + (m + 1), none⟩ = some (.int .u8 10)) := fun W h => by
    have := h (M - 1) (by omega)
    rw [hl] at this
    rwa [show o + (M - 1) = o + (digs bs).length + (m + 1) by omega] at this
  have HM : Hid (∀ W, BytesAt W b o bs → BytesAt W b (o + (digs bs).length + 1) ((bs.drop ((digs bs).length + 1)).take m)) := fun W h => by
    have := (h.drop ((digs bs).length + 1)).take m
    rwa [← Nat.add_assoc] at this
  have hml : ((bs.drop ((digs bs).length + 1)).take m).length = m := by simp; omega
  have rs : ∀ W : World, (Instr.sliceAt 22 (.slice (some ⟨b, o + (digs bs).length, none⟩) (m + 1 + 1) (cap - (digs bs).length)) (some (.int .i64 1)) (some (.int .i64 ((m : Int) + 1))) none).run Tryz.prog W = .ok (.slice (some ⟨b, o + (digs bs).length + 1, none⟩) m (cap - (digs bs).length - 1)) W := fun W => by
    have := run_mid W b (o + (digs bs).length) (m + 1 + 1) (cap - (digs bs).length) 1 (m + 1) (by omega) (by omega) (by omega)
    rw [show ((m + 1 : Nat) : Int) = (m : Int) + 1 by omega] at this
    simpa using this
  have cv2 : ∀ W : World, (convert 22 22 (.slice (some ⟨W.heap.size, 0, none⟩) 1 1)).run Tryz.prog (W.alloc (.cells #[.int .u8 61] 5)) = .ok (.slice (some ⟨W.heap.size, 0, none⟩) 1 1) (W.alloc (.cells #[.int .u8 61] 5 (1, 2))) := fun W => Lib.run_convert_bytes_const (P := Tryz.prog) W 22 5 #[.int .u8 61] 1 1 Tryz.underlying22 Tryz.underlying5
  have hcp : m + 1 + 1 ≤ cap - (digs bs).length := by omega
  have HX : Hid (m + 1 + 1 ≤ cap - (digs bs).length) := hcp
  obtain ⟨_, hi⟩ := pos_some hx
  have HQ : Hid (∀ W g, BytesAt W b (o + (digs bs).length + 1) ((bs.drop ((digs bs).length + 1)).take m) → W.cell? ⟨g, 0, none⟩ = some (.int .u8 61) → Calls Tryz.prog 100 #[.slice (some ⟨b, o + (digs bs).length + 1, none⟩) m (cap - (digs bs).length - 1), .slice (some ⟨g, 0, none⟩) 1 1] W fun e w' => e = .returned (.tuple #[.slice (some ⟨b, o + (digs bs).length + 1, none⟩) i (cap - (digs bs).length - 1), .slice (some ⟨b, o + (digs bs).length + 1 + (i + 1), none⟩) (m - (i + 1)) (cap - (digs bs).length - 1 - (i + 1)), .bool true]) ∧ (w' = W ∨ w' = W.drew)) := fun W g h1 h2 => by
    have := cut_some W b (o + (digs bs).length + 1) (cap - (digs bs).length - 1) _ g 61 1 h1 h2 i hx (by omega) (by omega)
    rw [hml] at this hi
    rwa [show lowAt b (o + (digs bs).length + 1) (cap - (digs bs).length - 1) (i + 1) = some ⟨b, o + (digs bs).length + 1 + (i + 1), none⟩ from if_neg (by omega)] at this
  have KC : Hid (∀ W, BytesAt W b (o + (digs bs).length + 1) ((bs.drop ((digs bs).length + 1)).take m) → (convert 22 9 (.slice (some ⟨b, o + (digs bs).length + 1, none⟩) i (cap - (digs bs).length - 1))).run Tryz.prog W = .ok (.string ⟨(((bs.drop ((digs bs).length + 1)).take m).take i).toArray⟩) W) := fun W h => by
    have := conv_str W b (o + (digs bs).length + 1) (cap - (digs bs).length - 1) _ (h.take i)
    rwa [show (((bs.drop ((digs bs).length + 1)).take m).take i).length = i by rw [List.length_take]; omega] at this
  have VC : Hid (∀ W, BytesAt W b (o + (digs bs).length + 1) ((bs.drop ((digs bs).length + 1)).take m) → (convert 22 9 (.slice (some ⟨b, o + (digs bs).length + 1 + (i + 1), none⟩) (m - (i + 1)) (cap - (digs bs).length - 1 - (i + 1)))).run Tryz.prog W = .ok (.string ⟨(((bs.drop ((digs bs).length + 1)).take m).drop (i + 1)).toArray⟩) W) := fun W h => by
    have := conv_str W b (o + (digs bs).length + 1 + (i + 1)) (cap - (digs bs).length - 1 - (i + 1)) _ (h.drop (i + 1))
    rwa [show (((bs.drop ((digs bs).length + 1)).take m).drop (i + 1)).length = m - (i + 1) by rw [List.length_drop, hml]] at this
  generalize hds : (⟨(digs bs).toArray⟩ : ByteArray) = S at *
  clear hds hB ht hnv
  generalize hdl : (digs bs).length = D at *
  generalize hbl : bs.length = n at *
  clear hM hp hMn hl hx hml hi
  generalize (bs.drop (D + 1)).take m = mid at *
  generalize (⟨(mid.take i).toArray⟩ : ByteArray) = Ks at *
  generalize (⟨(mid.drop (i + 1)).toArray⟩ : ByteArray) = Vl at *
  have QC : Hid (∀ W, BytesAt W b o (digs bs) → (convert 22 9 (.slice (some ⟨b, o, none⟩) D cap)).run Tryz.prog W = .ok (.string S) W) := qc
  clear qc hdl hbl
  have cv1 : (convert 22 22 (.slice (some ⟨w.heap.size + 1, 0, none⟩) 1 1)).run Tryz.prog ((w.alloc (.cells #[.string ⟨#[]⟩, .string ⟨#[]⟩] 59)).alloc (.cells #[.int .u8 32] 5)) = .ok (.slice (some ⟨w.heap.size + 1, 0, none⟩) 1 1) ((w.alloc (.cells #[.string ⟨#[]⟩, .string ⟨#[]⟩] 59)).alloc (.cells #[.int .u8 32] 5 (1, 2))) := by
    have := Lib.run_convert_bytes_const (P := Tryz.prog) (w.alloc (.cells #[.string ⟨#[]⟩, .string ⟨#[]⟩] 59)) 22 5 #[.int .u8 32] 1 1 Tryz.underlying22 Tryz.underlying5
    simpa using this
  go_enter Tryz.func118, Tryz.ntmps118
  go_wp2_with fail
  have b0 := NW.out (.string ⟨#[]⟩) (.string ⟨#[]⟩) (.int .u8 32) _ (Below.refl _ _)
  generalize hw1 : ((w.alloc (.cells #[.string ⟨#[]⟩, .string ⟨#[]⟩] 59)).alloc (.cells #[.int .u8 32] 5 (1, 2))) = w1 at *
  refine (q0 w1 _ (HB.out.below b0.2.2) b0.2.1).mono ?_
  rintro e w2 ⟨⟨v, fl, rfl⟩, hw2⟩
  have b2 : Below w1.heap.size w1 w2 := by
    rcases hw2 with rfl | rfl
    · exact Below.refl _ _
    · exact (Below.refl _ _).drew
  clear hw2
  have bw2 : Below w.heap.size w w2 := by subst hw1; exact (NW.out _ _ _ _ b2).2.2
  have qc2 := QC.out w2 (hD.out.below bw2)
  go_wp2_with fail
  refine (qn w2 (HV.out.below bw2)).mono ?_
  rintro e w3 ⟨rfl, b3⟩
  have bb3 : Below w1.heap.size w1 w3 := b2.trans (b3.mono b2.size)
  have n3 : Cell2 w3 w.heap.size ∧ w3.cell? ⟨w.heap.size + 1, 0, none⟩ = some (.int .u8 32) ∧ Below w.heap.size w w3 := by subst hw1; exact NW.out _ _ _ _ bb3
  obtain ⟨c3, _, bw3⟩ := n3
  obtain ⟨x0, y0, f0, f1, f2, f3⟩ := c3.cells
  have hq := HL.out w3 (HV.out.below bw3)
  go_wp2_with (go_at_call 37; refine hq.mono ?_; rintro e w4 ⟨rfl, b4⟩; have n4 : Cell2 w4 w.heap.size ∧ w4.cell? ⟨w.heap.size + 1, 0, none⟩ = some (.int .u8 32) ∧ Below w.heap.size w w4 := (by subst hw1; exact NW.out _ _ _ _ (bb3.trans (b4.mono bb3.size))); obtain ⟨c4, _, bw4⟩ := n4; obtain ⟨x1, y1, e0, e1, e2, e3⟩ := c4.cells; have hcl := HC.out w4 (HB.out.below bw4))
  have k5 := alloc1 w4 (.int .u8 61)
  generalize hw5 : w4.alloc (.cells #[.int .u8 61] 5 (1, 2)) = w5 at *
  have bw5 : Below w.heap.size w w5 := bw4.trans (k5.2.mono bw4.size)
  have m5 := HM.out w5 (HB.out.below bw5)
  refine (HQ.out w5 _ m5 k5.1).mono ?_
  rintro e w6 ⟨rfl, hw6⟩
  have b6 : Below w5.heap.size w5 w6 := by
    rcases hw6 with rfl | rfl
    · exact Below.refl _ _
    · exact (Below.refl _ _).drew
  have c5 : Cell2 w5 w.heap.size := c4.below k5.2
  have c6 : Cell2 w6 w.heap.size := c5.below b6
  have bw6 : Below w.heap.size w w6 := bw5.trans (b6.mono bw5.size)
  have kc := KC.out w6 (HM.out w6 (HB.out.below bw6))
  have vc := VC.out w6 (HM.out w6 (HB.out.below bw6))
  obtain ⟨x2, y2, d0, d1, d2, d3⟩ := c6.cells
  clear hw6
  go_wp2
  have r1 := c6.stored (.string Ks) (.string Vl)
  exact bodyPost_ret (by rw [results_cell_tmp rfl]; simp [asAddr, run_loadVar_row _ _ _ 59 _ _ _ r1 Tryz.underlying59 rfl info28]) rfl ⟨rfl, (bw6.setCell (Nat.le_refl _) _).setCell (Nat.le_refl _) _⟩

end Go.Proofs.YtnmmaedngdibeaaGreatDoor.X

namespace Go.Proofs.YtnmmaedngdibeaaGreatDoor.X
open Go.RowKit
set_option linter.unusedVariables false
set_option linter.unusedSimpArgs false

theorem indexByte_get (c : UInt8) : ∀ (l : List UInt8) (i : Nat), Lib.indexByte l c = i → l.getD i 0 = c ∧ ∀ j, j < i → ¬ l.getD j 0 = c
  | [], i, h => by simp [Lib.indexByte] at h
  | b :: l, i, h => by
    unfold Lib.indexByte at h
    split at h
    · rename_i hb
      obtain rfl : i = 0 := by omega
      exact ⟨by simpa using hb, fun j hj => absurd hj (Nat.not_lt_zero _)⟩
    · rename_i hb
      split at h
      · omega
      · rename_i hn
        have hg := indexByte_ge c l
        obtain ⟨k, rfl⟩ : ∃ k, i = k + 1 := ⟨i - 1, by
          have : ¬ Lib.indexByte l c = -1 := by simpa using hn
          omega⟩
        have ih := indexByte_get c l k (by omega)
        refine ⟨by simpa using ih.1, fun j hj => ?_⟩
        cases j with
        | zero => simpa using hb
        | succ j => simpa using ih.2 j (by omega)

theorem pos_get {bs : List UInt8} {c : UInt8} {i : Nat} (h : pos bs c = some i) : bs.getD i 0 = c ∧ ∀ j, j < i → ¬ bs.getD j 0 = c := indexByte_get c bs i (pos_some h).1

/-- behind the digits stands a blank -/
theorem digs_blank {bs : List UInt8} (h : (digs bs).length < bs.length) : bs.getD (digs bs).length 0 = 32 := by
  unfold digs at h ⊢
  cases hp : pos bs 32 with
  | none => rw [hp] at h; simp at h
  | some i =>
    have := pos_some hp
    have hl : (bs.take i).length = i := by simp; omega
    simp only [hl]
    exact (pos_get hp).1

theorem first_w (b o cap : Nat) (bs : List UInt8) (w : World) (hB : BytesAt w b o bs) (hcap : bs.length ≤ cap) (hbig : cap ≤ 9223372036854775807) (hlen : bs.length ≤ 281474976710656) (ht : Vs w) :
    Calls Tryz.prog 118 #[.slice (some ⟨b, o, none⟩) bs.length cap] w fun e w' => e = .returned (.tuple #[.agg #[.string ⟨(firstP bs).1.toArray⟩, .string ⟨(firstP bs).2.1.toArray⟩], .int .i64 ((firstP bs).2.2 : Int)]) ∧ Below w.heap.size w w' := by
  have hd := digs_le bs
  unfold firstP
  cases hnv : nval ⟨(digs bs).toArray⟩ with
  | none => exact first_nan b o cap bs w hB hcap hbig hlen ht hnv
  | some z =>
    simp only
    by_cases h1 : z ≤ (digs bs).length
    · rw [if_pos (.inl h1)]
      exact first_low b o cap bs w hB hcap hbig hlen ht z hnv h1
    by_cases h2 : (bs.length : Int) < z
    · rw [if_pos (.inr h2)]
      exact first_high b o cap bs w hB hcap hbig hlen ht z hnv h1 h2
    rw [if_neg (by omega)]
    obtain ⟨M, rfl⟩ : ∃ M : Nat, z = M := ⟨z.toNat, by omega⟩
    rw [show ((M : Int)).toNat = M by omega]
    obtain ⟨l, hl⟩ : ∃ l, (digs bs).length + (l + 1) = M := ⟨M - (digs bs).length - 1, by omega⟩
    have e1 : M - (digs bs).length = l + 1 := by omega
    rw [e1]
    by_cases h3 : plen (l + 1) = M
    · by_cases h4 : bs.getD (M - 1) 0 = 10
      · rw [if_neg (fun h => h.elim (fun h => h h3) (fun h => h h4))]
        have hl0 : l ≠ 0 := by
          rintro rfl
          have := digs_blank (bs := bs) (by omega)
          rw [show M - 1 = (digs bs).length by omega, this] at h4
          exact absurd h4 (by decide)
        obtain ⟨m, rfl⟩ : ∃ m, l = m + 1 := ⟨l - 1, by omega⟩
        rw [show m + 1 + 1 - 2 = m by omega]
        cases hx : pos ((bs.drop ((digs bs).length + 1)).take m) 61 with
        | none => exact first_nokey b o cap bs w hB hcap hbig hlen ht M m hl (by omega) hnv h3 h4 hx
        | some i => exact first_yes b o cap bs w hB hcap hbig hlen ht M m hl (by omega) hnv h3 h4 i hx
      · rw [if_pos (.inr h4)]
        exact first_last b o cap bs w hB hcap hbig hlen ht M l hl (by omega) hnv h3 h4
    · rw [if_pos (.inl h3)]
      exact first_len b o cap bs w hB hcap hbig hlen ht M l hl (by omega) hnv h3

theorem firstP_len (bs : List UInt8) : (firstP bs).2.2 ≤ bs.length := by
  unfold firstP
  split
  · simp
  · split
    · simp
    · split
      · simp
      · split
        · simp
        · simp only; omega

theorem firstP_sizes (bs : List UInt8) : (firstP bs).1.length ≤ bs.length ∧ (firstP bs).2.1.length ≤ bs.length := by
  unfold firstP
  split
  · simp
  · split
    · simp
    · split
      · simp
      · split
        · simp
        · simp only [List.length_take, List.length_drop]
          omega

end Go.Proofs.YtnmmaedngdibeaaGreatDoor.X

namespace Go.Proofs.YtnmmaedngdibeaaGreatDoor.X
open Go.RowKit
set_option linter.unusedVariables false
set_option linter.unusedSimpArgs false

abbrev Rec := ByteArray × ByteArray

def recCells (rs : List Rec) : List Value := rs.flatMap fun r => [.string r.1, .string r.2]

theorem recCells_snoc (rs : List Rec) (k v : ByteArray) : recCells rs ++ [.string k, .string v] = recCells (rs ++ [(k, v)]) := by simp [recCells]

def fk (bs : List UInt8) : ByteArray := ⟨(firstP bs).1.toArray⟩
def fv (bs : List UInt8) : ByteArray := ⟨(firstP bs).2.1.toArray⟩
def fn (bs : List UInt8) : Nat := (firstP bs).2.2

/-- the records that bytes are -/
def dec : Nat → List Rec → List UInt8 → List Rec × Int
  | 0, acc, bs => (acc, 0)
  | f + 1, acc, bs =>
    if bs = [] then (acc, 0)
    else if fn bs = 0 then ([], 70)
    else if acc.length = 64 then ([], 2)
    else if ¬ chk (fk bs) (fv bs) = 0 then ([], chk (fk bs) (fv bs))
    else dec f (acc ++ [(fk bs, fv bs)]) (bs.drop (fn bs))

theorem dec_nil (f : Nat) (acc : List Rec) : dec f acc [] = (acc, 0) := by cases f <;> simp [dec]

theorem info28c : (Tryz.prog.info? 59).map (fun i => (i.zero, i.size, i.bytes)) = some (some (.agg #[.string ⟨#[]⟩, .string ⟨#[]⟩]), 2, 32) := by kernel_rfl

theorem alloc2 (w W : World) (a b : Value) (hb : Below (w.alloc (.cells #[a, b] 59)).heap.size (w.alloc (.cells #[a, b] 59)) W) :
    W.cell? ⟨w.heap.size, 0, none⟩ = some a ∧ W.cell? ⟨w.heap.size, 1, none⟩ = some b ∧ Below w.heap.size w W := by
  have hlt : w.heap.size < (w.alloc (.cells #[a, b] 59)).heap.size := by simp
  refine ⟨(hb.cell (p := ⟨w.heap.size, 0, none⟩) hlt).trans (by simp), (hb.cell (p := ⟨w.heap.size, 1, none⟩) hlt).trans (by simp), ?_⟩
  exact ((Below.refl w.heap.size w).alloc (Nat.le_refl _) _).trans (hb.mono (Nat.le_of_lt hlt))

theorem two_cells (w : World) (x y : Value) : ∀ j u, ([x, y] : List Value)[j]? = some u → (w.alloc (.cells #[x, y] 59)).cell? ((⟨w.heap.size, 0, none⟩ : Addr).add j) = some u := by
  intro j u h
  match j, h with
  | 0, h => cases h; simp [Addr.add]
  | 1, h => cases h; simp [Addr.add]
  | j + 2, h => simp at h

theorem own_below {e size B : Nat} {w w' : World} {v : Value} {n : Nat} {xs : List Value} (h : w.ownsRow B e size v n xs) (hb : Below w.heap.size w w') : w'.ownsRow B e size v n xs :=
  h.kept (row := none) ⟨hb.os, hb.tape, hb.output, hb.size, fun k hk _ => hb.block k hk⟩ (by cases v.ownBlock <;> simp)

theorem own_slice {e size B : Nat} {w : World} {v : Value} {n : Nat} {xs : List Value} (h : w.ownsRow B e size v n xs) : ∃ ad cap, v = .slice ad n cap ∧ n ≤ cap ∧ cap ≤ maxLen := by
  rcases h.2 with ⟨hv, h0⟩ | ⟨g, cap, cur, hv, _, _, hc, hm, _⟩
  · subst h0; exact ⟨none, 0, hv, Nat.le_refl _, by decide⟩
  · exact ⟨_, cap, hv, hc, hm⟩

theorem fk_size (bs : List UInt8) : (fk bs).size ≤ bs.length ∧ (fv bs).size ≤ bs.length := by
  have := firstP_sizes bs
  simpa [fk, fv, ByteArray.size] using this

set_option maxRecDepth 20000 in
set_option maxHeartbeats 4000000 in
theorem decode_w (b o cap : Nat) (bs : List UInt8) (w : World) (hB : BytesAt w b o bs) (hcap : bs.length ≤ cap) (hbig : cap ≤ 9223372036854775807) (hl : bs.length < 4294967281) (ht : Vs w) :
    Calls Tryz.prog 101 #[.slice (some ⟨b, o, none⟩) bs.length cap] w fun e w' => ∃ v, e = .returned (.tuple #[v, .int .i64 (dec bs.length [] bs).2]) ∧ w'.ownsRow w.heap.size 59 2 v (dec bs.length [] bs).1.length (recCells (dec bs.length [] bs).1) ∧ Below w.heap.size w w' := by
  have HB : Hid (BytesAt w b o bs) := hB
  have HV : Hid (Vs w) := ht
  obtain ⟨i0, hi, hz0, hz1, hz2⟩ := info_parts info28c
  clear hB ht
  go_enter Tryz.func101, Tryz.ntmps101
  go_wp2
  go_loopw [0, 4] (fun t0 t4 wr => ∃ (p : Nat) (ad : Option Addr) (acc : List Rec) (f : Nat), p ≤ bs.length ∧ t0 = .slice ad (bs.length - p) (cap - p) ∧ (p < bs.length → ad = some ⟨b, o + p, none⟩) ∧ wr.ownsRow w.heap.size 59 2 t4 acc.length (recCells acc) ∧ acc.length ≤ 64 ∧ Below w.heap.size w wr ∧ Hid (dec bs.length [] bs = dec f acc (bs.drop p)) ∧ bs.length - p ≤ f)
    (fun t _ _ => match t with | .slice _ n _ => n | _ => 0)
  case atStart => exact ⟨0, _, [], bs.length, Nat.zero_le _, rfl, fun _ => rfl, World.ownsRow_nil _ _ _ _, by simp, Below.refl _ _, rfl, by omega⟩
  case round =>
    obtain ⟨p, ad, acc, f, hp, rfl, had, hown, hacc, bb, HD, hf⟩ := hrel
    by_cases hlt : p < bs.length
    · obtain rfl := had hlt
      obtain ⟨av, cv, rfl, hcv, hcm⟩ := own_slice hown
      obtain ⟨f, rfl⟩ : ∃ f', f = f' + 1 := ⟨f - 1, by omega⟩
      have hD := HD.out
      have hRl : (bs.drop p).length = bs.length - p := by simp
      have hRB := (HB.out.drop p)
      generalize hR : bs.drop p = R at *
      have hne : ¬ R = [] := fun e => by rw [e] at hRl; simp at hRl; omega
      rw [dec, if_neg hne] at hD
      have q := first_w b (o + p) (cap - p) R wr (hRB.below bb) (by omega) (by omega) (by omega) (HV.out.below bb)
      rw [hRl] at q
      change Calls Tryz.prog 118 _ wr fun e w' => e = .returned (.tuple #[.agg #[.string (fk R), .string (fv R)], .int .i64 (fn R : Int)]) ∧ Below wr.heap.size wr w' at q
      have hks := fk_size R
      have hfn : fn R ≤ R.length := firstP_len R
      have hdr : R.drop (fn R) = bs.drop (p + fn R) := by rw [← hR, List.drop_drop]
      have qc := fun W => check_any (fk R) (fv R) (by omega) (by omega) W
      have HDR : Hid (R.drop (fn R) = bs.drop (p + fn R)) := hdr
      generalize fk R = k at *
      generalize fv R = v at *
      generalize hm : fn R = m at *
      have hmax := hcm
      unfold maxLen at hmax
      have hlow := fun W => run_low W b (o + p) (bs.length - p) (cap - p) m (by omega)
      have hm2 : m ≤ bs.length - p := by omega
      have hL0 : 0 < bs.length - p := by omega
      have hLb : bs.length - p ≤ 281474976710656 := by omega
      clear hdr hRB hne hm hR HD hRl hfn
      generalize hLL : bs.length - p = L at *
      generalize hCC : cap - p = C at *
      have HO : Hid (wr.ownsRow w.heap.size 59 2 (.slice av acc.length cv) acc.length (recCells acc)) := hown
      clear hown
      by_cases c1 : m = 0
      · subst c1
        rw [if_pos rfl] at hD
        have HD : Hid (dec bs.length [] bs = ([], 70)) := hD
        clear hD
        go_wp2_with (go_at_call 118; refine q.mono ?_; rintro e w2 ⟨rfl, b2⟩)
        go_ret2
        have h := HD.out
        rw [h]
        have bb2 : Below w.heap.size w w2 := bb.trans (b2.mono bb.size)
        exact ⟨_, rfl, World.ownsRow_nil _ _ _ _, by first | exact bb2.alloc bb2.size _ | exact ((bb2.alloc bb2.size _).setCell bb2.size _).setCell bb2.size _⟩
      · rw [if_neg c1] at hD
        by_cases c2 : acc.length = 64
        · rw [if_pos c2] at hD
          have HD : Hid (dec bs.length [] bs = ([], 2)) := hD
          clear hD
          rw [c2]
          go_wp2_with (go_at_call 118; refine q.mono ?_; rintro e w2 ⟨rfl, b2⟩)
          go_ret2
          have h := HD.out
          rw [h]
          have bb2 : Below w.heap.size w w2 := bb.trans (b2.mono bb.size)
          exact ⟨_, rfl, World.ownsRow_nil _ _ _ _, by first | exact bb2.alloc bb2.size _ | exact ((bb2.alloc bb2.size _).setCell bb2.size _).setCell bb2.size _⟩
        · rw [if_neg c2] at hD
          have c2' : ¬ (acc.length : Int) = 64 := by omega
          by_cases c3 : chk k v = 0
          · rw [if_neg (by simp [c3])] at hD
            have HD : Hid (dec bs.length [] bs = dec f (acc ++ [(k, v)]) (R.drop m)) := hD
            clear hD
            rw [c3] at qc
            clear c3
            go_wp2_with (first | (go_at_call 118; refine q.mono ?_; rintro e w2 ⟨rfl, b2⟩) | (go_at_call 35; refine (qc _).mono ?_; rintro e w4 ⟨rfl, b4⟩; obtain ⟨g0, g1, b5⟩ := alloc2 _ _ _ _ b4) | (at_builtin; refine wpList_append_own _ rfl _ _ 68 rfl w.heap.size 59 i0 (.agg #[.string ⟨#[]⟩, .string ⟨#[]⟩]) 2 32 Tryz.underlying68 hi hz0 hz1 hz2 rfl (by decide) _ _ _ rfl ((own_below (own_below HO.out b2) b5).alloc _) ⟨w4.heap.size, 0, none⟩ 1 1 [.string k, .string v] rfl rfl ?c1 ?c2 ?c3 ?c4 ?c5 ?_))
            case c1 => exact two_cells _ _ _
            case c2 => intro u hu; simp at hu; rcases hu with rfl | rfl <;> rfl
            case c3 => unfold maxLen; omega
            case c4 => omega
            case c5 => have := bb.size; have := b2.size; have := b5.size; simp; omega
            · intro v' w5 hown' hgrow hh
              have bb4 : Below w.heap.size w w4 := (bb.trans (b2.mono bb.size)).trans (b5.mono (bb.trans (b2.mono bb.size)).size)
              have bb5 : Below w.heap.size w w5 := (bb4.alloc bb4.size _).grown hgrow (by have := bb4.size; simp; omega) fun k hk => ((own_below (own_below HO.out b2) b5).lt k hk).1
              have hO : w5.ownsRow w.heap.size 59 2 v' (acc ++ [(k, v)]).length (recCells (acc ++ [(k, v)])) := by
                rw [← recCells_snoc, List.length_append]
                exact hown'
              clear hown' hgrow hh HO
              go_wp2
              go_roundw
              case rel =>
                refine ⟨p + m, lowAt b (o + p) C m, acc ++ [(k, v)], f, by omega, ?_, fun h => ?_, hO, by simp; omega, bb5, ?_, by omega⟩
                · rw [show bs.length - (p + m) = L - m by omega, show cap - (p + m) = C - m by omega]
                · unfold lowAt
                  rw [if_neg (by omega), Nat.add_assoc]
                · have h := HD.out
                  rw [HDR.out] at h
                  exact h
              case measure => simp; omega
          · rw [if_pos c3] at hD
            have HD : Hid (dec bs.length [] bs = ([], chk k v)) := hD
            clear hD
            generalize chk k v = z at *
            go_wp2_with (first | (go_at_call 118; refine q.mono ?_; rintro e w2 ⟨rfl, b2⟩) | (go_at_call 35; refine (qc _).mono ?_; rintro e w4 ⟨rfl, b4⟩; obtain ⟨g0, g1, b5⟩ := alloc2 _ _ _ _ b4))
            go_ret2
            have h := HD.out
            rw [h]
            have bb2 : Below w.heap.size w w2 := bb.trans (b2.mono bb.size)
            exact ⟨_, rfl, World.ownsRow_nil _ _ _ _, bb2.trans (b5.mono bb2.size)⟩
    · obtain rfl : p = bs.length := by omega
      rw [Nat.sub_self] at *
      go_wp2
      go_ret2
      have h := HD.out
      rw [List.drop_length, dec_nil] at h
      rw [h]
      exact ⟨_, rfl, hown, bb⟩
end Go.Proofs.YtnmmaedngdibeaaGreatDoor.X

