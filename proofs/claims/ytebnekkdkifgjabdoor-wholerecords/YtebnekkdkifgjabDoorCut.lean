/-
  Bytes in memory: a slice of them cut, made a string; the contract of bytes.Cut at one byte.
-/
import Derived.Test.YtebnekkdkifgjabDoorCheck
import Derived.Laws.BytesString
import Derived.Lib.SlBytesConst
namespace Go.Proofs.YtebnekkdkifgjabDoor
open Go.RowKit
set_option linter.unusedVariables false
set_option linter.unusedSimpArgs false

/-- bytes lie at a place -/
def BytesAt (w : World) (b o : Nat) (bs : List UInt8) : Prop := ∀ i, i < bs.length → w.cell? ⟨b, o + i, none⟩ = some (.int .u8 ((bs.getD i 0).toNat : Int))

theorem BytesAt.below {w w' : World} {b o : Nat} {bs : List UInt8} (h : BytesAt w b o bs) (hb : Below w.heap.size w w') : BytesAt w' b o bs := fun i hi => (hb.cell (Lib.lt_of_cell (h i hi))).trans (h i hi)

theorem BytesAt.drop {w : World} {b o : Nat} {bs : List UInt8} (h : BytesAt w b o bs) (c : Nat) : BytesAt w b (o + c) (bs.drop c) := fun i hi => by
  have := h (c + i) (by simp at hi; omega)
  rw [← Nat.add_assoc] at this
  rw [this]
  simp [List.getD]

theorem BytesAt.take {w : World} {b o : Nat} {bs : List UInt8} (h : BytesAt w b o bs) (c : Nat) : BytesAt w b o (bs.take c) := fun i hi => by
  have := h i (by simp at hi; omega)
  rw [this]
  have hc : i < c := by simp at hi; omega
  simp [List.getD, List.getElem?_take, hc]

/-- as numbers -/
def ints (bs : List UInt8) : List Int := bs.map fun x => (x.toNat : Int)

theorem bytesOf_ints (bs : List UInt8) : Lib.bytesOf (ints bs) = bs := by
  unfold Lib.bytesOf ints
  rw [List.map_map]
  conv => rhs; rw [← List.map_id bs]
  apply List.map_congr_left
  intro x _
  simp

theorem ints_get (bs : List UInt8) (i : Nat) (h : i < bs.length) : (ints bs).getD i 0 = ((bs.getD i 0).toNat : Int) := by
  simp [ints, List.getD, List.getElem?_eq_getElem h]

theorem conv_str (w : World) (b o cap : Nat) (bs : List UInt8) (h : BytesAt w b o bs) :
    (convert 24 9 (.slice (some ⟨b, o, none⟩) bs.length cap)).run Tryd.prog w = .ok (.string ⟨bs.toArray⟩) w := by
  rw [run_convert_bytes_string w 24 9 5 _ _ _ Tryd.underlying24 Tryd.underlying5 Tryd.underlying9]
  have hl := run_loadCells_list (P := Tryd.prog) (w := w) ⟨b, o, none⟩ ((ints bs).map (Value.int .u8)) (fun j v hj => by
    simp only [List.getElem?_map, Option.map_eq_some_iff] at hj
    obtain ⟨z, hz, rfl⟩ := hj
    have hlt : j < (ints bs).length := (List.getElem?_eq_some_iff.1 hz).1
    have hlt' : j < bs.length := by simpa [ints] using hlt
    have := h j hlt'
    rw [← ints_get bs j hlt', List.getD, hz] at this
    by_cases h0 : j = 0
    · subst h0; simpa [Addr.add] using this
    · simpa [Addr.add, h0] using this)
  have := run_bytesToString (P := Tryd.prog) w ⟨b, o, none⟩ bs.length cap (ints bs) (by simpa [ints] using hl)
  rw [this]
  congr 2
  have e : ∀ (l : List UInt8) (r : ByteArray), (ints l).foldl (fun r n => r.push (UInt8.ofNat n.toNat)) r = ⟨r.data ++ l.toArray⟩ := by
    intro l
    induction l with
    | nil => intro r; simp [ints]
    | cons x l ih =>
      intro r
      have : ints (x :: l) = (x.toNat : Int) :: ints l := rfl
      rw [this, List.foldl_cons, ih]
      simp [ByteArray.push]
  have e2 := e bs ByteArray.empty
  simpa using e2

theorem conv_none (w : World) (ad : Option Addr) (cap : Nat) : (convert 24 9 (.slice ad 0 cap)).run Tryd.prog w = .ok (.string ⟨#[]⟩) w := by
  rw [run_convert_bytes_string w 24 9 5 _ _ _ Tryd.underlying24 Tryd.underlying5 Tryd.underlying9]
  cases ad with
  | none => rfl
  | some a => exact run_bytesToString w a 0 cap [] rfl

theorem elem36 : Tryd.prog.elem 24 = 5 := by kernel_rfl
theorem info5 : (Tryd.prog.info? 5).map (·.size) = some 1 := by kernel_rfl

/-- where a cut begins -/
def lowAt (b o cap c : Nat) : Option Addr := if cap = c then some ⟨b, o, none⟩ else some ⟨b, o + c, none⟩

theorem run_low (w : World) (b o n cap c : Nat) (h : c ≤ n) : (Instr.sliceAt 24 (.slice (some ⟨b, o, none⟩) n cap) (some (.int .i64 (c : Int))) none none).run Tryd.prog w = .ok (.slice (lowAt b o cap c) (n - c) (cap - c)) w := by
  rw [run_sliceAt_slice w 24 _ _ _ _ (by rw [elem36]; exact Tryd.underlying24)]
  have hi := info5
  cases hq : Tryd.prog.info? 5 with
  | none => simp [hq] at hi
  | some i =>
    have hs : i.size = 1 := by simpa [hq] using hi
    have hb : (Instr.sliceBound (.int .i64 (c : Int)) n .sliceB).run Tryd.prog w = .ok c w := by
      have := run_sliceBound (P := Tryd.prog) w .i64 (c : Int) n .sliceB (by omega) (by omega)
      simpa using this
    by_cases c0 : cap = c
    · simp [Instr.slice, run_underlying Tryd.underlying24, Instr.sliceBounds, sizeOf, typeInfo, hq, hs, hb, lowAt, c0]
    · simp [Instr.slice, run_underlying Tryd.underlying24, Instr.sliceBounds, sizeOf, typeInfo, hq, hs, hb, lowAt, c0, Addr.add]

theorem run_high (w : World) (a : Option Addr) (n cap c : Nat) (h : c ≤ cap) : (Instr.sliceAt 24 (.slice a n cap) none (some (.int .i64 (c : Int))) none).run Tryd.prog w = .ok (.slice a c cap) w := by
  rw [run_sliceAt_slice w 24 _ _ _ _ (by rw [elem36]; exact Tryd.underlying24)]
  have hi := info5
  cases hq : Tryd.prog.info? 5 with
  | none => simp [hq] at hi
  | some i =>
    have hb : (Instr.sliceBound (.int .i64 (c : Int)) cap .sliceAcap).run Tryd.prog w = .ok c w := by
      have := run_sliceBound (P := Tryd.prog) w .i64 (c : Int) cap .sliceAcap (by omega) (by omega)
      simpa using this
    cases a <;> simp [Instr.slice, run_underlying Tryd.underlying24, Instr.sliceBounds, sizeOf, typeInfo, hq, hb, Addr.add]

/-- both ends -/
theorem run_mid (w : World) (b o n cap c d : Nat) (h : c ≤ d) (hd : d ≤ cap) (hc : c < cap) : (Instr.sliceAt 24 (.slice (some ⟨b, o, none⟩) n cap) (some (.int .i64 (c : Int))) (some (.int .i64 (d : Int))) none).run Tryd.prog w = .ok (.slice (some ⟨b, o + c, none⟩) (d - c) (cap - c)) w := by
  rw [run_sliceAt_slice w 24 _ _ _ _ (by rw [elem36]; exact Tryd.underlying24)]
  have hi := info5
  cases hq : Tryd.prog.info? 5 with
  | none => simp [hq] at hi
  | some i =>
    have hs : i.size = 1 := by simpa [hq] using hi
    have hb : (Instr.sliceBound (.int .i64 (d : Int)) cap .sliceAcap).run Tryd.prog w = .ok d w := by
      have := run_sliceBound (P := Tryd.prog) w .i64 (d : Int) cap .sliceAcap (by omega) (by omega)
      simpa using this
    have hb2 : (Instr.sliceBound (.int .i64 (c : Int)) d .sliceB).run Tryd.prog w = .ok c w := by
      have := run_sliceBound (P := Tryd.prog) w .i64 (c : Int) d .sliceB (by omega) (by omega)
      simpa using this
    have c0 : ¬ cap = c := by omega
    simp [Instr.slice, run_underlying Tryd.underlying24, Instr.sliceBounds, sizeOf, typeInfo, hq, hs, hb, hb2, c0, Addr.add]

/-- the place of a byte, if it is there -/
def pos (bs : List UInt8) (c : UInt8) : Option Nat := if Lib.indexByte bs c < 0 then none else some (Lib.indexByte bs c).toNat

theorem indexByte_ge (c : UInt8) : ∀ l : List UInt8, -1 ≤ Lib.indexByte l c ∧ Lib.indexByte l c < l.length
  | [] => by simp [Lib.indexByte]
  | b :: l => by
    have ih := indexByte_ge c l
    unfold Lib.indexByte
    split
    · simp <;> omega
    · split
      · simp <;> omega
      · simp <;> omega

theorem pos_none {bs : List UInt8} {c : UInt8} (h : pos bs c = none) : Lib.indexByte bs c = -1 := by
  unfold pos at h
  have := indexByte_ge c bs
  split at h
  · omega
  · cases h

theorem pos_some {bs : List UInt8} {c : UInt8} {i : Nat} (h : pos bs c = some i) : Lib.indexByte bs c = i ∧ i < bs.length := by
  unfold pos at h
  have := indexByte_ge c bs
  split at h
  · cases h
  · cases h; omega

theorem cut_none (w : World) (b o cap : Nat) (bs : List UInt8) (g : Nat) (c : UInt8) (d : Nat) (h : BytesAt w b o bs) (hc : w.cell? ⟨g, 0, none⟩ = some (.int .u8 (c.toNat : Int))) (hp : pos bs c = none) :
    Calls Tryd.prog 21 #[.slice (some ⟨b, o, none⟩) bs.length cap, .slice (some ⟨g, 0, none⟩) 1 d] w fun e w' => e = .returned (.tuple #[.slice (some ⟨b, o, none⟩) bs.length cap, .slice none 0 0, .bool false]) ∧ w = w' := by
  have q := Tryd.bytes_Index_one b o bs.length cap g 0 d (ints bs) (c.toNat : Int) w (by simp [ints]) (fun i hi => by rw [ints_get bs i hi]; exact h i hi) hc
  rw [bytesOf_ints, show ((c.toNat : Int)).toNat.toUInt8 = c by simp, pos_none hp] at q
  generalize bs.length = n at *
  clear h hp
  go_enter Tryd.func21, Tryd.ntmps21
  go_wp2_with (go_at_call 31; refine q.mono ?_; rintro e w' ⟨rfl, rfl⟩)
  go_ret3
  exact ⟨rfl, rfl⟩

theorem cut_some (w : World) (b o cap : Nat) (bs : List UInt8) (g : Nat) (c : UInt8) (d : Nat) (h : BytesAt w b o bs) (hc : w.cell? ⟨g, 0, none⟩ = some (.int .u8 (c.toNat : Int))) (i : Nat) (hp : pos bs c = some i) (hcap : bs.length ≤ cap) (hbig : cap ≤ 9223372036854775807) :
    Calls Tryd.prog 21 #[.slice (some ⟨b, o, none⟩) bs.length cap, .slice (some ⟨g, 0, none⟩) 1 d] w fun e w' => e = .returned (.tuple #[.slice (some ⟨b, o, none⟩) i cap, .slice (lowAt b o cap (i + 1)) (bs.length - (i + 1)) (cap - (i + 1)), .bool true]) ∧ (w' = w ∨ w' = w.drew) := by
  have q := Tryd.bytes_Index_one b o bs.length cap g 0 d (ints bs) (c.toNat : Int) w (by simp [ints]) (fun i hi => by rw [ints_get bs i hi]; exact h i hi) hc
  obtain ⟨hp1, hp2⟩ := pos_some hp
  rw [bytesOf_ints, show ((c.toNat : Int)).toNat.toUInt8 = c by simp, hp1] at q
  generalize bs.length = n at *
  clear h hp hp1
  have r1 := fun W => run_high W (some ⟨b, o, none⟩) n cap i (by omega)
  have r2 := fun W => run_low W b o n cap (i + 1) (by omega)
  rw [show ((i + 1 : Nat) : Int) = (i : Int) + 1 by omega] at r2
  go_enter Tryd.func21, Tryd.ntmps21
  go_wp2_with (go_at_call 31; refine q.mono ?_; rintro e w' ⟨rfl, rfl⟩)
  go_region
  go_wp2
  go_ret3
  exact ⟨rfl, .inr rfl⟩

end Go.Proofs.YtebnekkdkifgjabDoor
