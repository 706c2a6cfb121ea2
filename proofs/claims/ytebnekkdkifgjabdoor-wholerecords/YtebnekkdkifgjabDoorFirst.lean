/-
  Contract: pax.first, the record at the beginning of bytes.
-/
import Derived.Test.YtebnekkdkifgjabDoorCut
import Derived.Laws.ResultCell
import Derived.Laws.Rows
namespace Go.Proofs.YtebnekkdkifgjabDoor
open Go.RowKit
set_option linter.unusedVariables false
set_option linter.unusedSimpArgs false

/-- what stands ahead of the first blank -/
def digs (bs : List UInt8) : List UInt8 := match pos bs 32 with | some i => bs.take i | none => bs

theorem cut32 (w : World) (b o cap : Nat) (bs : List UInt8) (g d : Nat) (h : BytesAt w b o bs) (hc : w.cell? ⟨g, 0, none⟩ = some (.int .u8 32)) (hcap : bs.length ≤ cap) (hbig : cap ≤ 9223372036854775807) :
    Calls Tryd.prog 21 #[.slice (some ⟨b, o, none⟩) bs.length cap, .slice (some ⟨g, 0, none⟩) 1 d] w fun e w' => (∃ v fl, e = .returned (.tuple #[.slice (some ⟨b, o, none⟩) (digs bs).length cap, v, .bool fl])) ∧ (w' = w ∨ w' = w.drew) := by
  unfold digs
  cases hp : pos bs 32 with
  | none => exact (cut_none w b o cap bs g 32 d h hc hp).mono fun e w' ⟨he, hw⟩ => ⟨⟨_, _, he⟩, .inl hw.symm⟩
  | some i =>
    obtain ⟨_, hi⟩ := pos_some hp
    have hl : (bs.take i).length = i := by simp; omega
    refine (cut_some w b o cap bs g 32 d h hc i hp hcap hbig).mono fun e w' ⟨he, hw⟩ => ⟨⟨.slice (lowAt b o cap (i + 1)) (bs.length - (i + 1)) (cap - (i + 1)), true, ?_⟩, hw⟩
    rw [he]
    simp only [hl]

theorem info28 : (Tryd.prog.info? 29).map (·.size) = some 2 := by kernel_rfl

/-- the block of a record -/
def Cell2 (w : World) (g : Nat) : Prop := ∃ x y, w.heap[g]? = some (.cells #[x, y] 29 (0, 0))

theorem Cell2.cells {w : World} {g : Nat} (h : Cell2 w g) : ∃ x y, w.cell? ⟨g, 0, none⟩ = some x ∧ w.cell? ⟨g, 1, none⟩ = some y ∧ w.frozen? ⟨g, 0, none⟩ = false ∧ w.frozen? ⟨g, 1, none⟩ = false := by
  obtain ⟨x, y, h⟩ := h
  exact ⟨x, y, by simp [World.cell?, h], by simp [World.cell?, h], by simp [World.frozen?, h], by simp [World.frozen?, h]⟩

theorem Cell2.lt {w : World} {g : Nat} (h : Cell2 w g) : g < w.heap.size := by
  obtain ⟨x, y, h⟩ := h
  exact (Array.getElem?_eq_some_iff.1 h).1

theorem Cell2.below {w w' : World} {g : Nat} (h : Cell2 w g) (hb : Below w.heap.size w w') : Cell2 w' g := by
  have hl := h.lt
  obtain ⟨x, y, h⟩ := h
  exact ⟨x, y, by rw [hb.block g hl]; exact h⟩

theorem Cell2.stored {w : World} {g : Nat} (h : Cell2 w g) (a b : Value) : ((w.setCell ⟨g, 0, none⟩ a).setCell ⟨g, 1, none⟩ b).heap[g]? = some (.cells #[a, b] 29 (0, 0)) := by
  obtain ⟨x, y, h⟩ := h
  have h1 := heap_setCell_same w g 0 #[x, y] 29 a h
  have h2 := heap_setCell_same _ g 1 _ 29 b h1
  simpa using h2

/-- what the first world is, behind two blocks of one's own -/
theorem two_new (w W : World) (x y z : Value) (hW : Below ((w.alloc (.cells #[x, y] 29)).alloc (.cells #[z] 5 (1, 2))).heap.size ((w.alloc (.cells #[x, y] 29)).alloc (.cells #[z] 5 (1, 2))) W) :
    Cell2 W w.heap.size ∧ W.cell? ⟨w.heap.size + 1, 0, none⟩ = some z ∧ Below w.heap.size w W := by
  have s2 : ((w.alloc (.cells #[x, y] 29)).alloc (.cells #[z] 5 (1, 2))).heap.size = w.heap.size + 1 + 1 := by simp
  have h0 : ((w.alloc (.cells #[x, y] 29)).alloc (.cells #[z] 5 (1, 2))).heap[w.heap.size]? = some (.cells #[x, y] 29 (0, 0)) := by
    rw [Below.heap_alloc _ _ _ (by simp)]
    exact heap_alloc_new w _
  refine ⟨⟨x, y, ?_⟩, ?_, ?_⟩
  · rw [hW.block w.heap.size (by omega)]; exact h0
  · have := hW.cell (p := ⟨w.heap.size + 1, 0, none⟩) (by show w.heap.size + 1 < _; omega)
    rw [this]
    have hn := heap_alloc_new (w.alloc (.cells #[x, y] 29)) (.cells #[z] 5 (1, 2))
    have hs : (w.alloc (.cells #[x, y] 29)).heap.size = w.heap.size + 1 := by simp
    rw [hs] at hn
    simp only [World.cell?]
    rw [hn]
    rfl
  · exact (((Below.refl w.heap.size w).alloc (Nat.le_refl _) _).alloc (by simp) _).trans (hW.mono (by omega))

/-- what a record at the beginning is: key, value, length; nothing: 0 -/
def firstP (bs : List UInt8) : List UInt8 × List UInt8 × Nat :=
  match nval ⟨(digs bs).toArray⟩ with
  | none => ([], [], 0)
  | some z =>
    if z ≤ (digs bs).length ∨ (bs.length : Int) < z then ([], [], 0)
    else if ¬ plen (z.toNat - (digs bs).length) = z.toNat ∨ ¬ bs.getD (z.toNat - 1) 0 = 10 then ([], [], 0)
    else match pos ((bs.drop ((digs bs).length + 1)).take (z.toNat - (digs bs).length - 2)) 61 with
      | none => ([], [], 0)
      | some i => (((bs.drop ((digs bs).length + 1)).take (z.toNat - (digs bs).length - 2)).take i, ((bs.drop ((digs bs).length + 1)).take (z.toNat - (digs bs).length - 2)).drop (i + 1), z.toNat)

theorem digs_le (bs : List UInt8) : (digs bs).length ≤ bs.length := by
  unfold digs
  split
  · simp; omega
  · exact Nat.le_refl _

theorem digs_at {w : World} {b o : Nat} {bs : List UInt8} (h : BytesAt w b o bs) : BytesAt w b o (digs bs) := by
  unfold digs
  split
  · exact h.take _
  · exact h

set_option maxHeartbeats 2000000 in
set_option maxRecDepth 20000 in
theorem first_nan (b o cap : Nat) (bs : List UInt8) (w : World) (hB : BytesAt w b o bs) (hcap : bs.length ≤ cap) (hbig : cap ≤ 9223372036854775807) (hlen : bs.length ≤ 281474976710656) (ht : Vs w) (hnv : nval ⟨(digs bs).toArray⟩ = none) :
    Calls Tryd.prog 15 #[.slice (some ⟨b, o, none⟩) bs.length cap] w fun e w' => e = .returned (.tuple #[.agg #[.string ⟨#[]⟩, .string ⟨#[]⟩], .int .i64 0]) ∧ Below w.heap.size w w' := by
  have hd := digs_le bs
  have hD : Hid (BytesAt w b o (digs bs)) := digs_at hB
  have HB : Hid (BytesAt w b o bs) := hB
  have HV : Hid (Vs w) := ht
  have q0 : ∀ W g, BytesAt W b o bs → W.cell? ⟨g, 0, none⟩ = some (.int .u8 32) → Calls Tryd.prog 21 #[.slice (some ⟨b, o, none⟩) bs.length cap, .slice (some ⟨g, 0, none⟩) 1 1] W fun e w' => (∃ v fl, e = .returned (.tuple #[.slice (some ⟨b, o, none⟩) (digs bs).length cap, v, .bool fl])) ∧ (w' = W ∨ w' = W.drew) := fun W g h1 h2 => cut32 W b o cap bs g 1 h1 h2 hcap hbig
  have qn : ∀ W, Vs W → Calls Tryd.prog 9 #[.string ⟨(digs bs).toArray⟩] W fun e w' => e = .returned (.tuple #[.int .i64 0, .int .i64 70]) ∧ Below W.heap.size W w' := fun W hv => by
    refine (number_w ⟨(digs bs).toArray⟩ (by show (digs bs).toArray.size ≤ _; simp; omega) W hv).mono ?_
    rintro e w' ⟨he, hb⟩
    rw [hnv] at he
    exact ⟨he, hb⟩
  have qc : ∀ W, BytesAt W b o (digs bs) → (convert 24 9 (.slice (some ⟨b, o, none⟩) (digs bs).length cap)).run Tryd.prog W = .ok (.string ⟨(digs bs).toArray⟩) W := fun W h => conv_str W b o cap (digs bs) h
  have NW : Hid (∀ (x y z : Value) (W : World), Below ((w.alloc (.cells #[x, y] 29)).alloc (.cells #[z] 5 (1, 2))).heap.size ((w.alloc (.cells #[x, y] 29)).alloc (.cells #[z] 5 (1, 2))) W → Cell2 W w.heap.size ∧ W.cell? ⟨w.heap.size + 1, 0, none⟩ = some z ∧ Below w.heap.size w W) := fun x y z W h => two_new w W x y z h
  generalize hds : (⟨(digs bs).toArray⟩ : ByteArray) = S at *
  clear hds hB ht hnv
  generalize hdl : (digs bs).length = D at *
  generalize hbl : bs.length = n at *
  have QC : Hid (∀ W, BytesAt W b o (digs bs) → (convert 24 9 (.slice (some ⟨b, o, none⟩) D cap)).run Tryd.prog W = .ok (.string S) W) := qc
  clear qc hdl hbl
  have cv1 : (convert 24 24 (.slice (some ⟨w.heap.size + 1, 0, none⟩) 1 1)).run Tryd.prog ((w.alloc (.cells #[.string ⟨#[]⟩, .string ⟨#[]⟩] 29)).alloc (.cells #[.int .u8 32] 5)) = .ok (.slice (some ⟨w.heap.size + 1, 0, none⟩) 1 1) ((w.alloc (.cells #[.string ⟨#[]⟩, .string ⟨#[]⟩] 29)).alloc (.cells #[.int .u8 32] 5 (1, 2))) := by
    have := Lib.run_convert_bytes_const (P := Tryd.prog) (w.alloc (.cells #[.string ⟨#[]⟩, .string ⟨#[]⟩] 29)) 24 5 #[.int .u8 32] 1 1 Tryd.underlying24 Tryd.underlying5
    simpa using this
  go_enter Tryd.func15, Tryd.ntmps15
  go_wp2_with fail
  have b0 := NW.out (.string ⟨#[]⟩) (.string ⟨#[]⟩) (.int .u8 32) _ (Below.refl _ _)
  generalize hw1 : ((w.alloc (.cells #[.string ⟨#[]⟩, .string ⟨#[]⟩] 29)).alloc (.cells #[.int .u8 32] 5 (1, 2))) = w1 at *
  refine (q0 w1 _ (HB.out.below b0.2.2) b0.2.1).mono ?_
  rintro e w2 ⟨⟨v, fl, rfl⟩, hw2⟩
  have b2 : Below w1.heap.size w1 w2 := by
    rcases hw2 with rfl | rfl
    · exact Below.refl _ _
    · exact (Below.refl _ _).drew
  clear hw2
  have bw2 : Below w.heap.size w w2 := by subst hw1; exact (NW.out _ _ _ _ b2).2.2
  have qc2 := QC.out w2 (hD.out.below bw2)
  go_wp2_with fail
  refine (qn w2 (HV.out.below bw2)).mono ?_
  rintro e w3 ⟨rfl, b3⟩
  have bb3 : Below w1.heap.size w1 w3 := b2.trans (b3.mono b2.size)
  have n3 : Cell2 w3 w.heap.size ∧ w3.cell? ⟨w.heap.size + 1, 0, none⟩ = some (.int .u8 32) ∧ Below w.heap.size w w3 := by subst hw1; exact NW.out _ _ _ _ bb3
  obtain ⟨c3, _, bw3⟩ := n3
  obtain ⟨x0, y0, f0, f1, f2, f3⟩ := c3.cells
  go_wp2
  have r1 := c3.stored (.string ⟨#[]⟩) (.string ⟨#[]⟩)
  exact bodyPost_ret (by rw [results_cell_tmp rfl]; simp [asAddr, run_loadVar_row _ _ _ 29 _ _ _ r1 Tryd.underlying29 rfl info28]) rfl ⟨rfl, (bw3.setCell (Nat.le_refl _) _).setCell (Nat.le_refl _) _⟩

set_option maxHeartbeats 2000000 in
set_option maxRecDepth 20000 in
theorem first_low (b o cap : Nat) (bs : List UInt8) (w : World) (hB : BytesAt w b o bs) (hcap : bs.length ≤ cap) (hbig : cap ≤ 9223372036854775807) (hlen : bs.length ≤ 281474976710656) (ht : Vs w) (z : Int) (hnv : nval ⟨(digs bs).toArray⟩ = some z) (hz : z ≤ (digs bs).length) :
    Calls Tryd.prog 15 #[.slice (some ⟨b, o, none⟩) bs.length cap] w fun e w' => e = .returned (.tuple #[.agg #[.string ⟨#[]⟩, .string ⟨#[]⟩], .int .i64 0]) ∧ Below w.heap.size w w' := by
  have hd := digs_le bs
  have hD : Hid (BytesAt w b o (digs bs)) := digs_at hB
  have HB : Hid (BytesAt w b o bs) := hB
  have HV : Hid (Vs w) := ht
  have q0 : ∀ W g, BytesAt W b o bs → W.cell? ⟨g, 0, none⟩ = some (.int .u8 32) → Calls Tryd.prog 21 #[.slice (some ⟨b, o, none⟩) bs.length cap, .slice (some ⟨g, 0, none⟩) 1 1] W fun e w' => (∃ v fl, e = .returned (.tuple #[.slice (some ⟨b, o, none⟩) (digs bs).length cap, v, .bool fl])) ∧ (w' = W ∨ w' = W.drew) := fun W g h1 h2 => cut32 W b o cap bs g 1 h1 h2 hcap hbig
  have qn : ∀ W, Vs W → Calls Tryd.prog 9 #[.string ⟨(digs bs).toArray⟩] W fun e w' => e = .returned (.tuple #[.int .i64 z, .int .i64 0]) ∧ Below W.heap.size W w' := fun W hv => by
    refine (number_w ⟨(digs bs).toArray⟩ (by show (digs bs).toArray.size ≤ _; simp; omega) W hv).mono ?_
    rintro e w' ⟨he, hb⟩
    rw [hnv] at he
    exact ⟨he, hb⟩
  have qc : ∀ W, BytesAt W b o (digs bs) → (convert 24 9 (.slice (some ⟨b, o, none⟩) (digs bs).length cap)).run Tryd.prog W = .ok (.string ⟨(digs bs).toArray⟩) W := fun W h => conv_str W b o cap (digs bs) h
  have NW : Hid (∀ (x y z : Value) (W : World), Below ((w.alloc (.cells #[x, y] 29)).alloc (.cells #[z] 5 (1, 2))).heap.size ((w.alloc (.cells #[x, y] 29)).alloc (.cells #[z] 5 (1, 2))) W → Cell2 W w.heap.size ∧ W.cell? ⟨w.heap.size + 1, 0, none⟩ = some z ∧ Below w.heap.size w W) := fun x y z W h => two_new w W x y z h
  generalize hds : (⟨(digs bs).toArray⟩ : ByteArray) = S at *
  clear hds hB ht hnv
  generalize hdl : (digs bs).length = D at *
  generalize hbl : bs.length = n at *
  have QC : Hid (∀ W, BytesAt W b o (digs bs) → (convert 24 9 (.slice (some ⟨b, o, none⟩) D cap)).run Tryd.prog W = .ok (.string S) W) := qc
  clear qc hdl hbl
  have cv1 : (convert 24 24 (.slice (some ⟨w.heap.size + 1, 0, none⟩) 1 1)).run Tryd.prog ((w.alloc (.cells #[.string ⟨#[]⟩, .string ⟨#[]⟩] 29)).alloc (.cells #[.int .u8 32] 5)) = .ok (.slice (some ⟨w.heap.size + 1, 0, none⟩) 1 1) ((w.alloc (.cells #[.string ⟨#[]⟩, .string ⟨#[]⟩] 29)).alloc (.cells #[.int .u8 32] 5 (1, 2))) := by
    have := Lib.run_convert_bytes_const (P := Tryd.prog) (w.alloc (.cells #[.string ⟨#[]⟩, .string ⟨#[]⟩] 29)) 24 5 #[.int .u8 32] 1 1 Tryd.underlying24 Tryd.underlying5
    simpa using this
  go_enter Tryd.func15, Tryd.ntmps15
  go_wp2_with fail
  have b0 := NW.out (.string ⟨#[]⟩) (.string ⟨#[]⟩) (.int .u8 32) _ (Below.refl _ _)
  generalize hw1 : ((w.alloc (.cells #[.string ⟨#[]⟩, .string ⟨#[]⟩] 29)).alloc (.cells #[.int .u8 32] 5 (1, 2))) = w1 at *
  refine (q0 w1 _ (HB.out.below b0.2.2) b0.2.1).mono ?_
  rintro e w2 ⟨⟨v, fl, rfl⟩, hw2⟩
  have b2 : Below w1.heap.size w1 w2 := by
    rcases hw2 with rfl | rfl
    · exact Below.refl _ _
    · exact (Below.refl _ _).drew
  clear hw2
  have bw2 : Below w.heap.size w w2 := by subst hw1; exact (NW.out _ _ _ _ b2).2.2
  have qc2 := QC.out w2 (hD.out.below bw2)
  go_wp2_with fail
  refine (qn w2 (HV.out.below bw2)).mono ?_
  rintro e w3 ⟨rfl, b3⟩
  have bb3 : Below w1.heap.size w1 w3 := b2.trans (b3.mono b2.size)
  have n3 : Cell2 w3 w.heap.size ∧ w3.cell? ⟨w.heap.size + 1, 0, none⟩ = some (.int .u8 32) ∧ Below w.heap.size w w3 := by subst hw1; exact NW.out _ _ _ _ bb3
  obtain ⟨c3, _, bw3⟩ := n3
  obtain ⟨x0, y0, f0, f1, f2, f3⟩ := c3.cells
  go_wp2
  have r1 := c3.stored (.string ⟨#[]⟩) (.string ⟨#[]⟩)
  exact bodyPost_ret (by rw [results_cell_tmp rfl]; simp [asAddr, run_loadVar_row _ _ _ 29 _ _ _ r1 Tryd.underlying29 rfl info28]) rfl ⟨rfl, (bw3.setCell (Nat.le_refl _) _).setCell (Nat.le_refl _) _⟩

set_option maxHeartbeats 2000000 in
set_option maxRecDepth 20000 in
theorem first_high (b o cap : Nat) (bs : List UInt8) (w : World) (hB : BytesAt w b o bs) (hcap : bs.length ≤ cap) (hbig : cap ≤ 9223372036854775807) (hlen : bs.length ≤ 281474976710656) (ht : Vs w) (z : Int) (hnv : nval ⟨(digs bs).toArray⟩ = some z) (hz0 : ¬ z ≤ (digs bs).length) (hz : (bs.length : Int) < z) :
    Calls Tryd.prog 15 #[.slice (some ⟨b, o, none⟩) bs.length cap] w fun e w' => e = .returned (.tuple #[.agg #[.string ⟨#[]⟩, .string ⟨#[]⟩], .int .i64 0]) ∧ Below w.heap.size w w' := by
  have hd := digs_le bs
  have hD : Hid (BytesAt w b o (digs bs)) := digs_at hB
  have HB : Hid (BytesAt w b o bs) := hB
  have HV : Hid (Vs w) := ht
  have q0 : ∀ W g, BytesAt W b o bs → W.cell? ⟨g, 0, none⟩ = some (.int .u8 32) → Calls Tryd.prog 21 #[.slice (some ⟨b, o, none⟩) bs.length cap, .slice (some ⟨g, 0, none⟩) 1 1] W fun e w' => (∃ v fl, e = .returned (.tuple #[.slice (some ⟨b, o, none⟩) (digs bs).length cap, v, .bool fl])) ∧ (w' = W ∨ w' = W.drew) := fun W g h1 h2 => cut32 W b o cap bs g 1 h1 h2 hcap hbig
  have qn : ∀ W, Vs W → Calls Tryd.prog 9 #[.string ⟨(digs bs).toArray⟩] W fun e w' => e = .returned (.tuple #[.int .i64 z, .int .i64 0]) ∧ Below W.heap.size W w' := fun W hv => by
    refine (number_w ⟨(digs bs).toArray⟩ (by show (digs bs).toArray.size ≤ _; simp; omega) W hv).mono ?_
    rintro e w' ⟨he, hb⟩
    rw [hnv] at he
    exact ⟨he, hb⟩
  have qc : ∀ W, BytesAt W b o (digs bs) → (convert 24 9 (.slice (some ⟨b, o, none⟩) (digs bs).length cap)).run Tryd.prog W = .ok (.string ⟨(digs bs).toArray⟩) W := fun W h => conv_str W b o cap (digs bs) h
  have NW : Hid (∀ (x y z : Value) (W : World), Below ((w.alloc (.cells #[x, y] 29)).alloc (.cells #[z] 5 (1, 2))).heap.size ((w.alloc (.cells #[x, y] 29)).alloc (.cells #[z] 5 (1, 2))) W → Cell2 W w.heap.size ∧ W.cell? ⟨w.heap.size + 1, 0, none⟩ = some z ∧ Below w.heap.size w W) := fun x y z W h => two_new w W x y z h
  generalize hds : (⟨(digs bs).toArray⟩ : ByteArray) = S at *
  clear hds hB ht hnv
  generalize hdl : (digs bs).length = D at *
  generalize hbl : bs.length = n at *
  have QC : Hid (∀ W, BytesAt W b o (digs bs) → (convert 24 9 (.slice (some ⟨b, o, none⟩) D cap)).run Tryd.prog W = .ok (.string S) W) := qc
  clear qc hdl hbl
  have cv1 : (convert 24 24 (.slice (some ⟨w.heap.size + 1, 0, none⟩) 1 1)).run Tryd.prog ((w.alloc (.cells #[.string ⟨#[]⟩, .string ⟨#[]⟩] 29)).alloc (.cells #[.int .u8 32] 5)) = .ok (.slice (some ⟨w.heap.size + 1, 0, none⟩) 1 1) ((w.alloc (.cells #[.string ⟨#[]⟩, .string ⟨#[]⟩] 29)).alloc (.cells #[.int .u8 32] 5 (1, 2))) := by
    have := Lib.run_convert_bytes_const (P := Tryd.prog) (w.alloc (.cells #[.string ⟨#[]⟩, .string ⟨#[]⟩] 29)) 24 5 #[.int .u8 32] 1 1 Tryd.underlying24 Tryd.underlying5
    simpa using this
  go_enter Tryd.func15, Tryd.ntmps15
  go_wp2_with fail
  have b0 := NW.out (.string ⟨#[]⟩) (.string ⟨#[]⟩) (.int .u8 32) _ (Below.refl _ _)
  generalize hw1 : ((w.alloc (.cells #[.string ⟨#[]⟩, .string ⟨#[]⟩] 29)).alloc (.cells #[.int .u8 32] 5 (1, 2))) = w1 at *
  refine (q0 w1 _ (HB.out.below b0.2.2) b0.2.1).mono ?_
  rintro e w2 ⟨⟨v, fl, rfl⟩, hw2⟩
  have b2 : Below w1.heap.size w1 w2 := by
    rcases hw2 with rfl | rfl
    · exact Below.refl _ _
    · exact (Below.refl _ _).drew
  clear hw2
  have bw2 : Below w.heap.size w w2 := by subst hw1; exact (NW.out _ _ _ _ b2).2.2
  have qc2 := QC.out w2 (hD.out.below bw2)
  go_wp2_with fail
  refine (qn w2 (HV.out.below bw2)).mono ?_
  rintro e w3 ⟨rfl, b3⟩
  have bb3 : Below w1.heap.size w1 w3 := b2.trans (b3.mono b2.size)
  have n3 : Cell2 w3 w.heap.size ∧ w3.cell? ⟨w.heap.size + 1, 0, none⟩ = some (.int .u8 32) ∧ Below w.heap.size w w3 := by subst hw1; exact NW.out _ _ _ _ bb3
  obtain ⟨c3, _, bw3⟩ := n3
  obtain ⟨x0, y0, f0, f1, f2, f3⟩ := c3.cells
  go_wp2
  have r1 := c3.stored (.string ⟨#[]⟩) (.string ⟨#[]⟩)
  exact bodyPost_ret (by rw [results_cell_tmp rfl]; simp [asAddr, run_loadVar_row _ _ _ 29 _ _ _ r1 Tryd.underlying29 rfl info28]) rfl ⟨rfl, (bw3.setCell (Nat.le_refl _) _).setCell (Nat.le_refl _) _⟩

set_option maxHeartbeats 2000000 in
set_option maxRecDepth 20000 in
theorem first_len (b o cap : Nat) (bs : List UInt8) (w : World) (hB : BytesAt w b o bs) (hcap : bs.length ≤ cap) (hbig : cap ≤ 9223372036854775807) (hlen : bs.length ≤ 281474976710656) (ht : Vs w) (M l : Nat) (hM : (digs bs).length + (l + 1) = M) (hMn : M ≤ bs.length) (hnv : nval ⟨(digs bs).toArray⟩ = some (M : Int)) (hp : ¬ plen (l + 1) = M) :
    Calls Tryd.prog 15 #[.slice (some ⟨b, o, none⟩) bs.length cap] w fun e w' => e = .returned (.tuple #[.agg #[.string ⟨#[]⟩, .string ⟨#[]⟩], .int .i64 0]) ∧ Below w.heap.size w w' := by
  have hd := digs_le bs
  have hD : Hid (BytesAt w b o (digs bs)) := digs_at hB
  have HB : Hid (BytesAt w b o bs) := hB
  have HV : Hid (Vs w) := ht
  have q0 : ∀ W g, BytesAt W b o bs → W.cell? ⟨g, 0, none⟩ = some (.int .u8 32) → Calls Tryd.prog 21 #[.slice (some ⟨b, o, none⟩) bs.length cap, .slice (some ⟨g, 0, none⟩) 1 1] W fun e w' => (∃ v fl, e = .returned (.tuple #[.slice (some ⟨b, o, none⟩) (digs bs).length cap, v, .bool fl])) ∧ (w' = W ∨ w' = W.drew) := fun W g h1 h2 => cut32 W b o cap bs g 1 h1 h2 hcap hbig
  have qn : ∀ W, Vs W → Calls Tryd.prog 9 #[.string ⟨(digs bs).toArray⟩] W fun e w' => e = .returned (.tuple #[.int .i64 (M : Int), .int .i64 0]) ∧ Below W.heap.size W w' := fun W hv => by
    refine (number_w ⟨(digs bs).toArray⟩ (by show (digs bs).toArray.size ≤ _; simp; omega) W hv).mono ?_
    rintro e w' ⟨he, hb⟩
    rw [hnv] at he
    exact ⟨he, hb⟩
  have qc : ∀ W, BytesAt W b o (digs bs) → (convert 24 9 (.slice (some ⟨b, o, none⟩) (digs bs).length cap)).run Tryd.prog W = .ok (.string ⟨(digs bs).toArray⟩) W := fun W h => conv_str W b o cap (digs bs) h
  have NW : Hid (∀ (x y z : Value) (W : World), Below ((w.alloc (.cells #[x, y] 29)).alloc (.cells #[z] 5 (1, 2))).heap.size ((w.alloc (.cells #[x, y] 29)).alloc (.cells #[z] 5 (1, 2))) W → Cell2 W w.heap.size ∧ W.cell? ⟨w.heap.size + 1, 0, none⟩ = some z ∧ Below w.heap.size w W) := fun x y z W h => two_new w W x y z h
  have rm : ∀ W : World, (Instr.sliceAt 24 (.slice (some ⟨b, o, none⟩) bs.length cap) (some (.int .i64 ((digs bs).length : Int))) (some (.int .i64 (M : Int))) none).run Tryd.prog W = .ok (.slice (some ⟨b, o + (digs bs).length, none⟩) (l + 1) (cap - (digs bs).length)) W := fun W => by
    have := run_mid W b o bs.length cap (digs bs).length M (by omega) (by omega) (by omega)
    rw [this, show M - (digs bs).length = l + 1 by omega]
  have HL : Hid (∀ W, Vs W → Calls Tryd.prog 13 #[.int .i64 ((l + 1 : Nat) : Int)] W fun ev w' => ev = .returned (.int .i64 (plen (l + 1))) ∧ Below W.heap.size W w') := fun W hv => length_w (l + 1) (by omega) W hv
  have z0 : ¬ (M : Int) ≤ ((digs bs).length : Int) := by omega
  have z1 : (M : Int) ≤ (bs.length : Int) := by omega
  have hlb : l ≤ 281474976710656 := by omega
  have hp2 : ¬ ((plen (l + 1) : Nat) : Int) = (M : Int) := by omega
  generalize hds : (⟨(digs bs).toArray⟩ : ByteArray) = S at *
  clear hds hB ht hnv
  generalize hdl : (digs bs).length = D at *
  generalize hbl : bs.length = n at *
  clear hM hp hMn
  generalize plen (l + 1) = Pl at *
  have QC : Hid (∀ W, BytesAt W b o (digs bs) → (convert 24 9 (.slice (some ⟨b, o, none⟩) D cap)).run Tryd.prog W = .ok (.string S) W) := qc
  clear qc hdl hbl
  have cv1 : (convert 24 24 (.slice (some ⟨w.heap.size + 1, 0, none⟩) 1 1)).run Tryd.prog ((w.alloc (.cells #[.string ⟨#[]⟩, .string ⟨#[]⟩] 29)).alloc (.cells #[.int .u8 32] 5)) = .ok (.slice (some ⟨w.heap.size + 1, 0, none⟩) 1 1) ((w.alloc (.cells #[.string ⟨#[]⟩, .string ⟨#[]⟩] 29)).alloc (.cells #[.int .u8 32] 5 (1, 2))) := by
    have := Lib.run_convert_bytes_const (P := Tryd.prog) (w.alloc (.cells #[.string ⟨#[]⟩, .string ⟨#[]⟩] 29)) 24 5 #[.int .u8 32] 1 1 Tryd.underlying24 Tryd.underlying5
    simpa using this
  go_enter Tryd.func15, Tryd.ntmps15
  go_wp2_with fail
  have b0 := NW.out (.string ⟨#[]⟩) (.string ⟨#[]⟩) (.int .u8 32) _ (Below.refl _ _)
  generalize hw1 : ((w.alloc (.cells #[.string ⟨#[]⟩, .string ⟨#[]⟩] 29)).alloc (.cells #[.int .u8 32] 5 (1, 2))) = w1 at *
  refine (q0 w1 _ (HB.out.below b0.2.2) b0.2.1).mono ?_
  rintro e w2 ⟨⟨v, fl, rfl⟩, hw2⟩
  have b2 : Below w1.heap.size w1 w2 := by
    rcases hw2 with rfl | rfl
    · exact Below.refl _ _
    · exact (Below.refl _ _).drew
  clear hw2
  have bw2 : Below w.heap.size w w2 := by subst hw1; exact (NW.out _ _ _ _ b2).2.2
  have qc2 := QC.out w2 (hD.out.below bw2)
  go_wp2_with fail
  refine (qn w2 (HV.out.below bw2)).mono ?_
  rintro e w3 ⟨rfl, b3⟩
  have bb3 : Below w1.heap.size w1 w3 := b2.trans (b3.mono b2.size)
  have n3 : Cell2 w3 w.heap.size ∧ w3.cell? ⟨w.heap.size + 1, 0, none⟩ = some (.int .u8 32) ∧ Below w.heap.size w w3 := by subst hw1; exact NW.out _ _ _ _ bb3
  obtain ⟨c3, _, bw3⟩ := n3
  obtain ⟨x0, y0, f0, f1, f2, f3⟩ := c3.cells
  have hq := HL.out w3 (HV.out.below bw3)
  go_wp2_with (go_at_call 13; refine hq.mono ?_; rintro e w4 ⟨rfl, b4⟩; have n4 : Cell2 w4 w.heap.size ∧ w4.cell? ⟨w.heap.size + 1, 0, none⟩ = some (.int .u8 32) ∧ Below w.heap.size w w4 := (by subst hw1; exact NW.out _ _ _ _ (bb3.trans (b4.mono bb3.size))); obtain ⟨c4, _, bw4⟩ := n4; obtain ⟨x1, y1, e0, e1, e2, e3⟩ := c4.cells)
  have r1 := c4.stored (.string ⟨#[]⟩) (.string ⟨#[]⟩)
  exact bodyPost_ret (by rw [results_cell_tmp rfl]; simp [asAddr, run_loadVar_row _ _ _ 29 _ _ _ r1 Tryd.underlying29 rfl info28]) rfl ⟨rfl, (bw4.setCell (Nat.le_refl _) _).setCell (Nat.le_refl _) _⟩

set_option maxHeartbeats 2000000 in
set_option maxRecDepth 20000 in
theorem first_last (b o cap : Nat) (bs : List UInt8) (w : World) (hB : BytesAt w b o bs) (hcap : bs.length ≤ cap) (hbig : cap ≤ 9223372036854775807) (hlen : bs.length ≤ 281474976710656) (ht : Vs w) (M l : Nat) (hM : (digs bs).length + (l + 1) = M) (hMn : M ≤ bs.length) (hnv : nval ⟨(digs bs).toArray⟩ = some (M : Int)) (hp : plen (l + 1) = M) (hl : ¬ bs.getD (M - 1) 0 = 10) :
    Calls Tryd.prog 15 #[.slice (some ⟨b, o, none⟩) bs.length cap] w fun e w' => e = .returned (.tuple #[.agg #[.string ⟨#[]⟩, .string ⟨#[]⟩], .int .i64 0]) ∧ Below w.heap.size w w' := by
  have hd := digs_le bs
  have hD : Hid (BytesAt w b o (digs bs)) := digs_at hB
  have HB : Hid (BytesAt w b o bs) := hB
  have HV : Hid (Vs w) := ht
  have q0 : ∀ W g, BytesAt W b o bs → W.cell? ⟨g, 0, none⟩ = some (.int .u8 32) → Calls Tryd.prog 21 #[.slice (some ⟨b, o, none⟩) bs.length cap, .slice (some ⟨g, 0, none⟩) 1 1] W fun e w' => (∃ v fl, e = .returned (.tuple #[.slice (some ⟨b, o, none⟩) (digs bs).length cap, v, .bool fl])) ∧ (w' = W ∨ w' = W.drew) := fun W g h1 h2 => cut32 W b o cap bs g 1 h1 h2 hcap hbig
  have qn : ∀ W, Vs W → Calls Tryd.prog 9 #[.string ⟨(digs bs).toArray⟩] W fun e w' => e = .returned (.tuple #[.int .i64 (M : Int), .int .i64 0]) ∧ Below W.heap.size W w' := fun W hv => by
    refine (number_w ⟨(digs bs).toArray⟩ (by show (digs bs).toArray.size ≤ _; simp; omega) W hv).mono ?_
    rintro e w' ⟨he, hb⟩
    rw [hnv] at he
    exact ⟨he, hb⟩
  have qc : ∀ W, BytesAt W b o (digs bs) → (convert 24 9 (.slice (some ⟨b, o, none⟩) (digs bs).length cap)).run Tryd.prog W = .ok (.string ⟨(digs bs).toArray⟩) W := fun W h => conv_str W b o cap (digs bs) h
  have NW : Hid (∀ (x y z : Value) (W : World), Below ((w.alloc (.cells #[x, y] 29)).alloc (.cells #[z] 5 (1, 2))).heap.size ((w.alloc (.cells #[x, y] 29)).alloc (.cells #[z] 5 (1, 2))) W → Cell2 W w.heap.size ∧ W.cell? ⟨w.heap.size + 1, 0, none⟩ = some z ∧ Below w.heap.size w W) := fun x y z W h => two_new w W x y z h
  have rm : ∀ W : World, (Instr.sliceAt 24 (.slice (some ⟨b, o, none⟩) bs.length cap) (some (.int .i64 ((digs bs).length : Int))) (some (.int .i64 (M : Int))) none).run Tryd.prog W = .ok (.slice (some ⟨b, o + (digs bs).length, none⟩) (l + 1) (cap - (digs bs).length)) W := fun W => by
    have := run_mid W b o bs.length cap (digs bs).length M (by omega) (by omega) (by omega)
    rw [this, show M - (digs bs).length = l + 1 by omega]
  have HL : Hid (∀ W, Vs W → Calls Tryd.prog 13 #[.int .i64 ((l + 1 : Nat) : Int)] W fun ev w' => ev = .returned (.int .i64 (plen (l + 1))) ∧ Below W.heap.size W w') := fun W hv => length_w (l + 1) (by omega) W hv
  have z0 : ¬ (M : Int) ≤ ((digs bs).length : Int) := by omega
  have z1 : (M : Int) ≤ (bs.length : Int) := by omega
  have hlb : l ≤ 281474976710656 := by omega
  rw [hp] at HL
  have HC : Hid (∀ W, BytesAt W b o bs → W.cell? ⟨b, o + (digs bs).length + l, none⟩ = some (.int .u8 ((bs.getD (M - 1) 0).toNat : Int))) := fun W h => by
    have := h (M - 1) (by omega)
    rwa [show o + (M - 1) = o + (digs bs).length + l by omega] at this
  have hl2 : ¬ (((bs.getD (M - 1) 0).toNat : Nat) : Int) = 10 := fun e => hl (by
    have e2 : (bs.getD (M - 1) 0).toNat = 10 := by omega
    exact UInt8.toNat_inj.1 e2)
  generalize hds : (⟨(digs bs).toArray⟩ : ByteArray) = S at *
  clear hds hB ht hnv
  generalize hdl : (digs bs).length = D at *
  generalize hbl : bs.length = n at *
  clear hM hp hMn hl
  generalize ((bs.getD (M - 1) 0).toNat : Int) = lb at *
  have QC : Hid (∀ W, BytesAt W b o (digs bs) → (convert 24 9 (.slice (some ⟨b, o, none⟩) D cap)).run Tryd.prog W = .ok (.string S) W) := qc
  clear qc hdl hbl
  have cv1 : (convert 24 24 (.slice (some ⟨w.heap.size + 1, 0, none⟩) 1 1)).run Tryd.prog ((w.alloc (.cells #[.string ⟨#[]⟩, .string ⟨#[]⟩] 29)).alloc (.cells #[.int .u8 32] 5)) = .ok (.slice (some ⟨w.heap.size + 1, 0, none⟩) 1 1) ((w.alloc (.cells #[.string ⟨#[]⟩, .string ⟨#[]⟩] 29)).alloc (.cells #[.int .u8 32] 5 (1, 2))) := by
    have := Lib.run_convert_bytes_const (P := Tryd.prog) (w.alloc (.cells #[.string ⟨#[]⟩, .string ⟨#[]⟩] 29)) 24 5 #[.int .u8 32] 1 1 Tryd.underlying24 Tryd.underlying5
    simpa using this
  go_enter Tryd.func15, Tryd.ntmps15
  go_wp2_with fail
  have b0 := NW.out (.string ⟨#[]⟩) (.string ⟨#[]⟩) (.int .u8 32) _ (Below.refl _ _)
  generalize hw1 : ((w.alloc (.cells #[.string ⟨#[]⟩, .string ⟨#[]⟩] 29)).alloc (.cells #[.int .u8 32] 5 (1, 2))) = w1 at *
  refine (q0 w1 _ (HB.out.below b0.2.2) b0.2.1).mono ?_
  rintro e w2 ⟨⟨v, fl, rfl⟩, hw2⟩
  have b2 : Below w1.heap.size w1 w2 := by
    rcases hw2 with rfl | rfl
    · exact Below.refl _ _
    · exact (Below.refl _ _).drew
  clear hw2
  have bw2 : Below w.heap.size w w2 := by subst hw1; exact (NW.out _ _ _ _ b2).2.2
  have qc2 := QC.out w2 (hD.out.below bw2)
  go_wp2_with fail
  refine (qn w2 (HV.out.below bw2)).mono ?_
  rintro e w3 ⟨rfl, b3⟩
  have bb3 : Below w1.heap.size w1 w3 := b2.trans (b3.mono b2.size)
  have n3 : Cell2 w3 w.heap.size ∧ w3.cell? ⟨w.heap.size + 1, 0, none⟩ = some (.int .u8 32) ∧ Below w.heap.size w w3 := by subst hw1; exact NW.out _ _ _ _ bb3
  obtain ⟨c3, _, bw3⟩ := n3
  obtain ⟨x0, y0, f0, f1, f2, f3⟩ := c3.cells
  have hq := HL.out w3 (HV.out.below bw3)
  go_wp2_with (go_at_call 13; refine hq.mono ?_; rintro e w4 ⟨rfl, b4⟩; have n4 : Cell2 w4 w.heap.size ∧ w4.cell? ⟨w.heap.size + 1, 0, none⟩ = some (.int .u8 32) ∧ Below w.heap.size w w4 := (by subst hw1; exact NW.out _ _ _ _ (bb3.trans (b4.mono bb3.size))); obtain ⟨c4, _, bw4⟩ := n4; obtain ⟨x1, y1, e0, e1, e2, e3⟩ := c4.cells; have hcl := HC.out w4 (HB.out.below bw4))
  have r1 := c4.stored (.string ⟨#[]⟩) (.string ⟨#[]⟩)
  exact bodyPost_ret (by rw [results_cell_tmp rfl]; simp [asAddr, run_loadVar_row _ _ _ 29 _ _ _ r1 Tryd.underlying29 rfl info28]) rfl ⟨rfl, (bw4.setCell (Nat.le_refl _) _).setCell (Nat.le_refl _) _⟩


theorem alloc1 (w : World) (z : Value) : (w.alloc (.cells #[z] 5 (1, 2))).cell? ⟨w.heap.size, 0, none⟩ = some z ∧ Below w.heap.size w (w.alloc (.cells #[z] 5 (1, 2))) := by
  have hn := heap_alloc_new w (.cells #[z] 5 (1, 2))
  refine ⟨?_, (Below.refl _ _).alloc (Nat.le_refl _) _⟩
  simp only [World.cell?]
  rw [hn]
  rfl

set_option maxHeartbeats 2000000 in
set_option maxRecDepth 20000 in
theorem first_nokey (b o cap : Nat) (bs : List UInt8) (w : World) (hB : BytesAt w b o bs) (hcap : bs.length ≤ cap) (hbig : cap ≤ 9223372036854775807) (hlen : bs.length ≤ 281474976710656) (ht : Vs w) (M m : Nat) (hM : (digs bs).length + (m + 1 + 1) = M) (hMn : M ≤ bs.length) (hnv : nval ⟨(digs bs).toArray⟩ = some (M : Int)) (hp : plen (m + 1 + 1) = M) (hl : bs.getD (M - 1) 0 = 10) (hx : pos ((bs.drop ((digs bs).length + 1)).take m) 61 = none) :
    Calls Tryd.prog 15 #[.slice (some ⟨b, o, none⟩) bs.length cap] w fun e w' => e = .returned (.tuple #[.agg #[.string ⟨#[]⟩, .string ⟨#[]⟩], .int .i64 0]) ∧ Below w.heap.size w w' := by
  have hd := digs_le bs
  have hD : Hid (BytesAt w b o (digs bs)) := digs_at hB
  have HB : Hid (BytesAt w b o bs) := hB
  have HV : Hid (Vs w) := ht
  have q0 : ∀ W g, BytesAt W b o bs → W.cell? ⟨g, 0, none⟩ = some (.int .u8 32) → Calls Tryd.prog 21 #[.slice (some ⟨b, o, none⟩) bs.length cap, .slice (some ⟨g, 0, none⟩) 1 1] W fun e w' => (∃ v fl, e = .returned (.tuple #[.slice (some ⟨b, o, none⟩) (digs bs).length cap, v, .bool fl])) ∧ (w' = W ∨ w' = W.drew) := fun W g h1 h2 => cut32 W b o cap bs g 1 h1 h2 hcap hbig
  have qn : ∀ W, Vs W → Calls Tryd.prog 9 #[.string ⟨(digs bs).toArray⟩] W fun e w' => e = .returned (.tuple #[.int .i64 (M : Int), .int .i64 0]) ∧ Below W.heap.size W w' := fun W hv => by
    refine (number_w ⟨(digs bs).toArray⟩ (by show (digs bs).toArray.size ≤ _; simp; omega) W hv).mono ?_
    rintro e w' ⟨he, hb⟩
    rw [hnv] at he
    exact ⟨he, hb⟩
  have qc : ∀ W, BytesAt W b o (digs bs) → (convert 24 9 (.slice (some ⟨b, o, none⟩) (digs bs).length cap)).run Tryd.prog W = .ok (.string ⟨(digs bs).toArray⟩) W := fun W h => conv_str W b o cap (digs bs) h
  have NW : Hid (∀ (x y z : Value) (W : World), Below ((w.alloc (.cells #[x, y] 29)).alloc (.cells #[z] 5 (1, 2))).heap.size ((w.alloc (.cells #[x, y] 29)).alloc (.cells #[z] 5 (1, 2))) W → Cell2 W w.heap.size ∧ W.cell? ⟨w.heap.size + 1, 0, none⟩ = some z ∧ Below w.heap.size w W) := fun x y z W h => two_new w W x y z h
  have rm : ∀ W : World, (Instr.sliceAt 24 (.slice (some ⟨b, o, none⟩) bs.length cap) (some (.int .i64 ((digs bs).length : Int))) (some (.int .i64 (M : Int))) none).run Tryd.prog W = .ok (.slice (some ⟨b, o + (digs bs).length, none⟩) (m + 1 + 1) (cap - (digs bs).length)) W := fun W => by
    have := run_mid W b o bs.length cap (digs bs).length M (by omega) (by omega) (by omega)
    rw [this, show M - (digs bs).length = m + 1 + 1 by omega]
  have HL : Hid (∀ W, Vs W → Calls Tryd.prog 13 #[.int .i64 ((m + 1 + 1 : Nat) : Int)] W fun ev w' => ev = .returned (.int .i64 (plen (m + 1 + 1))) ∧ Below W.heap.size W w') := fun W hv => length_w (m + 1 + 1) (by omega) W hv
  have z0 : ¬ (M : Int) ≤ ((digs bs).length : Int) := by omega
  have z1 : (M : Int) ≤ (bs.length : Int) := by omega
  have hlb : m ≤ 281474976710656 := by omega
  rw [hp] at HL
  have HC : Hid (∀ W, BytesAt W b o bs → W.cell? ⟨b, o + (digs bs).length + (m + 1), none⟩ = some (.int .u8 10)) := fun W h => by
    have := h (M - 1) (by omega)
    rw [hl] at this
    rwa [show o + (M - 1) = o + (digs bs).length + (m + 1) by omega] at this
  have HM : Hid (∀ W, BytesAt W b o bs → BytesAt W b (o + (digs bs).length + 1) ((bs.drop ((digs bs).length + 1)).take m)) := fun W h => by
    have := (h.drop ((digs bs).length + 1)).take m
    rwa [← Nat.add_assoc] at this
  have hml : ((bs.drop ((digs bs).length + 1)).take m).length = m := by simp; omega
  have rs : ∀ W : World, (Instr.sliceAt 24 (.slice (some ⟨b, o + (digs bs).length, none⟩) (m + 1 + 1) (cap - (digs bs).length)) (some (.int .i64 1)) (some (.int .i64 ((m : Int) + 1))) none).run Tryd.prog W = .ok (.slice (some ⟨b, o + (digs bs).length + 1, none⟩) m (cap - (digs bs).length - 1)) W := fun W => by
    have := run_mid W b (o + (digs bs).length) (m + 1 + 1) (cap - (digs bs).length) 1 (m + 1) (by omega) (by omega) (by omega)
    rw [show ((m + 1 : Nat) : Int) = (m : Int) + 1 by omega] at this
    simpa using this
  have cv2 : ∀ W : World, (convert 24 24 (.slice (some ⟨W.heap.size, 0, none⟩) 1 1)).run Tryd.prog (W.alloc (.cells #[.int .u8 61] 5)) = .ok (.slice (some ⟨W.heap.size, 0, none⟩) 1 1) (W.alloc (.cells #[.int .u8 61] 5 (1, 2))) := fun W => Lib.run_convert_bytes_const (P := Tryd.prog) W 24 5 #[.int .u8 61] 1 1 Tryd.underlying24 Tryd.underlying5
  have hcp : m + 1 + 1 ≤ cap - (digs bs).length := by omega
  have HX : Hid (m + 1 + 1 ≤ cap - (digs bs).length) := hcp
  have HQ : Hid (∀ W g, BytesAt W b (o + (digs bs).length + 1) ((bs.drop ((digs bs).length + 1)).take m) → W.cell? ⟨g, 0, none⟩ = some (.int .u8 61) → Calls Tryd.prog 21 #[.slice (some ⟨b, o + (digs bs).length + 1, none⟩) m (cap - (digs bs).length - 1), .slice (some ⟨g, 0, none⟩) 1 1] W fun e w' => e = .returned (.tuple #[.slice (some ⟨b, o + (digs bs).length + 1, none⟩) m (cap - (digs bs).length - 1), .slice none 0 0, .bool false]) ∧ W = w') := fun W g h1 h2 => by
    have := cut_none W b (o + (digs bs).length + 1) (cap - (digs bs).length - 1) _ g 61 1 h1 h2 hx
    rwa [hml] at this
  generalize hds : (⟨(digs bs).toArray⟩ : ByteArray) = S at *
  clear hds hB ht hnv
  generalize hdl : (digs bs).length = D at *
  generalize hbl : bs.length = n at *
  clear hM hp hMn hl hx hml
  generalize (bs.drop (D + 1)).take m = mid at *
  have QC : Hid (∀ W, BytesAt W b o (digs bs) → (convert 24 9 (.slice (some ⟨b, o, none⟩) D cap)).run Tryd.prog W = .ok (.string S) W) := qc
  clear qc hdl hbl
  have cv1 : (convert 24 24 (.slice (some ⟨w.heap.size + 1, 0, none⟩) 1 1)).run Tryd.prog ((w.alloc (.cells #[.string ⟨#[]⟩, .string ⟨#[]⟩] 29)).alloc (.cells #[.int .u8 32] 5)) = .ok (.slice (some ⟨w.heap.size + 1, 0, none⟩) 1 1) ((w.alloc (.cells #[.string ⟨#[]⟩, .string ⟨#[]⟩] 29)).alloc (.cells #[.int .u8 32] 5 (1, 2))) := by
    have := Lib.run_convert_bytes_const (P := Tryd.prog) (w.alloc (.cells #[.string ⟨#[]⟩, .string ⟨#[]⟩] 29)) 24 5 #[.int .u8 32] 1 1 Tryd.underlying24 Tryd.underlying5
    simpa using this
  go_enter Tryd.func15, Tryd.ntmps15
  go_wp2_with fail
  have b0 := NW.out (.string ⟨#[]⟩) (.string ⟨#[]⟩) (.int .u8 32) _ (Below.refl _ _)
  generalize hw1 : ((w.alloc (.cells #[.string ⟨#[]⟩, .string ⟨#[]⟩] 29)).alloc (.cells #[.int .u8 32] 5 (1, 2))) = w1 at *
  refine (q0 w1 _ (HB.out.below b0.2.2) b0.2.1).mono ?_
  rintro e w2 ⟨⟨v, fl, rfl⟩, hw2⟩
  have b2 : Below w1.heap.size w1 w2 := by
    rcases hw2 with rfl | rfl
    · exact Below.refl _ _
    · exact (Below.refl _ _).drew
  clear hw2
  have bw2 : Below w.heap.size w w2 := by subst hw1; exact (NW.out _ _ _ _ b2).2.2
  have qc2 := QC.out w2 (hD.out.below bw2)
  go_wp2_with fail
  refine (qn w2 (HV.out.below bw2)).mono ?_
  rintro e w3 ⟨rfl, b3⟩
  have bb3 : Below w1.heap.size w1 w3 := b2.trans (b3.mono b2.size)
  have n3 : Cell2 w3 w.heap.size ∧ w3.cell? ⟨w.heap.size + 1, 0, none⟩ = some (.int .u8 32) ∧ Below w.heap.size w w3 := by subst hw1; exact NW.out _ _ _ _ bb3
  obtain ⟨c3, _, bw3⟩ := n3
  obtain ⟨x0, y0, f0, f1, f2, f3⟩ := c3.cells
  have hq := HL.out w3 (HV.out.below bw3)
  go_wp2_with (go_at_call 13; refine hq.mono ?_; rintro e w4 ⟨rfl, b4⟩; have n4 : Cell2 w4 w.heap.size ∧ w4.cell? ⟨w.heap.size + 1, 0, none⟩ = some (.int .u8 32) ∧ Below w.heap.size w w4 := (by subst hw1; exact NW.out _ _ _ _ (bb3.trans (b4.mono bb3.size))); obtain ⟨c4, _, bw4⟩ := n4; obtain ⟨x1, y1, e0, e1, e2, e3⟩ := c4.cells; have hcl := HC.out w4 (HB.out.below bw4))
  have k5 := alloc1 w4 (.int .u8 61)
  generalize hw5 : w4.alloc (.cells #[.int .u8 61] 5 (1, 2)) = w5 at *
  have bw5 : Below w.heap.size w w5 := bw4.trans (k5.2.mono bw4.size)
  have m5 := HM.out w5 (HB.out.below bw5)
  refine (HQ.out w5 _ m5 k5.1).mono ?_
  rintro e w6 ⟨rfl, rfl⟩
  have c5 : Cell2 w5 w.heap.size := c4.below k5.2
  obtain ⟨x2, y2, d0, d1, d2, d3⟩ := c5.cells
  go_wp2
  have r1 := c5.stored (.string ⟨#[]⟩) (.string ⟨#[]⟩)
  exact bodyPost_ret (by rw [results_cell_tmp rfl]; simp [asAddr, run_loadVar_row _ _ _ 29 _ _ _ r1 Tryd.underlying29 rfl info28]) rfl ⟨rfl, (bw5.setCell (Nat.le_refl _) _).setCell (Nat.le_refl _) _⟩

set_option maxHeartbeats 2000000 in
set_option maxRecDepth 20000 in
theorem first_yes (b o cap : Nat) (bs : List UInt8) (w : World) (hB : BytesAt w b o bs) (hcap : bs.length ≤ cap) (hbig : cap ≤ 9223372036854775807) (hlen : bs.length ≤ 281474976710656) (ht : Vs w) (M m : Nat) (hM : (digs bs).length + (m + 1 + 1) = M) (hMn : M ≤ bs.length) (hnv : nval ⟨(digs bs).toArray⟩ = some (M : Int)) (hp : plen (m + 1 + 1) = M) (hl : bs.getD (M - 1) 0 = 10) (i : Nat) (hx : pos ((bs.drop ((digs bs).length + 1)).take m) 61 = some i) :
    Calls Tryd.prog 15 #[.slice (some ⟨b, o, none⟩) bs.length cap] w fun e w' => e = .returned (.tuple #[.agg #[.string ⟨(((bs.drop ((digs bs).length + 1)).take m).take i).toArray⟩, .string ⟨(((bs.drop ((digs bs).length + 1)).take m).drop (i + 1)).toArray⟩], .int .i64 M]) ∧ Below w.heap.size w w' := by
  have hd := digs_le bs
  have hD : Hid (BytesAt w b o (digs bs)) := digs_at hB
  have HB : Hid (BytesAt w b o bs) := hB
  have HV : Hid (Vs w) := ht
  have q0 : ∀ W g, BytesAt W b o bs → W.cell? ⟨g, 0, none⟩ = some (.int .u8 32) → Calls Tryd.prog 21 #[.slice (some ⟨b, o, none⟩) bs.length cap, .slice (some ⟨g, 0, none⟩) 1 1] W fun e w' => (∃ v fl, e = .returned (.tuple #[.slice (some ⟨b, o, none⟩) (digs bs).length cap, v, .bool fl])) ∧ (w' = W ∨ w' = W.drew) := fun W g h1 h2 => cut32 W b o cap bs g 1 h1 h2 hcap hbig
  have qn : ∀ W, Vs W → Calls Tryd.prog 9 #[.string ⟨(digs bs).toArray⟩] W fun e w' => e = .returned (.tuple #[.int .i64 (M : Int), .int .i64 0]) ∧ Below W.heap.size W w' := fun W hv => by
    refine (number_w ⟨(digs bs).toArray⟩ (by show (digs bs).toArray.size ≤ _; simp; omega) W hv).mono ?_
    rintro e w' ⟨he, hb⟩
    rw [hnv] at he
    exact ⟨he, hb⟩
  have qc : ∀ W, BytesAt W b o (digs bs) → (convert 24 9 (.slice (some ⟨b, o, none⟩) (digs bs).length cap)).run Tryd.prog W = .ok (.string ⟨(digs bs).toArray⟩) W := fun W h => conv_str W b o cap (digs bs) h
  have NW : Hid (∀ (x y z : Value) (W : World), Below ((w.alloc (.cells #[x, y] 29)).alloc (.cells #[z] 5 (1, 2))).heap.size ((w.alloc (.cells #[x, y] 29)).alloc (.cells #[z] 5 (1, 2))) W → Cell2 W w.heap.size ∧ W.cell? ⟨w.heap.size + 1, 0, none⟩ = some z ∧ Below w.heap.size w W) := fun x y z W h => two_new w W x y z h
  have rm : ∀ W : World, (Instr.sliceAt 24 (.slice (some ⟨b, o, none⟩) bs.length cap) (some (.int .i64 ((digs bs).length : Int))) (some (.int .i64 (M : Int))) none).run Tryd.prog W = .ok (.slice (some ⟨b, o + (digs bs).length, none⟩) (m + 1 + 1) (cap - (digs bs).length)) W := fun W => by
    have := run_mid W b o bs.length cap (digs bs).length M (by omega) (by omega) (by omega)
    rw [this, show M - (digs bs).length = m + 1 + 1 by omega]
  have HL : Hid (∀ W, Vs W → Calls Tryd.prog 13 #[.int .i64 ((m + 1 + 1 : Nat) : Int)] W fun ev w' => ev = .returned (.int .i64 (plen (m + 1 + 1))) ∧ Below W.heap.size W w') := fun W hv => length_w (m + 1 + 1) (by omega) W hv
  have z0 : ¬ (M : Int) ≤ ((digs bs).length : Int) := by omega
  have z1 : (M : Int) ≤ (bs.length : Int) := by omega
  have hlb : m ≤ 281474976710656 := by omega
  rw [hp] at HL
  have HC : Hid (∀ W, BytesAt W b o bs → W.cell? ⟨b, o + (digs bs).length + (m + 1), none⟩ = some (.int .u8 10)) := fun W h => by
    have := h (M - 1) (by omega)
    rw [hl] at this
    rwa [show o + (M - 1) = o + (digs bs).length + (m + 1) by omega] at this
  have HM : Hid (∀ W, BytesAt W b o bs → BytesAt W b (o + (digs bs).length + 1) ((bs.drop ((digs bs).length + 1)).take m)) := fun W h => by
    have := (h.drop ((digs bs).length + 1)).take m
    rwa [← Nat.add_assoc] at this
  have hml : ((bs.drop ((digs bs).length + 1)).take m).length = m := by simp; omega
  have rs : ∀ W : World, (Instr.sliceAt 24 (.slice (some ⟨b, o + (digs bs).length, none⟩) (m + 1 + 1) (cap - (digs bs).length)) (some (.int .i64 1)) (some (.int .i64 ((m : Int) + 1))) none).run Tryd.prog W = .ok (.slice (some ⟨b, o + (digs bs).length + 1, none⟩) m (cap - (digs bs).length - 1)) W := fun W => by
    have := run_mid W b (o + (digs bs).length) (m + 1 + 1) (cap - (digs bs).length) 1 (m + 1) (by omega) (by omega) (by omega)
    rw [show ((m + 1 : Nat) : Int) = (m : Int) + 1 by omega] at this
    simpa using this
  have cv2 : ∀ W : World, (convert 24 24 (.slice (some ⟨W.heap.size, 0, none⟩) 1 1)).run Tryd.prog (W.alloc (.cells #[.int .u8 61] 5)) = .ok (.slice (some ⟨W.heap.size, 0, none⟩) 1 1) (W.alloc (.cells #[.int .u8 61] 5 (1, 2))) := fun W => Lib.run_convert_bytes_const (P := Tryd.prog) W 24 5 #[.int .u8 61] 1 1 Tryd.underlying24 Tryd.underlying5
  have hcp : m + 1 + 1 ≤ cap - (digs bs).length := by omega
  have HX : Hid (m + 1 + 1 ≤ cap - (digs bs).length) := hcp
  obtain ⟨_, hi⟩ := pos_some hx
  have HQ : Hid (∀ W g, BytesAt W b (o + (digs bs).length + 1) ((bs.drop ((digs bs).length + 1)).take m) → W.cell? ⟨g, 0, none⟩ = some (.int .u8 61) → Calls Tryd.prog 21 #[.slice (some ⟨b, o + (digs bs).length + 1, none⟩) m (cap - (digs bs).length - 1), .slice (some ⟨g, 0, none⟩) 1 1] W fun e w' => e = .returned (.tuple #[.slice (some ⟨b, o + (digs bs).length + 1, none⟩) i (cap - (digs bs).length - 1), .slice (some ⟨b, o + (digs bs).length + 1 + (i + 1), none⟩) (m - (i + 1)) (cap - (digs bs).length - 1 - (i + 1)), .bool true]) ∧ (w' = W ∨ w' = W.drew)) := fun W g h1 h2 => by
    have := cut_some W b (o + (digs bs).length + 1) (cap - (digs bs).length - 1) _ g 61 1 h1 h2 i hx (by omega) (by omega)
    rw [hml] at this hi
    rwa [show lowAt b (o + (digs bs).length + 1) (cap - (digs bs).length - 1) (i + 1) = some ⟨b, o + (digs bs).length + 1 + (i + 1), none⟩ from if_neg (by omega)] at this
  have KC : Hid (∀ W, BytesAt W b (o + (digs bs).length + 1) ((bs.drop ((digs bs).length + 1)).take m) → (convert 24 9 (.slice (some ⟨b, o + (digs bs).length + 1, none⟩) i (cap - (digs bs).length - 1))).run Tryd.prog W = .ok (.string ⟨(((bs.drop ((digs bs).length + 1)).take m).take i).toArray⟩) W) := fun W h => by
    have := conv_str W b (o + (digs bs).length + 1) (cap - (digs bs).length - 1) _ (h.take i)
    rwa [show (((bs.drop ((digs bs).length + 1)).take m).take i).length = i by rw [List.length_take]; omega] at this
  have VC : Hid (∀ W, BytesAt W b (o + (digs bs).length + 1) ((bs.drop ((digs bs).length + 1)).take m) → (convert 24 9 (.slice (some ⟨b, o + (digs bs).length + 1 + (i + 1), none⟩) (m - (i + 1)) (cap - (digs bs).length - 1 - (i + 1)))).run Tryd.prog W = .ok (.string ⟨(((bs.drop ((digs bs).length + 1)).take m).drop (i + 1)).toArray⟩) W) := fun W h => by
    have := conv_str W b (o + (digs bs).length + 1 + (i + 1)) (cap - (digs bs).length - 1 - (i + 1)) _ (h.drop (i + 1))
    rwa [show (((bs.drop ((digs bs).length + 1)).take m).drop (i + 1)).length = m - (i + 1) by rw [List.length_drop, hml]] at this
  generalize hds : (⟨(digs bs).toArray⟩ : ByteArray) = S at *
  clear hds hB ht hnv
  generalize hdl : (digs bs).length = D at *
  generalize hbl : bs.length = n at *
  clear hM hp hMn hl hx hml hi
  generalize (bs.drop (D + 1)).take m = mid at *
  generalize (⟨(mid.take i).toArray⟩ : ByteArray) = Ks at *
  generalize (⟨(mid.drop (i + 1)).toArray⟩ : ByteArray) = Vl at *
  have QC : Hid (∀ W, BytesAt W b o (digs bs) → (convert 24 9 (.slice (some ⟨b, o, none⟩) D cap)).run Tryd.prog W = .ok (.string S) W) := qc
  clear qc hdl hbl
  have cv1 : (convert 24 24 (.slice (some ⟨w.heap.size + 1, 0, none⟩) 1 1)).run Tryd.prog ((w.alloc (.cells #[.string ⟨#[]⟩, .string ⟨#[]⟩] 29)).alloc (.cells #[.int .u8 32] 5)) = .ok (.slice (some ⟨w.heap.size + 1, 0, none⟩) 1 1) ((w.alloc (.cells #[.string ⟨#[]⟩, .string ⟨#[]⟩] 29)).alloc (.cells #[.int .u8 32] 5 (1, 2))) := by
    have := Lib.run_convert_bytes_const (P := Tryd.prog) (w.alloc (.cells #[.string ⟨#[]⟩, .string ⟨#[]⟩] 29)) 24 5 #[.int .u8 32] 1 1 Tryd.underlying24 Tryd.underlying5
    simpa using this
  go_enter Tryd.func15, Tryd.ntmps15
  go_wp2_with fail
  have b0 := NW.out (.string ⟨#[]⟩) (.string ⟨#[]⟩) (.int .u8 32) _ (Below.refl _ _)
  generalize hw1 : ((w.alloc (.cells #[.string ⟨#[]⟩, .string ⟨#[]⟩] 29)).alloc (.cells #[.int .u8 32] 5 (1, 2))) = w1 at *
  refine (q0 w1 _ (HB.out.below b0.2.2) b0.2.1).mono ?_
  rintro e w2 ⟨⟨v, fl, rfl⟩, hw2⟩
  have b2 : Below w1.heap.size w1 w2 := by
    rcases hw2 with rfl | rfl
    · exact Below.refl _ _
    · exact (Below.refl _ _).drew
  clear hw2
  have bw2 : Below w.heap.size w w2 := by subst hw1; exact (NW.out _ _ _ _ b2).2.2
  have qc2 := QC.out w2 (hD.out.below bw2)
  go_wp2_with fail
  refine (qn w2 (HV.out.below bw2)).mono ?_
  rintro e w3 ⟨rfl, b3⟩
  have bb3 : Below w1.heap.size w1 w3 := b2.trans (b3.mono b2.size)
  have n3 : Cell2 w3 w.heap.size ∧ w3.cell? ⟨w.heap.size + 1, 0, none⟩ = some (.int .u8 32) ∧ Below w.heap.size w w3 := by subst hw1; exact NW.out _ _ _ _ bb3
  obtain ⟨c3, _, bw3⟩ := n3
  obtain ⟨x0, y0, f0, f1, f2, f3⟩ := c3.cells
  have hq := HL.out w3 (HV.out.below bw3)
  go_wp2_with (go_at_call 13; refine hq.mono ?_; rintro e w4 ⟨rfl, b4⟩; have n4 : Cell2 w4 w.heap.size ∧ w4.cell? ⟨w.heap.size + 1, 0, none⟩ = some (.int .u8 32) ∧ Below w.heap.size w w4 := (by subst hw1; exact NW.out _ _ _ _ (bb3.trans (b4.mono bb3.size))); obtain ⟨c4, _, bw4⟩ := n4; obtain ⟨x1, y1, e0, e1, e2, e3⟩ := c4.cells; have hcl := HC.out w4 (HB.out.below bw4))
  have k5 := alloc1 w4 (.int .u8 61)
  generalize hw5 : w4.alloc (.cells #[.int .u8 61] 5 (1, 2)) = w5 at *
  have bw5 : Below w.heap.size w w5 := bw4.trans (k5.2.mono bw4.size)
  have m5 := HM.out w5 (HB.out.below bw5)
  refine (HQ.out w5 _ m5 k5.1).mono ?_
  rintro e w6 ⟨rfl, hw6⟩
  have b6 : Below w5.heap.size w5 w6 := by
    rcases hw6 with rfl | rfl
    · exact Below.refl _ _
    · exact (Below.refl _ _).drew
  have c5 : Cell2 w5 w.heap.size := c4.below k5.2
  have c6 : Cell2 w6 w.heap.size := c5.below b6
  have bw6 : Below w.heap.size w w6 := bw5.trans (b6.mono bw5.size)
  have kc := KC.out w6 (HM.out w6 (HB.out.below bw6))
  have vc := VC.out w6 (HM.out w6 (HB.out.below bw6))
  obtain ⟨x2, y2, d0, d1, d2, d3⟩ := c6.cells
  clear hw6
  go_wp2
  have r1 := c6.stored (.string Ks) (.string Vl)
  exact bodyPost_ret (by rw [results_cell_tmp rfl]; simp [asAddr, run_loadVar_row _ _ _ 29 _ _ _ r1 Tryd.underlying29 rfl info28]) rfl ⟨rfl, (bw6.setCell (Nat.le_refl _) _).setCell (Nat.le_refl _) _⟩

end Go.Proofs.YtebnekkdkifgjabDoor
