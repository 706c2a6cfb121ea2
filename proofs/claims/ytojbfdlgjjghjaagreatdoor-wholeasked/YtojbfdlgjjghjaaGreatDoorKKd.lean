/-
  Contracts: ask.last, ask.Decode.
-/
import Derived.Test.YtojbfdlgjjghjaaGreatDoorKKc
import Derived.Laws.ResultCell
namespace Go.Proofs.YtojbfdlgjjghjaaGreatDoor.K
open Go.RowKit
open Go.Lib hiding intOf
set_option linter.unusedVariables false
set_option linter.unusedSimpArgs false

/-- only one block of those that were there has changed -/
structure Gx (g : Nat) (w W : World) : Prop where
  os : W.os = w.os
  tape : W.tape = w.tape
  output : W.output = w.output
  size : w.heap.size ≤ W.heap.size
  block : ∀ k, k < w.heap.size → k ≠ g → W.heap[k]? = w.heap[k]?
theorem Gx.refl (g : Nat) (w : World) : Gx g w w := ⟨rfl, rfl, rfl, Nat.le_refl _, fun _ _ _ => rfl⟩
theorem Gx.of_below {g : Nat} {w W : World} (b : Below w.heap.size w W) : Gx g w W := ⟨b.os, b.tape, b.output, b.size, fun k hk _ => b.block k hk⟩
theorem Gx.row {g : Nat} {w W : World} (h : Gx g w W) (D : Array Value) : Gx g w (W.setRow g D) :=
  ⟨h.os, h.tape, h.output, by rw [setRow_size]; exact h.size, fun k hk hn => (setRow_other _ _ _ _ hn).trans (h.block k hk hn)⟩
theorem Gx.below {g : Nat} {w W : World} (h : Gx g w W) {B : Nat} (hg : B ≤ g) (hB : B ≤ w.heap.size) : Below B w W :=
  ⟨h.os, h.tape, h.output, h.size, fun k hk => h.block k (by omega) (by omega)⟩

def Box (w : World) (g : Nat) (C : Array Value) : Prop := w.heap[g]? = some (.cells C 24 (0, 0))
theorem Box.cell {w : World} {g : Nat} {C : Array Value} (h : Box w g C) (i : Nat) : w.cell? ⟨g, i, none⟩ = C[i]? := by unfold Box at h; simp [World.cell?, h]
theorem Box.froz {w : World} {g : Nat} {C : Array Value} (h : Box w g C) (i : Nat) : w.frozen? ⟨g, i, none⟩ = false := by unfold Box at h; simp [World.frozen?, h]
theorem Box.set {w : World} {g : Nat} {C : Array Value} (h : Box w g C) (i : Nat) (v : Value) : Box (w.setCell ⟨g, i, none⟩ v) g (C.setIfInBounds i v) := by
  unfold Box at *
  rw [setCell_eq_setRow w g i _ _ _ v h]
  exact setRow_heap _ _ _ _ _ _ h
theorem Box.gx {w : World} {g : Nat} {C : Array Value} (h : Box w g C) {w0 : World} (x : Gx g w0 w) (i : Nat) (v : Value) : Gx g w0 (w.setCell ⟨g, i, none⟩ v) := by
  rw [setCell_eq_setRow w g i _ _ _ v h]
  exact x.row _
theorem Box.lt {w : World} {g : Nat} {C : Array Value} (h : Box w g C) : g < w.heap.size := (Array.getElem?_eq_some_iff.1 h).1
theorem Box.below {w W : World} {g : Nat} {C : Array Value} (h : Box w g C) {B : Nat} (b : Below B w W) (hg : g < B) : Box W g C := (b.block g hg).trans h

theorem sizeA (a : Ak) (d : Value) : (Tryz.prog.info? 24).map (·.size) = some (a.cells d).size := by
  have h2 : (Tryz.prog.info? 24).map (·.size) = some 6 := by kernel_rfl
  have h1 : (a.cells d).size = 6 := by simp [Ak.cells]
  rw [h1, h2]
theorem zeroA (W : World) : (zeroValue 24).run Tryz.prog W = .ok (.agg (Ak.zero.cells (.slice none 0 0))) W := by
  have b : (Tryz.prog.info? 24).bind (fun i => i.zero) = some (.agg (Ak.zero.cells (.slice none 0 0))) := by kernel_rfl
  cases hq : Tryz.prog.info? 24 with
  | none => rw [hq] at b; simp at b
  | some i => rw [hq] at b; simp at b; simp [zeroValue, typeInfo, hq, b]

/-- what stands behind the numbers -/
def lastP (k : Nat) (r : ByteArray) : Option (ByteArray × List UInt8) :=
  if k = 5 ∨ k = 6 ∨ k = 7 ∨ k = 8 then some (r, []) else if k = 2 then (unsp r.data.toList).map fun b => (⟨#[]⟩, b) else if r = ⟨#[]⟩ then some (⟨#[]⟩, []) else none

/-- a path, and bytes, are laid -/
def LastOk (w w' : World) (g : Nat) (a : Ak) (e : Ending) (o : Option (ByteArray × List UInt8)) : Prop :=
  match o with
  | none => e = .returned (.bool false)
  | some (p, bs) => e = .returned (.bool true) ∧ ∃ d, Box w' g ({ a with p := p }.cells d) ∧ DatAt w' d bs

theorem last_path (a : Ak) (g : Nat) (w : World) (k : Nat) (hk : k = 5 ∨ k = 6 ∨ k = 7 ∨ k = 8) (hak : a.k = (k : Int)) (h : Box w g (a.cells (.slice none 0 0))) (r : ByteArray) :
    Calls Tryz.prog 17 #[.pointer (some ⟨g, 0, none⟩), .string r] w fun e w' => LastOk w w' g a e (some (r, [])) ∧ Gx g w w' := by
  have c0 := h.cell 0
  have c4 := h.cell 4
  have f4 := h.froz 4
  have F : LastOk w (w.setCell ⟨g, 4, none⟩ (.string r)) g a (.returned (.bool true)) (some (r, [])) ∧ Gx g w (w.setCell ⟨g, 4, none⟩ (.string r)) := ⟨⟨rfl, .slice none 0 0, by have := h.set 4 (.string r); simpa [Ak.cells] using this, .inl ⟨rfl, rfl⟩⟩, h.gx (Gx.refl g w) 4 _⟩
  have hgl := h.lt
  simp only [Ak.cells] at c0 c4
  rw [hak] at c0
  clear h
  generalize hPP : (fun e w' => LastOk w w' g a e (some (r, [])) ∧ Gx g w w') = PP
  have F2 : Hid (PP (.returned (.bool true)) (w.setCell ⟨g, 4, none⟩ (.string r))) := by rw [← hPP]; exact F
  clear F hPP hak
  rcases hk with rfl | rfl | rfl | rfl
  all_goals
    go_enter Tryz.func17, Tryz.ntmps17
    go_wp2
    exact F2

set_option maxHeartbeats 1000000 in
theorem last_send (a : Ak) (g : Nat) (w : World) (hak : a.k = 2) (hp : a.p = ⟨#[]⟩) (h : Box w g (a.cells (.slice none 0 0))) (r : ByteArray) (hr : r.size ≤ 281474976710656) :
    Calls Tryz.prog 17 #[.pointer (some ⟨g, 0, none⟩), .string r] w fun e w' => LastOk w w' g a e ((unsp r.data.toList).map fun b => (⟨#[]⟩, b)) ∧ Gx g w w' := by
  have c0 := h.cell 0
  have q := unspell_w r hr w
  have hgl := h.lt
  generalize hPP : (fun e w' => LastOk w w' g a e ((unsp r.data.toList).map fun b => (⟨#[]⟩, b)) ∧ Gx g w w') = PP
  have F1 : Hid (∀ W, unsp r.data.toList = none → Below w.heap.size w W → W.cell? ⟨g, 5, none⟩ = some (.slice none 0 0) ∧ W.frozen? ⟨g, 5, none⟩ = false ∧ PP (.returned (.bool false)) (W.setCell ⟨g, 5, none⟩ (.slice none 0 0))) := fun W hu b => by
    have hb := h.below b hgl
    refine ⟨by have := hb.cell 5; simpa [Ak.cells] using this, hb.froz 5, ?_⟩
    rw [← hPP, hu]
    exact ⟨rfl, hb.gx (Gx.of_below b) 5 _⟩
  have F2 : Hid (∀ W bs d, unsp r.data.toList = some bs → DatAt W d bs → Below w.heap.size w W → W.cell? ⟨g, 5, none⟩ = some (.slice none 0 0) ∧ W.frozen? ⟨g, 5, none⟩ = false ∧ PP (.returned (.bool true)) (W.setCell ⟨g, 5, none⟩ d)) := fun W bs d hu hd b => by
    have hb := h.below b hgl
    refine ⟨by have := hb.cell 5; simpa [Ak.cells] using this, hb.froz 5, ?_⟩
    rw [← hPP, hu]
    refine ⟨⟨rfl, d, ?_, ?_⟩, hb.gx (Gx.of_below b) 5 _⟩
    · have := hb.set 5 d
      have e : ({ a with p := ⟨#[]⟩ } : Ak) = a := by rw [← hp]
      rw [e]
      simpa [Ak.cells] using this
    · rcases hd with hd | ⟨B, h1, h2⟩
      · exact .inl hd
      · refine .inr ⟨B, h1, ?_⟩
        have hne : B ≠ g := by
          rintro rfl
          unfold By at h2
          unfold Box at hb
          rw [hb] at h2
          injection h2 with h2
          injection h2 with _ h2
          cases h2
        unfold By at h2 ⊢
        rw [setCell_eq_setRow W g 5 _ _ _ d hb, setRow_other _ _ _ _ hne]
        exact h2
  simp only [Ak.cells] at c0
  rw [hak] at c0
  clear h hPP hak hp
  cases hu : unsp r.data.toList with
  | none =>
    rw [hu] at q
    simp only at q
    have G := fun W b => F1.out W hu b
    have GH : Hid _ := G
    clear F1 F2 G hu
    go_enter Tryz.func17, Tryz.ntmps17
    go_wp2_with (go_at_call 34; refine q.mono ?_; rintro e w1 ⟨rfl, b1⟩; obtain ⟨c5, f5, FF⟩ := GH.out _ b1)
    exact FF
  | some bs =>
    rw [hu] at q
    simp only at q
    have G := fun W d hd b => F2.out W bs d hu hd b
    have GH : Hid _ := G
    clear F1 F2 G hu
    go_enter Tryz.func17, Tryz.ntmps17
    go_wp2_with (go_at_call 34; refine q.mono ?_; rintro e w1 ⟨⟨d, rfl, hd⟩, b1⟩; obtain ⟨c5, f5, FF⟩ := GH.out _ d hd b1; obtain ⟨ad, dn, rfl⟩ := hd.shape)
    exact FF

theorem last_none (a : Ak) (g : Nat) (w : World) (k : Nat) (hk : k = 1 ∨ k = 3 ∨ k = 4 ∨ k = 9 ∨ k = 10 ∨ k = 11) (hak : a.k = (k : Int)) (hp : a.p = ⟨#[]⟩) (h : Box w g (a.cells (.slice none 0 0))) (r : ByteArray) :
    Calls Tryz.prog 17 #[.pointer (some ⟨g, 0, none⟩), .string r] w fun e w' => LastOk w w' g a e (if r = ⟨#[]⟩ then some (⟨#[]⟩, []) else none) ∧ Gx g w w' := by
  have c0 := h.cell 0
  have hgl := h.lt
  simp only [Ak.cells] at c0
  rw [hak] at c0
  by_cases c : r = ⟨#[]⟩
  · rw [if_pos c]
    subst c
    have e0 : ({ a with p := ⟨#[]⟩ } : Ak) = a := by rw [← hp]
    have h0 : Box w g (({ a with p := ⟨#[]⟩ } : Ak).cells (.slice none 0 0)) := by rw [e0]; exact h
    have F : LastOk w w g a (.returned (.bool true)) (some (⟨#[]⟩, [])) ∧ Gx g w w := ⟨⟨rfl, .slice none 0 0, h0, .inl ⟨rfl, rfl⟩⟩, Gx.refl g w⟩
    clear h0 e0
    clear h
    generalize hPP : (fun e w' => LastOk w w' g a e (some (⟨#[]⟩, [])) ∧ Gx g w w') = PP
    have F2 : Hid (PP (.returned (.bool true)) w) := by rw [← hPP]; exact F
    clear F hPP hak hp
    rcases hk with rfl | rfl | rfl | rfl | rfl | rfl
    all_goals
      go_enter Tryz.func17, Tryz.ntmps17
      go_wp2
      exact F2
  · rw [if_neg c]
    have c' := ne_list c
    have c2 : ¬ r = (⟨#[]⟩ : ByteArray) := c
    have c3 : (r.toList == ([] : List UInt8)) = false := by simpa using c'
    have F : LastOk w w g a (.returned (.bool false)) none ∧ Gx g w w := ⟨rfl, Gx.refl g w⟩
    clear h
    generalize hPP : (fun e w' => LastOk w w' g a e none ∧ Gx g w w') = PP
    have F2 : Hid (PP (.returned (.bool false)) w) := by rw [← hPP]; exact F
    clear F hPP hak hp
    rcases hk with rfl | rfl | rfl | rfl | rfl | rfl
    all_goals
      go_enter Tryz.func17, Tryz.ntmps17
      go_wp2
      exact F2

theorem last_w (a : Ak) (g : Nat) (w : World) (k : Nat) (hk : 1 ≤ k ∧ k ≤ 11) (hak : a.k = (k : Int)) (hp : a.p = ⟨#[]⟩) (h : Box w g (a.cells (.slice none 0 0))) (r : ByteArray) (hr : r.size ≤ 281474976710656) :
    Calls Tryz.prog 17 #[.pointer (some ⟨g, 0, none⟩), .string r] w fun e w' => LastOk w w' g a e (lastP k r) ∧ Gx g w w' := by
  unfold lastP
  by_cases c1 : k = 5 ∨ k = 6 ∨ k = 7 ∨ k = 8
  · rw [if_pos c1]; exact last_path a g w k c1 hak h r
  · rw [if_neg c1]
    by_cases c2 : k = 2
    · rw [if_pos c2]; exact last_send a g w (by rw [hak, c2]; rfl) hp h r hr
    · rw [if_neg c2]; exact last_none a g w k (by omega) hak hp h r

end Go.Proofs.YtojbfdlgjjghjaaGreatDoor.K
