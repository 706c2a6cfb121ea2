/-
  Contracts: strings.Cut at a blank, ask.numbers, ask.unspell.
-/
import Derived.Test.YtojbfdlgjjghjaaGreatDoorKKa
import Derived.Laws.AppendOwn
import Derived.OwnWalk
import Derived.Deep.RegionHeld3
import Derived.Deep.RegionWith
import Derived.Deep.Cut
import Derived.BigQuiet
namespace Go.Proofs.YtojbfdlgjjghjaaGreatDoor.K
open Go.RowKit
set_option linter.unusedVariables false
set_option linter.unusedSimpArgs false

/-- where the first blank stands -/
def bl (s : ByteArray) : Int := Lib.indexByte s.data.toList 32
/-- a text's first word, and what stands behind the blank -/
def cutW (s : ByteArray) : ByteArray := if bl s < 0 then s else s.extract 0 (bl s).toNat
def cutR (s : ByteArray) : ByteArray := if bl s < 0 then ⟨#[]⟩ else s.extract ((bl s).toNat + 1) s.size

theorem indexByte_ge (c : UInt8) : ∀ l : List UInt8, -1 ≤ Lib.indexByte l c ∧ Lib.indexByte l c < l.length
  | [] => by simp [Lib.indexByte]
  | b :: l => by
    unfold Lib.indexByte
    have := indexByte_ge c l
    split
    · first | (simp; done) | (simp; omega)
    · split
      · first | (simp; done) | (simp; omega)
      · rename_i h1 h2
        have h3 : ¬ Lib.indexByte l c = -1 := by simpa using h2
        simp; omega

theorem index_w (s : ByteArray) (w : World) : Calls Tryz.prog 50 #[.string s, .string ⟨#[32]⟩] w fun e w' => e = .returned (.int .i64 (bl s)) ∧ w = w' :=
  (Tryz.stringslite_Index_one s 32 w).mono fun e w' ⟨h, h2⟩ => ⟨h, h2.symm⟩

set_option maxHeartbeats 1000000 in
theorem cut1_w (s : ByteArray) (w : World) (hs : s.size ≤ 281474976710656) :
    Calls Tryz.prog 31 #[.string s, .string ⟨#[32]⟩] w fun e w' => ∃ b, e = .returned (.tuple #[.string (cutW s), .string (cutR s), .bool b]) ∧ (w' = w ∨ w' = w.drew) := by
  have q := index_w s w
  have hg := indexByte_ge 32 s.data.toList
  change -1 ≤ bl s ∧ bl s < _ at hg
  have hl : s.data.toList.length = s.size := rfl
  rw [hl] at hg
  unfold cutW cutR
  by_cases c : bl s < 0
  · rw [if_pos c, if_pos c]
    have hb : bl s = -1 := by omega
    rw [hb] at q
    clear hb c hg
    go_enter Tryz.func31, Tryz.ntmps31
    go_wp2_with (go_at_call 50; refine q.mono ?_; rintro e w' ⟨rfl, rfl⟩)
    go_ret3
    exact ⟨_, rfl, .inl rfl⟩
  · rw [if_neg c, if_neg c]
    obtain ⟨i, hi⟩ : ∃ i : Nat, bl s = i := ⟨(bl s).toNat, by omega⟩
    rw [hi] at q hg
    rw [hi]
    have e2 : ((i : Int)).toNat = i := Int.toNat_natCast i
    rw [e2]
    have c1 : (0 : Int) ≤ ↑i := by omega
    have c2 : (↑i : Int) ≤ ↑s.size := by omega
    have c3 : (0 : Int) ≤ ↑i + 1 := by omega
    have c4 : (↑i + 1 : Int) ≤ ↑s.size := by omega
    clear hi c e2 hl
    go_enter Tryz.func31, Tryz.ntmps31
    go_wp2_with (go_at_call 50; refine q.mono ?_; rintro e w' ⟨rfl, rfl⟩)
    go_region
    go_wp2
    go_ret3
    exact ⟨_, rfl, .inr rfl⟩

theorem cut_w (s : ByteArray) (w : World) (hs : s.size ≤ 281474976710656) :
    Calls Tryz.prog 13 #[.string s, .string ⟨#[32]⟩] w fun e w' => ∃ b, e = .returned (.tuple #[.string (cutW s), .string (cutR s), .bool b]) ∧ (w' = w ∨ w' = w.drew) := by
  have q := cut1_w s w hs
  generalize cutW s = t at *
  generalize cutR s = r at *
  go_enter Tryz.func13, Tryz.ntmps13
  go_wp2_with (go_at_call 31; refine q.mono ?_; rintro e w' ⟨b, rfl, hw⟩)
  go_ret3
  exact ⟨_, rfl, hw⟩

/-- what is asked, in memory -/
structure Ak where
  k : Int
  t : Int
  n : Int
  c : Int
  p : ByteArray
def Ak.cells (a : Ak) (d : Value) : Array Value := #[.int .i64 a.k, .int .i64 a.t, .int .i64 a.n, .int .i64 a.c, .string a.p, d]
def Ak.zero : Ak := ⟨0, 0, 0, 0, ⟨#[]⟩⟩
/-- a number of it -/
def Ak.set (a : Ak) (f : Nat) (v : Int) : Ak := if f = 1 then { a with t := v } else if f = 2 then { a with n := v } else if f = 3 then { a with c := v } else a
def Ak.get (a : Ak) (f : Nat) : Int := if f = 1 then a.t else if f = 2 then a.n else if f = 3 then a.c else a.k

/-- the numbers of a kind -/
def flds (k : Int) : List Nat :=
  if k = 1 ∨ k = 5 ∨ k = 6 ∨ k = 7 ∨ k = 8 then [1] else if k = 2 ∨ k = 3 ∨ k = 4 ∨ k = 10 then [1, 2] else if k = 9 then [1, 2, 3] else if k = 11 then [3] else []

/-- places of numbers -/
def Ptrs (w : World) (v : Value) (g : Nat) (fs : List Nat) : Prop :=
  ∃ B c, v = .slice (some ⟨B, 0, none⟩) fs.length c ∧ fs.length ≤ c ∧ c ≤ 9223372036854775807 ∧ ∀ i f, fs[i]? = some f → w.cell? ⟨B, i, none⟩ = some (.pointer (some ⟨g, f, none⟩))

theorem Ptrs.below {w w' : World} {v : Value} {g : Nat} {fs : List Nat} (h : Ptrs w v g fs) (hb : Below w.heap.size w w') : Ptrs w' v g fs := by
  obtain ⟨B, c, h1, h2, h3, h4⟩ := h
  exact ⟨B, c, h1, h2, h3, fun i f hf => (hb.cell (Lib.lt_of_cell (h4 i f hf))).trans (h4 i f hf)⟩

set_option maxRecDepth 20000 in
set_option maxHeartbeats 4000000 in
theorem numbers_w (k : Nat) (hk : 1 ≤ k ∧ k ≤ 11) (g : Nat) (w : World) (hc : w.cell? ⟨g, 0, none⟩ = some (.int .i64 (k : Int))) :
    Calls Tryz.prog 15 #[.pointer (some ⟨g, 0, none⟩)] w fun e w' => ∃ v, e = .returned v ∧ Ptrs w' v g (flds k) ∧ Below w.heap.size w w' := by
  have one : ∀ (W : World) (f : Nat), Below w.heap.size w W → Ptrs (W.alloc (.cells #[.pointer (some ⟨g, f, none⟩)] 47)) (.slice (some ⟨W.heap.size, 0, none⟩) 1 1) g [f] := fun W f b => by
    refine ⟨_, 1, rfl, Nat.le_refl _, by omega, fun i x hx => ?_⟩
    match i, hx with
    | 0, hx => simp at hx; subst hx; simp [World.cell?_alloc_new]
  have two : ∀ (W : World) (f h : Nat), Below w.heap.size w W → Ptrs (W.alloc (.cells #[.pointer (some ⟨g, f, none⟩), .pointer (some ⟨g, h, none⟩)] 47)) (.slice (some ⟨W.heap.size, 0, none⟩) 2 2) g [f, h] := fun W f h b => by
    refine ⟨_, 2, rfl, Nat.le_refl _, by omega, fun i x hx => ?_⟩
    match i, hx with
    | 0, hx => simp at hx; subst hx; simp [World.cell?_alloc_new]
    | 1, hx => simp at hx; subst hx; simp [World.cell?_alloc_new]
  have three : ∀ (W : World) (f h j : Nat), Below w.heap.size w W → Ptrs (W.alloc (.cells #[.pointer (some ⟨g, f, none⟩), .pointer (some ⟨g, h, none⟩), .pointer (some ⟨g, j, none⟩)] 47)) (.slice (some ⟨W.heap.size, 0, none⟩) 3 3) g [f, h, j] := fun W f h j b => by
    refine ⟨_, 3, rfl, Nat.le_refl _, by omega, fun i x hx => ?_⟩
    match i, hx with
    | 0, hx => simp at hx; subst hx; simp [World.cell?_alloc_new]
    | 1, hx => simp at hx; subst hx; simp [World.cell?_alloc_new]
    | 2, hx => simp at hx; subst hx; simp [World.cell?_alloc_new]
  have b0 := Below.refl w.heap.size w
  have gr : ∀ (W : World) (o : Obj), Below w.heap.size w W → Below w.heap.size w (W.alloc o) := fun W o b => b.alloc b.size o
  have hlt := Lib.lt_of_cell hc
  simp only at hlt
  suffices HH : ∀ (PP : Ending → World → Prop), (∀ v W, Ptrs W v g (flds k) → Below w.heap.size w W → PP (.returned v) W) → Calls Tryz.prog 15 #[.pointer (some ⟨g, 0, none⟩)] w PP from HH _ fun v W p b => ⟨v, rfl, p, b⟩
  intro PP HPP
  have HP : Hid (∀ v W, Ptrs W v g (flds k) → Below w.heap.size w W → PP (.returned v) W) := HPP
  clear HPP
  have h1 : Hid _ := one
  have h2 : Hid _ := two
  have h3 : Hid _ := three
  have h4 : Hid _ := gr
  clear one two three gr
  have hkk : k = 1 ∨ k = 2 ∨ k = 3 ∨ k = 4 ∨ k = 5 ∨ k = 6 ∨ k = 7 ∨ k = 8 ∨ k = 9 ∨ k = 10 ∨ k = 11 := by omega
  clear hk
  rcases hkk with rfl | rfl | rfl | rfl | rfl | rfl | rfl | rfl | rfl | rfl | rfl
  all_goals
    simp only [flds] at HP
    go_enter Tryz.func15, Tryz.ntmps15
  · go_wp2
    exact HP.out _ _ (h1.out _ _ b0) (h4.out _ _ b0)
  · go_wp2
    go_region
    go_wp2
    exact HP.out _ _ (h2.out w _ _ b0) (h4.out w _ b0).drew
  · go_wp2
    go_region
    go_wp2
    exact HP.out _ _ (h2.out w _ _ b0) (h4.out w _ b0).drew
  · go_wp2
    go_region
    go_wp2
    exact HP.out _ _ (h2.out w _ _ b0) (h4.out w _ b0).drew
  · go_wp2
    exact HP.out _ _ (h1.out _ _ b0) (h4.out _ _ b0)
  · go_wp2
    exact HP.out _ _ (h1.out _ _ b0) (h4.out _ _ b0)
  · go_wp2
    exact HP.out _ _ (h1.out _ _ b0) (h4.out _ _ b0)
  · go_wp2
    exact HP.out _ _ (h1.out _ _ b0) (h4.out _ _ b0)
  · go_wp2
    go_region
    go_wp2
    exact HP.out _ _ (h3.out w _ _ _ b0) (h4.out w _ b0).drew
  · go_wp2
    go_region
    go_wp2
    exact HP.out _ _ (h2.out w _ _ b0) (h4.out w _ b0).drew
  · go_wp2
    exact HP.out _ _ (h1.out _ _ b0) (h4.out _ _ b0)

end Go.Proofs.YtojbfdlgjjghjaaGreatDoor.K
