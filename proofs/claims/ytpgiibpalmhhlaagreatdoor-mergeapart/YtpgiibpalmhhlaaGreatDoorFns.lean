/-
  Contracts: path.Join, path.Parts, path.Under, path.Up, path.rank, path.Compare.
-/
import Derived.Test.YtpgiibpalmhhlaaGreatDoorStr
import Derived.Test.YtpgiibpalmhhlaaGreatDoorPl1
import Derived.BigQuiet
import Derived.Deep.QuietTactic
namespace Go.Proofs.YtpgiibpalmhhlaaGreatDoor
open Go.RowKit
open Go.Lib hiding intOf
set_option linter.unusedVariables false
set_option linter.unusedSimpArgs false

/-- strings lie at an address -/
def Sl (w : World) (ad : Option Addr) (ps : List (List UInt8)) : Prop :=
  ps = [] ∨ ∃ b o, ad = some ⟨b, o, none⟩ ∧ b < w.heap.size ∧ ∀ i x, ps[i]? = some x → w.cell? ⟨b, o + i, none⟩ = some (.string (bs x))

theorem Sl.below {w w' : World} {ad : Option Addr} {ps : List (List UInt8)} (h : Sl w ad ps) (hb : Below w.heap.size w w') : Sl w' ad ps := by
  rcases h with h | ⟨b, o, h1, h2, h3⟩
  · exact .inl h
  · exact .inr ⟨b, o, h1, Nat.lt_of_lt_of_le h2 hb.size, fun i x hx => (hb.cell (p := ⟨b, o + i, none⟩) h2).trans (h3 i x hx)⟩

theorem own_sl {w : World} {B : Nat} {v : Value} {n : Nat} {ps : List (List UInt8)} (h : w.ownsRow B 9 1 v n (strs ps)) : ∃ ad c, v = .slice ad ps.length c ∧ ps.length ≤ c ∧ c ≤ maxLen ∧ Sl w ad ps := by
  have hn : n = ps.length := by have := h.1; rw [strs_length] at this; omega
  subst hn
  have hcells := fun g hg => h.cells (g := g) hg
  rcases h.2 with ⟨hv, h0⟩ | ⟨g, cap, cur, hv, hb, hg, hc, hm, _⟩
  · have : ps = [] := List.eq_nil_of_length_eq_zero h0
    subst this
    exact ⟨none, 0, hv, by simp, by decide, .inl rfl⟩
  · refine ⟨_, cap, hv, hc, hm, .inr ⟨g, 0, rfl, (Array.getElem?_eq_some_iff.1 hg).1, fun i x hx => ?_⟩⟩
    have := hcells g (by rw [hv]; rfl) i _ (strs_get ps i x hx)
    by_cases hi : i = 0
    · subst hi; simpa [Addr.add] using this
    · simpa [Addr.add, hi] using this

theorem join_w (ad : Option Addr) (c : Nat) (ps : List (List UInt8)) (w : World) (h : Sl w ad ps) (hc : ps.length ≤ c) (hn : ps.length ≤ 140737488355328) (hl : (jn ps).length ≤ 140737488355328) :
    Calls Tryz.prog 24 #[.slice ad ps.length c] w fun e w' => e = .returned (.string (bs (jn ps))) ∧ Below w.heap.size w w' := by
  have q : Calls Tryz.prog 47 #[.slice ad ps.length c, .string ⟨#[47]⟩] w fun e w' => e = .returned (.string (bs (jn ps))) ∧ Below w.heap.size w w' := by
    rcases h with h | ⟨b, o, h1, h2, h3⟩
    · subst h
      exact (Tryz.strings_Join_none ad c ⟨#[47]⟩ w).mono fun e w' ⟨he, hw⟩ => ⟨he, hw ▸ Below.refl _ _⟩
    · subst h1
      have e1 : (ps.map bs).map (·.data.toList) = ps := by rw [List.map_map]; exact (List.map_congr_left fun x _ => bs_data x).trans (List.map_id _)
      have := Tryz.strings_Join b o c (ps.map bs) ⟨#[47]⟩ w (fun j x hx => by
        rw [List.getElem?_map] at hx
        obtain ⟨y, hy, rfl⟩ := Option.map_eq_some_iff.1 hx
        exact h3 j y hy) h2 (by simpa using hn) (by simpa using hc) (by rw [e1]; exact hl)
      rw [e1, List.length_map] at this
      exact this
  generalize ps.length = n at *
  go_enter Tryz.func24, Tryz.ntmps24
  go_wp2_with (go_at_call 47; refine q.mono ?_; rintro e w1 ⟨rfl, b1⟩)
  go_ret
  exact ⟨rfl, b1⟩

/-- path.Parts of the root -/
theorem parts_root (w : World) : Calls Tryz.prog 36 #[.string (bs [])] w fun e w' => e = .returned (.slice none 0 0) ∧ w' = w := by
  have ht := bs_toList []
  go_enter Tryz.func36, Tryz.ntmps36
  go_wp2_with fail
  go_ret
  exact ⟨rfl, rfl⟩

theorem parts_some (l : List UInt8) (hne : l ≠ []) (hl : l.length < 4294967281) (w : World) (hm : Ml w) :
    Calls Tryz.prog 36 #[.string (bs l)] w fun e w' => e = .returned (.slice (some ⟨w.heap.size, 0, none⟩) (spl l).length (spl l).length) ∧ Hid (w' = w.alloc (.cells (strs (spl l)).toArray 9)) := by
  have ht := bs_toList l
  have hE : l.isEmpty = false := by simpa using hne
  have q : Calls Tryz.prog 46 #[.string (bs l), .string ⟨#[47]⟩] w fun e w' => e = .returned (.slice (some ⟨w.heap.size, 0, none⟩) (spl l).length (spl l).length) ∧ Hid (w' = w.alloc (.cells (strs (spl l)).toArray 9)) := split_w l hl w hm
  go_enter Tryz.func36, Tryz.ntmps36
  go_wp2_with (go_at_call 46; refine q.mono ?_; rintro e w1 ⟨rfl, h1⟩)
  go_ret
  exact ⟨rfl, h1⟩

theorem split_sl (w : World) (S : List (List UInt8)) : Sl (w.alloc (.cells (strs S).toArray 9)) (some ⟨w.heap.size, 0, none⟩) S :=
  .inr ⟨_, _, rfl, by simp, fun i x hx => by rw [Nat.zero_add]; exact split_cell w _ _ S (Below.refl _ _) i x hx⟩

/-- path.Parts -/
theorem parts_w (l : List UInt8) (hl : l.length < 4294967281) (w : World) (hm : Ml w) :
    Calls Tryz.prog 36 #[.string (bs l)] w fun e w' => ∃ ad, e = .returned (.slice ad (prt l).length (prt l).length) ∧ Sl w' ad (prt l) ∧ Below w.heap.size w w' := by
  by_cases h : l = []
  · subst h
    exact (parts_root w).mono fun e w' ⟨he, hw⟩ => ⟨none, he, .inl rfl, hw ▸ Below.refl _ _⟩
  · refine (parts_some l h hl w hm).mono fun e w' ⟨he, hw⟩ => ?_
    have hw' := hw.out
    subst hw'
    rw [prt, if_neg h]
    exact ⟨_, he, split_sl w _, (Below.refl _ _).alloc (Nat.le_refl _) _⟩

/-! Under -/

/-- does a text begin with another one, and go on with a slash, or not at all? -/
def und (d s : List UInt8) : Bool := Lib.hasPrefix s d && (d.isEmpty || (s.drop d.length).isEmpty || decide ((s.drop d.length).head? = some 47))

/-! Compare -/

def rk (c : UInt8) : Int := if c = 47 then -1 else c.toNat

theorem rank_w (c : UInt8) (w : World) : Calls Tryz.prog 33 #[.int .u8 (c.toNat : Int)] w fun e w' => e = .returned (.int .i64 (rk c)) ∧ w' = w := by
  have hb := c.toNat_lt
  by_cases h : c = 47
  · subst h
    have e : (((47 : UInt8).toNat : Nat) : Int) = 47 := rfl
    rw [e]
    have HF : Hid (rk 47 = -1) := hid (by decide)
    go_enter Tryz.func33, Tryz.ntmps33
    go_wp2_with fail
    go_ret
    exact ⟨by rw [HF.out]; rfl, rfl⟩
  · have h' : ¬ ((c.toNat : Int) = 47) := fun e => h (UInt8.toNat_inj.1 (show c.toNat = 47 by omega))
    have HF : Hid (rk c = c.toNat) := hid (by unfold rk; rw [if_neg h])
    generalize c.toNat = n at *
    go_enter Tryz.func33, Tryz.ntmps33
    go_wp2_with fail
    go_ret
    exact ⟨by rw [HF.out]; rfl, rfl⟩

theorem _root_.Go.RowKit.Below.drewN' {B : Nat} {a w : World} (h : Below B a w) : ∀ n, Below B a (w.drewN n)
  | 0 => h
  | n + 1 => (Go.RowKit.Below.drewN' h n).drew

/-- which of two texts stands ahead -/
def cmpL : List UInt8 → List UInt8 → Int
  | [], [] => 0
  | [], _ :: _ => -1
  | _ :: _, [] => 1
  | a :: x, b :: y => if a = b then cmpL x y else Lib.compareInt (rk a) (rk b)

theorem cmpL_same (a b : List UInt8) (i : Nat) (h1 : i < a.length) (h2 : i < b.length) (e : a[i] = b[i]) : cmpL (a.drop i) (b.drop i) = cmpL (a.drop (i + 1)) (b.drop (i + 1)) := by
  rw [List.drop_eq_getElem_cons h1, List.drop_eq_getElem_cons h2, cmpL]; simp [e]
theorem cmpL_diff (a b : List UInt8) (i : Nat) (h1 : i < a.length) (h2 : i < b.length) (e : ¬ a[i] = b[i]) : cmpL (a.drop i) (b.drop i) = Lib.compareInt (rk a[i]) (rk b[i]) := by
  rw [List.drop_eq_getElem_cons h1, List.drop_eq_getElem_cons h2, cmpL]; simp [e]

theorem cmpL_end (a b : List UInt8) (i : Nat) (h1 : i ≤ a.length) (h2 : i ≤ b.length) (h : ¬ (i < a.length ∧ i < b.length)) : cmpL (a.drop i) (b.drop i) = Lib.compareInt a.length b.length := by
  unfold Lib.compareInt
  by_cases c1 : i < a.length
  · have : i = b.length := by omega
    subst this
    rw [List.drop_length]
    rw [List.drop_eq_getElem_cons c1, cmpL, if_neg (by omega), if_pos (by omega)]
  · have : i = a.length := by omega
    subst this
    rw [List.drop_length]
    by_cases c2 : a.length < b.length
    · rw [List.drop_eq_getElem_cons c2, cmpL, if_pos (by omega)]
    · rw [List.drop_of_length_le (by omega), cmpL, if_neg (by omega), if_neg (by omega)]

set_option maxRecDepth 20000 in
set_option maxHeartbeats 2000000 in
theorem compare_b (s t : ByteArray) (ha : s.size ≤ 4611686018427387903) (hb : t.size ≤ 4611686018427387903) (w : World) :
    Calls Tryz.prog 14 #[.string s, .string t] w fun e w' => e = .returned (.int .i64 (cmpL s.data.toList t.data.toList)) ∧ Below w.heap.size w w' := by
  have qr := fun c W => rank_w c W
  have qc := fun x y W => Tryz.cmp_Compare_int x y W
  have ZA : Hid (s.data.toList.length = s.size) := (Lib.size_eq s).symm
  have ZB : Hid (t.data.toList.length = t.size) := (Lib.size_eq t).symm
  go_enter Tryz.func14, Tryz.ntmps14
  go_wp2_with fail
  go_loopw [11] (fun u wr => ∃ i : Nat, i ≤ s.size ∧ i ≤ t.size ∧ u = .int .i64 i ∧ Hid (cmpL s.data.toList t.data.toList = cmpL (s.data.toList.drop i) (t.data.toList.drop i)) ∧ Below w.heap.size w wr) (fun u _ => s.size - (RowKit.intOf u).toNat)
  case atStart => exact ⟨0, Nat.zero_le _, Nat.zero_le _, rfl, rfl, Below.refl _ _⟩
  case round =>
    obtain ⟨i, h1, h2, rfl, H, bb⟩ := hrel
    by_cases c : i < s.size ∧ i < t.size
    · obtain ⟨c1, c2⟩ := c
      have h := H.out
      have l1 : i < s.data.toList.length := by rw [ZA.out]; exact c1
      have l2 : i < t.data.toList.length := by rw [ZB.out]; exact c2
      obtain ⟨x, hx⟩ : ∃ x : UInt8, s[i]'c1 = x := ⟨_, rfl⟩
      obtain ⟨y, hy⟩ : ∃ y : UInt8, t[i]'c2 = y := ⟨_, rfl⟩
      have e1 : s.data.toList[i] = x := by rw [← hx]; rfl
      have e2 : t.data.toList[i] = y := by rw [← hy]; rfl
      by_cases e : x = y
      · subst e
        rw [cmpL_same _ _ i l1 l2 (e1.trans e2.symm)] at h
        have H2 : Hid (cmpL s.data.toList t.data.toList = cmpL (s.data.toList.drop (i + 1)) (t.data.toList.drop (i + 1))) := h
        clear h e1 e2 l1 l2
        go_wp2_with fail
        go_quiet (fail)
        go_wp2_with fail
        go_roundw
        case rel => exact ⟨i + 1, by omega, by omega, by simp, H2, bb.drewN' _⟩
        case measure => simp [RowKit.intOf]; omega
      · rw [cmpL_diff _ _ i l1 l2 (by rw [e1, e2]; exact e), e1, e2] at h
        have H2 : Hid (cmpL s.data.toList t.data.toList = Lib.compareInt (rk x) (rk y)) := h
        have e' : ¬ (x.toNat : Int) = (y.toNat : Int) := fun h => e (UInt8.toNat_inj.1 (by omega))
        have qx := fun W => rank_w x W
        have qy := fun W => rank_w y W
        have qz := fun W => Tryz.cmp_Compare_int (rk x) (rk y) W
        generalize Lib.compareInt (rk x) (rk y) = z at *
        generalize rk x = p at *
        generalize rk y = q at *
        clear h e e1 e2 l1 l2 qr qc
        go_wp2_with fail
        go_quiet (fail)
        have b7 := bb.drewN' nq
        generalize wr.drewN nq = w7 at *
        go_wp2_with fail
        go_quiet ((first | (go_at_call 33; exact Calls.quiet_of_same (qx _)) | (go_at_call 33; exact Calls.quiet_of_same (qy _)) | (go_at_call 32; exact Calls.quiet_of_same (qz _))))
        go_wp2_with fail
        go_ret
        exact ⟨by rw [H2.out]; rfl, b7.drewN' _⟩
    · have h := H.out
      rw [cmpL_end _ _ i (by rw [ZA.out]; exact h1) (by rw [ZB.out]; exact h2) (by rw [ZA.out, ZB.out]; exact c), ZA.out, ZB.out] at h
      have H2 : Hid (cmpL s.data.toList t.data.toList = Lib.compareInt s.size t.size) := h
      clear h
      by_cases c1 : i < s.size
      · have c2 : ¬ i < t.size := fun h => c ⟨c1, h⟩
        go_wp2_with (go_at_call 32; refine (qc _ _ _).mono ?_; rintro e w' ⟨rfl, hw⟩; rw [hw])
        go_ret
        exact ⟨by rw [H2.out]; rfl, bb⟩
      · go_wp2_with (go_at_call 32; refine (qc _ _ _).mono ?_; rintro e w' ⟨rfl, hw⟩; rw [hw])
        go_ret
        exact ⟨by rw [H2.out]; rfl, bb⟩

theorem compare_w (a b : List UInt8) (ha : a.length ≤ 4611686018427387903) (hb : b.length ≤ 4611686018427387903) (w : World) :
    Calls Tryz.prog 14 #[.string (bs a), .string (bs b)] w fun e w' => e = .returned (.int .i64 (cmpL a b)) ∧ Below w.heap.size w w' := by
  have := compare_b (bs a) (bs b) (by rw [bs_size]; exact ha) (by rw [bs_size]; exact hb) w
  rwa [bs_data, bs_data] at this

end Go.Proofs.YtpgiibpalmhhlaaGreatDoor
