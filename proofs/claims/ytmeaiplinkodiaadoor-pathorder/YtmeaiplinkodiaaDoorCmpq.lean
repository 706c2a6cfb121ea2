/-
  path.Compare only reads; what the law PathOrder asks, plain.
-/
import Derived.Test.YtmeaiplinkodiaaDoorLess
namespace Go.Proofs.YtmeaiplinkodiaaDoor
open Go.RowKit
open Go.Lib hiding intOf
set_option linter.unusedVariables false
set_option linter.unusedSimpArgs false

def Dn (w w' : World) : Prop := ∃ n, w' = w.drewN n
theorem Dn.refl (w : World) : Dn w w := ⟨0, rfl⟩
theorem Dn.drewN' {w wr : World} (h : Dn w wr) (n : Nat) : Dn w (wr.drewN n) := by
  obtain ⟨m, rfl⟩ := h
  exact ⟨m + n, by rw [World.drewN_drewN]⟩

set_option maxHeartbeats 2000000 in
theorem compare_q (s t : ByteArray) (ha : s.size ≤ 4611686018427387903) (hb : t.size ≤ 4611686018427387903) (w : World) :
    Calls Tryd.prog 18 #[.string s, .string t] w fun e w' => e = .returned (.int .i64 (cmpL s.data.toList t.data.toList)) ∧ Dn w w' := by
  have qr := fun c W => rank_w c W
  have qc := fun x y W => Tryd.cmp_Compare_int x y W
  have ZA : Hid (s.data.toList.length = s.size) := (Lib.size_eq s).symm
  have ZB : Hid (t.data.toList.length = t.size) := (Lib.size_eq t).symm
  go_enter Tryd.func18, Tryd.ntmps18
  go_wp2_with fail
  go_loopw [11] (fun u wr => ∃ i : Nat, i ≤ s.size ∧ i ≤ t.size ∧ u = .int .i64 i ∧ Hid (cmpL s.data.toList t.data.toList = cmpL (s.data.toList.drop i) (t.data.toList.drop i)) ∧ Dn w wr) (fun u _ => s.size - (RowKit.intOf u).toNat)
  case atStart => exact ⟨0, Nat.zero_le _, Nat.zero_le _, rfl, rfl, Dn.refl _⟩
  case round =>
    obtain ⟨i, h1, h2, rfl, H, bb⟩ := hrel
    by_cases c : i < s.size ∧ i < t.size
    · obtain ⟨c1, c2⟩ := c
      have h := H.out
      have l1 : i < s.data.toList.length := by rw [ZA.out]; exact c1
      have l2 : i < t.data.toList.length := by rw [ZB.out]; exact c2
      obtain ⟨x, hx⟩ : ∃ x : UInt8, s[i]'c1 = x := ⟨_, rfl⟩
      obtain ⟨y, hy⟩ : ∃ y : UInt8, t[i]'c2 = y := ⟨_, rfl⟩
      have e1 : s.data.toList[i] = x := by rw [← hx]; rfl
      have e2 : t.data.toList[i] = y := by rw [← hy]; rfl
      by_cases e : x = y
      · subst e
        rw [cmpL_same _ _ i l1 l2 (e1.trans e2.symm)] at h
        have H2 : Hid (cmpL s.data.toList t.data.toList = cmpL (s.data.toList.drop (i + 1)) (t.data.toList.drop (i + 1))) := h
        clear h e1 e2 l1 l2
        go_wp2_with fail
        go_quiet (fail)
        go_wp2_with fail
        go_roundw
        case rel => exact ⟨i + 1, by omega, by omega, by simp, H2, bb.drewN' _⟩
        case measure => simp [RowKit.intOf]; omega
      · rw [cmpL_diff _ _ i l1 l2 (by rw [e1, e2]; exact e), e1, e2] at h
        have H2 : Hid (cmpL s.data.toList t.data.toList = Lib.compareInt (rk x) (rk y)) := h
        have e' : ¬ (x.toNat : Int) = (y.toNat : Int) := fun h => e (UInt8.toNat_inj.1 (by omega))
        have qx := fun W => rank_w x W
        have qy := fun W => rank_w y W
        have qz := fun W => Tryd.cmp_Compare_int (rk x) (rk y) W
        generalize Lib.compareInt (rk x) (rk y) = z at *
        generalize rk x = p at *
        generalize rk y = q at *
        clear h e e1 e2 l1 l2 qr qc
        go_wp2_with fail
        go_quiet (fail)
        have b7 := bb.drewN' nq
        generalize wr.drewN nq = w7 at *
        go_wp2_with fail
        go_quiet ((first | (go_at_call 29; exact Calls.quiet_of_same (qx _)) | (go_at_call 29; exact Calls.quiet_of_same (qy _)) | (go_at_call 28; exact Calls.quiet_of_same (qz _))))
        go_wp2_with fail
        go_ret
        exact ⟨by rw [H2.out]; rfl, b7.drewN' _⟩
    · have h := H.out
      rw [cmpL_end _ _ i (by rw [ZA.out]; exact h1) (by rw [ZB.out]; exact h2) (by rw [ZA.out, ZB.out]; exact c), ZA.out, ZB.out] at h
      have H2 : Hid (cmpL s.data.toList t.data.toList = Lib.compareInt s.size t.size) := h
      clear h
      by_cases c1 : i < s.size
      · have c2 : ¬ i < t.size := fun h => c ⟨c1, h⟩
        go_wp2_with (go_at_call 28; refine (qc _ _ _).mono ?_; rintro e w' ⟨rfl, hw⟩; rw [hw])
        go_ret
        exact ⟨by rw [H2.out]; rfl, bb⟩
      · go_wp2_with (go_at_call 28; refine (qc _ _ _).mono ?_; rintro e w' ⟨rfl, hw⟩; rw [hw])
        go_ret
        exact ⟨by rw [H2.out]; rfl, bb⟩


theorem compare_ql (a b : List UInt8) (ha : a.length ≤ 4611686018427387903) (hb : b.length ≤ 4611686018427387903) (w : World) :
    Calls Tryd.prog 18 #[.string (bs a), .string (bs b)] w fun e w' => e = .returned (.int .i64 (cmpL a b)) ∧ ∃ n, w' = w.drewN n := by
  have := compare_q (bs a) (bs b) (by rw [bs_size]; exact ha) (by rw [bs_size]; exact hb) w
  rwa [bs_data, bs_data] at this

theorem und_bnd : ∀ (d s : List UInt8), d ≠ [] → und d s = bnd d s := by
  have key : ∀ (d s : List UInt8), (Lib.hasPrefix s d && ((s.drop d.length).isEmpty || decide ((s.drop d.length).head? = some 47))) = bnd d s := by
    intro d
    induction d with
    | nil =>
      intro s
      cases s with
      | nil => rfl
      | cons c s =>
        simp [Lib.hasPrefix, bnd]
        by_cases h : c = 47 <;> simp [h]
    | cons a d ih =>
      intro s
      cases s with
      | nil => simp [Lib.hasPrefix, bnd]
      | cons b s =>
        have := ih s
        simp only [List.length_cons, List.drop_succ_cons, bnd]
        rw [← this]
        simp only [Lib.hasPrefix, List.isPrefixOf_cons_cons, Bool.and_assoc]
  intro d s hd
  rw [← key d s]
  unfold und
  have : d.isEmpty = false := by simpa using hd
  rw [this, Bool.false_or]

theorem und_mid (d s t : List UInt8) (h : und d t = true) (h1 : cmpL d s < 0) (h2 : cmpL s t < 0) : und d s = true := by
  by_cases hd : d = []
  · subst hd; simp [und, Lib.hasPrefix]
  · rw [und_bnd d s hd]
    rw [und_bnd d t hd] at h
    exact bnd_mid d s t h h1 h2

theorem less_jn (ps qs : List (List UInt8)) (h1 : ∀ p ∈ ps, Good p) (h2 : ∀ p ∈ qs, Good p) : lessP (parts (jn ps)) (parts (jn qs)) = decide (cmpL (jn ps) (jn qs) < 0) := by
  have e : ∀ r : List (List UInt8), (∀ p ∈ r, Good p) → parts (jn r) = r := fun r hr => by
    by_cases h : r = []
    · subst h; decide
    · exact parts_good_jn r h hr
  rw [e ps h1, e qs h2]
  exact (less_cons ps qs (fun p hp => ⟨(h1 p hp).2.2.2.2.1, (h1 p hp).1⟩) (fun p hp => ⟨(h2 p hp).2.2.2.2.1, (h2 p hp).1⟩)).symm

end Go.Proofs.YtmeaiplinkodiaaDoor
