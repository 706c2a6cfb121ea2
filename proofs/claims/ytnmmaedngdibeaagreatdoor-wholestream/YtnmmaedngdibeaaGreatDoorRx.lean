/-
  Texts in one: Rd, Re, Rf.
-/
import Derived.Test.YtnmmaedngdibeaaGreatDoorQw
namespace Go.Proofs.YtnmmaedngdibeaaGreatDoor
open Go.RowKit
set_option linter.unusedVariables false
set_option linter.unusedSimpArgs false

/-- a header by a name, of a type and a mode, with so many bytes -/
def hdG (n : ByteArray) (ty md sz : Int) : List Int := H.sealL (H.encL n ⟨#[]⟩ ⟨#[]⟩ ⟨#[]⟩ ⟨#[]⟩ ty (H.numsF md 0 0 sz 0))
section
variable {n : ByteArray} {ty md sz : Int}
theorem hdG_of (hf : H.textsB n ⟨#[]⟩ ⟨#[]⟩ ⟨#[]⟩ ⟨#[]⟩ = true) (hn : ∀ k, k < 5 → H.numFit (H.numsF md 0 0 sz 0) k = true) : H.HdOf (hdG n ty md sz) n ⟨#[]⟩ ⟨#[]⟩ ⟨#[]⟩ ⟨#[]⟩ ty (H.numsF md 0 0 sz 0) := H.hdOf_enc _ _ _ _ _ _ _ hf hn
theorem hdG_allB (ht : 0 ≤ ty ∧ ty ≤ 255) : H.AllB (hdG n ty md sz) := H.sealL_allB _ (H.encL_allB _ _ _ _ _ _ _ ht)
theorem hdG_right (hf : H.textsB n ⟨#[]⟩ ⟨#[]⟩ ⟨#[]⟩ ⟨#[]⟩ = true) (ht : 0 ≤ ty ∧ ty ≤ 255) : H.rightB (hdG n ty md sz) = true := H.sealL_right _ (H.encL_length _ _ _ _ _ _ _ hf) (H.encL_allB _ _ _ _ _ _ _ ht)
theorem hdG_len (hf : H.textsB n ⟨#[]⟩ ⟨#[]⟩ ⟨#[]⟩ ⟨#[]⟩ = true) (hn : ∀ k, k < 5 → H.numFit (H.numsF md 0 0 sz 0) k = true) : (hdG n ty md sz).length = 512 := (hdG_of (ty := ty) hf hn).len
theorem dec_gen {z : List Int} (hd : H.HdOf z n ⟨#[]⟩ ⟨#[]⟩ ⟨#[]⟩ ⟨#[]⟩ ty (H.numsF md 0 0 sz 0)) (hr : H.rightB z = true) (hmg : H.fld z 257 265 = H.ustarL) (hm : md ≤ 9223372036854775807) (hs : sz ≤ 9223372036854775807) :
    ∃ y : E.Hd, decH z = .inr y ∧ y.typ = ty ∧ y.size = sz ∧ y.form = 1 ∧ y.full = n ∧ y.uid = 0 ∧ y.gid = 0 ∧ y.mode = md := by
  have hv := hd.eN (fun j hj => by
    have hkk : j = 0 ∨ j = 1 ∨ j = 2 ∨ j = 3 ∨ j = 4 := by omega
    rcases hkk with rfl | rfl | rfl | rfl | rfl <;> simp [H.numsF] <;> omega)
  have hform : H.formL z = 1 := by unfold H.formL; exact if_pos hmg
  refine ⟨hdOf z, ?_, hd.type, (hv 3 (by omega)).2, hform, ?_, (hv 1 (by omega)).2, (hv 2 (by omega)).2, (hv 0 (by omega)).2⟩
  · unfold decH
    rw [if_neg (by rw [hr]; simp), if_neg (by rw [(hv 0 (by omega)).1]; simp), if_neg (by rw [(hv 1 (by omega)).1]; simp), if_neg (by rw [(hv 2 (by omega)).1]; simp), if_neg (by rw [(hv 3 (by omega)).1]; simp), if_neg (by rw [(hv 4 (by omega)).1]; simp)]
  · have hp : (hdOf z).prefx = ⟨#[]⟩ := by
      show (if H.isU z then H.tx z 345 500 else ⟨#[]⟩) = _
      rw [hd.prefx]
      split <;> rfl
    have hnm : (hdOf z).name = n := hd.name
    unfold E.Hd.full
    rw [hp, E.emp_none, if_pos rfl]
    exact hnm
theorem hdG_dec (hf : H.textsB n ⟨#[]⟩ ⟨#[]⟩ ⟨#[]⟩ ⟨#[]⟩ = true) (hn : ∀ k, k < 5 → H.numFit (H.numsF md 0 0 sz 0) k = true) (ht : 0 ≤ ty ∧ ty ≤ 255) (hm : md ≤ 9223372036854775807) (hs : sz ≤ 9223372036854775807) :
    ∃ y : E.Hd, decH (hdG n ty md sz) = .inr y ∧ y.typ = ty ∧ y.size = sz ∧ y.form = 1 ∧ y.full = n ∧ y.uid = 0 ∧ y.gid = 0 ∧ y.mode = md :=
  dec_gen (hdG_of hf hn) (hdG_right hf ht) (H.enc_magic n ⟨#[]⟩ ⟨#[]⟩ ⟨#[]⟩ ⟨#[]⟩ ty (H.numsF md 0 0 sz 0) hf) hm hs
/-- a header with a name isn't blank -/
theorem hdG_blank (hf : H.textsB n ⟨#[]⟩ ⟨#[]⟩ ⟨#[]⟩ ⟨#[]⟩ = true) (hn : ∀ k, k < 5 → H.numFit (H.numsF md 0 0 sz 0) k = true) (h1 : ∃ c r, H.s8 n = c :: r ∧ c ≠ 0) : H.blankB (hdG n ty md sz) = false := by
  have hd := hdG_of (ty := ty) hf hn
  generalize hdG n ty md sz = z at *
  cases hb : H.blankB z with
  | false => rfl
  | true =>
    exfalso
    obtain ⟨c, r, hc, hc0⟩ := h1
    have e := hd.out 0 (by omega) (by omega)
    rw [H.gD_encL _ _ _ _ _ _ _ hd.fit] at e
    have hall : ∀ x ∈ z, x = 0 := by
      intro x hx
      have := List.all_eq_true.1 hb x hx
      simpa using this
    have e2 : H.gD z 0 = 0 := by
      unfold H.gD
      rw [List.getElem?_eq_getElem (by rw [hd.len]; omega)]
      exact hall _ (List.getElem_mem _)
    have e3 : H.gD (H.s8 n) (0 - 0) = c := by rw [hc]; rfl
    have e4 : 0 < n.size := by rw [← H.s8_length, hc]; simp
    rw [e2, if_neg (by omega), if_neg (by omega), if_neg (by omega), if_neg (by omega), if_neg (by omega), if_neg (by omega), if_pos (by omega), e3] at e
    exact hc0 e.symm
end

/-- a file's header makes an entry -/
theorem mk_file {y : E.Hd} (ht : y.typ = 48) (hf : y.form = 1) (hs : 0 ≤ y.size) (hu : y.uid = 0) (hg : y.gid = 0) : ∃ e : E.En, makeP y [] [] ⟨#[]⟩ ⟨#[]⟩ = .inr e ∧ e.size = y.size ∧ e.kind = 1 ∧ e.path = y.full := by
  have hv : ∀ k, (aOf (.slice none 0 0) (.slice none 0 0) [] [] ⟨#[]⟩ ⟨#[]⟩).val k = ⟨#[]⟩ := fun k => rfl
  have hnum : ∀ k, E.numV y (aOf (.slice none 0 0) (.slice none 0 0) [] [] ⟨#[]⟩ ⟨#[]⟩) k = some (E.hdN y k) := fun k => by unfold E.numV; rw [hv, E.emp_none]; rfl
  have htx : ∀ k, E.tx y (aOf (.slice none 0 0) (.slice none 0 0) [] [] ⟨#[]⟩ ⟨#[]⟩) k = E.or3 ⟨#[]⟩ (E.lg (aOf (.slice none 0 0) (.slice none 0 0) [] [] ⟨#[]⟩ ⟨#[]⟩) k) (E.hdr y k) := fun k => by unfold E.tx; rw [hv]
  have htx0 : E.tx y (aOf (.slice none 0 0) (.slice none 0 0) [] [] ⟨#[]⟩ ⟨#[]⟩) 0 = y.full := by
    rw [htx]
    show E.or3 ⟨#[]⟩ ⟨#[]⟩ y.full = y.full
    unfold E.or3
    rw [E.emp_none]
    rfl
  have hfull : (E.fullE y (aOf (.slice none 0 0) (.slice none 0 0) [] [] ⟨#[]⟩ ⟨#[]⟩)).size = y.size ∧ (E.fullE y (aOf (.slice none 0 0) (.slice none 0 0) [] [] ⟨#[]⟩ ⟨#[]⟩)).uid = 0 ∧ (E.fullE y (aOf (.slice none 0 0) (.slice none 0 0) [] [] ⟨#[]⟩ ⟨#[]⟩)).gid = 0 ∧ (E.fullE y (aOf (.slice none 0 0) (.slice none 0 0) [] [] ⟨#[]⟩ ⟨#[]⟩)).kind = 1 ∧ (E.fullE y (aOf (.slice none 0 0) (.slice none 0 0) [] [] ⟨#[]⟩ ⟨#[]⟩)).path = y.full := by
    have hk : E.kindF (E.entN y (aOf (.slice none 0 0) (.slice none 0 0) [] [] ⟨#[]⟩ ⟨#[]⟩) (E.entK y (aOf (.slice none 0 0) (.slice none 0 0) [] [] ⟨#[]⟩ ⟨#[]⟩) (E.startE (E.kd y.typ) (bits .and .i64 y.mode 4095)) 4) 4) y.form = 1 := by
      unfold E.kindF
      rw [if_neg (by rw [hf]; simp), ht]
      rfl
    unfold E.fullE E.settleF
    rw [hk]
    refine ⟨?_, ?_, ?_, rfl, ?_⟩
    · simp only [E.entN, E.setN, hnum]; rfl
    · simp only [E.entN, E.setN, hnum, E.hdN, hu]; rfl
    · simp only [E.entN, E.setN, hnum, E.hdN, hg]; rfl
    · simp only [E.entN, E.setN, E.entK, E.setT, htx0]
  obtain ⟨f1, f2, f3, f4, f5⟩ := hfull
  refine ⟨E.fullE y (aOf (.slice none 0 0) (.slice none 0 0) [] [] ⟨#[]⟩ ⟨#[]⟩), ?_, f1, f4, f5⟩
  have hbad : badB y (aOf (.slice none 0 0) (.slice none 0 0) [] [] ⟨#[]⟩ ⟨#[]⟩) = false := by
    unfold badB
    rw [hnum, hnum, hnum, hnum]
    rfl
  unfold makeP
  simp only
  rw [if_neg (by rw [ht]; decide), if_neg (by rw [hbad]; simp), if_neg (by rw [f1, f2, f3]; omega)]

/-- a parser between two entries -/
def stS (r : Nat) (bg cl : Int) (bl : Bool) : PsR := ⟨r, 0, 512, [], bg, cl, bl, [], [], ⟨#[]⟩, ⟨#[]⟩, none⟩
theorem feed_none : ∀ (f : Nat) (s : PsR), Pu.feed fns0 f s [] = (s, [])
  | 0, s => by simp [Pu.feed]
  | f + 1, s => by unfold Pu.feed; rw [if_pos (.inl rfl)]
theorem feed_piece (s : PsR) (b : List Int) (hne : b ≠ []) (h4 : s.pt ≠ 4) (hl : b.length ≤ s.lf) :
    Pu.feed fns0 b.length s b = ((Pu.settle fns0 3 (Pu.take (E := E.En) s b).1).1, (Pu.take (E := E.En) s b).2 ++ (Pu.settle fns0 3 (Pu.take (E := E.En) s b).1).2) := by
  obtain ⟨k, hk⟩ : ∃ k, b.length = k + 1 := ⟨b.length - 1, by have := List.length_pos_iff.2 hne; omega⟩
  have hmin : min s.lf b.length = b.length := by omega
  rw [hk]
  unfold Pu.feed
  rw [if_neg (fun q => by rcases q with q | q; exact hne q; exact h4 q)]
  simp only [hmin, List.take_length, List.drop_length, feed_none, List.append_nil]
/-- the blocks of a file: its header, its bytes, what fills them up -/
theorem file_feeds {z : List Int} {y : E.Hd} {e : E.En} (r nn : Nat) (bg cl : Int) (hr : r % 512 = 0) (hl : z.length = 512) (hb : H.blankB z = false) (hd : decH z = .inr y) (hcl : clsP y.typ = 1) (hm : makeP y [] [] ⟨#[]⟩ ⟨#[]⟩ = .inr e) (hs : e.size.toNat = nn)
    (d f : List Int) (hdl : d.length = nn) (hfl : f.length = (512 - nn % 512) % 512) (a : AcE) (hov : a.ov = false) (hop : a.op = false) :
    ∃ bg2, (Pu.feeds fns0 (stS r bg cl false) [z, d, f]).1 = stS (r + 512 + nn + f.length) bg2 1 false ∧ Pu.arcs a (Pu.feeds fns0 (stS r bg cl false) [z, d, f]).2 = some { a with ts := a.ts ++ [⟨e, d, true, r + 512 + nn⟩] } := by
  have hzne : z ≠ [] := fun q => by rw [q] at hl; simp at hl
  have e1 : fns0.blank z = false := hb
  have e2 : fns0.decode z = .inr y := hd
  have e3 : fns0.cls (fns0.typ y) = 1 := hcl
  have e4 : fns0.make y [] [] ⟨#[]⟩ ⟨#[]⟩ = .inr e := hm
  have e5 : fns0.esize e = nn := hs
  have e6 : fns0.none = ⟨#[]⟩ := rfl
  have ht : Pu.take (E := E.En) (stS r bg cl false) z = (⟨r + 512, 0, 0, z, bg, cl, false, [], [], ⟨#[]⟩, ⟨#[]⟩, none⟩, []) := by
    unfold Pu.take stS
    simp [hl]
  have hturn : Pu.turn fns0 (⟨r + 512, 0, 0, z, bg, cl, false, [], [], ⟨#[]⟩, ⟨#[]⟩, none⟩ : PsR) = (⟨r + 512, 2, nn, [], ((r + 512 : Nat) : Int) - 512, 1, false, [], [], ⟨#[]⟩, ⟨#[]⟩, none⟩, [.bgn e (r + 512)]) := by
    unfold Pu.turn
    rw [if_pos rfl]
    unfold Pu.endHeader
    simp only [e1, e2, e3]
    simp [Pu.beginThing, e4, e5, e6, Pu.expect]
  have hpad : Pu.pad (r + 512 + nn) = (512 - nn % 512) % 512 := by unfold Pu.pad; omega
  have hfin : ∀ (m : Nat) (b : Int), Pu.turn fns0 (⟨m, 2, 0, [], b, 1, false, [], [], ⟨#[]⟩, ⟨#[]⟩, none⟩ : PsR) = (⟨m, 3, Pu.pad m, [], b, 1, false, [], [], ⟨#[]⟩, ⟨#[]⟩, none⟩, [.fin m]) := fun m b => by
    unfold Pu.turn Pu.fill Pu.expect
    simp
  have hexp : ∀ (m : Nat) (b : Int), Pu.turn fns0 (⟨m, 3, 0, [], b, 1, false, [], [], ⟨#[]⟩, ⟨#[]⟩, none⟩ : PsR) = (stS m b 1 false, []) := fun m b => by
    unfold Pu.turn Pu.expect stS
    simp
  have hf1 := feed_piece (stS r bg cl false) z hzne (by show (0 : Nat) ≠ 4; omega) (by rw [hl]; exact Nat.le_refl _)
  rw [ht] at hf1
  have hset3 : Pu.settle fns0 3 (⟨r + 512, 0, 0, z, bg, cl, false, [], [], ⟨#[]⟩, ⟨#[]⟩, none⟩ : PsR) = ((Pu.settle fns0 2 (⟨r + 512, 2, nn, [], ((r + 512 : Nat) : Int) - 512, 1, false, [], [], ⟨#[]⟩, ⟨#[]⟩, none⟩ : PsR)).1, [.bgn e (r + 512)] ++ (Pu.settle fns0 2 (⟨r + 512, 2, nn, [], ((r + 512 : Nat) : Int) - 512, 1, false, [], [], ⟨#[]⟩, ⟨#[]⟩, none⟩ : PsR)).2) := by
    conv => lhs; unfold Pu.settle
    rw [if_pos ⟨rfl, (by show (0 : Nat) ≠ 4; omega)⟩, hturn]
  rw [hset3] at hf1
  -- what comes behind the last byte, or behind the header of a file without bytes
  have hend : ∀ (k : Nat) (m : Nat) (b : Int), 2 ≤ k → Pu.pad m = 0 → Pu.settle fns0 k (⟨m, 2, 0, [], b, 1, false, [], [], ⟨#[]⟩, ⟨#[]⟩, none⟩ : PsR) = (stS m b 1 false, [.fin m]) := fun k m b hk hp => by
    obtain ⟨k, rfl⟩ : ∃ q, k = q + 2 := ⟨k - 2, by omega⟩
    conv => lhs; unfold Pu.settle
    rw [if_pos ⟨rfl, (by show (2 : Nat) ≠ 4; omega)⟩, hfin, hp]
    have h2 : Pu.settle fns0 (k + 1) (⟨m, 3, 0, [], b, 1, false, [], [], ⟨#[]⟩, ⟨#[]⟩, none⟩ : PsR) = (stS m b 1 false, []) := by
      conv => lhs; unfold Pu.settle
      rw [if_pos ⟨rfl, (by show (3 : Nat) ≠ 4; omega)⟩, hexp]
      rw [Pu.settle_of_fit fns0 (.inl (by show (512 : Nat) ≠ 0; omega)) k]
      rfl
    simp only [h2]
    rfl
  have hmid : ∀ (k : Nat) (m : Nat) (b : Int), 1 ≤ k → Pu.pad m ≠ 0 → Pu.settle fns0 k (⟨m, 2, 0, [], b, 1, false, [], [], ⟨#[]⟩, ⟨#[]⟩, none⟩ : PsR) = (⟨m, 3, Pu.pad m, [], b, 1, false, [], [], ⟨#[]⟩, ⟨#[]⟩, none⟩, [.fin m]) := fun k m b hk hp => by
    obtain ⟨k, rfl⟩ : ∃ q, k = q + 1 := ⟨k - 1, by omega⟩
    conv => lhs; unfold Pu.settle
    rw [if_pos ⟨rfl, (by show (2 : Nat) ≠ 4; omega)⟩, hfin]
    rw [Pu.settle_of_fit fns0 (.inl hp) k]
    rfl
  have harc : ∀ (l : List EvE), l = [.bgn e (r + 512), .fin (r + 512)] ∧ nn = 0 ∧ d = [] ∨ l = [.bgn e (r + 512), .dat d (r + 512 + nn), .fin (r + 512 + nn)] ∧ d ≠ [] → Pu.arcs a l = some { a with ts := a.ts ++ [⟨e, d, true, r + 512 + nn⟩] } := by
    rintro l (⟨rfl, rfl, rfl⟩ | ⟨rfl, hd⟩)
    · simp [Pu.arcs, Pu.arc, hov, hop, Pu.chLast_snoc]
    · simp [Pu.arcs, Pu.arc, hov, hop, Pu.chLast_snoc, hd]
  by_cases h0 : nn = 0
  · subst h0
    have hd0 : d = [] := List.eq_nil_of_length_eq_zero hdl
    have hf0 : f = [] := List.eq_nil_of_length_eq_zero (by rw [hfl])
    subst hd0 hf0
    rw [hend 2 (r + 512) _ (Nat.le_refl _) (by unfold Pu.pad; omega)] at hf1
    refine ⟨((r + 512 : Nat) : Int) - 512, ?_, ?_⟩
    · simp only [Pu.feeds, hf1, feed_none]
      rfl
    · simp only [Pu.feeds, hf1, feed_none]
      exact harc _ (.inl ⟨by simp, rfl, rfl⟩)
  · have hdne : d ≠ [] := fun q => by rw [q] at hdl; simp at hdl; omega
    have hw : Pu.settle fns0 2 (⟨r + 512, 2, nn, [], ((r + 512 : Nat) : Int) - 512, 1, false, [], [], ⟨#[]⟩, ⟨#[]⟩, none⟩ : PsR) = (⟨r + 512, 2, nn, [], ((r + 512 : Nat) : Int) - 512, 1, false, [], [], ⟨#[]⟩, ⟨#[]⟩, none⟩, []) := Pu.settle_of_fit fns0 (.inl h0) 2
    rw [hw] at hf1
    have htd : Pu.take (E := E.En) (⟨r + 512, 2, nn, [], ((r + 512 : Nat) : Int) - 512, 1, false, [], [], ⟨#[]⟩, ⟨#[]⟩, none⟩ : PsR) d = (⟨r + 512 + nn, 2, 0, [], ((r + 512 : Nat) : Int) - 512, 1, false, [], [], ⟨#[]⟩, ⟨#[]⟩, none⟩, [.dat d (r + 512 + nn)]) := by
      unfold Pu.take
      simp [hdl]
    have hf2 := feed_piece (⟨r + 512, 2, nn, [], ((r + 512 : Nat) : Int) - 512, 1, false, [], [], ⟨#[]⟩, ⟨#[]⟩, none⟩ : PsR) d hdne (by show (2 : Nat) ≠ 4; omega) (by rw [hdl]; exact Nat.le_refl _)
    rw [htd] at hf2
    by_cases hp : (512 - nn % 512) % 512 = 0
    · have hf0 : f = [] := List.eq_nil_of_length_eq_zero (by rw [hfl, hp])
      subst hf0
      rw [hend 3 (r + 512 + nn) _ (by omega) (by rw [hpad, hp])] at hf2
      refine ⟨((r + 512 : Nat) : Int) - 512, ?_, ?_⟩
      · simp only [Pu.feeds, hf1, hf2, feed_none]
        rfl
      · simp only [Pu.feeds, hf1, hf2, feed_none]
        exact harc _ (.inr ⟨by simp, hdne⟩)
    · have hfne : f ≠ [] := fun q => by rw [q] at hfl; simp at hfl; omega
      rw [hmid 3 (r + 512 + nn) _ (by omega) (by rw [hpad]; exact hp)] at hf2
      have htf : Pu.take (E := E.En) (⟨r + 512 + nn, 3, Pu.pad (r + 512 + nn), [], ((r + 512 : Nat) : Int) - 512, 1, false, [], [], ⟨#[]⟩, ⟨#[]⟩, none⟩ : PsR) f = (⟨r + 512 + nn + f.length, 3, 0, [], ((r + 512 : Nat) : Int) - 512, 1, false, [], [], ⟨#[]⟩, ⟨#[]⟩, none⟩, []) := by
        unfold Pu.take
        simp [hfl, hpad]
      have hf3 := feed_piece (⟨r + 512 + nn, 3, Pu.pad (r + 512 + nn), [], ((r + 512 : Nat) : Int) - 512, 1, false, [], [], ⟨#[]⟩, ⟨#[]⟩, none⟩ : PsR) f hfne (by show (3 : Nat) ≠ 4; omega) (by rw [hfl]; show _ ≤ Pu.pad (r + 512 + nn); rw [hpad]; exact Nat.le_refl _)
      rw [htf] at hf3
      have hs3 : Pu.settle fns0 3 (⟨r + 512 + nn + f.length, 3, 0, [], ((r + 512 : Nat) : Int) - 512, 1, false, [], [], ⟨#[]⟩, ⟨#[]⟩, none⟩ : PsR) = (stS (r + 512 + nn + f.length) (((r + 512 : Nat) : Int) - 512) 1 false, []) := by
        conv => lhs; unfold Pu.settle
        rw [if_pos ⟨rfl, (by show (3 : Nat) ≠ 4; omega)⟩, hexp]
        rw [Pu.settle_of_fit fns0 (.inl (by show (512 : Nat) ≠ 0; omega)) 2]
        rfl
      rw [hs3] at hf3
      refine ⟨((r + 512 : Nat) : Int) - 512, ?_, ?_⟩
      · simp only [Pu.feeds, hf1, hf2, hf3]
      · simp only [Pu.feeds, hf1, hf2, hf3]
        exact harc _ (.inr ⟨by simp, hdne⟩)
end Go.Proofs.YtnmmaedngdibeaaGreatDoor

namespace Go.Proofs.YtnmmaedngdibeaaGreatDoor
open Go.RowKit
set_option linter.unusedVariables false
set_option linter.unusedSimpArgs false

/-- bytes that lie somewhere, as a text -/
theorem conv_rin {w : World} {v : Value} {zs : List Int} (h : RIn .u8 w v zs) (hA : H.AllB zs) : (convert 22 9 v).run Tryz.prog w = .ok (.string (strB zs)) w := by
  by_cases hz : zs = []
  · subst hz
    have e0 : strB [] = ⟨#[]⟩ := rfl
    rw [e0]
    rcases h with ⟨rfl, _⟩ | ⟨ad, c, rfl, _, _, _⟩
    · rw [run_convert_bytes_string w 22 9 5 _ _ _ Tryz.underlying22 Tryz.underlying5 Tryz.underlying9]
      show _ = Result.ok (Value.string ByteArray.empty) w
      simp [Conv.bytesToString]
    · rw [run_convert_bytes_string w 22 9 5 _ _ _ Tryz.underlying22 Tryz.underlying5 Tryz.underlying9]
      have hl := run_loadCells_list (P := Tryz.prog) (w := w) ad [] (fun j v hj => by cases hj)
      have := run_bytesToString (P := Tryz.prog) w ad 0 c [] (by simpa using hl)
      show _ = Result.ok (Value.string ByteArray.empty) w
      simpa using this
  · obtain ⟨B, o, c, rfl, h2, h3, h4, h5⟩ := h.some hz
    have := X.conv_str w B o c (U8 zs) (fun i hi => by
      rw [U8_length] at hi
      rw [U8_get hA hi]
      exact h5 i _ (by rw [List.getElem?_map, List.getElem?_eq_getElem hi]; rfl))
    rw [U8_length] at this
    exact this

/-- a full slice, and nothing more -/
theorem append_full_none (ty : TypeId) {w : World} {g n : Nat} {v : Value} (h : RIn .u8 w v []) : (Builtin.append_ #[22, 22] ty #[.slice (some ⟨g, 0, none⟩) n n, v]).run Tryz.prog w = .ok (.slice (some ⟨g, 0, none⟩) n n) w := by
  obtain ⟨i0, hi, hz0, hz1, hz2⟩ := info_parts infoB
  rcases h with ⟨rfl, _⟩ | ⟨ad, c, rfl, _, _, _⟩
  · simp [Builtin.append_, run_underlying Tryz.underlying22, sizeOf, typeInfo, zeroValue, hi, hz0, hz1, hz2, Builtin.lenOf, run_firstCells_none, storeCells]
  · have hf := run_firstCells_some (P := Tryz.prog) w i0.size 0 ad 0 c [] (by simp) (fun j v hj => by cases hj)
    rw [hz1] at hf
    simp [Builtin.append_, run_underlying Tryz.underlying22, sizeOf, typeInfo, zeroValue, hi, hz0, hz1, hz2, Builtin.lenOf, hf, storeCells]
/-- .. and bytes: a row of one's own -/
theorem append_full_grow (ty : TypeId) {w : World} {g : Nat} {xs ks : List Int} {v : Value} (hx : ∀ j u, (xs.map fun z => Value.int .u8 z)[j]? = some u → w.cell? ((⟨g, 0, none⟩ : Addr).add j) = some u) (h : RIn .u8 w v ks) (hne : ks ≠ []) (hl : xs.length + ks.length ≤ 1000000) :
    ∃ G c w', (Builtin.append_ #[22, 22] ty #[.slice (some ⟨g, 0, none⟩) xs.length xs.length, v]).run Tryz.prog w = .ok (.slice (some ⟨G, 0, none⟩) (xs ++ ks).length c) w' ∧ w'.ownsRow 0 5 1 (.slice (some ⟨G, 0, none⟩) (xs ++ ks).length c) (xs ++ ks).length ((xs ++ ks).map fun z => Value.int .u8 z) ∧ Below w.heap.size w w' ∧ w.heap.size ≤ G := by
  obtain ⟨i0, hi, hz0, hz1, hz2⟩ := info_parts infoB
  obtain ⟨B, o, c, rfl, h2, h3, h4, h5⟩ := h.some hne
  have hk := List.length_pos_iff.2 hne
  have hr := run_append_grow (P := Tryz.prog) w 22 ty 5 i0 (.int .u8 0) Tryz.underlying22 hi hz0 ⟨g, 0, none⟩ xs.length xs.length (xs.map fun z => Value.int .u8 z) (by rw [hz1]; simp) hx ⟨B, o, none⟩ ks.length c (ks.map fun z => Value.int .u8 z) (by rw [hz1]; simp) (fun j u hj => by rw [add_at]; exact h5 j u hj) (by omega) (by omega) (by rw [hz2]; exact growslice_fits (by omega) (by omega))
  have hge := grownCap_ge w (xs.length + ks.length) xs.length 5
  have hcm2 : grownCap w (xs.length + ks.length) xs.length 5 ≤ maxLen := grownCap_le_maxLen w (xs.length + ks.length) xs.length 5 (by unfold maxLen; omega)
  rw [List.length_append]
  refine ⟨_, _, _, hr, ⟨by simp, .inr ⟨w.heap.size, _, _, rfl, Nat.zero_le _, heap_alloc_new w.drew _, hge, hcm2, ?_, ?_⟩⟩, ⟨rfl, rfl, rfl, by simp, fun k hk => (by first | exact heap_alloc_old w.drew _ k hk | exact heap_alloc_old w.drew _ hk)⟩, Nat.le_refl _⟩
  · have hz1' : (Value.int IntKind.u8 0).cells.size = 1 := rfl
    simp only [Array.size_append, List.size_toArray, size_zeroCells, hz1', List.length_map]
    omega
  · have hcount : (xs.length + ks.length) * 1 = (xs.map (fun z => Value.int .u8 z) ++ ks.map (fun z => Value.int .u8 z)).length := by simp
    simp only [Array.toList_append, List.map_append]
    rw [hcount]
    exact List.take_left
/-- .. and noughts -/
theorem append_full_zeros (ty : TypeId) {w : World} {g : Nat} {xs : List Int} (hx : ∀ j u, (xs.map fun z => Value.int .u8 z)[j]? = some u → w.cell? ((⟨g, 0, none⟩ : Addr).add j) = some u) (k : Nat) (hk : 0 < k) (hl : xs.length + k ≤ 1000000) :
    ∃ G c w', (Builtin.append_ #[22, 3] ty #[.slice (some ⟨g, 0, none⟩) xs.length xs.length, .int .i64 (k : Int)]).run Tryz.prog w = .ok (.slice (some ⟨G, 0, none⟩) (xs ++ List.replicate k 0).length c) w' ∧ w'.ownsRow 0 5 1 (.slice (some ⟨G, 0, none⟩) (xs ++ List.replicate k 0).length c) (xs ++ List.replicate k 0).length ((xs ++ List.replicate k 0).map fun z => Value.int .u8 z) ∧ Below w.heap.size w w' ∧ w.heap.size ≤ G := by
  obtain ⟨i0, hi, hz0, hz1, hz2⟩ := info_parts infoB
  have hold : (Builtin.firstCells i0.size xs.length (.slice (some ⟨g, 0, none⟩) xs.length xs.length)).run Tryz.prog w.drew = .ok (xs.map fun z => Value.int .u8 z).toArray w.drew := by
    have := run_loadCells_list (P := Tryz.prog) (w := w.drew) ⟨g, 0, none⟩ (xs.map fun z => Value.int .u8 z) hx
    rw [List.length_map] at this
    simp [Builtin.firstCells, hz1, this]
  have hr := Lib.run_append_grow_zeros (P := Tryz.prog) w 22 3 ty 5 i0 (.int .u8 0) .i64 .i64 Tryz.underlying22 Tryz.underlying3 hi hz0 (some ⟨g, 0, none⟩) xs.length xs.length (xs.map fun z => Value.int .u8 z) hold k hk (by omega) (by omega) (by omega) (by rw [hz2]; omega) (by rw [hz2]; exact growslice_fits (by omega) (by omega))
  have hge := grownCap_ge w (xs.length + k) xs.length 5
  have hcm2 : grownCap w (xs.length + k) xs.length 5 ≤ maxLen := grownCap_le_maxLen w (xs.length + k) xs.length 5 (by unfold maxLen; omega)
  rw [zeroCells_eq] at hr
  have hzk : zc k = (List.replicate k 0).map fun z => Value.int .u8 z := by rw [cells_zc, cells_map]
  rw [hzk] at hr
  rw [List.length_append, List.length_replicate]
  refine ⟨_, _, _, hr, ⟨by simp, .inr ⟨w.heap.size, _, _, rfl, Nat.zero_le _, heap_alloc_new w.drew _, hge, hcm2, ?_, ?_⟩⟩, ⟨rfl, rfl, rfl, by simp, fun k hk => (by first | exact heap_alloc_old w.drew _ k hk | exact heap_alloc_old w.drew _ hk)⟩, Nat.le_refl _⟩
  · have hz1' : (Value.int IntKind.u8 0).cells.size = 1 := rfl
    simp only [Array.size_append, List.size_toArray, size_zeroCells, hz1', List.length_map, List.length_replicate]
    omega
  · have hcount : (xs.length + k) * 1 = (xs.map (fun z => Value.int .u8 z) ++ (List.replicate k 0).map (fun z => Value.int .u8 z)).length := by simp
    simp only [Array.toList_append, List.map_append]
    rw [hcount]
    exact List.take_left

theorem blank_rep (n : Nat) : H.blankB (List.replicate n 0) = true := by
  unfold H.blankB
  rw [List.all_eq_true]
  intro z hz
  rw [List.eq_of_mem_replicate hz]
  rfl
/-- the end of an archive -/
theorem end_feeds (r : Nat) (bg cl : Int) (a : AcE) (hov : a.ov = false) (z : List Int) (hl : z.length = 512) (hbz : H.blankB z = true) : Pu.arcs a (Pu.feeds fns0 (stS r bg cl false) [z, z]).2 = some { a with dn := true, ov := true } ∧ (Pu.feeds fns0 (stS r bg cl false) [z, z]).1.pt = 4 ∧ (Pu.feeds fns0 (stS r bg cl false) [z, z]).1.er = none ∧ (Pu.feeds fns0 (stS r bg cl false) [z, z]).1.rd = r + 1024 := by
  have hne : z ≠ [] := fun q => by rw [q] at hl; simp at hl
  have hb : fns0.blank z = true := hbz
  have ht : ∀ (m : Nat) (b c : Int) (q : Bool), Pu.take (E := E.En) (stS m b c q) z = (⟨m + 512, 0, 0, z, b, c, q, [], [], ⟨#[]⟩, ⟨#[]⟩, none⟩, []) := fun m b c q => by
    unfold Pu.take stS
    simp [hl]
  have h1 : ∀ (m : Nat) (b c : Int), Pu.turn fns0 (⟨m + 512, 0, 0, z, b, c, false, [], [], ⟨#[]⟩, ⟨#[]⟩, none⟩ : PsR) = (stS (m + 512) (((m + 512 : Nat) : Int) - 512) c true, []) := fun m b c => by
    unfold Pu.turn
    rw [if_pos rfl]
    unfold Pu.endHeader
    simp only [hb]
    simp [Pu.endBlank, Pu.expect, stS]
  have h2 : ∀ (m : Nat) (b c : Int), Pu.turn fns0 (⟨m + 512, 0, 0, z, b, c, true, [], [], ⟨#[]⟩, ⟨#[]⟩, none⟩ : PsR) = (⟨m + 512, 4, 0, [], 0, 0, false, [], [], fns0.none, fns0.none, none⟩, [.don (m + 512)]) := fun m b c => by
    unfold Pu.turn
    rw [if_pos rfl]
    unfold Pu.endHeader
    simp only [hb]
    simp [Pu.endBlank, Pu.stop]
  have f1 : ∀ (m : Nat) (b c : Int), Pu.feed fns0 z.length (stS m b c false) z = (stS (m + 512) (((m + 512 : Nat) : Int) - 512) c true, []) := fun m b c => by
    rw [feed_piece (stS m b c false) z hne (by show (0 : Nat) ≠ 4; omega) (by rw [hl]; exact Nat.le_refl _), ht]
    have : Pu.settle fns0 3 (⟨m + 512, 0, 0, z, b, c, false, [], [], ⟨#[]⟩, ⟨#[]⟩, none⟩ : PsR) = (stS (m + 512) (((m + 512 : Nat) : Int) - 512) c true, []) := by
      conv => lhs; unfold Pu.settle
      rw [if_pos ⟨rfl, (by show (0 : Nat) ≠ 4; omega)⟩, h1, Pu.settle_of_fit fns0 (.inl (by show (512 : Nat) ≠ 0; omega)) 2]
      rfl
    rw [this]
    rfl
  have f2 : ∀ (m : Nat) (b c : Int), Pu.feed fns0 z.length (stS m b c true) z = (⟨m + 512, 4, 0, [], 0, 0, false, [], [], fns0.none, fns0.none, none⟩, [.don (m + 512)]) := fun m b c => by
    rw [feed_piece (stS m b c true) z hne (by show (0 : Nat) ≠ 4; omega) (by rw [hl]; exact Nat.le_refl _), ht]
    have : Pu.settle fns0 3 (⟨m + 512, 0, 0, z, b, c, true, [], [], ⟨#[]⟩, ⟨#[]⟩, none⟩ : PsR) = (⟨m + 512, 4, 0, [], 0, 0, false, [], [], fns0.none, fns0.none, none⟩, [.don (m + 512)]) := by
      conv => lhs; unfold Pu.settle
      rw [if_pos ⟨rfl, (by show (0 : Nat) ≠ 4; omega)⟩, h2, Pu.settle_of_fit fns0 (.inr rfl) 2]
      rfl
    rw [this]
    rfl
  simp only [Pu.feeds, f1, f2]
  exact ⟨by simp [Pu.arcs, Pu.arc, hov], (by first | trivial | rfl), (by first | trivial | rfl), (by first | trivial | rfl)⟩
/-- an archive by its pieces -/
theorem arch_of {ps : List (List Int)} {b : AcE} (h : Pu.arcs (Pu.Ac.nil : AcE) (Pu.feeds fns0 (Pu.new fns0) ps).2 = some b) : Pu.arch fns0 ps.flatten = b ∧ (Pu.run fns0 (Pu.new fns0) ps.flatten).1 = (Pu.feeds fns0 (Pu.new fns0) ps).1 := by
  obtain ⟨h1, h2⟩ := Pu.feeds_run fns0 ps (Pu.new fns0) (.inl (by show (512 : Nat) ≠ 0; omega))
  have h3 := (Pu.arch_eq fns0 ps.flatten).1
  rw [← h2, h] at h3
  exact ⟨(Option.some.inj h3).symm, h1.symm⟩
theorem feeds_app (s : PsR) : ∀ (ps qs : List (List Int)), (Pu.feeds fns0 s (ps ++ qs)).1 = (Pu.feeds fns0 (Pu.feeds fns0 s ps).1 qs).1 ∧ (Pu.feeds fns0 s (ps ++ qs)).2 = (Pu.feeds fns0 s ps).2 ++ (Pu.feeds fns0 (Pu.feeds fns0 s ps).1 qs).2
  | [], qs => by simp [Pu.feeds]
  | p :: ps, qs => by
    obtain ⟨h1, h2⟩ := feeds_app (Pu.feed fns0 p.length s p).1 ps qs
    simp only [List.cons_append, Pu.feeds, h1, h2, List.append_assoc]
    exact ⟨trivial, trivial⟩
end Go.Proofs.YtnmmaedngdibeaaGreatDoor

namespace Go.Proofs.YtnmmaedngdibeaaGreatDoor
open Go.RowKit
set_option linter.unusedVariables false
set_option linter.unusedSimpArgs false

/-- bytes of one's own, or a block that is full -/
def FO (W : World) (B : Nat) (v : Value) (xs : List Int) : Prop :=
  (W.ownsRow 0 5 1 v xs.length (xs.map fun z => Value.int .u8 z) ∧ xs ≠ [] ∧ ∀ k, v.ownBlock = some k → B ≤ k) ∨
  (xs.length = 512 ∧ ∃ g, v = .slice (some ⟨g, 0, none⟩) 512 512 ∧ ∀ j u, (xs.map fun z => Value.int .u8 z)[j]? = some u → W.cell? ((⟨g, 0, none⟩ : Addr).add j) = some u)
theorem FO.sl {W : World} {B : Nat} {v : Value} {xs : List Int} (h : FO W B v xs) : ∃ ad c, v = .slice ad xs.length c := by
  rcases h with ⟨h, _, _⟩ | ⟨h, g, e, _⟩
  · obtain ⟨a, c, e, _⟩ := own_sl h
    exact ⟨a, c, e⟩
  · exact ⟨_, _, by rw [h]; exact e⟩
theorem FO.below {W W' : World} {B : Nat} {v : Value} {xs : List Int} (h : FO W B v xs) (b : Below W.heap.size W W') : FO W' B v xs := by
  rcases h with ⟨h, h2, h3⟩ | ⟨h, g, e, h2⟩
  · exact .inl ⟨own_moved h fun k hk => b.block k (own_lt h hk).1, h2, h3⟩
  · exact .inr ⟨h, g, e, fun j u hj => (b.cell (World.block_lt_of_cell? _ _ (h2 j u hj))).trans (h2 j u hj)⟩
section
variable {ops : Array Oper} {rest : List Oper} {o : Oper} {a : Act} {Q : Exit → Act → World → Prop} {W : World}
/-- the first bytes behind it -/
theorem wpList_fo_app (hgd : o.guard = none) (x1 x2 : Operand) (ho : o.op = .call { callee := .builtin .append, args := #[x1, x2], argTypes := #[22, 22] }) {g : Nat} {xs ks : List Int} (hs : a.eval x1 = .slice (some ⟨g, 0, none⟩) 512 512) (hxl : xs.length = 512)
    (hx : ∀ j u, (xs.map fun z => Value.int .u8 z)[j]? = some u → W.cell? ((⟨g, 0, none⟩ : Addr).add j) = some u) (tv : Value) (he : a.eval x2 = tv) (ht : RIn .u8 W tv ks) (hl : xs.length + ks.length ≤ 1000000) (B : Nat) (hB : B ≤ W.heap.size)
    (h : ∀ v' W', FO W' B v' (xs ++ ks) → Below B W W' → wpList Tryz.prog ops Q rest (a.put o.dst v') W') : wpList Tryz.prog ops Q (o :: rest) a W := by
  by_cases hk : ks = []
  · subst hk
    refine Lib.wpList_append_run W hgd x1 x2 22 22 ho _ tv hs he _ W (append_full_none o.type ht) (h _ W ?_ (Below.refl _ _))
    rw [List.append_nil]
    exact .inr ⟨hxl, g, rfl, hx⟩
  · obtain ⟨G, c, w', hr, o', b, hG⟩ := append_full_grow o.type hx ht hk hl
    rw [hxl] at hr
    refine Lib.wpList_append_run W hgd x1 x2 22 22 ho _ tv hs he _ w' hr (h _ w' ?_ (b.mono hB))
    exact .inl ⟨o', by simp [hk], fun k hk' => by cases hk'; show B ≤ G; omega⟩
/-- one byte more, where it isn't a whole block -/
theorem wpList_fo_one (hgd : o.guard = none) (x1 x2 : Operand) (ho : o.op = .call { callee := .builtin .append, args := #[x1, x2], argTypes := #[22, 22] }) {xs : List Int} {B : Nat} (v : Value) (hs : a.eval x1 = v) (hv : FO W B v xs) (hm : xs.length % 512 ≠ 0)
    (tv : Value) (he : a.eval x2 = tv) {f : Int} (ht : RIn .u8 W tv [f]) (hl : xs.length + 1 ≤ 1000000) (hB : B ≤ W.heap.size)
    (h : ∀ v' W', FO W' B v' (xs ++ [f]) → Below B W W' → wpList Tryz.prog ops Q rest (a.put o.dst v') W') : wpList Tryz.prog ops Q (o :: rest) a W := by
  rcases hv with ⟨h1, h2, h3⟩ | ⟨h1, _⟩
  · refine wpList_append_u8s hgd x1 x2 ho (xs := xs) (ks := [f]) v hs h1 tv he ht hl B hB h3 ?_
    intro v' W' o' b n'
    exact h v' W' (.inl ⟨o', by simp, n'⟩) b
  · rw [h1] at hm
    exact absurd rfl hm
/-- noughts behind it -/
theorem wpList_fo_zeros (hgd : o.guard = none) (x1 x2 : Operand) (ho : o.op = .call { callee := .builtin .append, args := #[x1, x2], argTypes := #[22, 3] }) {xs : List Int} {B : Nat} (v : Value) (hs : a.eval x1 = v) (hv : FO W B v xs)
    (k : Nat) (hk : 0 < k) (he : a.eval x2 = .int .i64 (k : Int)) (hl : xs.length + k ≤ 1000000) (hB : B ≤ W.heap.size)
    (h : ∀ v' W', RIn .u8 W' v' (xs ++ List.replicate k 0) → Below B W W' → wpList Tryz.prog ops Q rest (a.put o.dst v') W') : wpList Tryz.prog ops Q (o :: rest) a W := by
  obtain ⟨i0, hi, hz0, hz1, hz2⟩ := info_parts infoB
  rcases hv with ⟨h1, h2, h3⟩ | ⟨h1, g, rfl, h3⟩
  · have hne : v ≠ .slice none 0 0 := fun e => by
      rcases h1.2 with ⟨_, q⟩ | ⟨g, cap, cur, e1, _⟩
      · exact h2 (List.eq_nil_of_length_eq_zero q)
      · rw [e1] at e; cases e
    refine wpList_append_own_zeros W hgd x1 x2 22 3 ho 0 5 .i64 .i64 i0 Tryz.underlying22 Tryz.underlying3 hi hz0 hz1 hz2 v xs.length _ hs h1 hne k he (by omega) (Nat.zero_le _) ?_
    intro v' W' o' g' _
    have hzk : zc k = (List.replicate k 0).map fun z => Value.int .u8 z := by rw [cells_zc, cells_map]
    rw [hzk, ← List.map_append] at o'
    have hll : xs.length + k = (xs ++ List.replicate k 0).length := by simp
    rw [hll] at o'
    exact h v' W' (own_rin o') ⟨g'.os, g'.tape, g'.output, g'.size, fun q hq => g'.block q (by omega) (fun e => by have := h3 q e.symm; omega)⟩
  · obtain ⟨G, c, w', hr, o', b, hG⟩ := append_full_zeros o.type h3 k hk hl
    rw [h1] at hr
    exact Lib.wpList_append_run W hgd x1 x2 22 3 ho _ _ hs he _ w' hr (h _ w' (own_rin o') (b.mono hB))
end
theorem bx2 {W : World} {p : Nat} {C : Array Value} {ty : TypeId} (h : W.heap[p]? = some (.cells C ty (0, 0))) : ∀ i, W.cell? ⟨p, i, none⟩ = C[i]? := fun i => by
  simp only [World.cell?, h]
  rfl
theorem own_cells {w w' : World} {g : Nat} {zs : List Int} (h : H.Own w w' g zs) (hne : zs ≠ []) : ∀ j u, (zs.map fun z => Value.int .u8 z)[j]? = some u → w'.cell? ((⟨g, 0, none⟩ : Addr).add j) = some u := by
  obtain ⟨ad, e, hc⟩ := h.src (List.length_pos_iff.2 hne)
  cases e
  intro j u hj
  rw [← cells_map] at hj
  exact hc j u hj

/-- what an archive of one file is -/
theorem bytes_fin (d f : List Int) (hl : d.length ≤ 5000) (hf : f.length = (512 - d.length % 512) % 512) :
    ∃ e : E.En, finA (hdG ⟨#[97]⟩ 48 0 (d.length : Int) ++ d ++ f ++ List.replicate 1024 0) = ⟨[⟨e, d, true, 512 + d.length⟩], false, true, true, 0, 0⟩ := by
  have hn := numsM (d.length : Int) (by omega) (by omega)
  obtain ⟨y, hd, ht, hs, hfo, hfu, hu, hg, _⟩ := hdG_dec (n := ⟨#[97]⟩) (ty := 48) (md := 0) (sz := (d.length : Int)) textsA hn (by omega) (by omega) (by omega)
  obtain ⟨e, hm, he, _, _⟩ := mk_file ht hfo (by omega) hu hg
  have hb := hdG_blank (n := ⟨#[97]⟩) (ty := 48) (md := 0) (sz := (d.length : Int)) textsA hn (by exact ⟨97, [], rfl, by omega⟩)
  have hlen := hdG_len (n := ⟨#[97]⟩) (ty := 48) (md := 0) (sz := (d.length : Int)) textsA hn
  have hcl : clsP y.typ = 1 := by rw [ht]; decide
  generalize hdG ⟨#[97]⟩ 48 0 (d.length : Int) = z at *
  obtain ⟨bg2, k1, k2⟩ := file_feeds (z := z) 0 d.length 0 0 (by omega) hlen hb hd hcl hm (by rw [he, hs]; simp) d f rfl hf Pu.Ac.nil rfl rfl
  obtain ⟨z0, hz0⟩ : ∃ z0, z0 = List.replicate 512 (0 : Int) := ⟨_, rfl⟩
  have hl0 : z0.length = 512 := by rw [hz0]; exact List.length_replicate
  have hb0 : H.blankB z0 = true := by rw [hz0]; exact blank_rep 512
  have hz1 : List.replicate 1024 (0 : Int) = z0 ++ z0 := by rw [hz0, List.replicate_append_replicate]
  clear hz0
  obtain ⟨m1, m2, _, _⟩ := end_feeds (0 + 512 + d.length + f.length) bg2 1 { (Pu.Ac.nil : AcE) with ts := (Pu.Ac.nil : AcE).ts ++ [(⟨e, d, true, 0 + 512 + d.length⟩ : ThE)] } rfl z0 hl0 hb0
  have hnew : Pu.new fns0 = stS 0 0 0 false := rfl
  obtain ⟨a1, a2⟩ := feeds_app (Pu.new fns0) [z, d, f] [z0, z0]
  rw [hnew] at a1 a2
  rw [k1] at a1 a2
  have ha : Pu.arcs (Pu.Ac.nil : AcE) (Pu.feeds fns0 (Pu.new fns0) ([z, d, f] ++ [z0, z0])).2 = some { ({ (Pu.Ac.nil : AcE) with ts := (Pu.Ac.nil : AcE).ts ++ [(⟨e, d, true, 0 + 512 + d.length⟩ : ThE)] }) with dn := true, ov := true } := by
    rw [hnew, a2, Pu.arcs_append, k2]
    exact m1
  obtain ⟨r1, _⟩ := arch_of ha
  have hfl : ([z, d, f] ++ [z0, z0]).flatten = z ++ d ++ f ++ List.replicate 1024 0 := by
    rw [hz1]
    simp only [List.cons_append, List.nil_append, List.flatten_cons, List.flatten_nil, List.append_nil, List.append_assoc]
  rw [hfl] at r1
  refine ⟨e, ?_⟩
  unfold finA
  rw [r1, if_pos rfl]
  show (⟨[] ++ [(⟨e, d, true, 0 + 512 + d.length⟩ : ThE)], false, true, true, 0, 0⟩ : AcE) = _
  rw [List.nil_append, Nat.zero_add]
end Go.Proofs.YtnmmaedngdibeaaGreatDoor

