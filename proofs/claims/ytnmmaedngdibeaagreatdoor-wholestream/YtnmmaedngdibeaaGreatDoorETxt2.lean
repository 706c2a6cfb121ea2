/-
  Contract: fillTexts.
-/
import Derived.Test.YtnmmaedngdibeaaGreatDoorETxt
namespace Go.Proofs.YtnmmaedngdibeaaGreatDoor.E
open Go.RowKit
set_option linter.unusedVariables false
set_option linter.unusedSimpArgs false

theorem lp_start {w w2 w8 : World} {E : Nat} {e : En} {h : Hd} {a : Ah} (hE : EntAt w E e) (HB : Boxed w2 w.heap.size h a) (b2 : Below w.heap.size w w2) (z2 : w2.heap.size = w.heap.size + 2) (b8 : Below w2.drew.heap.size w2.drew w8) :
    Lp w (w8.alloc (.cells (txtCells E h.full h.link h.user h.group a.name a.link) 183)) E w8.heap.size e h a ∧ E ≠ w8.heap.size := by
  have l := hE.lt
  have s8 : w.heap.size + 2 ≤ w8.heap.size := by have := b8.size; simp at this; omega
  have B := HB.drewG b8
  have b8' : Below w.heap.size w w8 := b2.trans (Below.mono (B := w2.drew.heap.size) ⟨b8.os, b8.tape, b8.output, b8.size, b8.block⟩ (by simp; omega))
  refine ⟨⟨(b8'.mono (Nat.le_of_lt l)).alloc (by omega) _, ?_, ?_, heap_alloc_new _ _, l⟩, by omega⟩
  · exact (hE.grow b8').grow ((Below.refl _ _).alloc (Nat.le_refl _) _)
  · rw [Below.heap_alloc _ _ _ (by omega)]; exact B.y

theorem kept2 {w5 : World} {E m b o : Nat} {v u : Value} {ob : Obj} (h : w5.cell? ⟨b, o, none⟩ = some v) (hne : E < b) : ((w5.setCell ⟨E, m, none⟩ u).alloc ob).cell? ⟨b, o, none⟩ = some v := by
  have h1 : (w5.setCell ⟨E, m, none⟩ u).cell? ⟨b, o, none⟩ = some v := by
    rw [World.cell?_of_block (w := w5) (Below.heap_setCell w5 ⟨E, m, none⟩ u b (by show b ≠ E; omega))]; exact h
  rw [World.cell?_of_block (w := w5.setCell ⟨E, m, none⟩ u) (Below.heap_alloc _ _ _ (Lib.lt_of_cell h1))]; exact h1

set_option maxHeartbeats 4000000 in
theorem texts_w (E : Nat) (e : En) (h : Hd) (a : Ah) (w0 w : World) (hE : EntAt w E e) (hI : a.In w0) (h0 : w0.heap.size ≤ E) (hb0 : Below w0.heap.size w0 w) (h1 : h.prefx.size ≤ 140737488355328) (h2 : h.name.size ≤ 140737488355328) :
    Calls Tryz.prog 97 #[.pointer (some ⟨E, 0, none⟩), .agg h.cells, .agg a.cells] w fun ev w' => ev = .returned (.tuple #[]) ∧ EntAt w' E (entK h a e 4) ∧ Below E w w' := by
  have hB := boxed w h a
  have b2 : Hid (Below w.heap.size w ((w.alloc (.cells h.cells 55)).alloc (.cells a.cells 70))) := ((Below.refl _ w).alloc (Nat.le_refl _) _).alloc (by simp) _
  have HZ : Hid (((w.alloc (.cells h.cells 55)).alloc (.cells a.cells 70)).heap.size = w.heap.size + 2) := by show _ = _; simp
  have HB : Hid (Boxed ((w.alloc (.cells h.cells 55)).alloc (.cells a.cells 70)) w.heap.size h a) := hB
  have r0 := hB.rd
  have qf := fun W => full_w h W h1 h2
  have HV : Hid (∀ W T e1 k, Lp w W E T e1 h a → Calls Tryz.prog 114 #[.agg a.cells, .string (ky k)] W fun e w' => e = .returned (.string (a.val (ky k))) ∧ Below W.heap.size W w') := fun W T e1 k p => value_w a (ky k) W (p.isIn hI h0 hb0)
  have HE : Hid (∀ w2 w8, Boxed w2 w.heap.size h a → Below w.heap.size w w2 → w2.heap.size = w.heap.size + 2 → Below w2.drew.heap.size w2.drew w8 → Lp w (w8.alloc (.cells (txtCells E h.full h.link h.user h.group a.name a.link) 183)) E w8.heap.size (entK h a e 0) h a ∧ E ≠ w8.heap.size) := fun w2 w8 p q r s => lp_start hE p q r s
  have HK : Hid (∀ k, entK h a e (k + 1) = setT (entK h a e k) (or3 (a.val (ky k)) (lg a k) (hdr h k)) k) := fun k => rfl
  have HT : Hid (∀ W T e1, Lp w W E T e1 h a → ∀ m, W.cell? ⟨w.heap.size + 1, m, none⟩ = a.cells[m]?) := fun W T e1 p m => p.ac m
  clear hB hE hI h1 h2 hb0 h0
  generalize hEK : entK h a e = EK at *
  have HLP : Hid (∀ W T e1, Lp w W E T e1 h a → ∀ k, k < 4 → W.cell? ⟨T, k * 4, none⟩ = some (.pointer (some ⟨E, tg k, none⟩)) ∧ W.cell? ⟨T, k * 4 + 1, none⟩ = some (.string (ky k)) ∧ W.cell? ⟨T, k * 4 + 2, none⟩ = some (.string (lg a k)) ∧ W.cell? ⟨T, k * 4 + 3, none⟩ = some (.string (hdr h k))) := fun W T e1 p k hk => p.tc k hk
  generalize hLG : lg a = LG at *
  generalize hHD : hdr h = HD at *
  generalize hAV : a.val = AV at *
  have HG : Hid (∀ W W' T e1, Lp w W E T e1 h a → Below W.heap.size W W' → Lp w W' E T e1 h a) := fun W W' T e1 p hb => p.grow hb
  have HP : Hid (∀ W T e1, Lp w W E T e1 h a → E ≠ T → ∀ k v, Lp w (W.setCell ⟨E, tg k, none⟩ (.string v)) E T (setT e1 v k) h a) := fun W T e1 p hT k v => p.put hT k v
  generalize hLP : (fun W T e1 => Lp w W E T e1 h a) = LP
  have HX : Hid (∀ W T e1, LP W T e1 → EntAt W E e1 ∧ Below E w W ∧ E < w.heap.size) := fun W T e1 p => by subst hLP; exact ⟨p.ent, p.bel, p.lt⟩
  replace HV : Hid (∀ W T e1 k, LP W T e1 → Calls Tryz.prog 114 #[.agg a.cells, .string (ky k)] W fun e w' => e = .returned (.string (AV (ky k))) ∧ Below W.heap.size W w') := by subst hLP; exact HV
  replace HE : Hid (∀ w2 w8, Boxed w2 w.heap.size h a → Below w.heap.size w w2 → w2.heap.size = w.heap.size + 2 → Below w2.drew.heap.size w2.drew w8 → LP (w8.alloc (.cells (txtCells E h.full h.link h.user h.group a.name a.link) 183)) w8.heap.size (EK 0) ∧ E ≠ w8.heap.size) := by subst hLP; exact HE
  replace HT : Hid (∀ W T e1, LP W T e1 → ∀ m, W.cell? ⟨w.heap.size + 1, m, none⟩ = a.cells[m]?) := by subst hLP; exact HT
  replace HLP : Hid (∀ W T e1, LP W T e1 → ∀ k, k < 4 → W.cell? ⟨T, k * 4, none⟩ = some (.pointer (some ⟨E, tg k, none⟩)) ∧ W.cell? ⟨T, k * 4 + 1, none⟩ = some (.string (ky k)) ∧ W.cell? ⟨T, k * 4 + 2, none⟩ = some (.string (LG k)) ∧ W.cell? ⟨T, k * 4 + 3, none⟩ = some (.string (HD k))) := by subst hLP; exact HLP
  replace HG : Hid (∀ W W' T e1, LP W T e1 → Below W.heap.size W W' → LP W' T e1) := by subst hLP; exact HG
  replace HP : Hid (∀ W T e1, LP W T e1 → E ≠ T → ∀ k v, LP (W.setCell ⟨E, tg k, none⟩ (.string v)) T (setT e1 v k)) := by subst hLP; exact HP
  clear hLP hEK hLG hHD hAV
  obtain ⟨form, name, link, prefx, user, group, typ, mode, uid, gid, size, mtime⟩ := h
  obtain ⟨gv, lv, gK, gV, gn, lK, lV, ln, aname, alink⟩ := a
  simp only [Hd.cells, Ah.cells, Rd] at b2 HZ HB r0 qf HV HE HT ⊢
  generalize Hd.full _ = F at qf HE
  go_enter Tryz.func97, Tryz.ntmps97
  go_upto_region 1 with fail
  generalize (w.alloc _).alloc _ = w2 at *
  go_region_held3 (fun W => W.cell? ⟨w.heap.size, 0, none⟩ = some (.int .i64 form) ∧ W.cell? ⟨w.heap.size, 1, none⟩ = some (.string name) ∧ W.cell? ⟨w.heap.size, 2, none⟩ = some (.string link) ∧ W.cell? ⟨w.heap.size, 3, none⟩ = some (.string prefx) ∧ W.cell? ⟨w.heap.size, 4, none⟩ = some (.string user) ∧ W.cell? ⟨w.heap.size, 5, none⟩ = some (.string group) ∧ W.cell? ⟨w.heap.size, 6, none⟩ = some (.int .u8 typ) ∧ W.cell? ⟨w.heap.size, 7, none⟩ = some (.int .i64 mode) ∧ W.cell? ⟨w.heap.size, 8, none⟩ = some (.int .i64 uid) ∧ W.cell? ⟨w.heap.size, 9, none⟩ = some (.int .i64 gid) ∧ W.cell? ⟨w.heap.size, 10, none⟩ = some (.int .i64 size) ∧ W.cell? ⟨w.heap.size, 11, none⟩ = some (.int .i64 mtime) ∧ W.cell? ⟨w.heap.size + 1, 2, none⟩ = some (.string aname) ∧ W.cell? ⟨w.heap.size + 1, 3, none⟩ = some (.string alink)) (first | assumption | go_keep) (first | (go_at_call 112; refine (qf _).mono ?_; rintro e w8 ⟨rfl, b8⟩; have hs8 := (HB.out.drewG b8).rd; simp only [Rd] at hs8))
  rename_i hHeld
  clear hHeld hs8
  obtain ⟨lp, hET⟩ := HE.out w2 w8 HB.out b2.out HZ.out b8
  unfold txtCells at lp
  have HLp : Hid _ := lp
  have HNe : Hid _ := hET
  clear lp hET HE b8 HB b2 HZ qf r0
  generalize w8.heap.size = T at *
  generalize w8.alloc _ = w9 at *
  go_wp2_with fail
  go_loopw [40] (fun ti wr => ∃ k : Nat, k ≤ 4 ∧ ti = .int .i64 k ∧ Hid (LP wr T (EK k))) (fun t _ => 4 - (intOf t).toNat)
  case atStart => exact ⟨0, by omega, rfl, HLp⟩
  case round =>
    obtain ⟨k, hk, rfl, hlp⟩ := hrel
    by_cases hlt : k < 4
    · obtain ⟨t0, t1, t2, t3⟩ := HLP.out _ _ _ hlp.out k hlt
      have a0 := HT.out _ _ _ hlp.out 0
      have a1 := HT.out _ _ _ hlp.out 1
      have a2 := HT.out _ _ _ hlp.out 2
      have a3 := HT.out _ _ _ hlp.out 3
      simp only [List.getElem?_toArray, List.getElem?_cons_zero, List.getElem?_cons_succ] at a0 a1 a2 a3
      go_upto_region 5 with fail
      have hlp4 := HG.out _ _ _ _ hlp.out ((Below.refl _ wr).alloc (Nat.le_refl _) (.cells #[.pointer (some ⟨E, tg k, none⟩), .string (ky k), .string (LG k), .string (HD k)] 183))
      have m0 : (wr.alloc (.cells #[.pointer (some ⟨E, tg k, none⟩), .string (ky k), .string (LG k), .string (HD k)] 183)).cell? ⟨wr.heap.size, 0, none⟩ = some (.pointer (some ⟨E, tg k, none⟩)) := by simp
      have m1 : (wr.alloc (.cells #[.pointer (some ⟨E, tg k, none⟩), .string (ky k), .string (LG k), .string (HD k)] 183)).cell? ⟨wr.heap.size, 1, none⟩ = some (.string (ky k)) := by simp
      have m2 : (wr.alloc (.cells #[.pointer (some ⟨E, tg k, none⟩), .string (ky k), .string (LG k), .string (HD k)] 183)).cell? ⟨wr.heap.size, 2, none⟩ = some (.string (LG k)) := by simp
      have m3 : (wr.alloc (.cells #[.pointer (some ⟨E, tg k, none⟩), .string (ky k), .string (LG k), .string (HD k)] 183)).cell? ⟨wr.heap.size, 3, none⟩ = some (.string (HD k)) := by simp
      have hRE : E < wr.heap.size := (HX.out _ _ _ hlp.out).1.lt
      have hwE := (HX.out _ _ _ hlp.out).2.2
      generalize wr.alloc _ = w4 at *
      have e0 := HT.out _ _ _ hlp4 0
      have e1 := HT.out _ _ _ hlp4 1
      have e2 := HT.out _ _ _ hlp4 2
      have e3 := HT.out _ _ _ hlp4 3
      simp only [List.getElem?_toArray, List.getElem?_cons_zero, List.getElem?_cons_succ] at e0 e1 e2 e3
      have hs4 := And.intro m0 (And.intro m1 (And.intro m2 (And.intro m3 (And.intro e0 (And.intro e1 (And.intro e2 e3))))))
      have HL4 : Hid (LP w4.drew T (EK k)) := HG.out _ _ _ _ hlp4 (Below.refl _ _).drew
      have HM : Hid (∀ W, Below w4.drew.heap.size w4.drew W → W.cell? ⟨wr.heap.size, 0, none⟩ = some (.pointer (some ⟨E, tg k, none⟩)) ∧ W.cell? ⟨wr.heap.size, 1, none⟩ = some (.string (ky k)) ∧ W.cell? ⟨wr.heap.size, 2, none⟩ = some (.string (LG k)) ∧ W.cell? ⟨wr.heap.size, 3, none⟩ = some (.string (HD k)) ∧ W.cell? ⟨w.heap.size + 1, 0, none⟩ = some gv ∧ W.cell? ⟨w.heap.size + 1, 1, none⟩ = some lv ∧ W.cell? ⟨w.heap.size + 1, 2, none⟩ = some (.string aname) ∧ W.cell? ⟨w.heap.size + 1, 3, none⟩ = some (.string alink)) := fun W hb => ⟨cell_grow (w := w4.drew) m0 hb, cell_grow (w := w4.drew) m1 hb, cell_grow (w := w4.drew) m2 hb, cell_grow (w := w4.drew) m3 hb, cell_grow (w := w4.drew) e0 hb, cell_grow (w := w4.drew) e1 hb, cell_grow (w := w4.drew) e2 hb, cell_grow (w := w4.drew) e3 hb⟩
      clear hlp4 m0 m1 m2 m3 e0 e1 e2 e3 a0 a1 a2 a3 t0 t1 t2 t3
      go_region_held3 (fun W => W.cell? ⟨wr.heap.size, 0, none⟩ = some (.pointer (some ⟨E, tg k, none⟩)) ∧ W.cell? ⟨wr.heap.size, 1, none⟩ = some (.string (ky k)) ∧ W.cell? ⟨wr.heap.size, 2, none⟩ = some (.string (LG k)) ∧ W.cell? ⟨wr.heap.size, 3, none⟩ = some (.string (HD k)) ∧ W.cell? ⟨w.heap.size + 1, 0, none⟩ = some gv ∧ W.cell? ⟨w.heap.size + 1, 1, none⟩ = some lv ∧ W.cell? ⟨w.heap.size + 1, 2, none⟩ = some (.string aname) ∧ W.cell? ⟨w.heap.size + 1, 3, none⟩ = some (.string alink)) (first | assumption | exact ⟨kept2 hs5.1 hRE, kept2 hs5.2.1 hRE, kept2 hs5.2.2.1 hRE, kept2 hs5.2.2.2.1 hRE, kept2 hs5.2.2.2.2.1 (by omega), kept2 hs5.2.2.2.2.2.1 (by omega), kept2 hs5.2.2.2.2.2.2.1 (by omega), kept2 hs5.2.2.2.2.2.2.2 (by omega)⟩ | go_keep) (first | (go_at_call 114; refine (HV.out _ T (EK k) k HL4.out).mono ?_; rintro e w5 ⟨rfl, b5⟩; have hs5 := HM.out w5 b5; have HL5 : Hid (LP w5 T (EK k)) := HG.out _ _ _ _ HL4.out b5; obtain ⟨x, cE⟩ := (HX.out _ _ _ HL5.out).1.str k; have fE := (HX.out _ _ _ HL5.out).1.frozen (tg k); have lE := (HX.out _ _ _ HL5.out).1.lt; have q7 := or_w w5.heap.size 3 (AV (ky k)) (LG k) (HD k) (w5.alloc (.cells #[.string (AV (ky k)), .string (LG k), .string (HD k)] 9)) (by simp) (by simp) (by simp)) | (go_at_call 113; refine q7.mono ?_; rintro e w6 ⟨rfl, hw6⟩; subst hw6))
      rename_i hHeld
      clear hHeld hs5 hs4 q7 cE fE lE HM
      have HF : Hid (LP ((w5.setCell ⟨E, tg k, none⟩ (.string (or3 (AV (ky k)) (LG k) (HD k)))).alloc (.cells #[.string (AV (ky k)), .string (LG k), .string (HD k)] 9)) T (EK (k + 1))) := by
        rw [HK.out k]
        exact HG.out _ _ _ _ (HP.out _ _ _ HL5.out HNe.out k _) ((Below.refl _ _).alloc (Nat.le_refl _) _)
      clear HL5 HL4
      generalize World.alloc _ _ = w7 at *
      go_wp2
      go_roundw
      case rel => exact ⟨k + 1, by omega, by simp, HF⟩
      case measure => simp [intOf]; omega
    · obtain rfl : k = 4 := by omega
      go_wp2
      go_end0
      obtain ⟨x1, x2, x3⟩ := HX.out _ _ _ hlp.out
      exact ⟨rfl, x1, x2⟩

end Go.Proofs.YtnmmaedngdibeaaGreatDoor.E
