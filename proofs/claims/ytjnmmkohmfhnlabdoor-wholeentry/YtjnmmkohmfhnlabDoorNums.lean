/-
  Contract: fillNumbers.
-/
import Derived.Test.YtjnmmkohmfhnlabDoorTxt2
import Derived.Test.YtjnmmkohmfhnlabDoorNum
namespace Go.Proofs.YtjnmmkohmfhnlabDoor
open Go.RowKit
set_option linter.unusedVariables false
set_option linter.unusedSimpArgs false

def kSize : ByteArray := ⟨#[115, 105, 122, 101]⟩
def kUid : ByteArray := ⟨#[117, 105, 100]⟩
def kGid : ByteArray := ⟨#[103, 105, 100]⟩
def kMtime : ByteArray := ⟨#[109, 116, 105, 109, 101]⟩
def tgN : Nat → Nat | 0 => 7 | 1 => 4 | 2 => 5 | _ => 6
def kyN : Nat → ByteArray | 0 => kSize | 1 => kUid | 2 => kGid | _ => kMtime
def hdN (h : Hd) : Nat → Int | 0 => h.size | 1 => h.uid | 2 => h.gid | _ => h.mtime
def setN (e : En) (v : Int) : Nat → En | 0 => { e with size := v } | 1 => { e with uid := v } | 2 => { e with gid := v } | _ => { e with mtime := v }
/-- the number of a field, if it is one -/
def numV (h : Hd) (a : Ah) (k : Nat) : Option Int := if emp (a.val (kyN k)) then some (hdN h k) else nval (a.val (kyN k))
def entN (h : Hd) (a : Ah) (e : En) : Nat → En
  | 0 => e
  | k + 1 => setN (entN h a e k) ((numV h a k).getD 0) k

theorem EntAt.int {w : World} {E : Nat} {e : En} (h : EntAt w E e) (k : Nat) : ∃ x, w.cell? ⟨E, tgN k, none⟩ = some (.int .i64 x) := by
  match k with
  | 0 => exact ⟨_, h.c 7⟩
  | 1 => exact ⟨_, h.c 4⟩
  | 2 => exact ⟨_, h.c 5⟩
  | k + 3 => exact ⟨_, h.c 6⟩
theorem EntAt.setI {w : World} {E : Nat} {e : En} (h : EntAt w E e) (k : Nat) (v : Int) : EntAt (w.setCell ⟨E, tgN k, none⟩ (.int .i64 v)) E (setN e v k) := by
  match k with
  | 0 => exact h.set 7 _ rfl
  | 1 => exact h.set 4 _ rfl
  | 2 => exact h.set 5 _ rfl
  | k + 3 => exact h.set 6 _ rfl
theorem setN_setN (e : En) (v u : Int) (k : Nat) : setN (setN e v k) u k = setN e u k := by
  match k with
  | 0 => rfl
  | 1 => rfl
  | 2 => rfl
  | k + 3 => rfl

def numCells (E : Nat) (s u g m : Int) : Array Value := #[.pointer (some ⟨E, 7, none⟩), .string ⟨#[115, 105, 122, 101]⟩, .int .i64 s, .pointer (some ⟨E, 4, none⟩), .string ⟨#[117, 105, 100]⟩, .int .i64 u, .pointer (some ⟨E, 5, none⟩), .string ⟨#[103, 105, 100]⟩, .int .i64 g, .pointer (some ⟨E, 6, none⟩), .string ⟨#[109, 116, 105, 109, 101]⟩, .int .i64 m]

/-- The state of the loop over the numbers. -/
structure Ln (w W : World) (E T : Nat) (e : En) (h : Hd) (a : Ah) : Prop where
  bel : Below E w W
  ent : EntAt W E e
  box : W.heap[w.heap.size + 1]? = some (.cells a.cells 31 (0, 0))
  txt : W.heap[T]? = some (.cells (numCells E h.size h.uid h.gid h.mtime) 52 (0, 0))
  lt : E < w.heap.size

theorem Ln.tc {w W : World} {E T : Nat} {e : En} {h : Hd} {a : Ah} (p : Ln w W E T e h a) (k : Nat) (hk : k < 4) :
    W.cell? ⟨T, k * 3, none⟩ = some (.pointer (some ⟨E, tgN k, none⟩)) ∧ W.cell? ⟨T, k * 3 + 1, none⟩ = some (.string (kyN k)) ∧ W.cell? ⟨T, k * 3 + 2, none⟩ = some (.int .i64 (hdN h k)) := by
  have ht := p.txt
  have key : ∀ j, W.cell? ⟨T, j, none⟩ = (numCells E h.size h.uid h.gid h.mtime)[j]? := fun j => by simp [World.cell?, ht]
  rw [key, key, key]
  match k, hk with
  | 0, _ => exact ⟨rfl, rfl, rfl⟩
  | 1, _ => exact ⟨rfl, rfl, rfl⟩
  | 2, _ => exact ⟨rfl, rfl, rfl⟩
  | 3, _ => exact ⟨rfl, rfl, rfl⟩

theorem Ln.ac {w W : World} {E T : Nat} {e : En} {h : Hd} {a : Ah} (p : Ln w W E T e h a) (m : Nat) : W.cell? ⟨w.heap.size + 1, m, none⟩ = a.cells[m]? := by simp [World.cell?, p.box]

theorem Ln.grow {w W W' : World} {E T : Nat} {e : En} {h : Hd} {a : Ah} (p : Ln w W E T e h a) (hb : Below W.heap.size W W') : Ln w W' E T e h a :=
  ⟨p.bel.trans (hb.mono (Nat.le_of_lt p.ent.lt)), p.ent.grow hb, (hb.block _ (Array.getElem?_eq_some_iff.1 p.box).1).trans p.box, (hb.block _ (Array.getElem?_eq_some_iff.1 p.txt).1).trans p.txt, p.lt⟩

theorem Ln.put {w W : World} {E T : Nat} {e : En} {h : Hd} {a : Ah} (p : Ln w W E T e h a) (hT : E ≠ T) (k : Nat) (v : Int) : Ln w (W.setCell ⟨E, tgN k, none⟩ (.int .i64 v)) E T (setN e v k) h a :=
  ⟨below_set p.bel, p.ent.setI k v, by rw [Below.heap_setCell _ _ _ _ (by have := p.lt; show w.heap.size + 1 ≠ E; omega)]; exact p.box, by rw [Below.heap_setCell _ _ _ _ (fun h => hT h.symm)]; exact p.txt, p.lt⟩

theorem alloc_cell (w : World) (cs : Array Value) (t : TypeId) (j : Nat) (v : Value) (h : cs[j]? = some v) : (w.alloc (.cells cs t)).cell? ⟨w.heap.size, j, none⟩ = some v := by
  have h1 := heap_alloc_new w (.cells cs t)
  simp only [World.cell?, h1]
  exact h

theorem kept1 {w5 : World} {E m b o : Nat} {v u : Value} (h : w5.cell? ⟨b, o, none⟩ = some v) (hne : E < b) : (w5.setCell ⟨E, m, none⟩ u).cell? ⟨b, o, none⟩ = some v := by
  rw [World.cell?_of_block (w := w5) (Below.heap_setCell w5 ⟨E, m, none⟩ u b (by show b ≠ E; omega))]; exact h

theorem ln_start {w w2 : World} {E : Nat} {e : En} {h : Hd} {a : Ah} (hE : EntAt w E e) (HB : Boxed w2 w.heap.size h a) (b2 : Below w.heap.size w w2) (z2 : w2.heap.size = w.heap.size + 2) :
    Ln w ((w2.alloc (.cells (numCells E h.size h.uid h.gid h.mtime) 52)).drew) E w2.heap.size e h a ∧ E ≠ w2.heap.size := by
  have l := hE.lt
  have b3 := (b2.mono (Nat.le_of_lt l)).alloc (by omega) (.cells (numCells E h.size h.uid h.gid h.mtime) 52)
  have h3 : EntAt (w2.alloc (.cells (numCells E h.size h.uid h.gid h.mtime) 52)) E e := (hE.grow b2).grow ((Below.refl _ _).alloc (Nat.le_refl _) _)
  refine ⟨⟨b3.drew, h3, ?_, heap_alloc_new w2 _, l⟩, by omega⟩
  show (w2.alloc _).heap[_]? = _
  rw [Below.heap_alloc _ _ _ (by omega)]; exact HB.y

set_option maxHeartbeats 4000000 in
theorem numbers_w (E : Nat) (e : En) (h : Hd) (a : Ah) (w0 w : World) (hE : EntAt w E e) (hI : a.In w0) (hVs : Vs w0) (h0 : w0.heap.size ≤ E) (hb0 : Below w0.heap.size w0 w) (hsz : ∀ k, (a.val k).size ≤ 281474976710656) :
    Calls Tryd.prog 9 #[.pointer (some ⟨E, 0, none⟩), .agg h.cells, .agg a.cells] w fun ev w' => Below E w w' ∧ ((ev = .returned (.int .i64 0) ∧ (∀ k, k < 4 → numV h a k ≠ none) ∧ EntAt w' E (entN h a e 4)) ∨ (ev = .returned (.int .i64 70) ∧ ∃ k, k < 4 ∧ numV h a k = none)) := by
  have hB := boxed w h a
  have b2 : Hid (Below w.heap.size w ((w.alloc (.cells h.cells 25)).alloc (.cells a.cells 31))) := ((Below.refl _ w).alloc (Nat.le_refl _) _).alloc (by simp) _
  have HZ : Hid (((w.alloc (.cells h.cells 25)).alloc (.cells a.cells 31)).heap.size = w.heap.size + 2) := by show _ = _; simp
  have HB : Hid (Boxed ((w.alloc (.cells h.cells 25)).alloc (.cells a.cells 31)) w.heap.size h a) := hB
  have r0 := hB.rd
  have HV : Hid (∀ W T e1 k, Ln w W E T e1 h a → Calls Tryd.prog 13 #[.agg a.cells, .string (kyN k)] W fun e w' => e = .returned (.string (a.val (kyN k))) ∧ Below W.heap.size W w') := fun W T e1 k p => value_w a (kyN k) W (hI.below (hb0.trans (p.bel.mono h0)))
  have HN : Hid (∀ W T e1 k, Ln w W E T e1 h a → Calls Tryd.prog 14 #[.string (a.val (kyN k))] W fun e w' => e = .returned (match nval (a.val (kyN k)) with | some v => .tuple #[.int .i64 v, .int .i64 0] | none => .tuple #[.int .i64 0, .int .i64 70]) ∧ Below W.heap.size W w') := fun W T e1 k p => number_w (a.val (kyN k)) (hsz _) W (hVs.below (hb0.trans (p.bel.mono h0)))
  have HE : Hid (∀ w2, Boxed w2 w.heap.size h a → Below w.heap.size w w2 → w2.heap.size = w.heap.size + 2 → Ln w ((w2.alloc (.cells (numCells E h.size h.uid h.gid h.mtime) 52)).drew) E w2.heap.size (entN h a e 0) h a ∧ E ≠ w2.heap.size) := fun w2 p q r => ln_start hE p q r
  have HK : Hid (∀ k, entN h a e (k + 1) = setN (entN h a e k) ((numV h a k).getD 0) k) := fun k => rfl
  have HQ : Hid (∀ k, numV h a k = if emp (a.val (kyN k)) then some (hdN h k) else nval (a.val (kyN k))) := fun k => rfl
  have HT : Hid (∀ W T e1, Ln w W E T e1 h a → ∀ m, W.cell? ⟨w.heap.size + 1, m, none⟩ = a.cells[m]?) := fun W T e1 p m => p.ac m
  have HLP : Hid (∀ W T e1, Ln w W E T e1 h a → ∀ k, k < 4 → W.cell? ⟨T, k * 3, none⟩ = some (.pointer (some ⟨E, tgN k, none⟩)) ∧ W.cell? ⟨T, k * 3 + 1, none⟩ = some (.string (kyN k)) ∧ W.cell? ⟨T, k * 3 + 2, none⟩ = some (.int .i64 (hdN h k))) := fun W T e1 p k hk => p.tc k hk
  have HG : Hid (∀ W W' T e1, Ln w W E T e1 h a → Below W.heap.size W W' → Ln w W' E T e1 h a) := fun W W' T e1 p hb => p.grow hb
  have HP : Hid (∀ W T e1, Ln w W E T e1 h a → E ≠ T → ∀ k v, Ln w (W.setCell ⟨E, tgN k, none⟩ (.int .i64 v)) E T (setN e1 v k) h a) := fun W T e1 p hT k v => p.put hT k v
  clear hB hE hI hsz hVs hb0 h0
  generalize hEK : entN h a e = EK at *
  generalize hNV : numV h a = NV at *
  generalize hHD : hdN h = HD at *
  generalize hAV : a.val = AV at *
  generalize hLP : (fun W T e1 => Ln w W E T e1 h a) = LP
  have HX : Hid (∀ W T e1, LP W T e1 → EntAt W E e1 ∧ Below E w W ∧ E < w.heap.size) := fun W T e1 p => by subst hLP; exact ⟨p.ent, p.bel, p.lt⟩
  replace HV : Hid (∀ W T e1 k, LP W T e1 → Calls Tryd.prog 13 #[.agg a.cells, .string (kyN k)] W fun e w' => e = .returned (.string (AV (kyN k))) ∧ Below W.heap.size W w') := by subst hLP; exact HV
  replace HN : Hid (∀ W T e1 k, LP W T e1 → Calls Tryd.prog 14 #[.string (AV (kyN k))] W fun e w' => e = .returned (match nval (AV (kyN k)) with | some v => .tuple #[.int .i64 v, .int .i64 0] | none => .tuple #[.int .i64 0, .int .i64 70]) ∧ Below W.heap.size W w') := by subst hLP; exact HN
  replace HE : Hid (∀ w2, Boxed w2 w.heap.size h a → Below w.heap.size w w2 → w2.heap.size = w.heap.size + 2 → LP ((w2.alloc (.cells (numCells E h.size h.uid h.gid h.mtime) 52)).drew) w2.heap.size (EK 0) ∧ E ≠ w2.heap.size) := by subst hLP; exact HE
  replace HT : Hid (∀ W T e1, LP W T e1 → ∀ m, W.cell? ⟨w.heap.size + 1, m, none⟩ = a.cells[m]?) := by subst hLP; exact HT
  replace HLP : Hid (∀ W T e1, LP W T e1 → ∀ k, k < 4 → W.cell? ⟨T, k * 3, none⟩ = some (.pointer (some ⟨E, tgN k, none⟩)) ∧ W.cell? ⟨T, k * 3 + 1, none⟩ = some (.string (kyN k)) ∧ W.cell? ⟨T, k * 3 + 2, none⟩ = some (.int .i64 (HD k))) := by subst hLP; exact HLP
  replace HG : Hid (∀ W W' T e1, LP W T e1 → Below W.heap.size W W' → LP W' T e1) := by subst hLP; exact HG
  replace HP : Hid (∀ W T e1, LP W T e1 → E ≠ T → ∀ k v, LP (W.setCell ⟨E, tgN k, none⟩ (.int .i64 v)) T (setN e1 v k)) := by subst hLP; exact HP
  clear hLP hEK hHD hAV hNV
  obtain ⟨form, name, link, prefx, user, group, typ, mode, uid, gid, size, mtime⟩ := h
  obtain ⟨gv, lv, gK, gV, gn, lK, lV, ln, aname, alink⟩ := a
  simp only [Hd.cells, Ah.cells, Rd] at b2 HZ HB r0 HV HE HT ⊢
  obtain ⟨-, -, -, -, -, -, -, -, r8, r9, r10, r11, -, -⟩ := r0
  go_enter Tryd.func9, Tryd.ntmps9
  go_upto_region 1 with fail
  generalize (w.alloc _).alloc _ = w2 at *
  have hs2 := And.intro r8 (And.intro r9 (And.intro r10 r11))
  go_region_held3 (fun W => W.cell? ⟨w.heap.size, 8, none⟩ = some (.int .i64 uid) ∧ W.cell? ⟨w.heap.size, 9, none⟩ = some (.int .i64 gid) ∧ W.cell? ⟨w.heap.size, 10, none⟩ = some (.int .i64 size) ∧ W.cell? ⟨w.heap.size, 11, none⟩ = some (.int .i64 mtime)) (first | assumption | go_keep) (fail)
  try (rename_i hHeld; clear hHeld)
  obtain ⟨lp, hET⟩ := HE.out w2 HB.out b2.out HZ.out
  unfold numCells at lp
  have HLp : Hid _ := lp
  have HNe : Hid _ := hET
  clear lp hET HE HB b2 HZ r8 r9 r10 r11 hs2
  generalize w2.heap.size = T at *
  generalize World.drew _ = w9 at *
  go_wp2_with fail
  go_loopw [39] (fun ti wr => ∃ k : Nat, k ≤ 4 ∧ ti = .int .i64 k ∧ Hid (LP wr T (EK k)) ∧ Hid (∀ j, j < k → NV j ≠ none)) (fun t _ => 4 - (intOf t).toNat)
  case atStart => exact ⟨0, by omega, rfl, HLp, fun j hj => absurd hj (Nat.not_lt_zero _)⟩
  case round =>
    obtain ⟨k, hk, rfl, hlp, hnv⟩ := hrel
    by_cases hlt : k < 4
    · obtain ⟨t0, t1, t2⟩ := HLP.out _ _ _ hlp.out k hlt
      have a0 := HT.out _ _ _ hlp.out 0
      have a1 := HT.out _ _ _ hlp.out 1
      have a2 := HT.out _ _ _ hlp.out 2
      have a3 := HT.out _ _ _ hlp.out 3
      simp only [List.getElem?_toArray, List.getElem?_cons_zero, List.getElem?_cons_succ] at a0 a1 a2 a3
      obtain ⟨x, cE⟩ := (HX.out _ _ _ hlp.out).1.int k
      have fE := (HX.out _ _ _ hlp.out).1.frozen (tgN k)
      have lE := (HX.out _ _ _ hlp.out).1.lt
      have hwE := (HX.out _ _ _ hlp.out).2.2
      go_upto_region 6 with fail
      have hlp5 : Hid (LP ((wr.setCell ⟨E, tgN k, none⟩ (.int .i64 (HD k))).alloc (.cells #[.pointer (some ⟨E, tgN k, none⟩), .string (kyN k), .int .i64 (HD k)] 52)) T (setN (EK k) (HD k) k)) := HG.out _ _ _ _ (HP.out _ _ _ hlp.out HNe.out k (HD k)) ((Below.refl _ _).alloc (Nat.le_refl _) _)
      have z5 : (wr.setCell ⟨E, tgN k, none⟩ (.int .i64 (HD k))).heap.size = wr.heap.size := by simp
      have m0 : ((wr.setCell ⟨E, tgN k, none⟩ (.int .i64 (HD k))).alloc (.cells #[.pointer (some ⟨E, tgN k, none⟩), .string (kyN k), .int .i64 (HD k)] 52)).cell? ⟨wr.heap.size, 0, none⟩ = some (.pointer (some ⟨E, tgN k, none⟩)) := by rw [← z5]; exact alloc_cell _ _ _ _ _ rfl
      have m1 : ((wr.setCell ⟨E, tgN k, none⟩ (.int .i64 (HD k))).alloc (.cells #[.pointer (some ⟨E, tgN k, none⟩), .string (kyN k), .int .i64 (HD k)] 52)).cell? ⟨wr.heap.size, 1, none⟩ = some (.string (kyN k)) := by rw [← z5]; exact alloc_cell _ _ _ _ _ rfl
      generalize World.alloc _ (.cells #[.pointer (some ⟨E, tgN k, none⟩), .string (kyN k), .int .i64 (HD k)] 52) = w5 at *
      have e0 := HT.out _ _ _ hlp5.out 0
      have e1 := HT.out _ _ _ hlp5.out 1
      have e2 := HT.out _ _ _ hlp5.out 2
      have e3 := HT.out _ _ _ hlp5.out 3
      simp only [List.getElem?_toArray, List.getElem?_cons_zero, List.getElem?_cons_succ] at e0 e1 e2 e3
      have q := HV.out _ _ _ k hlp5.out
      have hEK := HK.out k
      have hNVk := HQ.out k
      have HEK : Hid (EK (k + 1) = setN (EK k) ((NV k).getD 0) k) := hEK
      have HNVk : Hid (NV k = if emp (AV (kyN k)) = true then some (HD k) else nval (AV (kyN k))) := hNVk
      clear a0 a1 a2 a3 t0 t1 t2 cE fE hEK hNVk z5
      cases hem : emp (AV (kyN k)) with
      | true =>
        have hx := emp_true hem
        rw [hx] at q
        have hN1 : NV k = some (HD k) := by have := HNVk.out; rw [hem] at this; simpa using this
        have HN1 : Hid (NV k = some (HD k)) := hN1
        have HEm : Hid _ := hem
        clear hx hN1 hem
        go_wp2_with (go_at_call 13; refine q.mono ?_; rintro e w6 ⟨rfl, b6⟩)
        go_roundw
        case rel => exact ⟨k + 1, by omega, by simp, by rw [HEK.out, HN1.out]; exact HG.out _ _ _ _ hlp5.out b6, fun j hj => by
          by_cases ej : j = k
          · subst ej; rw [HN1.out]; simp
          · exact hnv.out j (by omega)⟩
        case measure => simp [intOf]; omega
      | false =>
        have hN1 : NV k = nval (AV (kyN k)) := by have := HNVk.out; rw [hem] at this; simpa using this
        have q2 := fun W p => HN.out W T (setN (EK k) (HD k) k) k p
        rw [← hN1] at q2
        generalize hsv : AV (kyN k) = s at *
        unfold emp at hem
        cases hnk : NV k with
        | none =>
          rw [hnk] at q2
          simp only at q2
          have HQ2 : Hid (∀ W, LP W T (setN (EK k) (HD k) k) → Calls Tryd.prog 14 #[.string s] W fun e w' => e = .returned (.tuple #[.int .i64 0, .int .i64 70]) ∧ Below W.heap.size W w') := q2
          have HNK : Hid (NV k = none) := hnk
          clear q2 hN1 hnk hsv HNVk
          go_upto_region 9 with (go_at_call 13; refine q.mono ?_; rintro e w6 ⟨rfl, b6⟩; have m6 := cell_grow m0 b6; have HL6 : Hid (LP w6.drew T (setN (EK k) (HD k) k)) := HG.out _ _ _ _ (HG.out _ _ _ _ hlp5.out b6) (Below.refl _ _).drew; have HM6 : Hid (∀ W, Below w6.drew.heap.size w6.drew W → W.cell? ⟨wr.heap.size, 0, none⟩ = some (.pointer (some ⟨E, tgN k, none⟩))) := fun W hb => cell_grow (w := w6.drew) m6 hb)
          clear m0 m1 e0 e1 e2 e3 q
          go_region_held3 (fun W => W.cell? ⟨wr.heap.size, 0, none⟩ = some (.pointer (some ⟨E, tgN k, none⟩))) (first | assumption | exact kept1 (by assumption) lE | go_keep) (first | (go_at_call 14; refine (HQ2.out _ HL6.out).mono ?_; rintro e w7 ⟨rfl, b7⟩; have m7 := HM6.out w7 b7; have HL7 : Hid (LP w7 T (setN (EK k) (HD k) k)) := HG.out _ _ _ _ HL6.out b7; obtain ⟨x7, cE⟩ := (HX.out _ _ _ HL7.out).1.int k; have fE := (HX.out _ _ _ HL7.out).1.frozen (tgN k); have lE7 := (HX.out _ _ _ HL7.out).1.lt))
          have HF : Hid (Below E w (w7.setCell ⟨E, tgN k, none⟩ (.int .i64 0))) := below_set (HX.out _ _ _ HL7.out).2.1
          clear cE fE lE7 HL7 m7 b7
          generalize World.setCell _ _ _ = w8 at *
          go_wp2
          go_ret
          exact ⟨HF.out, .inr ⟨rfl, k, hlt, HNK.out⟩⟩
        | some v =>
          rw [hnk] at q2
          simp only at q2
          have HQ2 : Hid (∀ W, LP W T (setN (EK k) (HD k) k) → Calls Tryd.prog 14 #[.string s] W fun e w' => e = .returned (.tuple #[.int .i64 v, .int .i64 0]) ∧ Below W.heap.size W w') := q2
          have HNK : Hid (NV k = some v) := hnk
          clear q2 hN1 hnk hsv HNVk
          go_upto_region 9 with (go_at_call 13; refine q.mono ?_; rintro e w6 ⟨rfl, b6⟩; have m6 := cell_grow m0 b6; have HL6 : Hid (LP w6.drew T (setN (EK k) (HD k) k)) := HG.out _ _ _ _ (HG.out _ _ _ _ hlp5.out b6) (Below.refl _ _).drew; have HM6 : Hid (∀ W, Below w6.drew.heap.size w6.drew W → W.cell? ⟨wr.heap.size, 0, none⟩ = some (.pointer (some ⟨E, tgN k, none⟩))) := fun W hb => cell_grow (w := w6.drew) m6 hb)
          clear m0 m1 e0 e1 e2 e3 q
          go_region_held3 (fun W => W.cell? ⟨wr.heap.size, 0, none⟩ = some (.pointer (some ⟨E, tgN k, none⟩))) (first | assumption | exact kept1 (by assumption) lE | go_keep) (first | (go_at_call 14; refine (HQ2.out _ HL6.out).mono ?_; rintro e w7 ⟨rfl, b7⟩; have m7 := HM6.out w7 b7; have HL7 : Hid (LP w7 T (setN (EK k) (HD k) k)) := HG.out _ _ _ _ HL6.out b7; obtain ⟨x7, cE⟩ := (HX.out _ _ _ HL7.out).1.int k; have fE := (HX.out _ _ _ HL7.out).1.frozen (tgN k); have lE7 := (HX.out _ _ _ HL7.out).1.lt))
          have HF : Hid (LP (w7.setCell ⟨E, tgN k, none⟩ (.int .i64 v)) T (EK (k + 1))) := by
            rw [HEK.out, HNK.out, ← setN_setN (EK k) (HD k)]
            exact HP.out _ _ _ HL7.out HNe.out k v
          clear cE fE lE7 HL7 m7 b7
          generalize World.setCell _ _ _ = w8 at *
          go_wp2
          go_roundw
          case rel => exact ⟨k + 1, by omega, by simp, HF, fun j hj => by
            by_cases ej : j = k
            · subst ej; rw [HNK.out]; simp
            · exact hnv.out j (by omega)⟩
          case measure => simp [intOf]; omega
    · obtain rfl : k = 4 := by omega
      go_wp2
      go_ret
      obtain ⟨x1, x2, x3⟩ := HX.out _ _ _ hlp.out
      exact ⟨x2, .inl ⟨rfl, hnv.out, x1⟩⟩

end Go.Proofs.YtjnmmkohmfhnlabDoor
