/-
  Texts in one: ENums, EMk, EMh.
-/
import Derived.Test.YtnmmaedngdibeaaGreatDoorETxt2
import Derived.Test.YtnmmaedngdibeaaGreatDoorENum
namespace Go.Proofs.YtnmmaedngdibeaaGreatDoor.E
open Go.RowKit
set_option linter.unusedVariables false
set_option linter.unusedSimpArgs false

def kSize : ByteArray := ⟨#[115, 105, 122, 101]⟩
def kUid : ByteArray := ⟨#[117, 105, 100]⟩
def kGid : ByteArray := ⟨#[103, 105, 100]⟩
def kMtime : ByteArray := ⟨#[109, 116, 105, 109, 101]⟩
def tgN : Nat → Nat | 0 => 7 | 1 => 4 | 2 => 5 | _ => 6
def kyN : Nat → ByteArray | 0 => kSize | 1 => kUid | 2 => kGid | _ => kMtime
def hdN (h : Hd) : Nat → Int | 0 => h.size | 1 => h.uid | 2 => h.gid | _ => h.mtime
def setN (e : En) (v : Int) : Nat → En | 0 => { e with size := v } | 1 => { e with uid := v } | 2 => { e with gid := v } | _ => { e with mtime := v }
/-- the number of a field, if it is one -/
def numV (h : Hd) (a : Ah) (k : Nat) : Option Int := if emp (a.val (kyN k)) then some (hdN h k) else nval (a.val (kyN k))
def entN (h : Hd) (a : Ah) (e : En) : Nat → En
  | 0 => e
  | k + 1 => setN (entN h a e k) ((numV h a k).getD 0) k

theorem EntAt.int {w : World} {E : Nat} {e : En} (h : EntAt w E e) (k : Nat) : ∃ x, w.cell? ⟨E, tgN k, none⟩ = some (.int .i64 x) := by
  match k with
  | 0 => exact ⟨_, h.c 7⟩
  | 1 => exact ⟨_, h.c 4⟩
  | 2 => exact ⟨_, h.c 5⟩
  | k + 3 => exact ⟨_, h.c 6⟩
theorem EntAt.setI {w : World} {E : Nat} {e : En} (h : EntAt w E e) (k : Nat) (v : Int) : EntAt (w.setCell ⟨E, tgN k, none⟩ (.int .i64 v)) E (setN e v k) := by
  match k with
  | 0 => exact h.set 7 _ rfl
  | 1 => exact h.set 4 _ rfl
  | 2 => exact h.set 5 _ rfl
  | k + 3 => exact h.set 6 _ rfl
theorem setN_setN (e : En) (v u : Int) (k : Nat) : setN (setN e v k) u k = setN e u k := by
  match k with
  | 0 => rfl
  | 1 => rfl
  | 2 => rfl
  | k + 3 => rfl

def numCells (E : Nat) (s u g m : Int) : Array Value := #[.pointer (some ⟨E, 7, none⟩), .string ⟨#[115, 105, 122, 101]⟩, .int .i64 s, .pointer (some ⟨E, 4, none⟩), .string ⟨#[117, 105, 100]⟩, .int .i64 u, .pointer (some ⟨E, 5, none⟩), .string ⟨#[103, 105, 100]⟩, .int .i64 g, .pointer (some ⟨E, 6, none⟩), .string ⟨#[109, 116, 105, 109, 101]⟩, .int .i64 m]

/-- The state of the loop over the numbers. -/
structure Ln (w W : World) (E T : Nat) (e : En) (h : Hd) (a : Ah) : Prop where
  bel : Below E w W
  ent : EntAt W E e
  box : W.heap[w.heap.size + 1]? = some (.cells a.cells 70 (0, 0))
  txt : W.heap[T]? = some (.cells (numCells E h.size h.uid h.gid h.mtime) 188 (0, 0))
  lt : E < w.heap.size

theorem Ln.tc {w W : World} {E T : Nat} {e : En} {h : Hd} {a : Ah} (p : Ln w W E T e h a) (k : Nat) (hk : k < 4) :
    W.cell? ⟨T, k * 3, none⟩ = some (.pointer (some ⟨E, tgN k, none⟩)) ∧ W.cell? ⟨T, k * 3 + 1, none⟩ = some (.string (kyN k)) ∧ W.cell? ⟨T, k * 3 + 2, none⟩ = some (.int .i64 (hdN h k)) := by
  have ht := p.txt
  have key : ∀ j, W.cell? ⟨T, j, none⟩ = (numCells E h.size h.uid h.gid h.mtime)[j]? := fun j => by simp [World.cell?, ht]
  rw [key, key, key]
  match k, hk with
  | 0, _ => exact ⟨rfl, rfl, rfl⟩
  | 1, _ => exact ⟨rfl, rfl, rfl⟩
  | 2, _ => exact ⟨rfl, rfl, rfl⟩
  | 3, _ => exact ⟨rfl, rfl, rfl⟩

theorem Ln.ac {w W : World} {E T : Nat} {e : En} {h : Hd} {a : Ah} (p : Ln w W E T e h a) (m : Nat) : W.cell? ⟨w.heap.size + 1, m, none⟩ = a.cells[m]? := by simp [World.cell?, p.box]

theorem Ln.grow {w W W' : World} {E T : Nat} {e : En} {h : Hd} {a : Ah} (p : Ln w W E T e h a) (hb : Below W.heap.size W W') : Ln w W' E T e h a :=
  ⟨p.bel.trans (hb.mono (Nat.le_of_lt p.ent.lt)), p.ent.grow hb, (hb.block _ (Array.getElem?_eq_some_iff.1 p.box).1).trans p.box, (hb.block _ (Array.getElem?_eq_some_iff.1 p.txt).1).trans p.txt, p.lt⟩

theorem Ln.put {w W : World} {E T : Nat} {e : En} {h : Hd} {a : Ah} (p : Ln w W E T e h a) (hT : E ≠ T) (k : Nat) (v : Int) : Ln w (W.setCell ⟨E, tgN k, none⟩ (.int .i64 v)) E T (setN e v k) h a :=
  ⟨below_set p.bel, p.ent.setI k v, by rw [Below.heap_setCell _ _ _ _ (by have := p.lt; show w.heap.size + 1 ≠ E; omega)]; exact p.box, by rw [Below.heap_setCell _ _ _ _ (fun h => hT h.symm)]; exact p.txt, p.lt⟩

theorem alloc_cell (w : World) (cs : Array Value) (t : TypeId) (j : Nat) (v : Value) (h : cs[j]? = some v) : (w.alloc (.cells cs t)).cell? ⟨w.heap.size, j, none⟩ = some v := by
  have h1 := heap_alloc_new w (.cells cs t)
  simp only [World.cell?, h1]
  exact h

theorem kept1 {w5 : World} {E m b o : Nat} {v u : Value} (h : w5.cell? ⟨b, o, none⟩ = some v) (hne : E < b) : (w5.setCell ⟨E, m, none⟩ u).cell? ⟨b, o, none⟩ = some v := by
  rw [World.cell?_of_block (w := w5) (Below.heap_setCell w5 ⟨E, m, none⟩ u b (by show b ≠ E; omega))]; exact h

theorem ln_start {w w2 : World} {E : Nat} {e : En} {h : Hd} {a : Ah} (hE : EntAt w E e) (HB : Boxed w2 w.heap.size h a) (b2 : Below w.heap.size w w2) (z2 : w2.heap.size = w.heap.size + 2) :
    Ln w ((w2.alloc (.cells (numCells E h.size h.uid h.gid h.mtime) 188)).drew) E w2.heap.size e h a ∧ E ≠ w2.heap.size := by
  have l := hE.lt
  have b3 := (b2.mono (Nat.le_of_lt l)).alloc (by omega) (.cells (numCells E h.size h.uid h.gid h.mtime) 188)
  have h3 : EntAt (w2.alloc (.cells (numCells E h.size h.uid h.gid h.mtime) 188)) E e := (hE.grow b2).grow ((Below.refl _ _).alloc (Nat.le_refl _) _)
  refine ⟨⟨b3.drew, h3, ?_, heap_alloc_new w2 _, l⟩, by omega⟩
  show (w2.alloc _).heap[_]? = _
  rw [Below.heap_alloc _ _ _ (by omega)]; exact HB.y

set_option maxHeartbeats 4000000 in
theorem numbers_w (E : Nat) (e : En) (h : Hd) (a : Ah) (w0 w : World) (hE : EntAt w E e) (hI : a.In w0) (hVs : Vs w0) (h0 : w0.heap.size ≤ E) (hb0 : Below w0.heap.size w0 w) (hsz : ∀ k, (a.val k).size ≤ 281474976710656) :
    Calls Tryz.prog 98 #[.pointer (some ⟨E, 0, none⟩), .agg h.cells, .agg a.cells] w fun ev w' => Below E w w' ∧ ((ev = .returned (.int .i64 0) ∧ (∀ k, k < 4 → numV h a k ≠ none) ∧ EntAt w' E (entN h a e 4)) ∨ (ev = .returned (.int .i64 70) ∧ ∃ k, k < 4 ∧ numV h a k = none)) := by
  have hB := boxed w h a
  have b2 : Hid (Below w.heap.size w ((w.alloc (.cells h.cells 55)).alloc (.cells a.cells 70))) := ((Below.refl _ w).alloc (Nat.le_refl _) _).alloc (by simp) _
  have HZ : Hid (((w.alloc (.cells h.cells 55)).alloc (.cells a.cells 70)).heap.size = w.heap.size + 2) := by show _ = _; simp
  have HB : Hid (Boxed ((w.alloc (.cells h.cells 55)).alloc (.cells a.cells 70)) w.heap.size h a) := hB
  have r0 := hB.rd
  have HV : Hid (∀ W T e1 k, Ln w W E T e1 h a → Calls Tryz.prog 114 #[.agg a.cells, .string (kyN k)] W fun e w' => e = .returned (.string (a.val (kyN k))) ∧ Below W.heap.size W w') := fun W T e1 k p => value_w a (kyN k) W (hI.below (hb0.trans (p.bel.mono h0)))
  have HN : Hid (∀ W T e1 k, Ln w W E T e1 h a → Calls Tryz.prog 115 #[.string (a.val (kyN k))] W fun e w' => e = .returned (match nval (a.val (kyN k)) with | some v => .tuple #[.int .i64 v, .int .i64 0] | none => .tuple #[.int .i64 0, .int .i64 70]) ∧ Below W.heap.size W w') := fun W T e1 k p => number_w (a.val (kyN k)) (hsz _) W (hVs.below (hb0.trans (p.bel.mono h0)))
  have HE : Hid (∀ w2, Boxed w2 w.heap.size h a → Below w.heap.size w w2 → w2.heap.size = w.heap.size + 2 → Ln w ((w2.alloc (.cells (numCells E h.size h.uid h.gid h.mtime) 188)).drew) E w2.heap.size (entN h a e 0) h a ∧ E ≠ w2.heap.size) := fun w2 p q r => ln_start hE p q r
  have HK : Hid (∀ k, entN h a e (k + 1) = setN (entN h a e k) ((numV h a k).getD 0) k) := fun k => rfl
  have HQ : Hid (∀ k, numV h a k = if emp (a.val (kyN k)) then some (hdN h k) else nval (a.val (kyN k))) := fun k => rfl
  have HT : Hid (∀ W T e1, Ln w W E T e1 h a → ∀ m, W.cell? ⟨w.heap.size + 1, m, none⟩ = a.cells[m]?) := fun W T e1 p m => p.ac m
  have HLP : Hid (∀ W T e1, Ln w W E T e1 h a → ∀ k, k < 4 → W.cell? ⟨T, k * 3, none⟩ = some (.pointer (some ⟨E, tgN k, none⟩)) ∧ W.cell? ⟨T, k * 3 + 1, none⟩ = some (.string (kyN k)) ∧ W.cell? ⟨T, k * 3 + 2, none⟩ = some (.int .i64 (hdN h k))) := fun W T e1 p k hk => p.tc k hk
  have HG : Hid (∀ W W' T e1, Ln w W E T e1 h a → Below W.heap.size W W' → Ln w W' E T e1 h a) := fun W W' T e1 p hb => p.grow hb
  have HP : Hid (∀ W T e1, Ln w W E T e1 h a → E ≠ T → ∀ k v, Ln w (W.setCell ⟨E, tgN k, none⟩ (.int .i64 v)) E T (setN e1 v k) h a) := fun W T e1 p hT k v => p.put hT k v
  clear hB hE hI hsz hVs hb0 h0
  generalize hEK : entN h a e = EK at *
  generalize hNV : numV h a = NV at *
  generalize hHD : hdN h = HD at *
  generalize hAV : a.val = AV at *
  generalize hLP : (fun W T e1 => Ln w W E T e1 h a) = LP
  have HX : Hid (∀ W T e1, LP W T e1 → EntAt W E e1 ∧ Below E w W ∧ E < w.heap.size) := fun W T e1 p => by subst hLP; exact ⟨p.ent, p.bel, p.lt⟩
  replace HV : Hid (∀ W T e1 k, LP W T e1 → Calls Tryz.prog 114 #[.agg a.cells, .string (kyN k)] W fun e w' => e = .returned (.string (AV (kyN k))) ∧ Below W.heap.size W w') := by subst hLP; exact HV
  replace HN : Hid (∀ W T e1 k, LP W T e1 → Calls Tryz.prog 115 #[.string (AV (kyN k))] W fun e w' => e = .returned (match nval (AV (kyN k)) with | some v => .tuple #[.int .i64 v, .int .i64 0] | none => .tuple #[.int .i64 0, .int .i64 70]) ∧ Below W.heap.size W w') := by subst hLP; exact HN
  replace HE : Hid (∀ w2, Boxed w2 w.heap.size h a → Below w.heap.size w w2 → w2.heap.size = w.heap.size + 2 → LP ((w2.alloc (.cells (numCells E h.size h.uid h.gid h.mtime) 188)).drew) w2.heap.size (EK 0) ∧ E ≠ w2.heap.size) := by subst hLP; exact HE
  replace HT : Hid (∀ W T e1, LP W T e1 → ∀ m, W.cell? ⟨w.heap.size + 1, m, none⟩ = a.cells[m]?) := by subst hLP; exact HT
  replace HLP : Hid (∀ W T e1, LP W T e1 → ∀ k, k < 4 → W.cell? ⟨T, k * 3, none⟩ = some (.pointer (some ⟨E, tgN k, none⟩)) ∧ W.cell? ⟨T, k * 3 + 1, none⟩ = some (.string (kyN k)) ∧ W.cell? ⟨T, k * 3 + 2, none⟩ = some (.int .i64 (HD k))) := by subst hLP; exact HLP
  replace HG : Hid (∀ W W' T e1, LP W T e1 → Below W.heap.size W W' → LP W' T e1) := by subst hLP; exact HG
  replace HP : Hid (∀ W T e1, LP W T e1 → E ≠ T → ∀ k v, LP (W.setCell ⟨E, tgN k, none⟩ (.int .i64 v)) T (setN e1 v k)) := by subst hLP; exact HP
  clear hLP hEK hHD hAV hNV
  obtain ⟨form, name, link, prefx, user, group, typ, mode, uid, gid, size, mtime⟩ := h
  obtain ⟨gv, lv, gK, gV, gn, lK, lV, ln, aname, alink⟩ := a
  simp only [Hd.cells, Ah.cells, Rd] at b2 HZ HB r0 HV HE HT ⊢
  obtain ⟨-, -, -, -, -, -, -, -, r8, r9, r10, r11, -, -⟩ := r0
  go_enter Tryz.func98, Tryz.ntmps98
  go_upto_region 1 with fail
  generalize (w.alloc _).alloc _ = w2 at *
  have hs2 := And.intro r8 (And.intro r9 (And.intro r10 r11))
  go_region_held3 (fun W => W.cell? ⟨w.heap.size, 8, none⟩ = some (.int .i64 uid) ∧ W.cell? ⟨w.heap.size, 9, none⟩ = some (.int .i64 gid) ∧ W.cell? ⟨w.heap.size, 10, none⟩ = some (.int .i64 size) ∧ W.cell? ⟨w.heap.size, 11, none⟩ = some (.int .i64 mtime)) (first | assumption | go_keep) (fail)
  try (rename_i hHeld; clear hHeld)
  obtain ⟨lp, hET⟩ := HE.out w2 HB.out b2.out HZ.out
  unfold numCells at lp
  have HLp : Hid _ := lp
  have HNe : Hid _ := hET
  clear lp hET HE HB b2 HZ r8 r9 r10 r11 hs2
  generalize w2.heap.size = T at *
  generalize World.drew _ = w9 at *
  go_wp2_with fail
  go_loopw [39] (fun ti wr => ∃ k : Nat, k ≤ 4 ∧ ti = .int .i64 k ∧ Hid (LP wr T (EK k)) ∧ Hid (∀ j, j < k → NV j ≠ none)) (fun t _ => 4 - (intOf t).toNat)
  case atStart => exact ⟨0, by omega, rfl, HLp, fun j hj => absurd hj (Nat.not_lt_zero _)⟩
  case round =>
    obtain ⟨k, hk, rfl, hlp, hnv⟩ := hrel
    by_cases hlt : k < 4
    · obtain ⟨t0, t1, t2⟩ := HLP.out _ _ _ hlp.out k hlt
      have a0 := HT.out _ _ _ hlp.out 0
      have a1 := HT.out _ _ _ hlp.out 1
      have a2 := HT.out _ _ _ hlp.out 2
      have a3 := HT.out _ _ _ hlp.out 3
      simp only [List.getElem?_toArray, List.getElem?_cons_zero, List.getElem?_cons_succ] at a0 a1 a2 a3
      obtain ⟨x, cE⟩ := (HX.out _ _ _ hlp.out).1.int k
      have fE := (HX.out _ _ _ hlp.out).1.frozen (tgN k)
      have lE := (HX.out _ _ _ hlp.out).1.lt
      have hwE := (HX.out _ _ _ hlp.out).2.2
      go_upto_region 6 with fail
      have hlp5 : Hid (LP ((wr.setCell ⟨E, tgN k, none⟩ (.int .i64 (HD k))).alloc (.cells #[.pointer (some ⟨E, tgN k, none⟩), .string (kyN k), .int .i64 (HD k)] 188)) T (setN (EK k) (HD k) k)) := HG.out _ _ _ _ (HP.out _ _ _ hlp.out HNe.out k (HD k)) ((Below.refl _ _).alloc (Nat.le_refl _) _)
      have z5 : (wr.setCell ⟨E, tgN k, none⟩ (.int .i64 (HD k))).heap.size = wr.heap.size := by simp
      have m0 : ((wr.setCell ⟨E, tgN k, none⟩ (.int .i64 (HD k))).alloc (.cells #[.pointer (some ⟨E, tgN k, none⟩), .string (kyN k), .int .i64 (HD k)] 188)).cell? ⟨wr.heap.size, 0, none⟩ = some (.pointer (some ⟨E, tgN k, none⟩)) := by rw [← z5]; exact alloc_cell _ _ _ _ _ rfl
      have m1 : ((wr.setCell ⟨E, tgN k, none⟩ (.int .i64 (HD k))).alloc (.cells #[.pointer (some ⟨E, tgN k, none⟩), .string (kyN k), .int .i64 (HD k)] 188)).cell? ⟨wr.heap.size, 1, none⟩ = some (.string (kyN k)) := by rw [← z5]; exact alloc_cell _ _ _ _ _ rfl
      generalize World.alloc _ (.cells #[.pointer (some ⟨E, tgN k, none⟩), .string (kyN k), .int .i64 (HD k)] 188) = w5 at *
      have e0 := HT.out _ _ _ hlp5.out 0
      have e1 := HT.out _ _ _ hlp5.out 1
      have e2 := HT.out _ _ _ hlp5.out 2
      have e3 := HT.out _ _ _ hlp5.out 3
      simp only [List.getElem?_toArray, List.getElem?_cons_zero, List.getElem?_cons_succ] at e0 e1 e2 e3
      have q := HV.out _ _ _ k hlp5.out
      have hEK := HK.out k
      have hNVk := HQ.out k
      have HEK : Hid (EK (k + 1) = setN (EK k) ((NV k).getD 0) k) := hEK
      have HNVk : Hid (NV k = if emp (AV (kyN k)) = true then some (HD k) else nval (AV (kyN k))) := hNVk
      clear a0 a1 a2 a3 t0 t1 t2 cE fE hEK hNVk z5
      cases hem : emp (AV (kyN k)) with
      | true =>
        have hx := emp_true hem
        rw [hx] at q
        have hN1 : NV k = some (HD k) := by have := HNVk.out; rw [hem] at this; simpa using this
        have HN1 : Hid (NV k = some (HD k)) := hN1
        have HEm : Hid _ := hem
        clear hx hN1 hem
        go_wp2_with (go_at_call 114; refine q.mono ?_; rintro e w6 ⟨rfl, b6⟩)
        go_roundw
        case rel => exact ⟨k + 1, by omega, by simp, by rw [HEK.out, HN1.out]; exact HG.out _ _ _ _ hlp5.out b6, fun j hj => by
          by_cases ej : j = k
          · subst ej; rw [HN1.out]; simp
          · exact hnv.out j (by omega)⟩
        case measure => simp [intOf]; omega
      | false =>
        have hN1 : NV k = nval (AV (kyN k)) := by have := HNVk.out; rw [hem] at this; simpa using this
        have q2 := fun W p => HN.out W T (setN (EK k) (HD k) k) k p
        rw [← hN1] at q2
        generalize hsv : AV (kyN k) = s at *
        unfold emp at hem
        cases hnk : NV k with
        | none =>
          rw [hnk] at q2
          simp only at q2
          have HQ2 : Hid (∀ W, LP W T (setN (EK k) (HD k) k) → Calls Tryz.prog 115 #[.string s] W fun e w' => e = .returned (.tuple #[.int .i64 0, .int .i64 70]) ∧ Below W.heap.size W w') := q2
          have HNK : Hid (NV k = none) := hnk
          clear q2 hN1 hnk hsv HNVk
          go_upto_region 9 with (go_at_call 114; refine q.mono ?_; rintro e w6 ⟨rfl, b6⟩; have m6 := cell_grow m0 b6; have HL6 : Hid (LP w6.drew T (setN (EK k) (HD k) k)) := HG.out _ _ _ _ (HG.out _ _ _ _ hlp5.out b6) (Below.refl _ _).drew; have HM6 : Hid (∀ W, Below w6.drew.heap.size w6.drew W → W.cell? ⟨wr.heap.size, 0, none⟩ = some (.pointer (some ⟨E, tgN k, none⟩))) := fun W hb => cell_grow (w := w6.drew) m6 hb)
          clear m0 m1 e0 e1 e2 e3 q
          go_region_held3 (fun W => W.cell? ⟨wr.heap.size, 0, none⟩ = some (.pointer (some ⟨E, tgN k, none⟩))) (first | assumption | exact kept1 (by assumption) lE | go_keep) (first | (go_at_call 115; refine (HQ2.out _ HL6.out).mono ?_; rintro e w7 ⟨rfl, b7⟩; have m7 := HM6.out w7 b7; have HL7 : Hid (LP w7 T (setN (EK k) (HD k) k)) := HG.out _ _ _ _ HL6.out b7; obtain ⟨x7, cE⟩ := (HX.out _ _ _ HL7.out).1.int k; have fE := (HX.out _ _ _ HL7.out).1.frozen (tgN k); have lE7 := (HX.out _ _ _ HL7.out).1.lt))
          have HF : Hid (Below E w (w7.setCell ⟨E, tgN k, none⟩ (.int .i64 0))) := below_set (HX.out _ _ _ HL7.out).2.1
          clear cE fE lE7 HL7 m7 b7
          generalize World.setCell _ _ _ = w8 at *
          go_wp2
          go_ret
          exact ⟨HF.out, .inr ⟨rfl, k, hlt, HNK.out⟩⟩
        | some v =>
          rw [hnk] at q2
          simp only at q2
          have HQ2 : Hid (∀ W, LP W T (setN (EK k) (HD k) k) → Calls Tryz.prog 115 #[.string s] W fun e w' => e = .returned (.tuple #[.int .i64 v, .int .i64 0]) ∧ Below W.heap.size W w') := q2
          have HNK : Hid (NV k = some v) := hnk
          clear q2 hN1 hnk hsv HNVk
          go_upto_region 9 with (go_at_call 114; refine q.mono ?_; rintro e w6 ⟨rfl, b6⟩; have m6 := cell_grow m0 b6; have HL6 : Hid (LP w6.drew T (setN (EK k) (HD k) k)) := HG.out _ _ _ _ (HG.out _ _ _ _ hlp5.out b6) (Below.refl _ _).drew; have HM6 : Hid (∀ W, Below w6.drew.heap.size w6.drew W → W.cell? ⟨wr.heap.size, 0, none⟩ = some (.pointer (some ⟨E, tgN k, none⟩))) := fun W hb => cell_grow (w := w6.drew) m6 hb)
          clear m0 m1 e0 e1 e2 e3 q
          go_region_held3 (fun W => W.cell? ⟨wr.heap.size, 0, none⟩ = some (.pointer (some ⟨E, tgN k, none⟩))) (first | assumption | exact kept1 (by assumption) lE | go_keep) (first | (go_at_call 115; refine (HQ2.out _ HL6.out).mono ?_; rintro e w7 ⟨rfl, b7⟩; have m7 := HM6.out w7 b7; have HL7 : Hid (LP w7 T (setN (EK k) (HD k) k)) := HG.out _ _ _ _ HL6.out b7; obtain ⟨x7, cE⟩ := (HX.out _ _ _ HL7.out).1.int k; have fE := (HX.out _ _ _ HL7.out).1.frozen (tgN k); have lE7 := (HX.out _ _ _ HL7.out).1.lt))
          have HF : Hid (LP (w7.setCell ⟨E, tgN k, none⟩ (.int .i64 v)) T (EK (k + 1))) := by
            rw [HEK.out, HNK.out, ← setN_setN (EK k) (HD k)]
            exact HP.out _ _ _ HL7.out HNe.out k v
          clear cE fE lE7 HL7 m7 b7
          generalize World.setCell _ _ _ = w8 at *
          go_wp2
          go_roundw
          case rel => exact ⟨k + 1, by omega, by simp, HF, fun j hj => by
            by_cases ej : j = k
            · subst ej; rw [HNK.out]; simp
            · exact hnv.out j (by omega)⟩
          case measure => simp [intOf]; omega
    · obtain rfl : k = 4 := by omega
      go_wp2
      go_ret
      obtain ⟨x1, x2, x3⟩ := HX.out _ _ _ hlp.out
      exact ⟨x2, .inl ⟨rfl, hnv.out, x1⟩⟩

end Go.Proofs.YtnmmaedngdibeaaGreatDoor.E

namespace Go.Proofs.YtnmmaedngdibeaaGreatDoor.E
open Go.RowKit
set_option linter.unusedVariables false
set_option linter.unusedSimpArgs false

def zeroE : En := ⟨⟨#[]⟩, ⟨#[]⟩, 0, 0, 0, 0, 0, 0, ⟨#[]⟩, ⟨#[]⟩⟩
def startE (k m : Int) : En := ⟨⟨#[]⟩, ⟨#[]⟩, k, m, 0, 0, 0, 0, ⟨#[]⟩, ⟨#[]⟩⟩

/-- The state of Make, but for the entry. -/
structure Mk0 (w W : World) (h : Hd) (a : Ah) : Prop where
  bel : Below w.heap.size w W
  box : Boxed W w.heap.size h a
  res : W.heap[w.heap.size + 2]? = some (.cells zeroE.cells 33 (0, 0))
/-- The state of Make. -/
structure Mk (w W : World) (e : En) (h : Hd) (a : Ah) : Prop extends Mk0 w W h a where
  ent : EntAt W (w.heap.size + 3) e

theorem Mk0.step {w W W' : World} {h : Hd} {a : Ah} (p : Mk0 w W h a) (hb : Below (w.heap.size + 3) W W') : Mk0 w W' h a :=
  ⟨p.bel.trans (hb.mono (by omega)), ⟨(hb.block _ (by omega)).trans p.box.x, (hb.block _ (by omega)).trans p.box.y⟩, (hb.block _ (by omega)).trans p.res⟩

theorem Mk.step {w W W' : World} {e e' : En} {h : Hd} {a : Ah} (p : Mk w W e h a) (hb : Below (w.heap.size + 3) W W') (he : EntAt W' (w.heap.size + 3) e') : Mk w W' e' h a :=
  ⟨p.toMk0.step hb, he⟩

theorem Mk.lt {w W : World} {e : En} {h : Hd} {a : Ah} (p : Mk w W e h a) : w.heap.size + 3 < W.heap.size := p.ent.lt

theorem Mk0.rc {w W : World} {h : Hd} {a : Ah} (p : Mk0 w W h a) (m : Nat) : W.cell? ⟨w.heap.size + 2, m, none⟩ = zeroE.cells[m]? := by simp [World.cell?, p.res]
theorem Mk0.rf {w W : World} {h : Hd} {a : Ah} (p : Mk0 w W h a) (m : Nat) : W.frozen? ⟨w.heap.size + 2, m, none⟩ = false := by simp [World.frozen?, p.res]

theorem mk_start (w : World) (h : Hd) (a : Ah) (k m : Int) : ∀ w3, ((w.alloc (.cells h.cells 55)).alloc (.cells a.cells 70)).alloc (.cells #[.string ⟨#[]⟩, .string ⟨#[]⟩, .int .i64 0, .int .i64 0, .int .i64 0, .int .i64 0, .int .i64 0, .int .i64 0, .string ⟨#[]⟩, .string ⟨#[]⟩] 33) = w3 → w3.heap.size = w.heap.size + 3 ∧ Boxed w3 w.heap.size h a ∧ Mk w (w3.alloc (.cells (startE k m).cells 33)).drew (startE k m) h a := by
  rintro w3 rfl
  have z2 : ((w.alloc (.cells h.cells 55)).alloc (.cells a.cells 70)).heap.size = w.heap.size + 2 := by simp
  have hB := boxed w h a
  have b2 : Below w.heap.size w ((w.alloc (.cells h.cells 55)).alloc (.cells a.cells 70)) := ((Below.refl _ w).alloc (Nat.le_refl _) _).alloc (by simp) _
  generalize (w.alloc (.cells h.cells 55)).alloc (.cells a.cells 70) = w2 at *
  have z3 : (w2.alloc (.cells #[.string ⟨#[]⟩, .string ⟨#[]⟩, .int .i64 0, .int .i64 0, .int .i64 0, .int .i64 0, .int .i64 0, .int .i64 0, .string ⟨#[]⟩, .string ⟨#[]⟩] 33)).heap.size = w.heap.size + 3 := by simp; omega
  have b3 := b2.alloc (by omega) (.cells #[.string ⟨#[]⟩, .string ⟨#[]⟩, .int .i64 0, .int .i64 0, .int .i64 0, .int .i64 0, .int .i64 0, .int .i64 0, .string ⟨#[]⟩, .string ⟨#[]⟩] 33)
  have hB3 := hB.grow ((Below.refl _ _).alloc (Nat.le_refl _) (.cells #[.string ⟨#[]⟩, .string ⟨#[]⟩, .int .i64 0, .int .i64 0, .int .i64 0, .int .i64 0, .int .i64 0, .int .i64 0, .string ⟨#[]⟩, .string ⟨#[]⟩] 33))
  have r3 := heap_alloc_new w2 (.cells #[.string ⟨#[]⟩, .string ⟨#[]⟩, .int .i64 0, .int .i64 0, .int .i64 0, .int .i64 0, .int .i64 0, .int .i64 0, .string ⟨#[]⟩, .string ⟨#[]⟩] 33)
  rw [z2] at r3
  generalize w2.alloc (.cells #[.string ⟨#[]⟩, .string ⟨#[]⟩, .int .i64 0, .int .i64 0, .int .i64 0, .int .i64 0, .int .i64 0, .int .i64 0, .string ⟨#[]⟩, .string ⟨#[]⟩] 33) = w3 at *
  refine ⟨z3, hB3, ⟨⟨(b3.alloc (by omega) _).drew, ?_, ?_⟩, ?_⟩⟩
  · have := hB3.grow ((Below.refl _ _).alloc (Nat.le_refl _) (.cells (startE k m).cells 33))
    exact ⟨this.x, this.y⟩
  · show (w3.alloc _).heap[_]? = _
    rw [Below.heap_alloc _ _ _ (by omega)]; exact r3
  · show (w3.alloc _).heap[_]? = _
    rw [← z3]; exact heap_alloc_new _ _

/-- what Make answers -/
def badN (h : Hd) (a : Ah) : Prop := ∃ k, k < 4 ∧ numV h a k = none
def fullE (h : Hd) (a : Ah) : En := settleF (entN h a (entK h a (startE (kd h.typ) (bits .and .i64 h.mode 4095)) 4) 4) h.form

theorem or3_size (a b c : ByteArray) (n : Nat) (ha : a.size ≤ n) (hb : b.size ≤ n) (hc : c.size ≤ n) : (or3 a b c).size ≤ n := by
  unfold or3; split
  · split <;> assumption
  · assumption

theorem st1 {W : World} {R : Nat} {cs : Array Value} {t : TypeId} {fr : Nat × Nat} (h : W.heap[R]? = some (.cells cs t fr)) (m : Nat) (v : Value) : (W.setCell ⟨R, m, none⟩ v).heap[R]? = some (.cells (cs.setIfInBounds m v) t fr) := by
  rw [setCell_eq_setRow W R m _ _ _ _ h, setRow_heap _ _ _ _ _ _ h]

theorem bset {w W : World} {R : Nat} (hb : Below w.heap.size w W) (hR : w.heap.size ≤ R) (m : Nat) (v : Value) : Below w.heap.size w (W.setCell ⟨R, m, none⟩ v) := hb.setCell (p := ⟨R, m, none⟩) hR v

theorem ten {w W : World} {R : Nat} (h : W.heap[R]? = some (.cells zeroE.cells 33 (0, 0))) (hb : Below w.heap.size w W) (hR : w.heap.size ≤ R) (v0 v1 v2 v3 v4 v5 v6 v7 v8 v9 : Value) :
    ∀ W', ((((((((((W.setCell ⟨R, 0, none⟩ v0).setCell ⟨R, 1, none⟩ v1).setCell ⟨R, 2, none⟩ v2).setCell ⟨R, 3, none⟩ v3).setCell ⟨R, 4, none⟩ v4).setCell ⟨R, 5, none⟩ v5).setCell ⟨R, 6, none⟩ v6).setCell ⟨R, 7, none⟩ v7).setCell ⟨R, 8, none⟩ v8).setCell ⟨R, 9, none⟩ v9) = W' →
      Below w.heap.size w W' ∧ W'.cell? ⟨R, 0, none⟩ = some v0 ∧ W'.cell? ⟨R, 1, none⟩ = some v1 ∧ W'.cell? ⟨R, 2, none⟩ = some v2 ∧ W'.cell? ⟨R, 3, none⟩ = some v3 ∧ W'.cell? ⟨R, 4, none⟩ = some v4 ∧ W'.cell? ⟨R, 5, none⟩ = some v5 ∧ W'.cell? ⟨R, 6, none⟩ = some v6 ∧ W'.cell? ⟨R, 7, none⟩ = some v7 ∧ W'.cell? ⟨R, 8, none⟩ = some v8 ∧ W'.cell? ⟨R, 9, none⟩ = some v9 := by
  intro W' e
  have hh : W'.heap[R]? = some (.cells #[v0, v1, v2, v3, v4, v5, v6, v7, v8, v9] 33 (0, 0)) := by
    rw [← e]
    exact (st1 (st1 (st1 (st1 (st1 (st1 (st1 (st1 (st1 (st1 h 0 v0) 1 v1) 2 v2) 3 v3) 4 v4) 5 v5) 6 v6) 7 v7) 8 v8) 9 v9).trans (by simp [zeroE, En.cells])
  have hB : Below w.heap.size w W' := by
    rw [← e]
    exact (bset (bset (bset (bset (bset (bset (bset (bset (bset (bset hb hR 0 v0) hR 1 v1) hR 2 v2) hR 3 v3) hR 4 v4) hR 5 v5) hR 6 v6) hR 7 v7) hR 8 v8) hR 9 v9)
  have key : ∀ j, W'.cell? ⟨R, j, none⟩ = (#[v0, v1, v2, v3, v4, v5, v6, v7, v8, v9] : Array Value)[j]? := fun j => by simp [World.cell?, hh]
  exact ⟨hB, key 0, key 1, key 2, key 3, key 4, key 5, key 6, key 7, key 8, key 9⟩

set_option maxHeartbeats 4000000 in
theorem make_w (h : Hd) (a : Ah) (w : World) (hI : a.In w) (hVs : Vs w) (h1 : h.prefx.size ≤ 140737488355328) (h2 : h.name.size ≤ 140737488355328) (h3 : a.name.size ≤ 140737488355328) (hsz : ∀ k, (a.val k).size ≤ 281474976710656) :
    Calls Tryz.prog 79 #[.agg h.cells, .agg a.cells] w fun ev w' => ((kd h.typ = 0 ∧ ev = .returned (.tuple #[.agg zeroE.cells, .int .i64 80])) ∨ (kd h.typ ≠ 0 ∧ badN h a ∧ ev = .returned (.tuple #[.agg zeroE.cells, .int .i64 70])) ∨ (kd h.typ ≠ 0 ∧ ¬ badN h a ∧ ((fullE h a).size < 0 ∨ (fullE h a).uid < 0 ∨ (fullE h a).gid < 0) ∧ ev = .returned (.tuple #[.agg zeroE.cells, .int .i64 90])) ∨ (kd h.typ ≠ 0 ∧ ¬ badN h a ∧ ¬ ((fullE h a).size < 0 ∨ (fullE h a).uid < 0 ∨ (fullE h a).gid < 0) ∧ ev = .returned (.tuple #[.agg (fullE h a).cells, .int .i64 0]))) ∧ Below w.heap.size w w' := by
  generalize hPP : (fun (ev : Ending) (w' : World) => ((kd h.typ = 0 ∧ ev = .returned (.tuple #[.agg zeroE.cells, .int .i64 80])) ∨ (kd h.typ ≠ 0 ∧ badN h a ∧ ev = .returned (.tuple #[.agg zeroE.cells, .int .i64 70])) ∨ (kd h.typ ≠ 0 ∧ ¬ badN h a ∧ ((fullE h a).size < 0 ∨ (fullE h a).uid < 0 ∨ (fullE h a).gid < 0) ∧ ev = .returned (.tuple #[.agg zeroE.cells, .int .i64 90])) ∨ (kd h.typ ≠ 0 ∧ ¬ badN h a ∧ ¬ ((fullE h a).size < 0 ∨ (fullE h a).uid < 0 ∨ (fullE h a).gid < 0) ∧ ev = .returned (.tuple #[.agg (fullE h a).cells, .int .i64 0]))) ∧ Below w.heap.size w w') = PP
  have HPP : Hid (∀ (ev : Ending) (w' : World), Below w.heap.size w w' → ((kd h.typ = 0 ∧ ev = .returned (.tuple #[.agg zeroE.cells, .int .i64 80])) ∨ (kd h.typ ≠ 0 ∧ badN h a ∧ ev = .returned (.tuple #[.agg zeroE.cells, .int .i64 70])) ∨ (kd h.typ ≠ 0 ∧ ¬ badN h a ∧ ((fullE h a).size < 0 ∨ (fullE h a).uid < 0 ∨ (fullE h a).gid < 0) ∧ ev = .returned (.tuple #[.agg zeroE.cells, .int .i64 90])) ∨ (kd h.typ ≠ 0 ∧ ¬ badN h a ∧ ¬ ((fullE h a).size < 0 ∨ (fullE h a).uid < 0 ∨ (fullE h a).gid < 0) ∧ ev = .returned (.tuple #[.agg (fullE h a).cells, .int .i64 0]))) → PP ev w') := fun ev w' x y => by rw [← hPP]; exact ⟨y, x⟩
  clear hPP
  have HM : Hid (∀ w3, ((w.alloc (.cells h.cells 55)).alloc (.cells a.cells 70)).alloc (.cells #[.string ⟨#[]⟩, .string ⟨#[]⟩, .int .i64 0, .int .i64 0, .int .i64 0, .int .i64 0, .int .i64 0, .int .i64 0, .string ⟨#[]⟩, .string ⟨#[]⟩] 33) = w3 → w3.heap.size = w.heap.size + 3 ∧ Boxed w3 w.heap.size h a ∧ Mk w (w3.alloc (.cells (startE (kd h.typ) (bits .and .i64 h.mode 4095)).cells 33)).drew (startE (kd h.typ) (bits .and .i64 h.mode 4095)) h a) := mk_start w h a _ _
  have qk := fun W => kind_w h.typ W
  have HTX : Hid (∀ W e1, Mk w W e1 h a → Calls Tryz.prog 97 #[.pointer (some ⟨w.heap.size + 3, 0, none⟩), .agg h.cells, .agg a.cells] W fun ev w' => ev = .returned (.tuple #[]) ∧ Mk w w' (entK h a e1 4) h a) := fun W e1 p => (texts_w (w.heap.size + 3) e1 h a w W p.ent hI (by omega) p.bel h1 h2).mono fun ev w' ⟨x, y, z⟩ => ⟨x, p.step z y⟩
  have HNU : Hid (∀ W e1, Mk w W e1 h a → Calls Tryz.prog 98 #[.pointer (some ⟨w.heap.size + 3, 0, none⟩), .agg h.cells, .agg a.cells] W fun ev w' => (ev = .returned (.int .i64 0) ∧ ¬ badN h a ∧ Mk w w' (entN h a e1 4) h a) ∨ (ev = .returned (.int .i64 70) ∧ badN h a ∧ Mk0 w w' h a)) := fun W e1 p => (numbers_w (w.heap.size + 3) e1 h a w W p.ent hI hVs (by omega) p.bel hsz).mono fun ev w' ⟨z, x⟩ => by
    rcases x with ⟨x1, x2, x3⟩ | ⟨x1, x2⟩
    · exact .inl ⟨x1, fun ⟨k, hk, hb⟩ => x2 k hk hb, p.step z x3⟩
    · exact .inr ⟨x1, x2, p.toMk0.step z⟩
  have HST : Hid (∀ W, Mk w W (entN h a (entK h a (startE (kd h.typ) (bits .and .i64 h.mode 4095)) 4) 4) h a → Calls Tryz.prog 99 #[.pointer (some ⟨w.heap.size + 3, 0, none⟩), .int .i64 h.form] W fun ev w' => ev = .returned (.tuple #[]) ∧ Mk w w' (fullE h a) h a) := fun W p => (settle_w (w.heap.size + 3) _ h.form W p.ent (by
      show (tx h a 0).size ≤ _
      have hf : h.full.size ≤ 281474976710657 := by
        unfold Hd.full; split
        · omega
        · rw [ByteArray.size_append, ByteArray.size_append]; show h.prefx.size + 1 + h.name.size ≤ _; omega
      exact Nat.le_trans (or3_size _ _ _ 281474976710657 (by have := hsz (ky 0); omega) (by show a.name.size ≤ _; omega) hf) (by omega))).mono fun ev w' ⟨x, y, z⟩ => ⟨x, p.step z y⟩
  clear hI hVs hsz h1 h2 h3
  generalize hEK : entK h a = EK at *
  generalize hEN : entN h a = EN at *
  generalize hFE : fullE h a = FE at *
  generalize hBN : badN h a = BN at *
  clear hEK hEN hFE hBN
  generalize hMK : (fun W e1 => Mk w W e1 h a) = MK
  generalize hMK0 : (fun W => Mk0 w W h a) = MK0
  replace HTX : Hid (∀ W e1, MK W e1 → Calls Tryz.prog 97 #[.pointer (some ⟨w.heap.size + 3, 0, none⟩), .agg h.cells, .agg a.cells] W fun ev w' => ev = .returned (.tuple #[]) ∧ MK w' (EK e1 4)) := by subst hMK; exact HTX
  replace HNU : Hid (∀ W e1, MK W e1 → Calls Tryz.prog 98 #[.pointer (some ⟨w.heap.size + 3, 0, none⟩), .agg h.cells, .agg a.cells] W fun ev w' => (ev = .returned (.int .i64 0) ∧ ¬ BN ∧ MK w' (EN e1 4)) ∨ (ev = .returned (.int .i64 70) ∧ BN ∧ MK0 w')) := by subst hMK; subst hMK0; exact HNU
  replace HST : Hid (∀ W, MK W (EN (EK (startE (kd h.typ) (bits .and .i64 h.mode 4095)) 4) 4) → Calls Tryz.prog 99 #[.pointer (some ⟨w.heap.size + 3, 0, none⟩), .int .i64 h.form] W fun ev w' => ev = .returned (.tuple #[]) ∧ MK w' FE) := by subst hMK; exact HST
  have HEN : Hid (∀ W e1, MK W e1 → EntAt W (w.heap.size + 3) e1 ∧ MK0 W) := fun W e1 p => by subst hMK; subst hMK0; exact ⟨p.ent, p.toMk0⟩
  have HBX : Hid (∀ W, MK0 W → Rd w.heap.size h a W ∧ (∀ m, W.cell? ⟨w.heap.size + 1, m, none⟩ = a.cells[m]?) ∧ (∀ m, W.cell? ⟨w.heap.size + 2, m, none⟩ = zeroE.cells[m]?) ∧ (∀ m, W.frozen? ⟨w.heap.size + 2, m, none⟩ = false) ∧ Below w.heap.size w W ∧ W.heap[w.heap.size + 1 + 1]? = some (.cells zeroE.cells 33 (0, 0))) := fun W p => by subst hMK0; exact ⟨p.box.rd, p.box.ac, p.rc, p.rf, p.bel, p.res⟩
  replace HM : Hid (∀ w3, ((w.alloc (.cells h.cells 55)).alloc (.cells a.cells 70)).alloc (.cells #[.string ⟨#[]⟩, .string ⟨#[]⟩, .int .i64 0, .int .i64 0, .int .i64 0, .int .i64 0, .int .i64 0, .int .i64 0, .string ⟨#[]⟩, .string ⟨#[]⟩] 33) = w3 → w3.heap.size = w.heap.size + 3 ∧ Boxed w3 w.heap.size h a ∧ MK (w3.alloc (.cells (startE (kd h.typ) (bits .and .i64 h.mode 4095)).cells 33)).drew (startE (kd h.typ) (bits .and .i64 h.mode 4095))) := by subst hMK; exact HM
  clear hMK hMK0
  obtain ⟨form, name, link, prefx, user, group, typ, mode, uid, gid, size, mtime⟩ := h
  obtain ⟨gv, lv, gK, gV, gn, lK, lV, ln, aname, alink⟩ := a
  simp only [Hd.cells, Ah.cells, Rd] at HM qk HTX HNU HST HBX ⊢
  generalize kd typ = kk at *
  generalize hSE : startE kk (bits .and .i64 mode 4095) = SE at *
  have HSE : Hid (SE.cells = #[.string ⟨#[]⟩, .string ⟨#[]⟩, .int .i64 kk, .int .i64 (bits .and .i64 mode 4095), .int .i64 0, .int .i64 0, .int .i64 0, .int .i64 0, .string ⟨#[]⟩, .string ⟨#[]⟩]) := by subst hSE; rfl
  clear hSE
  rw [HSE.out] at HM
  go_enter Tryz.func79, Tryz.ntmps79
  go_upto_region 1 with fail
  generalize hw3 : ((w.alloc _).alloc _).alloc _ = w3 at *
  obtain ⟨z3, hB3, M4⟩ := HM.out w3 rfl
  clear hw3 HM
  have HMk : Hid _ := M4
  obtain ⟨-, -, -, -, -, -, r6, r7, -, -, -, -, -, -⟩ := hB3.rd
  simp only at r6 r7
  have hs3 := And.intro r6 r7
  clear M4 hB3
  go_cut [6] (fun s6 wx => s6 = .pointer (some ⟨w.heap.size + 3, 0, none⟩) ∧ Hid (MK wx SE))
  case first =>
    go_region_held3 (fun W => W.cell? ⟨w.heap.size, 6, none⟩ = some (.int .u8 typ) ∧ W.cell? ⟨w.heap.size, 7, none⟩ = some (.int .i64 mode)) (first | assumption | go_keep) (first | (go_at_call 78; refine (qk _).mono ?_; rintro e w8 ⟨rfl, hw8⟩; subst hw8))
    all_goals go_wp2_with fail
    all_goals go_meet
    all_goals exact ⟨rfl, HMk⟩
  case rest =>
    obtain ⟨rfl, HM1⟩ := hcut
    clear HMk r6 r7 hs3 z3
    obtain ⟨E1, B1⟩ := HEN.out _ _ HM1.out
    have c2 := E1.c 2
    rw [HSE.out] at c2
    replace c2 : wc.cell? ⟨w.heap.size + 3, 2, none⟩ = some (.int .i64 kk) := c2
    have x1 := HBX.out _ B1
    obtain ⟨R1, A1, Z1, F1, Bl1, Rs1⟩ := x1
    have ra1 := A1 0
    have rb1 := A1 1
    have rc1 := A1 2
    have rd1 := A1 3
    simp only [List.getElem?_toArray, List.getElem?_cons_zero, List.getElem?_cons_succ] at ra1 rb1 rc1 rd1
    have HBl1 : Hid _ := Bl1
    have HRs1 : Hid _ := Rs1
    clear Bl1 Rs1 A1
    by_cases c0 : kk = 0
    · subst c0
      have z0 := Z1 0
      have z1 := Z1 1
      have z2 := Z1 2
      have z3 := Z1 3
      have z4 := Z1 4
      have z5 := Z1 5
      have z6 := Z1 6
      have z7 := Z1 7
      have z8 := Z1 8
      have z9 := Z1 9
      simp only [zeroE, En.cells, List.getElem?_toArray, List.getElem?_cons_zero, List.getElem?_cons_succ] at z0 z1 z2 z3 z4 z5 z6 z7 z8 z9
      clear Z1
      clear R1 E1 B1
      go_wp2
      generalize hwF : World.setCell _ _ _ = wF
      obtain ⟨fB, f0, f1, f2, f3, f4, f5, f6, f7, f8, f9⟩ := ten HRs1.out HBl1.out (by omega) (.string ⟨#[]⟩) (.string ⟨#[]⟩) (.int .i64 0) (.int .i64 0) (.int .i64 0) (.int .i64 0) (.int .i64 0) (.int .i64 0) (.string ⟨#[]⟩) (.string ⟨#[]⟩) wF hwF
      clear hwF
      refine bodyPost_ret (v := .tuple #[.agg #[.string ⟨#[]⟩, .string ⟨#[]⟩, .int .i64 0, .int .i64 0, .int .i64 0, .int .i64 0, .int .i64 0, .int .i64 0, .string ⟨#[]⟩, .string ⟨#[]⟩], .int .i64 80]) (by simp [results, Tryz.results79, go_sem, f0, f1, f2, f3, f4, f5, f6, f7, f8, f9]) rfl (HPP.out _ _ fB ?_)
      exact .inl ⟨by first | rfl | trivial, rfl⟩
    · have c0' : (kk == 0) = false := by simpa using c0
      have HC0 : Hid (¬ kk = 0) := c0
      clear Z1 F1 E1 B1 c0
      by_cases hBN : BN
      · have HQ : Hid (∀ W, MK W (EK SE 4) → Calls Tryz.prog 98 #[.pointer (some ⟨w.heap.size + 3, 0, none⟩), .agg #[.int .i64 form, .string name, .string link, .string prefx, .string user, .string group, .int .u8 typ, .int .i64 mode, .int .i64 uid, .int .i64 gid, .int .i64 size, .int .i64 mtime], .agg #[gv, lv, .string aname, .string alink]] W fun ev w' => ev = .returned (.int .i64 70) ∧ MK0 w') := fun W p => (HNU.out W _ p).mono fun ev w' x => by
          rcases x with ⟨_, x, _⟩ | ⟨x, _, y⟩
          · exact absurd hBN x
          · exact ⟨x, y⟩
        have HBN : Hid BN := hBN
        clear hBN
        go_wp2_with (first | (go_at_call 97; refine (HTX.out _ _ HM1.out).mono ?_; rintro e w5 ⟨rfl, M5⟩; have HM5 : Hid _ := M5; have E5 := HEN.out _ _ M5; have x5 := HBX.out _ E5.2; obtain ⟨R5, A5, Z5, F5, Bl5, Rs5⟩ := x5; have ra5 := A5 0; have rb5 := A5 1; have rc5 := A5 2; have rd5 := A5 3; simp only [List.getElem?_toArray, List.getElem?_cons_zero, List.getElem?_cons_succ] at ra5 rb5 rc5 rd5; have HBl5 : Hid _ := Bl5; have HRs5 : Hid _ := Rs5; clear Bl5 Rs5 A5; clear M5 E5 Z5 F5) | (go_at_call 98; refine (HQ.out _ HM5.out).mono ?_; rintro e w6 ⟨rfl, M6⟩; have x6 := HBX.out _ M6; obtain ⟨R6, A6, Z6, F6, Bl6, Rs6⟩ := x6; have ra6 := A6 0; have rb6 := A6 1; have rc6 := A6 2; have rd6 := A6 3; simp only [List.getElem?_toArray, List.getElem?_cons_zero, List.getElem?_cons_succ] at ra6 rb6 rc6 rd6; have HBl6 : Hid _ := Bl6; have HRs6 : Hid _ := Rs6; clear Bl6 Rs6 A6; have z0 := Z6 0; have z1 := Z6 1; have z2 := Z6 2; have z3 := Z6 3; have z4 := Z6 4; have z5 := Z6 5; have z6 := Z6 6; have z7 := Z6 7; have z8 := Z6 8; have z9 := Z6 9; simp only [zeroE, En.cells, List.getElem?_toArray, List.getElem?_cons_zero, List.getElem?_cons_succ] at z0 z1 z2 z3 z4 z5 z6 z7 z8 z9; clear Z6))
        generalize hwF : World.setCell _ _ _ = wF
        obtain ⟨fB, f0, f1, f2, f3, f4, f5, f6, f7, f8, f9⟩ := ten HRs6.out HBl6.out (by omega) (.string ⟨#[]⟩) (.string ⟨#[]⟩) (.int .i64 0) (.int .i64 0) (.int .i64 0) (.int .i64 0) (.int .i64 0) (.int .i64 0) (.string ⟨#[]⟩) (.string ⟨#[]⟩) wF hwF
        clear hwF
        refine bodyPost_ret (v := .tuple #[.agg #[.string ⟨#[]⟩, .string ⟨#[]⟩, .int .i64 0, .int .i64 0, .int .i64 0, .int .i64 0, .int .i64 0, .int .i64 0, .string ⟨#[]⟩, .string ⟨#[]⟩], .int .i64 70]) (by simp [results, Tryz.results79, go_sem, f0, f1, f2, f3, f4, f5, f6, f7, f8, f9]) rfl (HPP.out _ _ fB ?_)
        exact .inr (.inl ⟨HC0.out, HBN.out, rfl⟩)
      · have HQ : Hid (∀ W, MK W (EK SE 4) → Calls Tryz.prog 98 #[.pointer (some ⟨w.heap.size + 3, 0, none⟩), .agg #[.int .i64 form, .string name, .string link, .string prefx, .string user, .string group, .int .u8 typ, .int .i64 mode, .int .i64 uid, .int .i64 gid, .int .i64 size, .int .i64 mtime], .agg #[gv, lv, .string aname, .string alink]] W fun ev w' => ev = .returned (.int .i64 0) ∧ MK w' (EN (EK SE 4) 4)) := fun W p => (HNU.out W _ p).mono fun ev w' x => by
          rcases x with ⟨x, _, y⟩ | ⟨_, x, _⟩
          · exact ⟨x, y⟩
          · exact absurd x hBN
        have HBN : Hid (¬ BN) := hBN
        clear hBN
        obtain ⟨path2, link2, kind2, mode2, uid2, gid2, mtime2, size2, user2, group2⟩ := FE
        by_cases k1 : size2 < 0
        · go_wp2_with (first | (go_at_call 97; refine (HTX.out _ _ HM1.out).mono ?_; rintro e w5 ⟨rfl, M5⟩; have HM5 : Hid _ := M5; have E5 := HEN.out _ _ M5; have x5 := HBX.out _ E5.2; obtain ⟨R5, A5, Z5, F5, Bl5, Rs5⟩ := x5; have ra5 := A5 0; have rb5 := A5 1; have rc5 := A5 2; have rd5 := A5 3; simp only [List.getElem?_toArray, List.getElem?_cons_zero, List.getElem?_cons_succ] at ra5 rb5 rc5 rd5; have HBl5 : Hid _ := Bl5; have HRs5 : Hid _ := Rs5; clear Bl5 Rs5 A5; clear M5 E5 Z5 F5) | (go_at_call 98; refine (HQ.out _ HM5.out).mono ?_; rintro e w6 ⟨rfl, M6⟩; have HM6 : Hid _ := M6; have E6 := HEN.out _ _ M6; have x6 := HBX.out _ E6.2; obtain ⟨R6, A6, Z6, F6, Bl6, Rs6⟩ := x6; have ra6 := A6 0; have rb6 := A6 1; have rc6 := A6 2; have rd6 := A6 3; simp only [List.getElem?_toArray, List.getElem?_cons_zero, List.getElem?_cons_succ] at ra6 rb6 rc6 rd6; have HBl6 : Hid _ := Bl6; have HRs6 : Hid _ := Rs6; clear Bl6 Rs6 A6; clear M6 E6 Z6 F6) | (go_at_call 99; refine (HST.out _ HM6.out).mono ?_; rintro e w7 ⟨rfl, M7⟩; have E7 := HEN.out _ _ M7; have x7 := HBX.out _ E7.2; obtain ⟨R7, A7, Z7, F7, Bl7, Rs7⟩ := x7; have ra7 := A7 0; have rb7 := A7 1; have rc7 := A7 2; have rd7 := A7 3; simp only [List.getElem?_toArray, List.getElem?_cons_zero, List.getElem?_cons_succ] at ra7 rb7 rc7 rd7; have HBl7 : Hid _ := Bl7; have HRs7 : Hid _ := Rs7; clear Bl7 Rs7 A7; have z0 := Z7 0; have z1 := Z7 1; have z2 := Z7 2; have z3 := Z7 3; have z4 := Z7 4; have z5 := Z7 5; have z6 := Z7 6; have z7 := Z7 7; have z8 := Z7 8; have z9 := Z7 9; simp only [zeroE, En.cells, List.getElem?_toArray, List.getElem?_cons_zero, List.getElem?_cons_succ] at z0 z1 z2 z3 z4 z5 z6 z7 z8 z9; clear Z7; have E7c := E7.1; have y0 := E7c.c 0; have y1 := E7c.c 1; have y2 := E7c.c 2; have y3 := E7c.c 3; have y4 := E7c.c 4; have y5 := E7c.c 5; have y6 := E7c.c 6; have y7 := E7c.c 7; have y8 := E7c.c 8; have y9 := E7c.c 9; simp only [En.cells, List.getElem?_toArray, List.getElem?_cons_zero, List.getElem?_cons_succ] at y0 y1 y2 y3 y4 y5 y6 y7 y8 y9; clear E7c E7 M7))
          generalize hwF : World.setCell _ _ _ = wF
          obtain ⟨fB, f0, f1, f2, f3, f4, f5, f6, f7, f8, f9⟩ := ten HRs7.out HBl7.out (by omega) (.string ⟨#[]⟩) (.string ⟨#[]⟩) (.int .i64 0) (.int .i64 0) (.int .i64 0) (.int .i64 0) (.int .i64 0) (.int .i64 0) (.string ⟨#[]⟩) (.string ⟨#[]⟩) wF hwF
          clear hwF
          refine bodyPost_ret (v := .tuple #[.agg #[.string ⟨#[]⟩, .string ⟨#[]⟩, .int .i64 0, .int .i64 0, .int .i64 0, .int .i64 0, .int .i64 0, .int .i64 0, .string ⟨#[]⟩, .string ⟨#[]⟩], .int .i64 90]) (by simp [results, Tryz.results79, go_sem, f0, f1, f2, f3, f4, f5, f6, f7, f8, f9]) rfl (HPP.out _ _ fB ?_)
          exact .inr (.inr (.inl ⟨HC0.out, HBN.out, .inl k1, rfl⟩))
        by_cases k2 : uid2 < 0
        · go_wp2_with (first | (go_at_call 97; refine (HTX.out _ _ HM1.out).mono ?_; rintro e w5 ⟨rfl, M5⟩; have HM5 : Hid _ := M5; have E5 := HEN.out _ _ M5; have x5 := HBX.out _ E5.2; obtain ⟨R5, A5, Z5, F5, Bl5, Rs5⟩ := x5; have ra5 := A5 0; have rb5 := A5 1; have rc5 := A5 2; have rd5 := A5 3; simp only [List.getElem?_toArray, List.getElem?_cons_zero, List.getElem?_cons_succ] at ra5 rb5 rc5 rd5; have HBl5 : Hid _ := Bl5; have HRs5 : Hid _ := Rs5; clear Bl5 Rs5 A5; clear M5 E5 Z5 F5) | (go_at_call 98; refine (HQ.out _ HM5.out).mono ?_; rintro e w6 ⟨rfl, M6⟩; have HM6 : Hid _ := M6; have E6 := HEN.out _ _ M6; have x6 := HBX.out _ E6.2; obtain ⟨R6, A6, Z6, F6, Bl6, Rs6⟩ := x6; have ra6 := A6 0; have rb6 := A6 1; have rc6 := A6 2; have rd6 := A6 3; simp only [List.getElem?_toArray, List.getElem?_cons_zero, List.getElem?_cons_succ] at ra6 rb6 rc6 rd6; have HBl6 : Hid _ := Bl6; have HRs6 : Hid _ := Rs6; clear Bl6 Rs6 A6; clear M6 E6 Z6 F6) | (go_at_call 99; refine (HST.out _ HM6.out).mono ?_; rintro e w7 ⟨rfl, M7⟩; have E7 := HEN.out _ _ M7; have x7 := HBX.out _ E7.2; obtain ⟨R7, A7, Z7, F7, Bl7, Rs7⟩ := x7; have ra7 := A7 0; have rb7 := A7 1; have rc7 := A7 2; have rd7 := A7 3; simp only [List.getElem?_toArray, List.getElem?_cons_zero, List.getElem?_cons_succ] at ra7 rb7 rc7 rd7; have HBl7 : Hid _ := Bl7; have HRs7 : Hid _ := Rs7; clear Bl7 Rs7 A7; have z0 := Z7 0; have z1 := Z7 1; have z2 := Z7 2; have z3 := Z7 3; have z4 := Z7 4; have z5 := Z7 5; have z6 := Z7 6; have z7 := Z7 7; have z8 := Z7 8; have z9 := Z7 9; simp only [zeroE, En.cells, List.getElem?_toArray, List.getElem?_cons_zero, List.getElem?_cons_succ] at z0 z1 z2 z3 z4 z5 z6 z7 z8 z9; clear Z7; have E7c := E7.1; have y0 := E7c.c 0; have y1 := E7c.c 1; have y2 := E7c.c 2; have y3 := E7c.c 3; have y4 := E7c.c 4; have y5 := E7c.c 5; have y6 := E7c.c 6; have y7 := E7c.c 7; have y8 := E7c.c 8; have y9 := E7c.c 9; simp only [En.cells, List.getElem?_toArray, List.getElem?_cons_zero, List.getElem?_cons_succ] at y0 y1 y2 y3 y4 y5 y6 y7 y8 y9; clear E7c E7 M7))
          generalize hwF : World.setCell _ _ _ = wF
          obtain ⟨fB, f0, f1, f2, f3, f4, f5, f6, f7, f8, f9⟩ := ten HRs7.out HBl7.out (by omega) (.string ⟨#[]⟩) (.string ⟨#[]⟩) (.int .i64 0) (.int .i64 0) (.int .i64 0) (.int .i64 0) (.int .i64 0) (.int .i64 0) (.string ⟨#[]⟩) (.string ⟨#[]⟩) wF hwF
          clear hwF
          refine bodyPost_ret (v := .tuple #[.agg #[.string ⟨#[]⟩, .string ⟨#[]⟩, .int .i64 0, .int .i64 0, .int .i64 0, .int .i64 0, .int .i64 0, .int .i64 0, .string ⟨#[]⟩, .string ⟨#[]⟩], .int .i64 90]) (by simp [results, Tryz.results79, go_sem, f0, f1, f2, f3, f4, f5, f6, f7, f8, f9]) rfl (HPP.out _ _ fB ?_)
          exact .inr (.inr (.inl ⟨HC0.out, HBN.out, .inr (.inl k2), rfl⟩))
        by_cases k3 : gid2 < 0
        · go_wp2_with (first | (go_at_call 97; refine (HTX.out _ _ HM1.out).mono ?_; rintro e w5 ⟨rfl, M5⟩; have HM5 : Hid _ := M5; have E5 := HEN.out _ _ M5; have x5 := HBX.out _ E5.2; obtain ⟨R5, A5, Z5, F5, Bl5, Rs5⟩ := x5; have ra5 := A5 0; have rb5 := A5 1; have rc5 := A5 2; have rd5 := A5 3; simp only [List.getElem?_toArray, List.getElem?_cons_zero, List.getElem?_cons_succ] at ra5 rb5 rc5 rd5; have HBl5 : Hid _ := Bl5; have HRs5 : Hid _ := Rs5; clear Bl5 Rs5 A5; clear M5 E5 Z5 F5) | (go_at_call 98; refine (HQ.out _ HM5.out).mono ?_; rintro e w6 ⟨rfl, M6⟩; have HM6 : Hid _ := M6; have E6 := HEN.out _ _ M6; have x6 := HBX.out _ E6.2; obtain ⟨R6, A6, Z6, F6, Bl6, Rs6⟩ := x6; have ra6 := A6 0; have rb6 := A6 1; have rc6 := A6 2; have rd6 := A6 3; simp only [List.getElem?_toArray, List.getElem?_cons_zero, List.getElem?_cons_succ] at ra6 rb6 rc6 rd6; have HBl6 : Hid _ := Bl6; have HRs6 : Hid _ := Rs6; clear Bl6 Rs6 A6; clear M6 E6 Z6 F6) | (go_at_call 99; refine (HST.out _ HM6.out).mono ?_; rintro e w7 ⟨rfl, M7⟩; have E7 := HEN.out _ _ M7; have x7 := HBX.out _ E7.2; obtain ⟨R7, A7, Z7, F7, Bl7, Rs7⟩ := x7; have ra7 := A7 0; have rb7 := A7 1; have rc7 := A7 2; have rd7 := A7 3; simp only [List.getElem?_toArray, List.getElem?_cons_zero, List.getElem?_cons_succ] at ra7 rb7 rc7 rd7; have HBl7 : Hid _ := Bl7; have HRs7 : Hid _ := Rs7; clear Bl7 Rs7 A7; have z0 := Z7 0; have z1 := Z7 1; have z2 := Z7 2; have z3 := Z7 3; have z4 := Z7 4; have z5 := Z7 5; have z6 := Z7 6; have z7 := Z7 7; have z8 := Z7 8; have z9 := Z7 9; simp only [zeroE, En.cells, List.getElem?_toArray, List.getElem?_cons_zero, List.getElem?_cons_succ] at z0 z1 z2 z3 z4 z5 z6 z7 z8 z9; clear Z7; have E7c := E7.1; have y0 := E7c.c 0; have y1 := E7c.c 1; have y2 := E7c.c 2; have y3 := E7c.c 3; have y4 := E7c.c 4; have y5 := E7c.c 5; have y6 := E7c.c 6; have y7 := E7c.c 7; have y8 := E7c.c 8; have y9 := E7c.c 9; simp only [En.cells, List.getElem?_toArray, List.getElem?_cons_zero, List.getElem?_cons_succ] at y0 y1 y2 y3 y4 y5 y6 y7 y8 y9; clear E7c E7 M7))
          generalize hwF : World.setCell _ _ _ = wF
          obtain ⟨fB, f0, f1, f2, f3, f4, f5, f6, f7, f8, f9⟩ := ten HRs7.out HBl7.out (by omega) (.string ⟨#[]⟩) (.string ⟨#[]⟩) (.int .i64 0) (.int .i64 0) (.int .i64 0) (.int .i64 0) (.int .i64 0) (.int .i64 0) (.string ⟨#[]⟩) (.string ⟨#[]⟩) wF hwF
          clear hwF
          refine bodyPost_ret (v := .tuple #[.agg #[.string ⟨#[]⟩, .string ⟨#[]⟩, .int .i64 0, .int .i64 0, .int .i64 0, .int .i64 0, .int .i64 0, .int .i64 0, .string ⟨#[]⟩, .string ⟨#[]⟩], .int .i64 90]) (by simp [results, Tryz.results79, go_sem, f0, f1, f2, f3, f4, f5, f6, f7, f8, f9]) rfl (HPP.out _ _ fB ?_)
          exact .inr (.inr (.inl ⟨HC0.out, HBN.out, .inr (.inr k3), rfl⟩))
        · go_wp2_with (first | (go_at_call 97; refine (HTX.out _ _ HM1.out).mono ?_; rintro e w5 ⟨rfl, M5⟩; have HM5 : Hid _ := M5; have E5 := HEN.out _ _ M5; have x5 := HBX.out _ E5.2; obtain ⟨R5, A5, Z5, F5, Bl5, Rs5⟩ := x5; have ra5 := A5 0; have rb5 := A5 1; have rc5 := A5 2; have rd5 := A5 3; simp only [List.getElem?_toArray, List.getElem?_cons_zero, List.getElem?_cons_succ] at ra5 rb5 rc5 rd5; have HBl5 : Hid _ := Bl5; have HRs5 : Hid _ := Rs5; clear Bl5 Rs5 A5; clear M5 E5 Z5 F5) | (go_at_call 98; refine (HQ.out _ HM5.out).mono ?_; rintro e w6 ⟨rfl, M6⟩; have HM6 : Hid _ := M6; have E6 := HEN.out _ _ M6; have x6 := HBX.out _ E6.2; obtain ⟨R6, A6, Z6, F6, Bl6, Rs6⟩ := x6; have ra6 := A6 0; have rb6 := A6 1; have rc6 := A6 2; have rd6 := A6 3; simp only [List.getElem?_toArray, List.getElem?_cons_zero, List.getElem?_cons_succ] at ra6 rb6 rc6 rd6; have HBl6 : Hid _ := Bl6; have HRs6 : Hid _ := Rs6; clear Bl6 Rs6 A6; clear M6 E6 Z6 F6) | (go_at_call 99; refine (HST.out _ HM6.out).mono ?_; rintro e w7 ⟨rfl, M7⟩; have E7 := HEN.out _ _ M7; have x7 := HBX.out _ E7.2; obtain ⟨R7, A7, Z7, F7, Bl7, Rs7⟩ := x7; have ra7 := A7 0; have rb7 := A7 1; have rc7 := A7 2; have rd7 := A7 3; simp only [List.getElem?_toArray, List.getElem?_cons_zero, List.getElem?_cons_succ] at ra7 rb7 rc7 rd7; have HBl7 : Hid _ := Bl7; have HRs7 : Hid _ := Rs7; clear Bl7 Rs7 A7; have z0 := Z7 0; have z1 := Z7 1; have z2 := Z7 2; have z3 := Z7 3; have z4 := Z7 4; have z5 := Z7 5; have z6 := Z7 6; have z7 := Z7 7; have z8 := Z7 8; have z9 := Z7 9; simp only [zeroE, En.cells, List.getElem?_toArray, List.getElem?_cons_zero, List.getElem?_cons_succ] at z0 z1 z2 z3 z4 z5 z6 z7 z8 z9; clear Z7; have E7c := E7.1; have y0 := E7c.c 0; have y1 := E7c.c 1; have y2 := E7c.c 2; have y3 := E7c.c 3; have y4 := E7c.c 4; have y5 := E7c.c 5; have y6 := E7c.c 6; have y7 := E7c.c 7; have y8 := E7c.c 8; have y9 := E7c.c 9; simp only [En.cells, List.getElem?_toArray, List.getElem?_cons_zero, List.getElem?_cons_succ] at y0 y1 y2 y3 y4 y5 y6 y7 y8 y9; clear E7c E7 M7))
          generalize hwF : World.setCell _ _ _ = wF
          obtain ⟨fB, f0, f1, f2, f3, f4, f5, f6, f7, f8, f9⟩ := ten HRs7.out HBl7.out (by omega) (.string path2) (.string link2) (.int .i64 kind2) (.int .i64 mode2) (.int .i64 uid2) (.int .i64 gid2) (.int .i64 mtime2) (.int .i64 size2) (.string user2) (.string group2) wF hwF
          clear hwF
          refine bodyPost_ret (v := .tuple #[.agg #[.string path2, .string link2, .int .i64 kind2, .int .i64 mode2, .int .i64 uid2, .int .i64 gid2, .int .i64 mtime2, .int .i64 size2, .string user2, .string group2], .int .i64 0]) (by simp [results, Tryz.results79, go_sem, f0, f1, f2, f3, f4, f5, f6, f7, f8, f9]) rfl (HPP.out _ _ fB ?_)
          exact .inr (.inr (.inr ⟨HC0.out, HBN.out, fun x => by rcases x with x | x | x <;> omega, rfl⟩))

end Go.Proofs.YtnmmaedngdibeaaGreatDoor.E

namespace Go.Proofs.YtnmmaedngdibeaaGreatDoor.E
open Go.RowKit
set_option linter.unusedVariables false
set_option linter.unusedSimpArgs false

/-- what Make is handed -/
structure Fit (h : Hd) (a : Ah) (w : World) : Prop where
  isIn : a.In w
  p : h.prefx.size ≤ 140737488355328
  n : h.name.size ≤ 140737488355328
  l : a.name.size ≤ 140737488355328
  v : ∀ k, (a.val k).size ≤ 281474976710656

def neg (h : Hd) (a : Ah) : Prop := (fullE h a).size < 0 ∨ (fullE h a).uid < 0 ∨ (fullE h a).gid < 0

theorem make_kind {h : Hd} {a : Ah} {w : World} (f : Fit h a w) (hVs : Vs w) (hk : kd h.typ = 0) :
    Calls Tryz.prog 79 #[.agg h.cells, .agg a.cells] w fun ev w' => ev = .returned (.tuple #[.agg zeroE.cells, .int .i64 80]) ∧ Below w.heap.size w w' :=
  (make_w h a w f.isIn hVs f.p f.n f.l f.v).mono fun ev w' ⟨x, b⟩ => by
    rcases x with ⟨_, x⟩ | ⟨y, _⟩ | ⟨y, _⟩ | ⟨y, _⟩
    · exact ⟨x, b⟩
    all_goals exact absurd hk y

theorem make_bad {h : Hd} {a : Ah} {w : World} (f : Fit h a w) (hVs : Vs w) (hk : ¬ kd h.typ = 0) (hb : badN h a) :
    Calls Tryz.prog 79 #[.agg h.cells, .agg a.cells] w fun ev w' => ev = .returned (.tuple #[.agg zeroE.cells, .int .i64 70]) ∧ Below w.heap.size w w' :=
  (make_w h a w f.isIn hVs f.p f.n f.l f.v).mono fun ev w' ⟨x, b⟩ => by
    rcases x with ⟨y, _⟩ | ⟨_, _, x⟩ | ⟨_, y, _⟩ | ⟨_, y, _⟩
    · exact absurd y hk
    · exact ⟨x, b⟩
    all_goals exact absurd hb y

theorem make_neg {h : Hd} {a : Ah} {w : World} (f : Fit h a w) (hVs : Vs w) (hk : ¬ kd h.typ = 0) (hb : ¬ badN h a) (hn : neg h a) :
    Calls Tryz.prog 79 #[.agg h.cells, .agg a.cells] w fun ev w' => ev = .returned (.tuple #[.agg zeroE.cells, .int .i64 90]) ∧ Below w.heap.size w w' :=
  (make_w h a w f.isIn hVs f.p f.n f.l f.v).mono fun ev w' ⟨x, b⟩ => by
    rcases x with ⟨y, _⟩ | ⟨_, y, _⟩ | ⟨_, _, _, x⟩ | ⟨_, _, y, _⟩
    · exact absurd y hk
    · exact absurd y hb
    · exact ⟨x, b⟩
    · exact absurd hn y

theorem make_ok {h : Hd} {a : Ah} {w : World} (f : Fit h a w) (hVs : Vs w) (hk : ¬ kd h.typ = 0) (hb : ¬ badN h a) (hn : ¬ neg h a) :
    Calls Tryz.prog 79 #[.agg h.cells, .agg a.cells] w fun ev w' => ev = .returned (.tuple #[.agg (fullE h a).cells, .int .i64 0]) ∧ Below w.heap.size w w' :=
  (make_w h a w f.isIn hVs f.p f.n f.l f.v).mono fun ev w' ⟨x, b⟩ => by
    rcases x with ⟨y, _⟩ | ⟨_, y, _⟩ | ⟨_, _, y, _⟩ | ⟨_, _, _, x⟩
    · exact absurd y hk
    · exact absurd y hb
    · exact absurd y hn
    · exact ⟨x, b⟩

theorem fullE_eq (h : Hd) (a : Ah) : fullE h a = settleF ⟨tx h a 0, tx h a 1, kd h.typ, bits .and .i64 h.mode 4095, (numV h a 1).getD 0, (numV h a 2).getD 0, (numV h a 3).getD 0, (numV h a 0).getD 0, tx h a 2, tx h a 3⟩ h.form := rfl

/-! ### no records -/
def noE : ByteArray := ⟨#[]⟩
def noA (name link : ByteArray) : Ah := ⟨.slice none 0 0, .slice none 0 0, fun _ => noE, fun _ => noE, 0, fun _ => noE, fun _ => noE, 0, name, link⟩
theorem noA_val (name link k : ByteArray) : (noA name link).val k = ⟨#[]⟩ := rfl
theorem emp_none : emp ⟨#[]⟩ = true := by decide +kernel
theorem noA_num (h : Hd) (name link : ByteArray) (k : Nat) : numV h (noA name link) k = some (hdN h k) := by
  unfold numV; rw [noA_val, emp_none]; rfl
theorem noA_bad (h : Hd) (name link : ByteArray) : ¬ badN h (noA name link) := fun ⟨k, _, hk⟩ => by rw [noA_num] at hk; cases hk
theorem noA_in (name link : ByteArray) (w : World) : (noA name link).In w := ⟨⟨none, 0, rfl, by show (0 : Nat) ≤ _; omega, .inl rfl⟩, ⟨none, 0, rfl, by show (0 : Nat) ≤ _; omega, .inl rfl⟩⟩
theorem noA_fit (h : Hd) (name link : ByteArray) (w : World) (h1 : h.prefx.size ≤ 140737488355328) (h2 : h.name.size ≤ 140737488355328) (h3 : name.size ≤ 140737488355328) : Fit h (noA name link) w :=
  ⟨noA_in name link w, h1, h2, h3, fun k => by rw [noA_val]; show (0 : Nat) ≤ _; omega⟩
def or2 (a b : ByteArray) : ByteArray := if emp a then b else a
theorem or3_none (b c : ByteArray) : or3 ⟨#[]⟩ b c = or2 b c := by
  unfold or3 or2; rw [emp_none]; rfl
theorem or2_none (b : ByteArray) : or2 noE b = b := by
  unfold or2 noE; rw [emp_none]; rfl
theorem noA_tx (h : Hd) (name link : ByteArray) (k : Nat) : tx h (noA name link) k = or2 (lg (noA name link) k) (hdr h k) := by
  unfold tx; rw [noA_val, or3_none]
theorem noA_full (h : Hd) (name link : ByteArray) : fullE h (noA name link) = settleF ⟨or2 name h.full, or2 link h.link, kd h.typ, bits .and .i64 h.mode 4095, h.uid, h.gid, h.mtime, h.size, h.user, h.group⟩ h.form := by
  have e2 : tx h (noA name link) 2 = h.user := (noA_tx h name link 2).trans (or2_none _)
  have e3 : tx h (noA name link) 3 = h.group := (noA_tx h name link 3).trans (or2_none _)
  rw [fullE_eq, e2, e3, noA_tx, noA_tx, noA_num, noA_num, noA_num, noA_num]
  rfl

/-! ### the head of the laws -/
end Go.Proofs.YtnmmaedngdibeaaGreatDoor.E

