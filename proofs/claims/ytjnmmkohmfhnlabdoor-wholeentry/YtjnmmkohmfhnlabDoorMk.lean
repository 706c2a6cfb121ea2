/-
  Contract: entry.Make.
-/
import Derived.Test.YtjnmmkohmfhnlabDoorNums
namespace Go.Proofs.YtjnmmkohmfhnlabDoor
open Go.RowKit
set_option linter.unusedVariables false
set_option linter.unusedSimpArgs false

def zeroE : En := ⟨⟨#[]⟩, ⟨#[]⟩, 0, 0, 0, 0, 0, 0, ⟨#[]⟩, ⟨#[]⟩⟩
def startE (k m : Int) : En := ⟨⟨#[]⟩, ⟨#[]⟩, k, m, 0, 0, 0, 0, ⟨#[]⟩, ⟨#[]⟩⟩

/-- The state of Make, but for the entry. -/
structure Mk0 (w W : World) (h : Hd) (a : Ah) : Prop where
  bel : Below w.heap.size w W
  box : Boxed W w.heap.size h a
  res : W.heap[w.heap.size + 2]? = some (.cells zeroE.cells 23 (0, 0))
/-- The state of Make. -/
structure Mk (w W : World) (e : En) (h : Hd) (a : Ah) : Prop extends Mk0 w W h a where
  ent : EntAt W (w.heap.size + 3) e

theorem Mk0.step {w W W' : World} {h : Hd} {a : Ah} (p : Mk0 w W h a) (hb : Below (w.heap.size + 3) W W') : Mk0 w W' h a :=
  ⟨p.bel.trans (hb.mono (by omega)), ⟨(hb.block _ (by omega)).trans p.box.x, (hb.block _ (by omega)).trans p.box.y⟩, (hb.block _ (by omega)).trans p.res⟩

theorem Mk.step {w W W' : World} {e e' : En} {h : Hd} {a : Ah} (p : Mk w W e h a) (hb : Below (w.heap.size + 3) W W') (he : EntAt W' (w.heap.size + 3) e') : Mk w W' e' h a :=
  ⟨p.toMk0.step hb, he⟩

theorem Mk.lt {w W : World} {e : En} {h : Hd} {a : Ah} (p : Mk w W e h a) : w.heap.size + 3 < W.heap.size := p.ent.lt

theorem Mk0.rc {w W : World} {h : Hd} {a : Ah} (p : Mk0 w W h a) (m : Nat) : W.cell? ⟨w.heap.size + 2, m, none⟩ = zeroE.cells[m]? := by simp [World.cell?, p.res]
theorem Mk0.rf {w W : World} {h : Hd} {a : Ah} (p : Mk0 w W h a) (m : Nat) : W.frozen? ⟨w.heap.size + 2, m, none⟩ = false := by simp [World.frozen?, p.res]

theorem mk_start (w : World) (h : Hd) (a : Ah) (k m : Int) : ∀ w3, ((w.alloc (.cells h.cells 25)).alloc (.cells a.cells 31)).alloc (.cells #[.string ⟨#[]⟩, .string ⟨#[]⟩, .int .i64 0, .int .i64 0, .int .i64 0, .int .i64 0, .int .i64 0, .int .i64 0, .string ⟨#[]⟩, .string ⟨#[]⟩] 23) = w3 → w3.heap.size = w.heap.size + 3 ∧ Boxed w3 w.heap.size h a ∧ Mk w (w3.alloc (.cells (startE k m).cells 23)).drew (startE k m) h a := by
  rintro w3 rfl
  have z2 : ((w.alloc (.cells h.cells 25)).alloc (.cells a.cells 31)).heap.size = w.heap.size + 2 := by simp
  have hB := boxed w h a
  have b2 : Below w.heap.size w ((w.alloc (.cells h.cells 25)).alloc (.cells a.cells 31)) := ((Below.refl _ w).alloc (Nat.le_refl _) _).alloc (by simp) _
  generalize (w.alloc (.cells h.cells 25)).alloc (.cells a.cells 31) = w2 at *
  have z3 : (w2.alloc (.cells #[.string ⟨#[]⟩, .string ⟨#[]⟩, .int .i64 0, .int .i64 0, .int .i64 0, .int .i64 0, .int .i64 0, .int .i64 0, .string ⟨#[]⟩, .string ⟨#[]⟩] 23)).heap.size = w.heap.size + 3 := by simp; omega
  have b3 := b2.alloc (by omega) (.cells #[.string ⟨#[]⟩, .string ⟨#[]⟩, .int .i64 0, .int .i64 0, .int .i64 0, .int .i64 0, .int .i64 0, .int .i64 0, .string ⟨#[]⟩, .string ⟨#[]⟩] 23)
  have hB3 := hB.grow ((Below.refl _ _).alloc (Nat.le_refl _) (.cells #[.string ⟨#[]⟩, .string ⟨#[]⟩, .int .i64 0, .int .i64 0, .int .i64 0, .int .i64 0, .int .i64 0, .int .i64 0, .string ⟨#[]⟩, .string ⟨#[]⟩] 23))
  have r3 := heap_alloc_new w2 (.cells #[.string ⟨#[]⟩, .string ⟨#[]⟩, .int .i64 0, .int .i64 0, .int .i64 0, .int .i64 0, .int .i64 0, .int .i64 0, .string ⟨#[]⟩, .string ⟨#[]⟩] 23)
  rw [z2] at r3
  generalize w2.alloc (.cells #[.string ⟨#[]⟩, .string ⟨#[]⟩, .int .i64 0, .int .i64 0, .int .i64 0, .int .i64 0, .int .i64 0, .int .i64 0, .string ⟨#[]⟩, .string ⟨#[]⟩] 23) = w3 at *
  refine ⟨z3, hB3, ⟨⟨(b3.alloc (by omega) _).drew, ?_, ?_⟩, ?_⟩⟩
  · have := hB3.grow ((Below.refl _ _).alloc (Nat.le_refl _) (.cells (startE k m).cells 23))
    exact ⟨this.x, this.y⟩
  · show (w3.alloc _).heap[_]? = _
    rw [Below.heap_alloc _ _ _ (by omega)]; exact r3
  · show (w3.alloc _).heap[_]? = _
    rw [← z3]; exact heap_alloc_new _ _

/-- what Make answers -/
def badN (h : Hd) (a : Ah) : Prop := ∃ k, k < 4 ∧ numV h a k = none
def fullE (h : Hd) (a : Ah) : En := settleF (entN h a (entK h a (startE (kd h.typ) (bits .and .i64 h.mode 4095)) 4) 4) h.form

theorem or3_size (a b c : ByteArray) (n : Nat) (ha : a.size ≤ n) (hb : b.size ≤ n) (hc : c.size ≤ n) : (or3 a b c).size ≤ n := by
  unfold or3; split
  · split <;> assumption
  · assumption

theorem st1 {W : World} {R : Nat} {cs : Array Value} {t : TypeId} {fr : Nat × Nat} (h : W.heap[R]? = some (.cells cs t fr)) (m : Nat) (v : Value) : (W.setCell ⟨R, m, none⟩ v).heap[R]? = some (.cells (cs.setIfInBounds m v) t fr) := by
  rw [setCell_eq_setRow W R m _ _ _ _ h, setRow_heap _ _ _ _ _ _ h]

theorem bset {w W : World} {R : Nat} (hb : Below w.heap.size w W) (hR : w.heap.size ≤ R) (m : Nat) (v : Value) : Below w.heap.size w (W.setCell ⟨R, m, none⟩ v) := hb.setCell (p := ⟨R, m, none⟩) hR v

theorem ten {w W : World} {R : Nat} (h : W.heap[R]? = some (.cells zeroE.cells 23 (0, 0))) (hb : Below w.heap.size w W) (hR : w.heap.size ≤ R) (v0 v1 v2 v3 v4 v5 v6 v7 v8 v9 : Value) :
    ∀ W', ((((((((((W.setCell ⟨R, 0, none⟩ v0).setCell ⟨R, 1, none⟩ v1).setCell ⟨R, 2, none⟩ v2).setCell ⟨R, 3, none⟩ v3).setCell ⟨R, 4, none⟩ v4).setCell ⟨R, 5, none⟩ v5).setCell ⟨R, 6, none⟩ v6).setCell ⟨R, 7, none⟩ v7).setCell ⟨R, 8, none⟩ v8).setCell ⟨R, 9, none⟩ v9) = W' →
      Below w.heap.size w W' ∧ W'.cell? ⟨R, 0, none⟩ = some v0 ∧ W'.cell? ⟨R, 1, none⟩ = some v1 ∧ W'.cell? ⟨R, 2, none⟩ = some v2 ∧ W'.cell? ⟨R, 3, none⟩ = some v3 ∧ W'.cell? ⟨R, 4, none⟩ = some v4 ∧ W'.cell? ⟨R, 5, none⟩ = some v5 ∧ W'.cell? ⟨R, 6, none⟩ = some v6 ∧ W'.cell? ⟨R, 7, none⟩ = some v7 ∧ W'.cell? ⟨R, 8, none⟩ = some v8 ∧ W'.cell? ⟨R, 9, none⟩ = some v9 := by
  intro W' e
  have hh : W'.heap[R]? = some (.cells #[v0, v1, v2, v3, v4, v5, v6, v7, v8, v9] 23 (0, 0)) := by
    rw [← e]
    exact (st1 (st1 (st1 (st1 (st1 (st1 (st1 (st1 (st1 (st1 h 0 v0) 1 v1) 2 v2) 3 v3) 4 v4) 5 v5) 6 v6) 7 v7) 8 v8) 9 v9).trans (by simp [zeroE, En.cells])
  have hB : Below w.heap.size w W' := by
    rw [← e]
    exact (bset (bset (bset (bset (bset (bset (bset (bset (bset (bset hb hR 0 v0) hR 1 v1) hR 2 v2) hR 3 v3) hR 4 v4) hR 5 v5) hR 6 v6) hR 7 v7) hR 8 v8) hR 9 v9)
  have key : ∀ j, W'.cell? ⟨R, j, none⟩ = (#[v0, v1, v2, v3, v4, v5, v6, v7, v8, v9] : Array Value)[j]? := fun j => by simp [World.cell?, hh]
  exact ⟨hB, key 0, key 1, key 2, key 3, key 4, key 5, key 6, key 7, key 8, key 9⟩

set_option maxHeartbeats 4000000 in
theorem make_w (h : Hd) (a : Ah) (w : World) (hI : a.In w) (hVs : Vs w) (h1 : h.prefx.size ≤ 140737488355328) (h2 : h.name.size ≤ 140737488355328) (h3 : a.name.size ≤ 140737488355328) (hsz : ∀ k, (a.val k).size ≤ 281474976710656) :
    Calls Tryd.prog 4 #[.agg h.cells, .agg a.cells] w fun ev w' => ((kd h.typ = 0 ∧ ev = .returned (.tuple #[.agg zeroE.cells, .int .i64 80])) ∨ (kd h.typ ≠ 0 ∧ badN h a ∧ ev = .returned (.tuple #[.agg zeroE.cells, .int .i64 70])) ∨ (kd h.typ ≠ 0 ∧ ¬ badN h a ∧ ((fullE h a).size < 0 ∨ (fullE h a).uid < 0 ∨ (fullE h a).gid < 0) ∧ ev = .returned (.tuple #[.agg zeroE.cells, .int .i64 90])) ∨ (kd h.typ ≠ 0 ∧ ¬ badN h a ∧ ¬ ((fullE h a).size < 0 ∨ (fullE h a).uid < 0 ∨ (fullE h a).gid < 0) ∧ ev = .returned (.tuple #[.agg (fullE h a).cells, .int .i64 0]))) ∧ Below w.heap.size w w' := by
  generalize hPP : (fun (ev : Ending) (w' : World) => ((kd h.typ = 0 ∧ ev = .returned (.tuple #[.agg zeroE.cells, .int .i64 80])) ∨ (kd h.typ ≠ 0 ∧ badN h a ∧ ev = .returned (.tuple #[.agg zeroE.cells, .int .i64 70])) ∨ (kd h.typ ≠ 0 ∧ ¬ badN h a ∧ ((fullE h a).size < 0 ∨ (fullE h a).uid < 0 ∨ (fullE h a).gid < 0) ∧ ev = .returned (.tuple #[.agg zeroE.cells, .int .i64 90])) ∨ (kd h.typ ≠ 0 ∧ ¬ badN h a ∧ ¬ ((fullE h a).size < 0 ∨ (fullE h a).uid < 0 ∨ (fullE h a).gid < 0) ∧ ev = .returned (.tuple #[.agg (fullE h a).cells, .int .i64 0]))) ∧ Below w.heap.size w w') = PP
  have HPP : Hid (∀ (ev : Ending) (w' : World), Below w.heap.size w w' → ((kd h.typ = 0 ∧ ev = .returned (.tuple #[.agg zeroE.cells, .int .i64 80])) ∨ (kd h.typ ≠ 0 ∧ badN h a ∧ ev = .returned (.tuple #[.agg zeroE.cells, .int .i64 70])) ∨ (kd h.typ ≠ 0 ∧ ¬ badN h a ∧ ((fullE h a).size < 0 ∨ (fullE h a).uid < 0 ∨ (fullE h a).gid < 0) ∧ ev = .returned (.tuple #[.agg zeroE.cells, .int .i64 90])) ∨ (kd h.typ ≠ 0 ∧ ¬ badN h a ∧ ¬ ((fullE h a).size < 0 ∨ (fullE h a).uid < 0 ∨ (fullE h a).gid < 0) ∧ ev = .returned (.tuple #[.agg (fullE h a).cells, .int .i64 0]))) → PP ev w') := fun ev w' x y => by rw [← hPP]; exact ⟨y, x⟩
  clear hPP
  have HM : Hid (∀ w3, ((w.alloc (.cells h.cells 25)).alloc (.cells a.cells 31)).alloc (.cells #[.string ⟨#[]⟩, .string ⟨#[]⟩, .int .i64 0, .int .i64 0, .int .i64 0, .int .i64 0, .int .i64 0, .int .i64 0, .string ⟨#[]⟩, .string ⟨#[]⟩] 23) = w3 → w3.heap.size = w.heap.size + 3 ∧ Boxed w3 w.heap.size h a ∧ Mk w (w3.alloc (.cells (startE (kd h.typ) (bits .and .i64 h.mode 4095)).cells 23)).drew (startE (kd h.typ) (bits .and .i64 h.mode 4095)) h a) := mk_start w h a _ _
  have qk := fun W => kind_w h.typ W
  have HTX : Hid (∀ W e1, Mk w W e1 h a → Calls Tryd.prog 8 #[.pointer (some ⟨w.heap.size + 3, 0, none⟩), .agg h.cells, .agg a.cells] W fun ev w' => ev = .returned (.tuple #[]) ∧ Mk w w' (entK h a e1 4) h a) := fun W e1 p => (texts_w (w.heap.size + 3) e1 h a w W p.ent hI (by omega) p.bel h1 h2).mono fun ev w' ⟨x, y, z⟩ => ⟨x, p.step z y⟩
  have HNU : Hid (∀ W e1, Mk w W e1 h a → Calls Tryd.prog 9 #[.pointer (some ⟨w.heap.size + 3, 0, none⟩), .agg h.cells, .agg a.cells] W fun ev w' => (ev = .returned (.int .i64 0) ∧ ¬ badN h a ∧ Mk w w' (entN h a e1 4) h a) ∨ (ev = .returned (.int .i64 70) ∧ badN h a ∧ Mk0 w w' h a)) := fun W e1 p => (numbers_w (w.heap.size + 3) e1 h a w W p.ent hI hVs (by omega) p.bel hsz).mono fun ev w' ⟨z, x⟩ => by
    rcases x with ⟨x1, x2, x3⟩ | ⟨x1, x2⟩
    · exact .inl ⟨x1, fun ⟨k, hk, hb⟩ => x2 k hk hb, p.step z x3⟩
    · exact .inr ⟨x1, x2, p.toMk0.step z⟩
  have HST : Hid (∀ W, Mk w W (entN h a (entK h a (startE (kd h.typ) (bits .and .i64 h.mode 4095)) 4) 4) h a → Calls Tryd.prog 10 #[.pointer (some ⟨w.heap.size + 3, 0, none⟩), .int .i64 h.form] W fun ev w' => ev = .returned (.tuple #[]) ∧ Mk w w' (fullE h a) h a) := fun W p => (settle_w (w.heap.size + 3) _ h.form W p.ent (by
      show (tx h a 0).size ≤ _
      have hf : h.full.size ≤ 281474976710657 := by
        unfold Hd.full; split
        · omega
        · rw [ByteArray.size_append, ByteArray.size_append]; show h.prefx.size + 1 + h.name.size ≤ _; omega
      exact Nat.le_trans (or3_size _ _ _ 281474976710657 (by have := hsz (ky 0); omega) (by show a.name.size ≤ _; omega) hf) (by omega))).mono fun ev w' ⟨x, y, z⟩ => ⟨x, p.step z y⟩
  clear hI hVs hsz h1 h2 h3
  generalize hEK : entK h a = EK at *
  generalize hEN : entN h a = EN at *
  generalize hFE : fullE h a = FE at *
  generalize hBN : badN h a = BN at *
  clear hEK hEN hFE hBN
  generalize hMK : (fun W e1 => Mk w W e1 h a) = MK
  generalize hMK0 : (fun W => Mk0 w W h a) = MK0
  replace HTX : Hid (∀ W e1, MK W e1 → Calls Tryd.prog 8 #[.pointer (some ⟨w.heap.size + 3, 0, none⟩), .agg h.cells, .agg a.cells] W fun ev w' => ev = .returned (.tuple #[]) ∧ MK w' (EK e1 4)) := by subst hMK; exact HTX
  replace HNU : Hid (∀ W e1, MK W e1 → Calls Tryd.prog 9 #[.pointer (some ⟨w.heap.size + 3, 0, none⟩), .agg h.cells, .agg a.cells] W fun ev w' => (ev = .returned (.int .i64 0) ∧ ¬ BN ∧ MK w' (EN e1 4)) ∨ (ev = .returned (.int .i64 70) ∧ BN ∧ MK0 w')) := by subst hMK; subst hMK0; exact HNU
  replace HST : Hid (∀ W, MK W (EN (EK (startE (kd h.typ) (bits .and .i64 h.mode 4095)) 4) 4) → Calls Tryd.prog 10 #[.pointer (some ⟨w.heap.size + 3, 0, none⟩), .int .i64 h.form] W fun ev w' => ev = .returned (.tuple #[]) ∧ MK w' FE) := by subst hMK; exact HST
  have HEN : Hid (∀ W e1, MK W e1 → EntAt W (w.heap.size + 3) e1 ∧ MK0 W) := fun W e1 p => by subst hMK; subst hMK0; exact ⟨p.ent, p.toMk0⟩
  have HBX : Hid (∀ W, MK0 W → Rd w.heap.size h a W ∧ (∀ m, W.cell? ⟨w.heap.size + 1, m, none⟩ = a.cells[m]?) ∧ (∀ m, W.cell? ⟨w.heap.size + 2, m, none⟩ = zeroE.cells[m]?) ∧ (∀ m, W.frozen? ⟨w.heap.size + 2, m, none⟩ = false) ∧ Below w.heap.size w W ∧ W.heap[w.heap.size + 1 + 1]? = some (.cells zeroE.cells 23 (0, 0))) := fun W p => by subst hMK0; exact ⟨p.box.rd, p.box.ac, p.rc, p.rf, p.bel, p.res⟩
  replace HM : Hid (∀ w3, ((w.alloc (.cells h.cells 25)).alloc (.cells a.cells 31)).alloc (.cells #[.string ⟨#[]⟩, .string ⟨#[]⟩, .int .i64 0, .int .i64 0, .int .i64 0, .int .i64 0, .int .i64 0, .int .i64 0, .string ⟨#[]⟩, .string ⟨#[]⟩] 23) = w3 → w3.heap.size = w.heap.size + 3 ∧ Boxed w3 w.heap.size h a ∧ MK (w3.alloc (.cells (startE (kd h.typ) (bits .and .i64 h.mode 4095)).cells 23)).drew (startE (kd h.typ) (bits .and .i64 h.mode 4095))) := by subst hMK; exact HM
  clear hMK hMK0
  obtain ⟨form, name, link, prefx, user, group, typ, mode, uid, gid, size, mtime⟩ := h
  obtain ⟨gv, lv, gK, gV, gn, lK, lV, ln, aname, alink⟩ := a
  simp only [Hd.cells, Ah.cells, Rd] at HM qk HTX HNU HST HBX ⊢
  generalize kd typ = kk at *
  generalize hSE : startE kk (bits .and .i64 mode 4095) = SE at *
  have HSE : Hid (SE.cells = #[.string ⟨#[]⟩, .string ⟨#[]⟩, .int .i64 kk, .int .i64 (bits .and .i64 mode 4095), .int .i64 0, .int .i64 0, .int .i64 0, .int .i64 0, .string ⟨#[]⟩, .string ⟨#[]⟩]) := by subst hSE; rfl
  clear hSE
  rw [HSE.out] at HM
  go_enter Tryd.func4, Tryd.ntmps4
  go_upto_region 1 with fail
  generalize hw3 : ((w.alloc _).alloc _).alloc _ = w3 at *
  obtain ⟨z3, hB3, M4⟩ := HM.out w3 rfl
  clear hw3 HM
  have HMk : Hid _ := M4
  obtain ⟨-, -, -, -, -, -, r6, r7, -, -, -, -, -, -⟩ := hB3.rd
  simp only at r6 r7
  have hs3 := And.intro r6 r7
  clear M4 hB3
  go_cut [6] (fun s6 wx => s6 = .pointer (some ⟨w.heap.size + 3, 0, none⟩) ∧ Hid (MK wx SE))
  case first =>
    go_region_held3 (fun W => W.cell? ⟨w.heap.size, 6, none⟩ = some (.int .u8 typ) ∧ W.cell? ⟨w.heap.size, 7, none⟩ = some (.int .i64 mode)) (first | assumption | go_keep) (first | (go_at_call 7; refine (qk _).mono ?_; rintro e w8 ⟨rfl, hw8⟩; subst hw8))
    all_goals go_wp2_with fail
    all_goals go_meet
    all_goals exact ⟨rfl, HMk⟩
  case rest =>
    obtain ⟨rfl, HM1⟩ := hcut
    clear HMk r6 r7 hs3 z3
    obtain ⟨E1, B1⟩ := HEN.out _ _ HM1.out
    have c2 := E1.c 2
    rw [HSE.out] at c2
    replace c2 : wc.cell? ⟨w.heap.size + 3, 2, none⟩ = some (.int .i64 kk) := c2
    have x1 := HBX.out _ B1
    obtain ⟨R1, A1, Z1, F1, Bl1, Rs1⟩ := x1
    have ra1 := A1 0
    have rb1 := A1 1
    have rc1 := A1 2
    have rd1 := A1 3
    simp only [List.getElem?_toArray, List.getElem?_cons_zero, List.getElem?_cons_succ] at ra1 rb1 rc1 rd1
    have HBl1 : Hid _ := Bl1
    have HRs1 : Hid _ := Rs1
    clear Bl1 Rs1 A1
    by_cases c0 : kk = 0
    · subst c0
      have z0 := Z1 0
      have z1 := Z1 1
      have z2 := Z1 2
      have z3 := Z1 3
      have z4 := Z1 4
      have z5 := Z1 5
      have z6 := Z1 6
      have z7 := Z1 7
      have z8 := Z1 8
      have z9 := Z1 9
      simp only [zeroE, En.cells, List.getElem?_toArray, List.getElem?_cons_zero, List.getElem?_cons_succ] at z0 z1 z2 z3 z4 z5 z6 z7 z8 z9
      clear Z1
      clear R1 E1 B1
      go_wp2
      generalize hwF : World.setCell _ _ _ = wF
      obtain ⟨fB, f0, f1, f2, f3, f4, f5, f6, f7, f8, f9⟩ := ten HRs1.out HBl1.out (by omega) (.string ⟨#[]⟩) (.string ⟨#[]⟩) (.int .i64 0) (.int .i64 0) (.int .i64 0) (.int .i64 0) (.int .i64 0) (.int .i64 0) (.string ⟨#[]⟩) (.string ⟨#[]⟩) wF hwF
      clear hwF
      refine bodyPost_ret (v := .tuple #[.agg #[.string ⟨#[]⟩, .string ⟨#[]⟩, .int .i64 0, .int .i64 0, .int .i64 0, .int .i64 0, .int .i64 0, .int .i64 0, .string ⟨#[]⟩, .string ⟨#[]⟩], .int .i64 80]) (by simp [results, Tryd.results4, go_sem, f0, f1, f2, f3, f4, f5, f6, f7, f8, f9]) rfl (HPP.out _ _ fB ?_)
      exact .inl ⟨by first | rfl | trivial, rfl⟩
    · have c0' : (kk == 0) = false := by simpa using c0
      have HC0 : Hid (¬ kk = 0) := c0
      clear Z1 F1 E1 B1 c0
      by_cases hBN : BN
      · have HQ : Hid (∀ W, MK W (EK SE 4) → Calls Tryd.prog 9 #[.pointer (some ⟨w.heap.size + 3, 0, none⟩), .agg #[.int .i64 form, .string name, .string link, .string prefx, .string user, .string group, .int .u8 typ, .int .i64 mode, .int .i64 uid, .int .i64 gid, .int .i64 size, .int .i64 mtime], .agg #[gv, lv, .string aname, .string alink]] W fun ev w' => ev = .returned (.int .i64 70) ∧ MK0 w') := fun W p => (HNU.out W _ p).mono fun ev w' x => by
          rcases x with ⟨_, x, _⟩ | ⟨x, _, y⟩
          · exact absurd hBN x
          · exact ⟨x, y⟩
        have HBN : Hid BN := hBN
        clear hBN
        go_wp2_with (first | (go_at_call 8; refine (HTX.out _ _ HM1.out).mono ?_; rintro e w5 ⟨rfl, M5⟩; have HM5 : Hid _ := M5; have E5 := HEN.out _ _ M5; have x5 := HBX.out _ E5.2; obtain ⟨R5, A5, Z5, F5, Bl5, Rs5⟩ := x5; have ra5 := A5 0; have rb5 := A5 1; have rc5 := A5 2; have rd5 := A5 3; simp only [List.getElem?_toArray, List.getElem?_cons_zero, List.getElem?_cons_succ] at ra5 rb5 rc5 rd5; have HBl5 : Hid _ := Bl5; have HRs5 : Hid _ := Rs5; clear Bl5 Rs5 A5; clear M5 E5 Z5 F5) | (go_at_call 9; refine (HQ.out _ HM5.out).mono ?_; rintro e w6 ⟨rfl, M6⟩; have x6 := HBX.out _ M6; obtain ⟨R6, A6, Z6, F6, Bl6, Rs6⟩ := x6; have ra6 := A6 0; have rb6 := A6 1; have rc6 := A6 2; have rd6 := A6 3; simp only [List.getElem?_toArray, List.getElem?_cons_zero, List.getElem?_cons_succ] at ra6 rb6 rc6 rd6; have HBl6 : Hid _ := Bl6; have HRs6 : Hid _ := Rs6; clear Bl6 Rs6 A6; have z0 := Z6 0; have z1 := Z6 1; have z2 := Z6 2; have z3 := Z6 3; have z4 := Z6 4; have z5 := Z6 5; have z6 := Z6 6; have z7 := Z6 7; have z8 := Z6 8; have z9 := Z6 9; simp only [zeroE, En.cells, List.getElem?_toArray, List.getElem?_cons_zero, List.getElem?_cons_succ] at z0 z1 z2 z3 z4 z5 z6 z7 z8 z9; clear Z6))
        generalize hwF : World.setCell _ _ _ = wF
        obtain ⟨fB, f0, f1, f2, f3, f4, f5, f6, f7, f8, f9⟩ := ten HRs6.out HBl6.out (by omega) (.string ⟨#[]⟩) (.string ⟨#[]⟩) (.int .i64 0) (.int .i64 0) (.int .i64 0) (.int .i64 0) (.int .i64 0) (.int .i64 0) (.string ⟨#[]⟩) (.string ⟨#[]⟩) wF hwF
        clear hwF
        refine bodyPost_ret (v := .tuple #[.agg #[.string ⟨#[]⟩, .string ⟨#[]⟩, .int .i64 0, .int .i64 0, .int .i64 0, .int .i64 0, .int .i64 0, .int .i64 0, .string ⟨#[]⟩, .string ⟨#[]⟩], .int .i64 70]) (by simp [results, Tryd.results4, go_sem, f0, f1, f2, f3, f4, f5, f6, f7, f8, f9]) rfl (HPP.out _ _ fB ?_)
        exact .inr (.inl ⟨HC0.out, HBN.out, rfl⟩)
      · have HQ : Hid (∀ W, MK W (EK SE 4) → Calls Tryd.prog 9 #[.pointer (some ⟨w.heap.size + 3, 0, none⟩), .agg #[.int .i64 form, .string name, .string link, .string prefx, .string user, .string group, .int .u8 typ, .int .i64 mode, .int .i64 uid, .int .i64 gid, .int .i64 size, .int .i64 mtime], .agg #[gv, lv, .string aname, .string alink]] W fun ev w' => ev = .returned (.int .i64 0) ∧ MK w' (EN (EK SE 4) 4)) := fun W p => (HNU.out W _ p).mono fun ev w' x => by
          rcases x with ⟨x, _, y⟩ | ⟨_, x, _⟩
          · exact ⟨x, y⟩
          · exact absurd x hBN
        have HBN : Hid (¬ BN) := hBN
        clear hBN
        obtain ⟨path2, link2, kind2, mode2, uid2, gid2, mtime2, size2, user2, group2⟩ := FE
        by_cases k1 : size2 < 0
        · go_wp2_with (first | (go_at_call 8; refine (HTX.out _ _ HM1.out).mono ?_; rintro e w5 ⟨rfl, M5⟩; have HM5 : Hid _ := M5; have E5 := HEN.out _ _ M5; have x5 := HBX.out _ E5.2; obtain ⟨R5, A5, Z5, F5, Bl5, Rs5⟩ := x5; have ra5 := A5 0; have rb5 := A5 1; have rc5 := A5 2; have rd5 := A5 3; simp only [List.getElem?_toArray, List.getElem?_cons_zero, List.getElem?_cons_succ] at ra5 rb5 rc5 rd5; have HBl5 : Hid _ := Bl5; have HRs5 : Hid _ := Rs5; clear Bl5 Rs5 A5; clear M5 E5 Z5 F5) | (go_at_call 9; refine (HQ.out _ HM5.out).mono ?_; rintro e w6 ⟨rfl, M6⟩; have HM6 : Hid _ := M6; have E6 := HEN.out _ _ M6; have x6 := HBX.out _ E6.2; obtain ⟨R6, A6, Z6, F6, Bl6, Rs6⟩ := x6; have ra6 := A6 0; have rb6 := A6 1; have rc6 := A6 2; have rd6 := A6 3; simp only [List.getElem?_toArray, List.getElem?_cons_zero, List.getElem?_cons_succ] at ra6 rb6 rc6 rd6; have HBl6 : Hid _ := Bl6; have HRs6 : Hid _ := Rs6; clear Bl6 Rs6 A6; clear M6 E6 Z6 F6) | (go_at_call 10; refine (HST.out _ HM6.out).mono ?_; rintro e w7 ⟨rfl, M7⟩; have E7 := HEN.out _ _ M7; have x7 := HBX.out _ E7.2; obtain ⟨R7, A7, Z7, F7, Bl7, Rs7⟩ := x7; have ra7 := A7 0; have rb7 := A7 1; have rc7 := A7 2; have rd7 := A7 3; simp only [List.getElem?_toArray, List.getElem?_cons_zero, List.getElem?_cons_succ] at ra7 rb7 rc7 rd7; have HBl7 : Hid _ := Bl7; have HRs7 : Hid _ := Rs7; clear Bl7 Rs7 A7; have z0 := Z7 0; have z1 := Z7 1; have z2 := Z7 2; have z3 := Z7 3; have z4 := Z7 4; have z5 := Z7 5; have z6 := Z7 6; have z7 := Z7 7; have z8 := Z7 8; have z9 := Z7 9; simp only [zeroE, En.cells, List.getElem?_toArray, List.getElem?_cons_zero, List.getElem?_cons_succ] at z0 z1 z2 z3 z4 z5 z6 z7 z8 z9; clear Z7; have E7c := E7.1; have y0 := E7c.c 0; have y1 := E7c.c 1; have y2 := E7c.c 2; have y3 := E7c.c 3; have y4 := E7c.c 4; have y5 := E7c.c 5; have y6 := E7c.c 6; have y7 := E7c.c 7; have y8 := E7c.c 8; have y9 := E7c.c 9; simp only [En.cells, List.getElem?_toArray, List.getElem?_cons_zero, List.getElem?_cons_succ] at y0 y1 y2 y3 y4 y5 y6 y7 y8 y9; clear E7c E7 M7))
          generalize hwF : World.setCell _ _ _ = wF
          obtain ⟨fB, f0, f1, f2, f3, f4, f5, f6, f7, f8, f9⟩ := ten HRs7.out HBl7.out (by omega) (.string ⟨#[]⟩) (.string ⟨#[]⟩) (.int .i64 0) (.int .i64 0) (.int .i64 0) (.int .i64 0) (.int .i64 0) (.int .i64 0) (.string ⟨#[]⟩) (.string ⟨#[]⟩) wF hwF
          clear hwF
          refine bodyPost_ret (v := .tuple #[.agg #[.string ⟨#[]⟩, .string ⟨#[]⟩, .int .i64 0, .int .i64 0, .int .i64 0, .int .i64 0, .int .i64 0, .int .i64 0, .string ⟨#[]⟩, .string ⟨#[]⟩], .int .i64 90]) (by simp [results, Tryd.results4, go_sem, f0, f1, f2, f3, f4, f5, f6, f7, f8, f9]) rfl (HPP.out _ _ fB ?_)
          exact .inr (.inr (.inl ⟨HC0.out, HBN.out, .inl k1, rfl⟩))
        by_cases k2 : uid2 < 0
        · go_wp2_with (first | (go_at_call 8; refine (HTX.out _ _ HM1.out).mono ?_; rintro e w5 ⟨rfl, M5⟩; have HM5 : Hid _ := M5; have E5 := HEN.out _ _ M5; have x5 := HBX.out _ E5.2; obtain ⟨R5, A5, Z5, F5, Bl5, Rs5⟩ := x5; have ra5 := A5 0; have rb5 := A5 1; have rc5 := A5 2; have rd5 := A5 3; simp only [List.getElem?_toArray, List.getElem?_cons_zero, List.getElem?_cons_succ] at ra5 rb5 rc5 rd5; have HBl5 : Hid _ := Bl5; have HRs5 : Hid _ := Rs5; clear Bl5 Rs5 A5; clear M5 E5 Z5 F5) | (go_at_call 9; refine (HQ.out _ HM5.out).mono ?_; rintro e w6 ⟨rfl, M6⟩; have HM6 : Hid _ := M6; have E6 := HEN.out _ _ M6; have x6 := HBX.out _ E6.2; obtain ⟨R6, A6, Z6, F6, Bl6, Rs6⟩ := x6; have ra6 := A6 0; have rb6 := A6 1; have rc6 := A6 2; have rd6 := A6 3; simp only [List.getElem?_toArray, List.getElem?_cons_zero, List.getElem?_cons_succ] at ra6 rb6 rc6 rd6; have HBl6 : Hid _ := Bl6; have HRs6 : Hid _ := Rs6; clear Bl6 Rs6 A6; clear M6 E6 Z6 F6) | (go_at_call 10; refine (HST.out _ HM6.out).mono ?_; rintro e w7 ⟨rfl, M7⟩; have E7 := HEN.out _ _ M7; have x7 := HBX.out _ E7.2; obtain ⟨R7, A7, Z7, F7, Bl7, Rs7⟩ := x7; have ra7 := A7 0; have rb7 := A7 1; have rc7 := A7 2; have rd7 := A7 3; simp only [List.getElem?_toArray, List.getElem?_cons_zero, List.getElem?_cons_succ] at ra7 rb7 rc7 rd7; have HBl7 : Hid _ := Bl7; have HRs7 : Hid _ := Rs7; clear Bl7 Rs7 A7; have z0 := Z7 0; have z1 := Z7 1; have z2 := Z7 2; have z3 := Z7 3; have z4 := Z7 4; have z5 := Z7 5; have z6 := Z7 6; have z7 := Z7 7; have z8 := Z7 8; have z9 := Z7 9; simp only [zeroE, En.cells, List.getElem?_toArray, List.getElem?_cons_zero, List.getElem?_cons_succ] at z0 z1 z2 z3 z4 z5 z6 z7 z8 z9; clear Z7; have E7c := E7.1; have y0 := E7c.c 0; have y1 := E7c.c 1; have y2 := E7c.c 2; have y3 := E7c.c 3; have y4 := E7c.c 4; have y5 := E7c.c 5; have y6 := E7c.c 6; have y7 := E7c.c 7; have y8 := E7c.c 8; have y9 := E7c.c 9; simp only [En.cells, List.getElem?_toArray, List.getElem?_cons_zero, List.getElem?_cons_succ] at y0 y1 y2 y3 y4 y5 y6 y7 y8 y9; clear E7c E7 M7))
          generalize hwF : World.setCell _ _ _ = wF
          obtain ⟨fB, f0, f1, f2, f3, f4, f5, f6, f7, f8, f9⟩ := ten HRs7.out HBl7.out (by omega) (.string ⟨#[]⟩) (.string ⟨#[]⟩) (.int .i64 0) (.int .i64 0) (.int .i64 0) (.int .i64 0) (.int .i64 0) (.int .i64 0) (.string ⟨#[]⟩) (.string ⟨#[]⟩) wF hwF
          clear hwF
          refine bodyPost_ret (v := .tuple #[.agg #[.string ⟨#[]⟩, .string ⟨#[]⟩, .int .i64 0, .int .i64 0, .int .i64 0, .int .i64 0, .int .i64 0, .int .i64 0, .string ⟨#[]⟩, .string ⟨#[]⟩], .int .i64 90]) (by simp [results, Tryd.results4, go_sem, f0, f1, f2, f3, f4, f5, f6, f7, f8, f9]) rfl (HPP.out _ _ fB ?_)
          exact .inr (.inr (.inl ⟨HC0.out, HBN.out, .inr (.inl k2), rfl⟩))
        by_cases k3 : gid2 < 0
        · go_wp2_with (first | (go_at_call 8; refine (HTX.out _ _ HM1.out).mono ?_; rintro e w5 ⟨rfl, M5⟩; have HM5 : Hid _ := M5; have E5 := HEN.out _ _ M5; have x5 := HBX.out _ E5.2; obtain ⟨R5, A5, Z5, F5, Bl5, Rs5⟩ := x5; have ra5 := A5 0; have rb5 := A5 1; have rc5 := A5 2; have rd5 := A5 3; simp only [List.getElem?_toArray, List.getElem?_cons_zero, List.getElem?_cons_succ] at ra5 rb5 rc5 rd5; have HBl5 : Hid _ := Bl5; have HRs5 : Hid _ := Rs5; clear Bl5 Rs5 A5; clear M5 E5 Z5 F5) | (go_at_call 9; refine (HQ.out _ HM5.out).mono ?_; rintro e w6 ⟨rfl, M6⟩; have HM6 : Hid _ := M6; have E6 := HEN.out _ _ M6; have x6 := HBX.out _ E6.2; obtain ⟨R6, A6, Z6, F6, Bl6, Rs6⟩ := x6; have ra6 := A6 0; have rb6 := A6 1; have rc6 := A6 2; have rd6 := A6 3; simp only [List.getElem?_toArray, List.getElem?_cons_zero, List.getElem?_cons_succ] at ra6 rb6 rc6 rd6; have HBl6 : Hid _ := Bl6; have HRs6 : Hid _ := Rs6; clear Bl6 Rs6 A6; clear M6 E6 Z6 F6) | (go_at_call 10; refine (HST.out _ HM6.out).mono ?_; rintro e w7 ⟨rfl, M7⟩; have E7 := HEN.out _ _ M7; have x7 := HBX.out _ E7.2; obtain ⟨R7, A7, Z7, F7, Bl7, Rs7⟩ := x7; have ra7 := A7 0; have rb7 := A7 1; have rc7 := A7 2; have rd7 := A7 3; simp only [List.getElem?_toArray, List.getElem?_cons_zero, List.getElem?_cons_succ] at ra7 rb7 rc7 rd7; have HBl7 : Hid _ := Bl7; have HRs7 : Hid _ := Rs7; clear Bl7 Rs7 A7; have z0 := Z7 0; have z1 := Z7 1; have z2 := Z7 2; have z3 := Z7 3; have z4 := Z7 4; have z5 := Z7 5; have z6 := Z7 6; have z7 := Z7 7; have z8 := Z7 8; have z9 := Z7 9; simp only [zeroE, En.cells, List.getElem?_toArray, List.getElem?_cons_zero, List.getElem?_cons_succ] at z0 z1 z2 z3 z4 z5 z6 z7 z8 z9; clear Z7; have E7c := E7.1; have y0 := E7c.c 0; have y1 := E7c.c 1; have y2 := E7c.c 2; have y3 := E7c.c 3; have y4 := E7c.c 4; have y5 := E7c.c 5; have y6 := E7c.c 6; have y7 := E7c.c 7; have y8 := E7c.c 8; have y9 := E7c.c 9; simp only [En.cells, List.getElem?_toArray, List.getElem?_cons_zero, List.getElem?_cons_succ] at y0 y1 y2 y3 y4 y5 y6 y7 y8 y9; clear E7c E7 M7))
          generalize hwF : World.setCell _ _ _ = wF
          obtain ⟨fB, f0, f1, f2, f3, f4, f5, f6, f7, f8, f9⟩ := ten HRs7.out HBl7.out (by omega) (.string ⟨#[]⟩) (.string ⟨#[]⟩) (.int .i64 0) (.int .i64 0) (.int .i64 0) (.int .i64 0) (.int .i64 0) (.int .i64 0) (.string ⟨#[]⟩) (.string ⟨#[]⟩) wF hwF
          clear hwF
          refine bodyPost_ret (v := .tuple #[.agg #[.string ⟨#[]⟩, .string ⟨#[]⟩, .int .i64 0, .int .i64 0, .int .i64 0, .int .i64 0, .int .i64 0, .int .i64 0, .string ⟨#[]⟩, .string ⟨#[]⟩], .int .i64 90]) (by simp [results, Tryd.results4, go_sem, f0, f1, f2, f3, f4, f5, f6, f7, f8, f9]) rfl (HPP.out _ _ fB ?_)
          exact .inr (.inr (.inl ⟨HC0.out, HBN.out, .inr (.inr k3), rfl⟩))
        · go_wp2_with (first | (go_at_call 8; refine (HTX.out _ _ HM1.out).mono ?_; rintro e w5 ⟨rfl, M5⟩; have HM5 : Hid _ := M5; have E5 := HEN.out _ _ M5; have x5 := HBX.out _ E5.2; obtain ⟨R5, A5, Z5, F5, Bl5, Rs5⟩ := x5; have ra5 := A5 0; have rb5 := A5 1; have rc5 := A5 2; have rd5 := A5 3; simp only [List.getElem?_toArray, List.getElem?_cons_zero, List.getElem?_cons_succ] at ra5 rb5 rc5 rd5; have HBl5 : Hid _ := Bl5; have HRs5 : Hid _ := Rs5; clear Bl5 Rs5 A5; clear M5 E5 Z5 F5) | (go_at_call 9; refine (HQ.out _ HM5.out).mono ?_; rintro e w6 ⟨rfl, M6⟩; have HM6 : Hid _ := M6; have E6 := HEN.out _ _ M6; have x6 := HBX.out _ E6.2; obtain ⟨R6, A6, Z6, F6, Bl6, Rs6⟩ := x6; have ra6 := A6 0; have rb6 := A6 1; have rc6 := A6 2; have rd6 := A6 3; simp only [List.getElem?_toArray, List.getElem?_cons_zero, List.getElem?_cons_succ] at ra6 rb6 rc6 rd6; have HBl6 : Hid _ := Bl6; have HRs6 : Hid _ := Rs6; clear Bl6 Rs6 A6; clear M6 E6 Z6 F6) | (go_at_call 10; refine (HST.out _ HM6.out).mono ?_; rintro e w7 ⟨rfl, M7⟩; have E7 := HEN.out _ _ M7; have x7 := HBX.out _ E7.2; obtain ⟨R7, A7, Z7, F7, Bl7, Rs7⟩ := x7; have ra7 := A7 0; have rb7 := A7 1; have rc7 := A7 2; have rd7 := A7 3; simp only [List.getElem?_toArray, List.getElem?_cons_zero, List.getElem?_cons_succ] at ra7 rb7 rc7 rd7; have HBl7 : Hid _ := Bl7; have HRs7 : Hid _ := Rs7; clear Bl7 Rs7 A7; have z0 := Z7 0; have z1 := Z7 1; have z2 := Z7 2; have z3 := Z7 3; have z4 := Z7 4; have z5 := Z7 5; have z6 := Z7 6; have z7 := Z7 7; have z8 := Z7 8; have z9 := Z7 9; simp only [zeroE, En.cells, List.getElem?_toArray, List.getElem?_cons_zero, List.getElem?_cons_succ] at z0 z1 z2 z3 z4 z5 z6 z7 z8 z9; clear Z7; have E7c := E7.1; have y0 := E7c.c 0; have y1 := E7c.c 1; have y2 := E7c.c 2; have y3 := E7c.c 3; have y4 := E7c.c 4; have y5 := E7c.c 5; have y6 := E7c.c 6; have y7 := E7c.c 7; have y8 := E7c.c 8; have y9 := E7c.c 9; simp only [En.cells, List.getElem?_toArray, List.getElem?_cons_zero, List.getElem?_cons_succ] at y0 y1 y2 y3 y4 y5 y6 y7 y8 y9; clear E7c E7 M7))
          generalize hwF : World.setCell _ _ _ = wF
          obtain ⟨fB, f0, f1, f2, f3, f4, f5, f6, f7, f8, f9⟩ := ten HRs7.out HBl7.out (by omega) (.string path2) (.string link2) (.int .i64 kind2) (.int .i64 mode2) (.int .i64 uid2) (.int .i64 gid2) (.int .i64 mtime2) (.int .i64 size2) (.string user2) (.string group2) wF hwF
          clear hwF
          refine bodyPost_ret (v := .tuple #[.agg #[.string path2, .string link2, .int .i64 kind2, .int .i64 mode2, .int .i64 uid2, .int .i64 gid2, .int .i64 mtime2, .int .i64 size2, .string user2, .string group2], .int .i64 0]) (by simp [results, Tryd.results4, go_sem, f0, f1, f2, f3, f4, f5, f6, f7, f8, f9]) rfl (HPP.out _ _ fB ?_)
          exact .inr (.inr (.inr ⟨HC0.out, HBN.out, fun x => by rcases x with x | x | x <;> omega, rfl⟩))

end Go.Proofs.YtjnmmkohmfhnlabDoor
