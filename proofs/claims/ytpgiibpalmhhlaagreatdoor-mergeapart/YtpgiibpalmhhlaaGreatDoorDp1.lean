/-
  Contract: planted.
-/
import Derived.Test.YtpgiibpalmhhlaaGreatDoorDp0
import Derived.Deep.DeepCutAuto
import Derived.Deep.CutBlock
namespace Go.Proofs.YtpgiibpalmhhlaaGreatDoor
open Go.RowKit
open Go.Lib hiding intOf
set_option linter.unusedVariables false
set_option linter.unusedSimpArgs false

theorem Ds.apart {w : World} {ad : Option Addr} {L : List Td} {g : Nat} {C : Array Value} {t : TypeId} {fr : Nat × Nat} (h : Ds w ad L) (hg : w.heap[g]? = some (.cells C t fr)) (hC : C.size ≤ 2) : L = [] ∨ ∀ b o, ad = some ⟨b, o, none⟩ → b ≠ g := by
  rcases h with h | ⟨b, o, h1, h2, h3⟩
  · exact .inl h
  · cases L with
    | nil => exact .inl rfl
    | cons r L =>
      right
      intro b' o' e e2
      rw [h1] at e
      injection e with e
      injection e with e1 e3
      have q := h3 2 (.int .i64 r.m) rfl
      rw [show b = g by omega, cells_of hg] at q
      have := (Array.getElem?_eq_some_iff.1 q).1
      omega

theorem Ds.setBox {w : World} {ad : Option Addr} {L : List Td} {g k : Nat} {C : Array Value} {t : TypeId} {fr : Nat × Nat} (h : Ds w ad L) (hg : w.heap[g]? = some (.cells C t fr)) (hC : C.size ≤ 2) (v : Value) : Ds (w.setCell ⟨g, k, none⟩ v) ad L := by
  rcases h.apart hg hC with e | hne
  · exact .inl e
  · rcases h with h | ⟨b, o, h1, h2, h3⟩
    · exact .inl h
    · refine .inr ⟨b, o, h1, by simpa using h2, fun j u hu => ?_⟩
      rw [World.cell?_setCell_far _ _ _ _ (by show g ≠ b; exact fun e => hne b o h1 e.symm)]
      exact h3 j u hu

theorem Ds.setTwo {w : World} {ad : Option Addr} {L : List Td} {g : Nat} {a b : Value} {t : TypeId} (h : Ds w ad L) (hg : w.heap[g]? = some (.cells #[a, b] t (0, 0))) (x y : Value) : Ds ((w.setCell ⟨g, 0, none⟩ x).setCell ⟨g, 1, none⟩ y) ad L := by
  have h1 := h.setBox (k := 0) hg (by simp) x
  have hg2 : (w.setCell ⟨g, 0, none⟩ x).heap[g]? = some (.cells #[x, b] t (0, 0)) := by
    rw [setCell_eq_setRow w g 0 _ t (0, 0) _ hg]
    exact setRow_heap _ _ _ _ _ _ hg
  exact h1.setBox (k := 1) hg2 (by simp) y


theorem cln_small (l : List UInt8) : (cln l).length ≤ 4001 ∧ (jn (cln l)).length ≤ 4000 := by
  by_cases h : err l = 0
  · have h1 := err_len h
    have h2 := cln_count l
    have h3 := cln_len l
    omega
  · unfold cln; rw [if_neg h]; exact ⟨Nat.zero_le _, Nat.zero_le _⟩

/-- the loop's state -/
structure Pl (w W : World) (ad : Option Addr) (cap : Nat) (dd : Option Addr) (dc : Nat) (q : Pt) : Prop where
  r1 : W.heap[w.heap.size]? = some (.cells #[.slice none 0 0, .int .i64 0] 26 (0, 0))
  r2 : W.heap[w.heap.size + 1]? = some (.cells #[.slice none 0 0, .int .i64 0] 29 (0, 0))
  tb : W.heap[w.heap.size + 2]? = some (.cells #[.slice ad q.L.length cap, .int .i64 q.n] 26 (0, 0))
  wb : W.heap[w.heap.size + 3]? = some (.cells #[.slice dd q.W.length dc, .int .i64 q.m] 29 (0, 0))
  rows : Rs W ad q.L
  things : Ds W dd q.W
  hcap : q.L.length ≤ cap
  nil : ad = none → cap = 0
  hdc : q.W.length ≤ dc
  dnil : dd = none → dc = 0
  bel : Below w.heap.size w W
  lt : w.heap.size + 4 ≤ W.heap.size
theorem Pl.next {w W : World} {ad : Option Addr} {cap : Nat} {dd : Option Addr} {dc : Nat} {q : Pt} (h : Pl w W ad cap dd dc q) {W' : World} (b : Below W.heap.size W W') : Pl w W' ad cap dd dc q := by
  have := h.lt
  exact ⟨(b.block _ (by omega)).trans h.r1, (b.block _ (by omega)).trans h.r2, (b.block _ (by omega)).trans h.tb, (b.block _ (by omega)).trans h.wb, h.rows.below b, h.things.below b, h.hcap, h.nil, h.hdc, h.dnil, h.bel.trans (b.mono (by omega)), Nat.le_trans h.lt b.size⟩
theorem Pl.tm {w W : World} {ad : Option Addr} {cap : Nat} {dd : Option Addr} {dc : Nat} {q : Pt} (h : Pl w W ad cap dd dc q) : Tm W (.agg #[.slice ad q.L.length cap, .int .i64 q.n]) q.L q.n := ⟨ad, cap, rfl, h.rows, h.hcap, h.nil⟩
theorem Pl.mk0 (w : World) : Pl w ((((w.alloc (.cells #[.slice none 0 0, .int .i64 0] 26)).alloc (.cells #[.slice none 0 0, .int .i64 0] 29)).alloc (.cells #[.slice none 0 0, .int .i64 0] 26)).alloc (.cells #[.slice none 0 0, .int .i64 0] 29)) none 0 none 0 ⟨[], 0, [], 0⟩ := by
  have s1 := size_box w (.cells #[.slice none 0 0, .int .i64 0] 26)
  have h3 := T3.mk0 (w.alloc (.cells #[.slice none 0 0, .int .i64 0] 26)) #[.slice none 0 0, .int .i64 0] #[.slice none 0 0, .int .i64 0] #[.slice none 0 0, .int .i64 0] 29 26 29
  have h0 := heap_alloc_new w (.cells #[.slice none 0 0, .int .i64 0] 26)
  refine ⟨(h3.bel.block _ (by omega)).trans h0, ?_, ?_, ?_, .inl rfl, .inl rfl, Nat.le_refl _, fun _ => rfl, Nat.le_refl _, fun _ => rfl, (below_box w _).trans (h3.bel.mono (by omega)), by have := h3.lt; omega⟩
  · have := h3.one; rwa [s1] at this
  · have := h3.two; rwa [s1] at this
  · have := h3.thr; rwa [s1] at this
theorem Pl.setT {w W : World} {ad : Option Addr} {cap : Nat} {dd : Option Addr} {dc : Nat} {q : Pt} (h : Pl w W ad cap dd dc q) {ad2 : Option Addr} {cap2 : Nat} {L : List Rw} {n : Int} (hr : Rs W ad2 L) (hc : L.length ≤ cap2) (hn : ad2 = none → cap2 = 0) :
    Pl w ((W.setCell ⟨w.heap.size + 2, 0, none⟩ (.slice ad2 L.length cap2)).setCell ⟨w.heap.size + 2, 1, none⟩ (.int .i64 n)) ad2 cap2 dd dc ⟨L, n, q.W, q.m⟩ := by
  have e := two_set h.tb (.slice ad2 L.length cap2) (.int .i64 n)
  have b : Below (w.heap.size + 2) W ((W.setCell ⟨w.heap.size + 2, 0, none⟩ (.slice ad2 L.length cap2)).setCell ⟨w.heap.size + 2, 1, none⟩ (.int .i64 n)) := ((Below.refl _ _).setCell (by show w.heap.size + 2 ≤ w.heap.size + 2; omega) _).setCell (by show w.heap.size + 2 ≤ w.heap.size + 2; omega) _
  have far : ∀ k, k ≠ w.heap.size + 2 → ((W.setCell ⟨w.heap.size + 2, 0, none⟩ (.slice ad2 L.length cap2)).setCell ⟨w.heap.size + 2, 1, none⟩ (.int .i64 n)).heap[k]? = W.heap[k]? := fun k hk => by rw [Below.heap_setCell _ _ _ _ hk, Below.heap_setCell _ _ _ _ hk]
  exact ⟨(b.block _ (by omega)).trans h.r1, (b.block _ (by omega)).trans h.r2, e, (far _ (by omega)).trans h.wb, hr.setTwo h.tb _ _, h.things.setTwo h.tb _ _, hc, hn, h.hdc, h.dnil, h.bel.trans (b.mono (by omega)), by simpa using h.lt⟩
theorem Pl.setD {w W : World} {ad : Option Addr} {cap : Nat} {dd : Option Addr} {dc : Nat} {q : Pt} (h : Pl w W ad cap dd dc q) {ad2 : Option Addr} {cap2 : Nat} {L : List Td} {n : Int} (hr : Ds W ad2 L) (hc : L.length ≤ cap2) (hn : ad2 = none → cap2 = 0) :
    Pl w ((W.setCell ⟨w.heap.size + 3, 0, none⟩ (.slice ad2 L.length cap2)).setCell ⟨w.heap.size + 3, 1, none⟩ (.int .i64 n)) ad cap ad2 cap2 ⟨q.L, q.n, L, n⟩ := by
  have e := two_set h.wb (.slice ad2 L.length cap2) (.int .i64 n)
  have b : Below (w.heap.size + 3) W ((W.setCell ⟨w.heap.size + 3, 0, none⟩ (.slice ad2 L.length cap2)).setCell ⟨w.heap.size + 3, 1, none⟩ (.int .i64 n)) := ((Below.refl _ _).setCell (by show w.heap.size + 3 ≤ w.heap.size + 3; omega) _).setCell (by show w.heap.size + 3 ≤ w.heap.size + 3; omega) _
  exact ⟨(b.block _ (by omega)).trans h.r1, (b.block _ (by omega)).trans h.r2, (b.block _ (by omega)).trans h.tb, e, h.rows.setTwo h.wb _ _, hr.setTwo h.wb _ _, h.hcap, h.nil, hc, hn, h.bel.trans (b.mono (by omega)), by simpa using h.lt⟩

theorem results_cell2 {fn : Func} {p u : Tmp} {ty tz : TypeId} (h : fn.results = #[.cell p ty, .cell u tz]) (tmps : Array Value) (P : Program) (w : World) :
    (results fn tmps).run P w =
      ((asAddr (tmps.getD p undef)).run P w).andThen fun a w₁ => ((loadVar ty a).run P w₁).andThen fun v w₂ => ((asAddr (tmps.getD u undef)).run P w₂).andThen fun b w₃ => ((loadVar tz b).run P w₃).andThen fun y w₄ => .ok (.tuple #[v, y]) w₄ := by
  simp only [results, h]
  simp [Sem.run_bind, Result.andThen]

/-- what is answered -/
theorem Pl.fin1 {w W : World} {ad : Option Addr} {cap : Nat} {dd : Option Addr} {dc : Nat} {q : Pt} (h : Pl w W ad cap dd dc q) :
    ((((W.setCell ⟨w.heap.size, 0, none⟩ (.slice ad q.L.length cap)).setCell ⟨w.heap.size, 1, none⟩ (.int .i64 q.n)).setCell ⟨w.heap.size + 1, 0, none⟩ (.slice dd q.W.length dc)).setCell ⟨w.heap.size + 1, 1, none⟩ (.int .i64 q.m)).heap[w.heap.size]? = some (.cells #[.slice ad q.L.length cap, .int .i64 q.n] 26 (0, 0)) ∧ ((((W.setCell ⟨w.heap.size, 0, none⟩ (.slice ad q.L.length cap)).setCell ⟨w.heap.size, 1, none⟩ (.int .i64 q.n)).setCell ⟨w.heap.size + 1, 0, none⟩ (.slice dd q.W.length dc)).setCell ⟨w.heap.size + 1, 1, none⟩ (.int .i64 q.m)).heap[w.heap.size + 1]? = some (.cells #[.slice dd q.W.length dc, .int .i64 q.m] 29 (0, 0)) ∧ Rs ((((W.setCell ⟨w.heap.size, 0, none⟩ (.slice ad q.L.length cap)).setCell ⟨w.heap.size, 1, none⟩ (.int .i64 q.n)).setCell ⟨w.heap.size + 1, 0, none⟩ (.slice dd q.W.length dc)).setCell ⟨w.heap.size + 1, 1, none⟩ (.int .i64 q.m)) ad q.L ∧ Ds ((((W.setCell ⟨w.heap.size, 0, none⟩ (.slice ad q.L.length cap)).setCell ⟨w.heap.size, 1, none⟩ (.int .i64 q.n)).setCell ⟨w.heap.size + 1, 0, none⟩ (.slice dd q.W.length dc)).setCell ⟨w.heap.size + 1, 1, none⟩ (.int .i64 q.m)) dd q.W ∧ Below w.heap.size w ((((W.setCell ⟨w.heap.size, 0, none⟩ (.slice ad q.L.length cap)).setCell ⟨w.heap.size, 1, none⟩ (.int .i64 q.n)).setCell ⟨w.heap.size + 1, 0, none⟩ (.slice dd q.W.length dc)).setCell ⟨w.heap.size + 1, 1, none⟩ (.int .i64 q.m)) := by
  have hlt := h.lt
  have e2 : ((W.setCell ⟨w.heap.size, 0, none⟩ (.slice ad q.L.length cap)).setCell ⟨w.heap.size, 1, none⟩ (.int .i64 q.n)).heap[w.heap.size + 1]? = some (.cells #[.slice none 0 0, .int .i64 0] 29 (0, 0)) := (Below.heap_setCell _ _ _ _ (by show w.heap.size + 1 ≠ w.heap.size; omega)).trans ((Below.heap_setCell _ _ _ _ (by show w.heap.size + 1 ≠ w.heap.size; omega)).trans h.r2)
  exact ⟨(Below.heap_setCell _ _ _ _ (by show w.heap.size ≠ w.heap.size + 1; omega)).trans ((Below.heap_setCell _ _ _ _ (by show w.heap.size ≠ w.heap.size + 1; omega)).trans (two_set h.r1 _ _)), two_set e2 _ _, (h.rows.setTwo h.r1 _ _).setTwo e2 _ _, (h.things.setTwo h.r1 _ _).setTwo e2 _ _, (((h.bel.setCell (by show _ ≤ w.heap.size; omega) _).setCell (by show _ ≤ w.heap.size; omega) _).setCell (by show _ ≤ w.heap.size + 1; omega) _).setCell (by show _ ≤ w.heap.size + 1; omega) _⟩
theorem Pl.fin2 {w W : World} {ad : Option Addr} {cap : Nat} {dd : Option Addr} {dc : Nat} {q : Pt} (h : Pl w W ad cap dd dc q) :
    ((((W.setCell ⟨w.heap.size + 1, 0, none⟩ (.slice dd q.W.length dc)).setCell ⟨w.heap.size + 1, 1, none⟩ (.int .i64 q.m)).setCell ⟨w.heap.size, 0, none⟩ (.slice ad q.L.length cap)).setCell ⟨w.heap.size, 1, none⟩ (.int .i64 q.n)).heap[w.heap.size]? = some (.cells #[.slice ad q.L.length cap, .int .i64 q.n] 26 (0, 0)) ∧ ((((W.setCell ⟨w.heap.size + 1, 0, none⟩ (.slice dd q.W.length dc)).setCell ⟨w.heap.size + 1, 1, none⟩ (.int .i64 q.m)).setCell ⟨w.heap.size, 0, none⟩ (.slice ad q.L.length cap)).setCell ⟨w.heap.size, 1, none⟩ (.int .i64 q.n)).heap[w.heap.size + 1]? = some (.cells #[.slice dd q.W.length dc, .int .i64 q.m] 29 (0, 0)) ∧ Rs ((((W.setCell ⟨w.heap.size + 1, 0, none⟩ (.slice dd q.W.length dc)).setCell ⟨w.heap.size + 1, 1, none⟩ (.int .i64 q.m)).setCell ⟨w.heap.size, 0, none⟩ (.slice ad q.L.length cap)).setCell ⟨w.heap.size, 1, none⟩ (.int .i64 q.n)) ad q.L ∧ Ds ((((W.setCell ⟨w.heap.size + 1, 0, none⟩ (.slice dd q.W.length dc)).setCell ⟨w.heap.size + 1, 1, none⟩ (.int .i64 q.m)).setCell ⟨w.heap.size, 0, none⟩ (.slice ad q.L.length cap)).setCell ⟨w.heap.size, 1, none⟩ (.int .i64 q.n)) dd q.W ∧ Below w.heap.size w ((((W.setCell ⟨w.heap.size + 1, 0, none⟩ (.slice dd q.W.length dc)).setCell ⟨w.heap.size + 1, 1, none⟩ (.int .i64 q.m)).setCell ⟨w.heap.size, 0, none⟩ (.slice ad q.L.length cap)).setCell ⟨w.heap.size, 1, none⟩ (.int .i64 q.n)) := by
  have hlt := h.lt
  have e2 : ((W.setCell ⟨w.heap.size + 1, 0, none⟩ (.slice dd q.W.length dc)).setCell ⟨w.heap.size + 1, 1, none⟩ (.int .i64 q.m)).heap[w.heap.size]? = some (.cells #[.slice none 0 0, .int .i64 0] 26 (0, 0)) := (Below.heap_setCell _ _ _ _ (by show w.heap.size ≠ w.heap.size + 1; omega)).trans ((Below.heap_setCell _ _ _ _ (by show w.heap.size ≠ w.heap.size + 1; omega)).trans h.r1)
  exact ⟨two_set e2 _ _, (Below.heap_setCell _ _ _ _ (by show w.heap.size + 1 ≠ w.heap.size; omega)).trans ((Below.heap_setCell _ _ _ _ (by show w.heap.size + 1 ≠ w.heap.size; omega)).trans (two_set h.r2 _ _)), (h.rows.setTwo h.r2 _ _).setTwo e2 _ _, (h.things.setTwo h.r2 _ _).setTwo e2 _ _, (((h.bel.setCell (by show _ ≤ w.heap.size + 1; omega) _).setCell (by show _ ≤ w.heap.size + 1; omega) _).setCell (by show _ ≤ w.heap.size; omega) _).setCell (by show _ ≤ w.heap.size; omega) _⟩

set_option maxRecDepth 20000 in
set_option maxHeartbeats 8000000 in
theorem planted_w (ad0 : Option Addr) (cap0 : Nat) (more : Int) (X : List Tg) (w : World) (hm : Ml w) (hX : Ts w ad0 X) (ho : ∀ x ∈ X, x.ok) (hl : X.length ≤ 41) (hmore : 0 ≤ more ∧ more ≤ 10000) :
    Calls Tryz.prog 10 #[.slice ad0 X.length cap0, .int .i64 more] w fun e w' => ∃ v u, e = .returned (.tuple #[v, u]) ∧ Tm w' v (plantL more X).L (plantL more X).n ∧ Dt w' u (plantL more X).W (plantL more X).m ∧ Below w.heap.size w w' := by
  have HM : Hid (Ml w) := hm
  have HX : Hid (Ts w ad0 X) := hX
  have HO : Hid (∀ x ∈ X, x.ok) := ho
  have P0 : Hid (Pl w _ none 0 none 0 (plantL more (X.take 0))) := Pl.mk0 w
  clear hm hX ho
  generalize hn : X.length = n at *
  have HN : Hid (X.length = n) := hn
  clear hn
  go_enter Tryz.func10, Tryz.ntmps10
  go_wp2_with fail
  generalize (((w.alloc _).alloc _).alloc _).alloc _ = w0 at *
  go_loopw [19] (fun x19 wr => ∃ (i : Nat) (ad : Option Addr) (cap : Nat) (dd : Option Addr) (dc : Nat), x19 = .int .i64 (i : Int) ∧ i ≤ n ∧ Hid (Pl w wr ad cap dd dc (plantL more (X.take i)))) (fun x19 _ => n - (intOf x19).toNat)
  case atStart => exact ⟨0, none, 0, none, 0, rfl, Nat.zero_le _, P0⟩
  case round =>
    obtain ⟨i, ad, cap, dd, dc, rfl, hi, HP⟩ := hrel
    clear P0
    by_cases hlt : i < n
    · obtain ⟨x, hx⟩ : ∃ x, X[i]? = some x := ⟨_, List.getElem?_eq_getElem (by have := HN.out; omega)⟩
      have hok := HO.out x (List.mem_of_getElem? hx)
      have HU : Hid (plantL more (X.take (i + 1)) = pStep more (plantL more (X.take i)) x) := plantL_succ more X i x hx
      have HK0 := plantL_ok more (X.take i)
      rw [List.length_take, Nat.min_eq_left (by have := HN.out; omega)] at HK0
      have HK : Hid (Ok more (plantL more (X.take i)) i) := HK0
      obtain ⟨b, o, rfl, hb1, hb2⟩ : ∃ b o, ad0 = some ⟨b, o, none⟩ ∧ b < w.heap.size ∧ w.rangeAt b (o + i * 4) x.cs := by
        rcases HX.out with h | ⟨b, o, h1, h2, h3⟩
        · rw [h] at hx; simp at hx
        · exact ⟨b, o, h1, h2, h3 i x hx⟩
      obtain ⟨xk, xm, xp, xt⟩ := x
      have hR := range_below hb2 HP.out.bel hb1
      have x0 : wr.cell? ⟨b, o + i * 4, none⟩ = some (.int .i64 xk) := hR 0 _ rfl
      have x1 : wr.cell? ⟨b, o + i * 4 + 1, none⟩ = some (.int .i64 xm) := hR 1 _ rfl
      have x2 : wr.cell? ⟨b, o + i * 4 + 2, none⟩ = some (.string (bs xp)) := hR 2 _ rfl
      have x3 : wr.cell? ⟨b, o + i * 4 + 3, none⟩ = some (.string (bs xt)) := hR 3 _ rfl
      have h1 : (0 : Int) ≤ (i : Int) := by omega
      have h2 : (i : Int) < (n : Int) := by omega
      clear hR hb2 HK0 hx
      generalize plantL more (X.take i) = q at *
      have K1 : Hid (∀ W, Below w.heap.size w W → Calls Tryz.prog 23 #[.string (bs xp)] W fun e w' => ∃ ad c, e = .returned (.tuple #[.slice ad (cln xp).length c, .int .i64 (err xp)]) ∧ (cln xp).length ≤ c ∧ Sl w' ad (cln xp) ∧ Below W.heap.size W w') := fun W hb => clean_sl xp hok.1 W (HM.out.below hb)
      have K2 : Hid (∀ W, Below w.heap.size w W → Calls Tryz.prog 23 #[.string (bs xt)] W fun e w' => ∃ ad c, e = .returned (.tuple #[.slice ad (cln xt).length c, .int .i64 (err xt)]) ∧ (cln xt).length ≤ c ∧ Sl w' ad (cln xt) ∧ Below W.heap.size W w') := fun W hb => clean_sl xt hok.2.1 W (HM.out.below hb)
      have KJ3 : Hid (∀ W a ps c, Sl W a ps → ps.length ≤ c → (ps.length ≤ 4001 ∧ (jn ps).length ≤ 4000) → Calls Tryz.prog 24 #[.slice a ps.length c] W fun e w' => e = .returned (.string (bs (jn ps))) ∧ Below W.heap.size W w') := fun W a ps c h1 h2 h3 => join_w a c ps W h1 h2 (by omega) (by omega)
      go_upto_block 1 with fail
      go_cut [] (fun wx => ∃ ad2 cap2 dd2 dc2, Hid (Pl w wx ad2 cap2 dd2 dc2 (pStep more q ⟨xk, xm, xp, xt⟩)))
      case first =>
        go_upto_region 5 with fail
        have HB := below_box wr (.cells #[.int .i64 xk, .int .i64 xm, .string (bs xp), .string (bs xt)] 63)
        have hbox := heap_alloc_new wr (.cells #[.int .i64 xk, .int .i64 xm, .string (bs xp), .string (bs xt)] 63)
        have hsz := size_box wr (.cells #[.int .i64 xk, .int .i64 xm, .string (bs xp), .string (bs xt)] 63)
        go_upto_region 6 with fail
        generalize wr.alloc _ = w1 at *
        have P1 : Hid (Pl w w1 ad cap dd dc q) := HP.out.next HB
        have m1 := cells_of hbox
        have lt1 := HP.out.lt
        generalize wr.heap.size = g1 at *
        clear x0 x1 x2 x3 HB HP
        go_upto_region 7 with (go_at_call 23; refine (K1.out _ P1.out.bel).mono ?_; rintro e w2 ⟨a1, c1, rfl, hc1, S1, b2⟩)
        have hbox2 := (b2.block _ (by omega)).trans hbox
        have P2 : Hid (Pl w w2 ad cap dd dc q) := P1.out.next b2
        have S1' : Hid (Sl w2 a1 (cln xp)) := S1
        have hsz2 := b2.size
        clear m1 S1 hbox b2 P1 K1
        have m2 := cells_of hbox2
        go_upto_region 8 with (go_at_call 23; refine (K2.out _ P2.out.bel).mono ?_; rintro e w2a ⟨a2, c2, rfl, hc2, S2, b3⟩)
        have hbox3a := (b3.block _ (by omega)).trans hbox2
        have P3a : Hid (Pl w w2a ad cap dd dc q) := P2.out.next b3
        have T1 : Hid (Sl w2a a1 (cln xp)) := S1'.out.below b3
        have T2 : Hid (Sl w2a a2 (cln xt)) := S2
        have hsz3 := b3.size
        have hj1 : Hid ((cln xp).length ≤ 4001 ∧ (jn (cln xp)).length ≤ 4000) := cln_small xp
        have hj2 : Hid ((cln xt).length ≤ 4001 ∧ (jn (cln xt)).length ≤ 4000) := cln_small xt
        clear m2 S1' S2 b3 P2 K2 hbox2
        go_upto_block 2 with (first
          | (go_at_call 24; refine (KJ3.out _ a2 (cln xt) c2 U2.out hc2 hj2.out).mono ?_; rintro e w3 ⟨rfl, b4⟩)
          | (go_at_call 24; refine (KJ3.out _ a1 (cln xp) c1 T1.out hc1 hj1.out).mono ?_; rintro e w2b ⟨rfl, b4a⟩; have U2 : Hid (Sl w2b a2 (cln xt)) := T2.out.below b4a))
        have k3 : Below w2a.heap.size w2a w3 := b4a.trans (b4.mono b4a.size)
        have hbox3 := (k3.block _ (by omega)).trans hbox3a
        have P3 : Hid (Pl w w3 ad cap dd dc q) := P3a.out.next k3
        have hsz4 := k3.size
        have hg3 : g1 < w3.heap.size := by omega
        clear T1 T2 U2 b4 b4a k3 hbox3a P3a KJ3 hj1 hj2 hc1 hc2
        have m0 := cells_of hbox3
        have hbe : xt.isEmpty = decide (xt = []) := by cases xt <;> rfl
        have htl := bs_toList xt
        have hsz9 : (bs xp).size = xp.length := bs_size _
        have hcle := cln_len xp
        generalize hs : jn (cln xp) = s at *
        generalize ht : jn (cln xt) = tt at *
        have HS : Hid (jn (cln xp) = s) := hs
        have HTT : Hid (jn (cln xt) = tt) := ht
        have htt4 : tt.length ≤ 4000 := by rw [← ht]; exact (cln_small xt).2
        clear hs ht
        have hi41 : i ≤ 41 := by omega
        have KA : Hid (∀ (k md sz : Int), err xp = 0 → xp.length ≤ 300 → 0 ≤ sz ∧ sz ≤ 1048576 → ∀ W, Pl w W ad cap dd dc q → Calls Tryz.prog 22 #[.agg #[.slice ad q.L.length cap, .int .i64 q.n], .string (bs s), .agg #[.int .i64 k, .int .i64 md, .int .i64 0, .int .i64 0, .int .i64 0, .string ⟨#[]⟩, .string ⟨#[]⟩, .string ⟨#[]⟩, .slice none 0 0, .int .i64 sz, .bool false]] W fun e w' => ∃ ad2 cap2 code, e = .returned (.tuple #[.agg #[.slice ad2 (addP q.L q.n s k md sz false).1.length cap2, .int .i64 (addP q.L q.n s k md sz false).2.1], .int .i64 code]) ∧ Rs w' ad2 (addP q.L q.n s k md sz false).1 ∧ (addP q.L q.n s k md sz false).1.length ≤ cap2 ∧ (ad2 = none → cap2 = 0) ∧ Below W.heap.size W w') := fun k md sz h1 h2 h3 W hP => by
          refine (add_w _ q.n q.L s k md sz false W HK.out.sd hP.tm (by have := HK.out.len; omega) (by have := HK.out.nx; omega) (by omega) (by rw [← HS.out]; exact cln_cp h1)).mono ?_
          rintro e w' ⟨v', rfl, ⟨ad2, cap2, rfl, h1, h2, h3⟩, hb⟩
          exact ⟨ad2, cap2, _, rfl, h1, h2, h3, hb⟩
        have KD : Hid (∀ (k md : Int), xp.length ≤ 300 → ∀ W, Pl w W ad cap dd dc q ∨ Ds W dd q.W → Calls Tryz.prog 27 #[.agg #[.slice dd q.W.length dc, .int .i64 q.m], .string (bs s), .int .i64 k, .int .i64 md] W fun e w' => ∃ ad2 cap2 code, e = .returned (.tuple #[.agg #[.slice ad2 (addD q.W q.m s k md).1.length cap2, .int .i64 (addD q.W q.m s k md).2.1], .int .i64 code]) ∧ Ds w' ad2 (addD q.W q.m s k md).1 ∧ (addD q.W q.m s k md).1.length ≤ cap2 ∧ (ad2 = none → cap2 = 0) ∧ Below W.heap.size W w') := fun k md h2 W hP => by
          have hl1 := HK.out.len
          have hl2 := HK.out.nx
          have hl3 := HK.out.wlen
          have hl4 := HK.out.sd.nn
          have hl5 := HK.out.nn
          have p1 := parts_len s
          have p2 := parD_len (upR (parts s) 1) q.W q.m
          have p3 := upR_len (parts s) 1
          refine (add_d dd dc q.m q.W s k md W (hP.elim (fun h => h.things) id) P3.out.hdc P3.out.dnil (by omega) (by omega) (by omega) (by omega) (by omega) (by omega) (by omega)).mono ?_
          rintro e w' ⟨v', rfl, ⟨ad2, cap2, rfl, h1, h2, h3⟩, hb⟩
          exact ⟨ad2, cap2, _, rfl, h1, h2, h3, hb⟩
        have KL : Hid (∀ W, err xp = 0 → xp.length ≤ 300 → Pl w W ad cap dd dc q → Calls Tryz.prog 25 #[.agg #[.slice ad q.L.length cap, .int .i64 q.n], .string (bs s), .string (bs tt)] W fun e w' => ∃ ad2 cap2 code, e = .returned (.tuple #[.agg #[.slice ad2 (linkP q.L q.n s tt).1.length cap2, .int .i64 (linkP q.L q.n s tt).2.1], .int .i64 code]) ∧ Rs w' ad2 (linkP q.L q.n s tt).1 ∧ (linkP q.L q.n s tt).1.length ≤ cap2 ∧ (ad2 = none → cap2 = 0) ∧ Below W.heap.size W w') := fun W h1 h2 hP => by
          refine (link_w _ q.n q.L s tt W HK.out.sd hP.tm (by have := HK.out.len; omega) (by have := HK.out.nx; omega) (by omega) (by omega) (by rw [← HS.out]; exact cln_cp h1)).mono ?_
          rintro e w' ⟨v', rfl, ⟨ad2, cap2, rfl, h1, h2, h3⟩, hb⟩
          exact ⟨ad2, cap2, _, rfl, h1, h2, h3, hb⟩
        have KM : Hid (∀ W, xp.length ≤ 300 → Ds W dd q.W → Calls Tryz.prog 26 #[.agg #[.slice dd q.W.length dc, .int .i64 q.m], .string (bs s), .string (bs tt)] W fun e w' => ∃ ad2 cap2 code, e = .returned (.tuple #[.agg #[.slice ad2 (linkD q.W q.m s tt).1.length cap2, .int .i64 (linkD q.W q.m s tt).2.1], .int .i64 code]) ∧ Ds w' ad2 (linkD q.W q.m s tt).1 ∧ (linkD q.W q.m s tt).1.length ≤ cap2 ∧ (ad2 = none → cap2 = 0) ∧ Below W.heap.size W w') := fun W h2 hP => by
          have hl1 := HK.out.len
          have hl2 := HK.out.nx
          have hl3 := HK.out.wlen
          have hl4 := HK.out.sd.nn
          have hl5 := HK.out.nn
          have p1 := parts_len s
          have p2 := parD_len (upR (parts s) 1) q.W q.m
          have p3 := upR_len (parts s) 1
          refine (link_d dd dc q.m q.W s tt W hP P3.out.hdc P3.out.dnil (by omega) (by omega) (by omega) (by omega) (by omega) (by omega)).mono ?_
          rintro e w' ⟨v', rfl, ⟨ad2, cap2, rfl, h1, h2, h3⟩, hb⟩
          exact ⟨ad2, cap2, _, rfl, h1, h2, h3, hb⟩
        clear hcle htt4
        by_cases c0 : err xp = 0
        · have HC0 : Hid (err xp = 0) := c0
          by_cases c3 : xp.length > 300
          · have c3i : (xp.length : Int) > 300 := by omega
            rw [c0]
            have HE : Hid (pStep more q ⟨xk, xm, xp, xt⟩ = q) := (by show _ = _; unfold pStep; rw [if_pos (.inr (.inl c3))])
            clear KA KD KL KM
            go_wp2_with fail
            go_meet
            case rel => exact ⟨ad, cap, dd, dc, by show Pl _ _ _ _ _ _ _; rw [HE.out]; exact P3.out⟩
          · have c3i : ¬ (xp.length : Int) > 300 := by omega
            have hp300 : xp.length ≤ 300 := by omega
            by_cases c1 : xm < 0
            · rw [c0]
              have HE : Hid (pStep more q ⟨xk, xm, xp, xt⟩ = q) := (by show _ = _; unfold pStep; rw [if_pos (.inr (.inr (.inl c1)))])
              clear KA KD KL KM
              go_wp2_with fail
              go_meet
              case rel => exact ⟨ad, cap, dd, dc, by show Pl _ _ _ _ _ _ _; rw [HE.out]; exact P3.out⟩
            · by_cases c2 : xm > 1000
              · rw [c0]
                have HE : Hid (pStep more q ⟨xk, xm, xp, xt⟩ = q) := (by show _ = _; unfold pStep; rw [if_pos (.inr (.inr (.inr c2)))])
                clear KA KD KL KM
                go_wp2_with fail
                go_meet
                case rel => exact ⟨ad, cap, dd, dc, by show Pl _ _ _ _ _ _ _; rw [HE.out]; exact P3.out⟩
              · have hp0 : ¬ (err xp ≠ 0 ∨ xp.length > 300 ∨ xm < 0 ∨ xm > 1000) := by omega
                by_cases ct : xt = []
                · subst ct
                  clear hbe
                  rw [c0]
                  by_cases hk1 : xk = 1
                  · subst hk1
                    have HE : Hid (pStep more q ⟨1, xm, xp, []⟩ = ⟨(addP q.L q.n s 1 (xm + more) xm false).1, (addP q.L q.n s 1 (xm + more) xm false).2.1, (addD q.W q.m s 1 xm).1, (addD q.W q.m s 1 xm).2.1⟩) := (by show _ = _; unfold pStep; rw [if_neg hp0, if_neg (by simp), if_pos (by simp), HS.out]; first | rfl | simp)
                    have KA1 : Hid (∀ W, Pl w W ad cap dd dc q → Calls Tryz.prog 22 #[.agg #[.slice ad q.L.length cap, .int .i64 q.n], .string (bs s), .agg #[.int .i64 1, .int .i64 (xm + more), .int .i64 0, .int .i64 0, .int .i64 0, .string ⟨#[]⟩, .string ⟨#[]⟩, .string ⟨#[]⟩, .slice none 0 0, .int .i64 xm, .bool false]] W fun e w' => ∃ ad2 cap2 code, e = .returned (.tuple #[.agg #[.slice ad2 (addP q.L q.n s 1 (xm + more) xm false).1.length cap2, .int .i64 (addP q.L q.n s 1 (xm + more) xm false).2.1], .int .i64 code]) ∧ Rs w' ad2 (addP q.L q.n s 1 (xm + more) xm false).1 ∧ (addP q.L q.n s 1 (xm + more) xm false).1.length ≤ cap2 ∧ (ad2 = none → cap2 = 0) ∧ Below W.heap.size W w') := KA.out 1 (xm + more) xm HC0.out hp300 (by omega)
                    have KD1 : Hid (∀ W, Ds W dd q.W → Calls Tryz.prog 27 #[.agg #[.slice dd q.W.length dc, .int .i64 q.m], .string (bs s), .int .i64 1, .int .i64 xm] W fun e w' => ∃ ad2 cap2 code, e = .returned (.tuple #[.agg #[.slice ad2 (addD q.W q.m s 1 xm).1.length cap2, .int .i64 (addD q.W q.m s 1 xm).2.1], .int .i64 code]) ∧ Ds w' ad2 (addD q.W q.m s 1 xm).1 ∧ (addD q.W q.m s 1 xm).1.length ≤ cap2 ∧ (ad2 = none → cap2 = 0) ∧ Below W.heap.size W w') := fun W h => KD.out 1 xm hp300 W (.inr h)
                    generalize addP q.L q.n s 1 (xm + more) xm false = r at *
                    generalize addD q.W q.m s 1 xm = u at *
                    clear KA KD KL KM HS hp0
                    have hwm : wrap64 (xm + more) = xm + more := by unfold wrap64; omega
                    go_upto_region 17 with fail
                    have kn := below_box w3 (.cells #[.int .i64 1, .int .i64 (xm + more), .int .i64 0, .int .i64 0, .int .i64 0, .string ⟨#[]⟩, .string ⟨#[]⟩, .string ⟨#[]⟩, .slice none 0 0, .int .i64 xm, .bool false] 41)
                    have qn := heap_alloc_new w3 (.cells #[.int .i64 1, .int .i64 (xm + more), .int .i64 0, .int .i64 0, .int .i64 0, .string ⟨#[]⟩, .string ⟨#[]⟩, .string ⟨#[]⟩, .slice none 0 0, .int .i64 xm, .bool false] 41)
                    have zn := size_box w3 (.cells #[.int .i64 1, .int .i64 (xm + more), .int .i64 0, .int .i64 0, .int .i64 0, .string ⟨#[]⟩, .string ⟨#[]⟩, .string ⟨#[]⟩, .slice none 0 0, .int .i64 xm, .bool false] 41)
                    generalize hw4 : w3.alloc _ = w4 at *
                    clear hw4
                    have P4 : Hid (Pl w w4 ad cap dd dc q) := P3.out.next kn
                    have q4 : w4.heap[g1]? = some (.cells #[.int .i64 1, .int .i64 xm, .string (bs xp), .string (bs [])] 63 (0, 0)) := (kn.block _ (by omega)).trans hbox3
                    have l4 := P4.out.lt
                    clear m0 hbox3 kn P3
                    have m1 := cells_of qn
                    have m2 := cells_of P4.out.tb
                    clear hwm
                    go_upto_region 18 with (go_at_call 22; refine (KA1.out _ P4.out).mono ?_; rintro e w5 ⟨ad2, cap2, c2, rfl, R5, C5, N5, k5⟩; have P5 : Hid (Pl w w5 ad cap dd dc q) := P4.out.next k5; have d5 := cells_of P5.out.tb; have f5 := froz_of P5.out.tb)
                    have P6 : Hid (Pl w ((w5.setCell ⟨w.heap.size + 2, 0, none⟩ (.slice ad2 r.1.length cap2)).setCell ⟨w.heap.size + 2, 1, none⟩ (.int .i64 r.2.1)) ad2 cap2 dd dc ⟨r.1, r.2.1, q.W, q.m⟩) := P5.out.setT R5 C5 N5
                    have q6 : ((w5.setCell ⟨w.heap.size + 2, 0, none⟩ (.slice ad2 r.1.length cap2)).setCell ⟨w.heap.size + 2, 1, none⟩ (.int .i64 r.2.1)).heap[g1]? = some (.cells #[.int .i64 1, .int .i64 xm, .string (bs xp), .string (bs [])] 63 (0, 0)) := (Below.heap_setCell _ _ _ _ (by show g1 ≠ w.heap.size + 2; omega)).trans ((Below.heap_setCell _ _ _ _ (by show g1 ≠ w.heap.size + 2; omega)).trans ((k5.block _ (by omega)).trans q4))
                    generalize hw6 : (w5.setCell _ _).setCell _ _ = w6 at *
                    clear hw6
                    clear m1 m2 d5 f5 P5 P4 R5 k5 q4 qn
                    have m1 := cells_of q6
                    have m2 := cells_of P6.out.wb
                    go_wp2_with (go_at_call 27; refine (KD1.out _ P6.out.things).mono ?_; rintro e w7 ⟨ad3, cap3, c3, rfl, R7, C7, N7, k7⟩; have P7 : Hid (Pl w w7 ad2 cap2 dd dc ⟨r.1, r.2.1, q.W, q.m⟩) := P6.out.next k7; have d7 := cells_of P7.out.wb; have f7 := froz_of P7.out.wb)
                    have P8 : Hid (Pl w ((w7.setCell ⟨w.heap.size + 3, 0, none⟩ (.slice ad3 u.1.length cap3)).setCell ⟨w.heap.size + 3, 1, none⟩ (.int .i64 u.2.1)) ad2 cap2 ad3 cap3 ⟨r.1, r.2.1, u.1, u.2.1⟩) := P7.out.setD R7 C7 N7
                    go_meet
                    case rel => exact ⟨ad2, cap2, ad3, cap3, by show Pl _ _ _ _ _ _ _; rw [HE.out]; exact P8.out⟩
                  · by_cases hk3 : xk = 3
                    · subst hk3
                      have HE : Hid (pStep more q ⟨3, xm, xp, []⟩ = ⟨(addP q.L q.n s 3 (xm + more) 0 false).1, (addP q.L q.n s 3 (xm + more) 0 false).2.1, (addD q.W q.m s 3 xm).1, (addD q.W q.m s 3 xm).2.1⟩) := (by show _ = _; unfold pStep; rw [if_neg hp0, if_neg (by simp), if_pos (by simp), HS.out]; first | rfl | simp)
                      have KA1 : Hid (∀ W, Pl w W ad cap dd dc q → Calls Tryz.prog 22 #[.agg #[.slice ad q.L.length cap, .int .i64 q.n], .string (bs s), .agg #[.int .i64 3, .int .i64 (xm + more), .int .i64 0, .int .i64 0, .int .i64 0, .string ⟨#[]⟩, .string ⟨#[]⟩, .string ⟨#[]⟩, .slice none 0 0, .int .i64 0, .bool false]] W fun e w' => ∃ ad2 cap2 code, e = .returned (.tuple #[.agg #[.slice ad2 (addP q.L q.n s 3 (xm + more) 0 false).1.length cap2, .int .i64 (addP q.L q.n s 3 (xm + more) 0 false).2.1], .int .i64 code]) ∧ Rs w' ad2 (addP q.L q.n s 3 (xm + more) 0 false).1 ∧ (addP q.L q.n s 3 (xm + more) 0 false).1.length ≤ cap2 ∧ (ad2 = none → cap2 = 0) ∧ Below W.heap.size W w') := KA.out 3 (xm + more) 0 HC0.out hp300 (by omega)
                      have KD1 : Hid (∀ W, Ds W dd q.W → Calls Tryz.prog 27 #[.agg #[.slice dd q.W.length dc, .int .i64 q.m], .string (bs s), .int .i64 3, .int .i64 xm] W fun e w' => ∃ ad2 cap2 code, e = .returned (.tuple #[.agg #[.slice ad2 (addD q.W q.m s 3 xm).1.length cap2, .int .i64 (addD q.W q.m s 3 xm).2.1], .int .i64 code]) ∧ Ds w' ad2 (addD q.W q.m s 3 xm).1 ∧ (addD q.W q.m s 3 xm).1.length ≤ cap2 ∧ (ad2 = none → cap2 = 0) ∧ Below W.heap.size W w') := fun W h => KD.out 3 xm hp300 W (.inr h)
                      generalize addP q.L q.n s 3 (xm + more) 0 false = r at *
                      generalize addD q.W q.m s 3 xm = u at *
                      clear KA KD KL KM HS hp0
                      have hwm : wrap64 (xm + more) = xm + more := by unfold wrap64; omega
                      go_upto_region 17 with fail
                      have kn := below_box w3 (.cells #[.int .i64 3, .int .i64 (xm + more), .int .i64 0, .int .i64 0, .int .i64 0, .string ⟨#[]⟩, .string ⟨#[]⟩, .string ⟨#[]⟩, .slice none 0 0, .int .i64 0, .bool false] 41)
                      have qn := heap_alloc_new w3 (.cells #[.int .i64 3, .int .i64 (xm + more), .int .i64 0, .int .i64 0, .int .i64 0, .string ⟨#[]⟩, .string ⟨#[]⟩, .string ⟨#[]⟩, .slice none 0 0, .int .i64 0, .bool false] 41)
                      have zn := size_box w3 (.cells #[.int .i64 3, .int .i64 (xm + more), .int .i64 0, .int .i64 0, .int .i64 0, .string ⟨#[]⟩, .string ⟨#[]⟩, .string ⟨#[]⟩, .slice none 0 0, .int .i64 0, .bool false] 41)
                      generalize hw4 : w3.alloc _ = w4 at *
                      clear hw4
                      have P4 : Hid (Pl w w4 ad cap dd dc q) := P3.out.next kn
                      have q4 : w4.heap[g1]? = some (.cells #[.int .i64 3, .int .i64 xm, .string (bs xp), .string (bs [])] 63 (0, 0)) := (kn.block _ (by omega)).trans hbox3
                      have l4 := P4.out.lt
                      clear m0 hbox3 kn P3
                      have m1 := cells_of qn
                      have m2 := cells_of P4.out.tb
                      clear hwm
                      go_upto_region 18 with (go_at_call 22; refine (KA1.out _ P4.out).mono ?_; rintro e w5 ⟨ad2, cap2, c2, rfl, R5, C5, N5, k5⟩; have P5 : Hid (Pl w w5 ad cap dd dc q) := P4.out.next k5; have d5 := cells_of P5.out.tb; have f5 := froz_of P5.out.tb)
                      have P6 : Hid (Pl w ((w5.setCell ⟨w.heap.size + 2, 0, none⟩ (.slice ad2 r.1.length cap2)).setCell ⟨w.heap.size + 2, 1, none⟩ (.int .i64 r.2.1)) ad2 cap2 dd dc ⟨r.1, r.2.1, q.W, q.m⟩) := P5.out.setT R5 C5 N5
                      have q6 : ((w5.setCell ⟨w.heap.size + 2, 0, none⟩ (.slice ad2 r.1.length cap2)).setCell ⟨w.heap.size + 2, 1, none⟩ (.int .i64 r.2.1)).heap[g1]? = some (.cells #[.int .i64 3, .int .i64 xm, .string (bs xp), .string (bs [])] 63 (0, 0)) := (Below.heap_setCell _ _ _ _ (by show g1 ≠ w.heap.size + 2; omega)).trans ((Below.heap_setCell _ _ _ _ (by show g1 ≠ w.heap.size + 2; omega)).trans ((k5.block _ (by omega)).trans q4))
                      generalize hw6 : (w5.setCell _ _).setCell _ _ = w6 at *
                      clear hw6
                      clear m1 m2 d5 f5 P5 P4 R5 k5 q4 qn
                      have m1 := cells_of q6
                      have m2 := cells_of P6.out.wb
                      go_wp2_with (go_at_call 27; refine (KD1.out _ P6.out.things).mono ?_; rintro e w7 ⟨ad3, cap3, c3, rfl, R7, C7, N7, k7⟩; have P7 : Hid (Pl w w7 ad2 cap2 dd dc ⟨r.1, r.2.1, q.W, q.m⟩) := P6.out.next k7; have d7 := cells_of P7.out.wb; have f7 := froz_of P7.out.wb)
                      have P8 : Hid (Pl w ((w7.setCell ⟨w.heap.size + 3, 0, none⟩ (.slice ad3 u.1.length cap3)).setCell ⟨w.heap.size + 3, 1, none⟩ (.int .i64 u.2.1)) ad2 cap2 ad3 cap3 ⟨r.1, r.2.1, u.1, u.2.1⟩) := P7.out.setD R7 C7 N7
                      go_meet
                      case rel => exact ⟨ad2, cap2, ad3, cap3, by show Pl _ _ _ _ _ _ _; rw [HE.out]; exact P8.out⟩
                    · by_cases hk4 : xk = 4
                      · subst hk4
                        have HE : Hid (pStep more q ⟨4, xm, xp, []⟩ = ⟨(addP q.L q.n s 4 (xm + more) 0 false).1, (addP q.L q.n s 4 (xm + more) 0 false).2.1, (addD q.W q.m s 4 xm).1, (addD q.W q.m s 4 xm).2.1⟩) := (by show _ = _; unfold pStep; rw [if_neg hp0, if_neg (by simp), if_pos (by simp), HS.out]; first | rfl | simp)
                        have KA1 : Hid (∀ W, Pl w W ad cap dd dc q → Calls Tryz.prog 22 #[.agg #[.slice ad q.L.length cap, .int .i64 q.n], .string (bs s), .agg #[.int .i64 4, .int .i64 (xm + more), .int .i64 0, .int .i64 0, .int .i64 0, .string ⟨#[]⟩, .string ⟨#[]⟩, .string ⟨#[]⟩, .slice none 0 0, .int .i64 0, .bool false]] W fun e w' => ∃ ad2 cap2 code, e = .returned (.tuple #[.agg #[.slice ad2 (addP q.L q.n s 4 (xm + more) 0 false).1.length cap2, .int .i64 (addP q.L q.n s 4 (xm + more) 0 false).2.1], .int .i64 code]) ∧ Rs w' ad2 (addP q.L q.n s 4 (xm + more) 0 false).1 ∧ (addP q.L q.n s 4 (xm + more) 0 false).1.length ≤ cap2 ∧ (ad2 = none → cap2 = 0) ∧ Below W.heap.size W w') := KA.out 4 (xm + more) 0 HC0.out hp300 (by omega)
                        have KD1 : Hid (∀ W, Ds W dd q.W → Calls Tryz.prog 27 #[.agg #[.slice dd q.W.length dc, .int .i64 q.m], .string (bs s), .int .i64 4, .int .i64 xm] W fun e w' => ∃ ad2 cap2 code, e = .returned (.tuple #[.agg #[.slice ad2 (addD q.W q.m s 4 xm).1.length cap2, .int .i64 (addD q.W q.m s 4 xm).2.1], .int .i64 code]) ∧ Ds w' ad2 (addD q.W q.m s 4 xm).1 ∧ (addD q.W q.m s 4 xm).1.length ≤ cap2 ∧ (ad2 = none → cap2 = 0) ∧ Below W.heap.size W w') := fun W h => KD.out 4 xm hp300 W (.inr h)
                        generalize addP q.L q.n s 4 (xm + more) 0 false = r at *
                        generalize addD q.W q.m s 4 xm = u at *
                        clear KA KD KL KM HS hp0
                        have hwm : wrap64 (xm + more) = xm + more := by unfold wrap64; omega
                        go_upto_region 17 with fail
                        have kn := below_box w3 (.cells #[.int .i64 4, .int .i64 (xm + more), .int .i64 0, .int .i64 0, .int .i64 0, .string ⟨#[]⟩, .string ⟨#[]⟩, .string ⟨#[]⟩, .slice none 0 0, .int .i64 0, .bool false] 41)
                        have qn := heap_alloc_new w3 (.cells #[.int .i64 4, .int .i64 (xm + more), .int .i64 0, .int .i64 0, .int .i64 0, .string ⟨#[]⟩, .string ⟨#[]⟩, .string ⟨#[]⟩, .slice none 0 0, .int .i64 0, .bool false] 41)
                        have zn := size_box w3 (.cells #[.int .i64 4, .int .i64 (xm + more), .int .i64 0, .int .i64 0, .int .i64 0, .string ⟨#[]⟩, .string ⟨#[]⟩, .string ⟨#[]⟩, .slice none 0 0, .int .i64 0, .bool false] 41)
                        generalize hw4 : w3.alloc _ = w4 at *
                        clear hw4
                        have P4 : Hid (Pl w w4 ad cap dd dc q) := P3.out.next kn
                        have q4 : w4.heap[g1]? = some (.cells #[.int .i64 4, .int .i64 xm, .string (bs xp), .string (bs [])] 63 (0, 0)) := (kn.block _ (by omega)).trans hbox3
                        have l4 := P4.out.lt
                        clear m0 hbox3 kn P3
                        have m1 := cells_of qn
                        have m2 := cells_of P4.out.tb
                        clear hwm
                        go_upto_region 18 with (go_at_call 22; refine (KA1.out _ P4.out).mono ?_; rintro e w5 ⟨ad2, cap2, c2, rfl, R5, C5, N5, k5⟩; have P5 : Hid (Pl w w5 ad cap dd dc q) := P4.out.next k5; have d5 := cells_of P5.out.tb; have f5 := froz_of P5.out.tb)
                        have P6 : Hid (Pl w ((w5.setCell ⟨w.heap.size + 2, 0, none⟩ (.slice ad2 r.1.length cap2)).setCell ⟨w.heap.size + 2, 1, none⟩ (.int .i64 r.2.1)) ad2 cap2 dd dc ⟨r.1, r.2.1, q.W, q.m⟩) := P5.out.setT R5 C5 N5
                        have q6 : ((w5.setCell ⟨w.heap.size + 2, 0, none⟩ (.slice ad2 r.1.length cap2)).setCell ⟨w.heap.size + 2, 1, none⟩ (.int .i64 r.2.1)).heap[g1]? = some (.cells #[.int .i64 4, .int .i64 xm, .string (bs xp), .string (bs [])] 63 (0, 0)) := (Below.heap_setCell _ _ _ _ (by show g1 ≠ w.heap.size + 2; omega)).trans ((Below.heap_setCell _ _ _ _ (by show g1 ≠ w.heap.size + 2; omega)).trans ((k5.block _ (by omega)).trans q4))
                        generalize hw6 : (w5.setCell _ _).setCell _ _ = w6 at *
                        clear hw6
                        clear m1 m2 d5 f5 P5 P4 R5 k5 q4 qn
                        have m1 := cells_of q6
                        have m2 := cells_of P6.out.wb
                        go_wp2_with (go_at_call 27; refine (KD1.out _ P6.out.things).mono ?_; rintro e w7 ⟨ad3, cap3, c3, rfl, R7, C7, N7, k7⟩; have P7 : Hid (Pl w w7 ad2 cap2 dd dc ⟨r.1, r.2.1, q.W, q.m⟩) := P6.out.next k7; have d7 := cells_of P7.out.wb; have f7 := froz_of P7.out.wb)
                        have P8 : Hid (Pl w ((w7.setCell ⟨w.heap.size + 3, 0, none⟩ (.slice ad3 u.1.length cap3)).setCell ⟨w.heap.size + 3, 1, none⟩ (.int .i64 u.2.1)) ad2 cap2 ad3 cap3 ⟨r.1, r.2.1, u.1, u.2.1⟩) := P7.out.setD R7 C7 N7
                        go_meet
                        case rel => exact ⟨ad2, cap2, ad3, cap3, by show Pl _ _ _ _ _ _ _; rw [HE.out]; exact P8.out⟩
                      · have b1 : (xk == 1) = false := by simpa using hk1
                        have b3 : (xk == 3) = false := by simpa using hk3
                        have b4 : (xk == 4) = false := by simpa using hk4
                        have HE : Hid (pStep more q ⟨xk, xm, xp, []⟩ = q) := (by show _ = _; unfold pStep; rw [if_neg hp0, if_neg (by simp), if_neg (fun h => h.elim hk1 (fun h => h.elim hk3 hk4))])
                        clear KA KD KL KM
                        go_wp2_with fail
                        go_meet
                        case rel => exact ⟨ad, cap, dd, dc, by show Pl _ _ _ _ _ _ _; rw [HE.out]; exact P3.out⟩
                · by_cases ce : err xt = 0
                  · have HE : Hid (pStep more q ⟨xk, xm, xp, xt⟩ = ⟨(linkP q.L q.n s tt).1, (linkP q.L q.n s tt).2.1, (linkD q.W q.m s tt).1, (linkD q.W q.m s tt).2.1⟩) := (by show _ = _; unfold pStep; rw [if_neg hp0, if_pos ct, if_pos ce, HS.out, HTT.out])
                    have KL1 : Hid (∀ W, Pl w W ad cap dd dc q → Calls Tryz.prog 25 #[.agg #[.slice ad q.L.length cap, .int .i64 q.n], .string (bs s), .string (bs tt)] W fun e w' => ∃ ad2 cap2 code, e = .returned (.tuple #[.agg #[.slice ad2 (linkP q.L q.n s tt).1.length cap2, .int .i64 (linkP q.L q.n s tt).2.1], .int .i64 code]) ∧ Rs w' ad2 (linkP q.L q.n s tt).1 ∧ (linkP q.L q.n s tt).1.length ≤ cap2 ∧ (ad2 = none → cap2 = 0) ∧ Below W.heap.size W w') := fun W h => KL.out W HC0.out hp300 h
                    have KM1 : Hid (∀ W, Ds W dd q.W → Calls Tryz.prog 26 #[.agg #[.slice dd q.W.length dc, .int .i64 q.m], .string (bs s), .string (bs tt)] W fun e w' => ∃ ad2 cap2 code, e = .returned (.tuple #[.agg #[.slice ad2 (linkD q.W q.m s tt).1.length cap2, .int .i64 (linkD q.W q.m s tt).2.1], .int .i64 code]) ∧ Ds w' ad2 (linkD q.W q.m s tt).1 ∧ (linkD q.W q.m s tt).1.length ≤ cap2 ∧ (ad2 = none → cap2 = 0) ∧ Below W.heap.size W w') := fun W h => KM.out W hp300 h
                    generalize linkP q.L q.n s tt = r at *
                    generalize linkD q.W q.m s tt = u at *
                    clear KA KD KL KM HS HTT hp0
                    rw [decide_eq_false ct] at hbe
                    rw [c0, ce]
                    have m2 := cells_of P3.out.tb
                    go_upto_region 12 with (go_at_call 25; refine (KL1.out _ P3.out).mono ?_; rintro e w5 ⟨ad2, cap2, c2', rfl, R5, C5, N5, k5⟩; have P5 : Hid (Pl w w5 ad cap dd dc q) := P3.out.next k5; have d5 := cells_of P5.out.tb; have f5 := froz_of P5.out.tb)
                    have P6 : Hid (Pl w ((w5.setCell ⟨w.heap.size + 2, 0, none⟩ (.slice ad2 r.1.length cap2)).setCell ⟨w.heap.size + 2, 1, none⟩ (.int .i64 r.2.1)) ad2 cap2 dd dc ⟨r.1, r.2.1, q.W, q.m⟩) := P5.out.setT R5 C5 N5
                    generalize hw6 : (w5.setCell _ _).setCell _ _ = w6 at *
                    clear hw6
                    clear m2 d5 f5 P5 P3 R5 k5 m0 hbox3
                    have m2 := cells_of P6.out.wb
                    go_wp2_with (go_at_call 26; refine (KM1.out _ P6.out.things).mono ?_; rintro e w7 ⟨ad3, cap3, c3', rfl, R7, C7, N7, k7⟩; have P7 : Hid (Pl w w7 ad2 cap2 dd dc ⟨r.1, r.2.1, q.W, q.m⟩) := P6.out.next k7; have d7 := cells_of P7.out.wb; have f7 := froz_of P7.out.wb)
                    have P8 : Hid (Pl w ((w7.setCell ⟨w.heap.size + 3, 0, none⟩ (.slice ad3 u.1.length cap3)).setCell ⟨w.heap.size + 3, 1, none⟩ (.int .i64 u.2.1)) ad2 cap2 ad3 cap3 ⟨r.1, r.2.1, u.1, u.2.1⟩) := P7.out.setD R7 C7 N7
                    go_meet
                    case rel => exact ⟨ad2, cap2, ad3, cap3, by show Pl _ _ _ _ _ _ _; rw [HE.out]; exact P8.out⟩
                  · rw [c0]
                    have hbe2 : xt.isEmpty = false := by rw [hbe, decide_eq_false ct]
                    have ce2 : (err xt == 0) = false := by simpa using ce
                    have HE : Hid (pStep more q ⟨xk, xm, xp, xt⟩ = q) := (by show _ = _; unfold pStep; rw [if_neg hp0, if_pos ct, if_neg ce])
                    clear KA KD KL KM
                    go_wp2_with fail
                    go_meet
                    case rel => exact ⟨ad, cap, dd, dc, by show Pl _ _ _ _ _ _ _; rw [HE.out]; exact P3.out⟩
        · have c02 : (err xp == 0) = false := by simpa using c0
          have HE : Hid (pStep more q ⟨xk, xm, xp, xt⟩ = q) := (by show _ = _; unfold pStep; rw [if_pos (.inl c0)])
          clear KA KD KL KM
          go_wp2_with fail
          go_meet
          case rel => exact ⟨ad, cap, dd, dc, by show Pl _ _ _ _ _ _ _; rw [HE.out]; exact P3.out⟩
      case rest =>
        obtain ⟨ad2, cap2, dd2, dc2, HP2⟩ := hcut
        clear x0 x1 x2 x3
        go_wp2_with fail
        go_roundw
        case rel => exact ⟨i + 1, ad2, cap2, dd2, dc2, by simp, hlt, by show Pl _ _ _ _ _ _ _; rw [HU.out]; exact HP2.out⟩
        case measure => simp [intOf]; omega
    · obtain rfl : i = n := by omega
      have HT : Hid (X.take i = X) := (by show _ = _; rw [← HN.out, List.take_length])
      have HP2 : Hid (Pl w wr ad cap dd dc (plantL more X)) := (by show Pl _ _ _ _ _ _ _; rw [← HT.out]; exact HP.out)
      have F1 := hid HP2.out.fin1
      have F2 := hid HP2.out.fin2
      clear HT HP
      have p1 := cells_of HP2.out.r1
      have p2 := cells_of HP2.out.r2
      have p3 := cells_of HP2.out.tb
      have p4 := cells_of HP2.out.wb
      have g1 := froz_of HP2.out.r1
      have g2 := froz_of HP2.out.r2
      generalize hq : plantL more X = q at *
      have HQ : Hid (plantL more X = q) := hq
      clear hq
      go_upto_region 20 with fail
      clear HN HX HO HM
      have s3 : wr.cell? ⟨w.heap.size + 2, 0, none⟩ = some (.slice ad q.L.length cap) ∧ wr.cell? ⟨w.heap.size + 2, 1, none⟩ = some (.int .i64 q.n) ∧ wr.cell? ⟨w.heap.size + 3, 0, none⟩ = some (.slice dd q.W.length dc) ∧ wr.cell? ⟨w.heap.size + 3, 1, none⟩ = some (.int .i64 q.m) := ⟨p3 0, p3 1, p4 0, p4 1⟩
      have HK : Hid (∀ (W : World) (b : Nat) (v u : Value), b < w.heap.size + 2 → (fun W : World => W.cell? ⟨w.heap.size + 2, 0, none⟩ = some (.slice ad q.L.length cap) ∧ W.cell? ⟨w.heap.size + 2, 1, none⟩ = some (.int .i64 q.n) ∧ W.cell? ⟨w.heap.size + 3, 0, none⟩ = some (.slice dd q.W.length dc) ∧ W.cell? ⟨w.heap.size + 3, 1, none⟩ = some (.int .i64 q.m)) W → (fun W : World => W.cell? ⟨w.heap.size + 2, 0, none⟩ = some (.slice ad q.L.length cap) ∧ W.cell? ⟨w.heap.size + 2, 1, none⟩ = some (.int .i64 q.n) ∧ W.cell? ⟨w.heap.size + 3, 0, none⟩ = some (.slice dd q.W.length dc) ∧ W.cell? ⟨w.heap.size + 3, 1, none⟩ = some (.int .i64 q.m)) ((W.setCell ⟨b, 0, none⟩ v).setCell ⟨b, 1, none⟩ u)) := fun W b v u hb h => by
        have e : ∀ g j, w.heap.size + 2 ≤ g → ((W.setCell ⟨b, 0, none⟩ v).setCell ⟨b, 1, none⟩ u).cell? ⟨g, j, none⟩ = W.cell? ⟨g, j, none⟩ := fun g j hg => by
          rw [World.cell?_setCell_far _ _ _ _ (by show b ≠ g; omega), World.cell?_setCell_far _ _ _ _ (by show b ≠ g; omega)]
        exact ⟨(e _ _ (by omega)).trans h.1, (e _ _ (by omega)).trans h.2.1, (e _ _ (by omega)).trans h.2.2.1, (e _ _ (by omega)).trans h.2.2.2⟩
      have hA0 := HK.out wr w.heap.size (.slice ad q.L.length cap) (.int .i64 q.n) (by omega) s3
      have hB0 := HK.out wr (w.heap.size + 1) (.slice dd q.W.length dc) (.int .i64 q.m) (by omega) s3
      have hAB := HK.out _ (w.heap.size + 1) (.slice dd q.W.length dc) (.int .i64 q.m) (by omega) hA0
      have hBA := HK.out _ w.heap.size (.slice ad q.L.length cap) (.int .i64 q.n) (by omega) hB0
      go_region_held3 (fun W : World => W.cell? ⟨w.heap.size + 2, 0, none⟩ = some (.slice ad q.L.length cap) ∧ W.cell? ⟨w.heap.size + 2, 1, none⟩ = some (.int .i64 q.n) ∧ W.cell? ⟨w.heap.size + 3, 0, none⟩ = some (.slice dd q.W.length dc) ∧ W.cell? ⟨w.heap.size + 3, 1, none⟩ = some (.int .i64 q.m)) (first | assumption | exact s3 | exact hA0 | exact hB0 | exact hAB | exact hBA) (fail)
      obtain ⟨e1, e2, R9, D9, B9⟩ := F1.out
      generalize hw9 : ((((wr.setCell _ _).setCell _ _).setCell _ _).setCell _ _) = w9 at *
      clear hw9
      go_wp2_with fail
      have hl1 := run_loadVar_row (P := Tryz.prog) w9.drew _ _ 26 _ _ _ e1 Tryz.underlying26 rfl (by kernel_rfl)
      have hl2 := run_loadVar_row (P := Tryz.prog) w9.drew _ _ 29 _ _ _ e2 Tryz.underlying29 rfl (by kernel_rfl)
      exact bodyPost_ret (v := .tuple #[.agg #[.slice ad q.L.length cap, .int .i64 q.n], .agg #[.slice dd q.W.length dc, .int .i64 q.m]]) (by rw [results_cell2 rfl]; simp [asAddr, hl1, hl2]) rfl ⟨_, _, rfl, by show Tm _ _ (plantL more X).L (plantL more X).n; rw [HQ.out]; exact ⟨ad, cap, rfl, (show Rs w9.drew ad q.L from R9), HP2.out.hcap, HP2.out.nil⟩, by show Dt _ _ (plantL more X).W (plantL more X).m; rw [HQ.out]; exact ⟨dd, dc, rfl, (show Ds w9.drew dd q.W from D9), HP2.out.hdc, HP2.out.dnil⟩, B9.drew⟩

end Go.Proofs.YtpgiibpalmhhlaaGreatDoor
