/-
  What the laws share: planted trees, in boxes; what Over gives.
-/
import Derived.Test.YtpgiibpalmhhlaaGreatDoorMl0
import Derived.Test.YtpgiibpalmhhlaaGreatDoorMp0
import Derived.Test.YtpgiibpalmhhlaaGreatDoorDp1
namespace Go.Proofs.YtpgiibpalmhhlaaGreatDoor
open Go.RowKit
open Go.Lib hiding intOf
set_option linter.unusedVariables false
set_option linter.unusedSimpArgs false

/-- a planted tree, as laws need it -/
structure Pd (L : List Rw) (n : Int) : Prop where
  sd : Sd L n
  len : L.length ≤ 9030
  nx : 0 ≤ n ∧ n ≤ 9030
  kinds : ∀ r ∈ L, r.kind = 1 ∨ r.kind = 3 ∨ r.kind = 4
theorem pd_of (more : Int) (X : List Tg) (h : X.length ≤ 30) : Pd (plantL more X).L (plantL more X).n := by
  have := plantL_ok more X
  exact ⟨this.sd, Nat.le_trans this.len (by omega), ⟨this.sd.nn, Int.le_trans this.nx (by omega)⟩, this.files⟩

/-- two trees at hand, in boxes -/
structure Kn (w W : World) (gA gB : Nat) (A B : Array Value) (aA aB : Option Addr) (LA LB : List Rw) : Prop where
  ba : W.heap[gA]? = some (.cells A 26 (0, 0))
  bb : W.heap[gB]? = some (.cells B 26 (0, 0))
  ra : Rs W aA LA
  rb : Rs W aB LB
  bel : Below w.heap.size w W
theorem Kn.next {w W W' : World} {gA gB : Nat} {A B : Array Value} {aA aB : Option Addr} {LA LB : List Rw} (h : Kn w W gA gB A B aA aB LA LB) (b : Below W.heap.size W W') : Kn w W' gA gB A B aA aB LA LB :=
  ⟨(b.block _ (Array.getElem?_eq_some_iff.1 h.ba).1).trans h.ba, (b.block _ (Array.getElem?_eq_some_iff.1 h.bb).1).trans h.bb, h.ra.below b, h.rb.below b, h.bel.trans (b.mono h.bel.size)⟩
theorem Kn.lt {w W : World} {gA gB : Nat} {A B : Array Value} {aA aB : Option Addr} {LA LB : List Rw} (h : Kn w W gA gB A B aA aB LA LB) : gA < W.heap.size ∧ gB < W.heap.size := ⟨(Array.getElem?_eq_some_iff.1 h.ba).1, (Array.getElem?_eq_some_iff.1 h.bb).1⟩
theorem Kn.mk0 {w wl wa wb W : World} {A B C D : Array Value} {aA aB : Option Addr} {LA LB : List Rw} {t u : TypeId} (hl : Below w.heap.size w wl) (ra : Rs wa aA LA) (ba : Below wl.heap.size wl wa) (H : Two wa W A C 26 t) (bb : Below W.heap.size W wb) (rb : Rs wb aB LB) {W' : World} (H2 : Two wb W' B D 26 u) : Kn w W' wa.heap.size wb.heap.size A B aA aB LA LB := by
  have h1 := H.next bb
  have h2 := H2.2.2.1
  have h3 := h1.2.2.2
  exact ⟨(h2.block _ (by omega)).trans h1.1, H2.1, (ra.below h1.2.2.1).below h2, rb.below h2, ((hl.trans (ba.mono hl.size)).trans (h1.2.2.1.mono (Nat.le_trans hl.size ba.size))).trans (h2.mono (Nat.le_trans hl.size (Nat.le_trans ba.size h1.2.2.1.size)))⟩

theorem ovX_len (bn : Int) : ∀ (U S X : List Rw), ovX bn S U = some X → X.length ≤ S.length + U.length
  | [], S, X, e => by
    injection e with e
    subst e; simp
  | r :: us, S, X, e => by
    rw [ovX_step] at e
    split at e
    · cases e
    · obtain ⟨X', e1, rfl⟩ := Option.map_eq_some_iff.1 e
      have h1 := ovX_len bn us _ X' e1
      have h2 := ix_le S r.p
      have h3 : (rstL S r.p).length ≤ S.length - ix S r.p := by unfold rstL; rw [List.length_drop]; split <;> omega
      rw [List.length_append, List.length_cons, List.length_cons, List.length_take]
      omega
theorem overP_len (L1 L2 : List Rw) (n1 n2 : Int) : (overP L1 n1 L2 n2).1.length ≤ L1.length + L2.length := by
  unfold overP
  cases e : ovX n1 L1 L2 with
  | none => show L1.length ≤ _; omega
  | some X => exact ovX_len n1 L2 L1 X e

/-- what Over gives, as laws need it -/
theorem over_l {LA LB : List Rw} {nA nB : Int} (PA : Pd LA nA) (PB : Pd LB nB) (aA aB : Option Addr) (cA cB : Nat) (w : World) (hm : Ml w) (rA : Rs w aA LA) (rB : Rs w aB LB) (kA : LA.length ≤ cA) (eA : aA = none → cA = 0) :
    Calls Tryz.prog 11 #[.agg #[.slice aA LA.length cA, .int .i64 nA], .agg #[.slice aB LB.length cB, .int .i64 nB]] w fun e w' => ∃ a c X, e = .returned (.tuple #[.agg #[.slice a X.length c, .int .i64 (overP LA nA LB nB).2.1], .int .i64 (overP LA nA LB nB).2.2]) ∧ X = (overP LA nA LB nB).1 ∧ Rs w' a X ∧ X.length ≤ c ∧ (a = none → c = 0) ∧ Below w.heap.size w w' := by
  have hA := PA.len; have hB := PB.len; have nA' := PA.nx; have nB' := PB.nx
  refine (over_w aA aB cA cB nA nB LA LB w hm PA.sd.srt rA rB (by omega) (by omega) kA eA (by omega) (by omega) (fun r hr => by have := (PA.sd.ok r hr).1; omega) (fun r hr => by have h1 := (PB.sd.ok r hr).1; have h2 := PB.sd.id r hr; omega)).mono ?_
  rintro e w' ⟨v, rfl, ⟨a, c, rfl, h1, h2, h3⟩, hb⟩
  exact ⟨a, c, _, rfl, rfl, h1, h2, h3, hb⟩
theorem over_kinds {LA LB : List Rw} {nA nB : Int} (PA : Pd LA nA) (PB : Pd LB nB) : (((overP LA nA LB nB).2.2 = 130 ∧ LB.any (clsh LA) = true) ∨ ((overP LA nA LB nB).2.2 = 0 ∧ LB.any (clsh LA) = false)) ∧ ∀ q ∈ (overP LA nA LB nB).1, q.p.length ≤ 1000 ∧ (fd LA q.p = true → decide ((atR LA q.p).kind = 4) = decide (q.kind = 4)) := by
  have hS := PA.sd.srt
  have hU := PB.sd.srt
  cases e : ovX nA LA LB with
  | none =>
    have h1 := (ovX_none nA LB LA hS hU).1 e
    unfold overP
    rw [e]
    exact ⟨.inl ⟨rfl, by rw [List.any_eq_true]; exact h1⟩, fun q hq => ⟨(PA.sd.ok q hq).1, fun _ => by rw [atR_of hS hq]⟩⟩
  | some X =>
    have h0 := ov_kind hS hU e
    have h2 := (ovX_some nA LB LA X hS hU e).2
    unfold overP
    rw [e]
    refine ⟨.inr ⟨rfl, ?_⟩, fun q hq => ⟨?_, h0 q hq⟩⟩
    · cases ha : LB.any (clsh LA) with
      | false => rfl
      | true =>
        have := (ovX_none nA LB LA hS hU).2 (List.any_eq_true.1 ha)
        rw [e] at this; cases this
    · rcases (h2 q).1 hq with ⟨h3, _⟩ | ⟨r, hr, rfl⟩
      · exact (PA.sd.ok q h3).1
      · rw [ovR_p]; exact (PB.sd.ok r hr).1
theorem any_succ (f : Rw → Bool) (L : List Rw) (i : Nat) (r : Rw) (h : L[i]? = some r) : (L.take (i + 1)).any f = ((L.take i).any f || f r) := by
  obtain ⟨hi, e⟩ := List.getElem?_eq_some_iff.1 h
  rw [List.take_succ_eq_append_getElem hi, List.any_append, e]; simp

end Go.Proofs.YtpgiibpalmhhlaaGreatDoor
