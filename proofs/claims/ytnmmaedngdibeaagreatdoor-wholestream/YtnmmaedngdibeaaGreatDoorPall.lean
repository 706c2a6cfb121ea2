/-
  Texts in one: Pu, Pv, Pm, Pn, Po, Pq, Pr, Ps, Pt, Pw, Px, Py, Pz.
-/
import Derived.Test.YtnmmaedngdibeaaGreatDoorProg
import Derived.Test.YtnmmaedngdibeaaGreatDoorHDec2
import Derived.Test.YtnmmaedngdibeaaGreatDoorEMa
import Derived.Test.YtnmmaedngdibeaaGreatDoorFCode
import Derived.Laws.AppendOwn
import Derived.OwnWalk
import Derived.Test.YtnmmaedngdibeaaGreatDoorEPad
import Derived.Deep.RegionHeld3
import Derived.Deep.RegionWith
import Derived.Deep.Cut
import Derived.Test.YtnmmaedngdibeaaGreatDoorXMa
import Derived.Maps.AppendAt
import Derived.Laws.AppendOwnNone
import Derived.OrdersHeld
import Derived.Deep.RegionHeld
namespace Go.Proofs.YtnmmaedngdibeaaGreatDoor
set_option linter.unusedVariables false
set_option linter.unusedSimpArgs false

namespace Pu
variable {H E R T : Type}

/-- what other layers answer -/
structure Fns (H E R T : Type) where
  blank : List Int → Bool
  decode : List Int → Sum Int H
  typ : H → Int
  size : H → Int
  cls : Int → Int
  make : H → List R → List R → T → T → Sum Int E
  esize : E → Nat
  text : List Int → T
  recs : List Int → Sum Int (List R)
  none : T

structure Ps (R T : Type) where
  rd : Nat
  pt : Nat
  lf : Nat
  kp : List Int
  bg : Int
  cl : Int
  bl : Bool
  gl : List R
  lo : List R
  nm : T
  lk : T
  er : Option (Int × Int)

inductive Ev (E : Type) where
  | bgn (e : E) (p : Nat)
  | dat (b : List Int) (p : Nat)
  | fin (p : Nat)
  | don (p : Nat)
  | bad (code place : Int) (p : Nat)

variable (F : Fns H E R T)

def new : Ps R T := ⟨0, 0, 512, [], 0, 0, false, [], [], F.none, F.none, none⟩
def stop (s : Ps R T) (er : Option (Int × Int)) : Ps R T := ⟨s.rd, 4, 0, [], 0, 0, false, [], [], F.none, F.none, er⟩
def fail (s : Ps R T) (e : Int) : Ps R T × List (Ev E) := (stop F s (some (e, s.bg)), [.bad e s.bg s.rd])
def expect (s : Ps R T) (pt lf : Nat) : Ps R T := { s with pt := pt, lf := lf, kp := [] }
def pad (n : Nat) : Nat := (512 - n % 512) % 512
def fill (s : Ps R T) : Ps R T := expect s 3 (pad s.rd)
def endBlank (s : Ps R T) : Ps R T × List (Ev E) := if s.bl then (stop F s none, [.don s.rd]) else ({ expect s 0 512 with bl := true }, [])
def beginThing (s : Ps R T) (h : H) : Ps R T × List (Ev E) :=
  match F.make h s.gl s.lo s.nm s.lk with
  | .inl e => fail F s e
  | .inr x => (expect { s with lo := [], nm := F.none, lk := F.none } 2 (F.esize x), [.bgn x s.rd])
def beginMeta (s : Ps R T) (n : Int) : Ps R T × List (Ev E) :=
  if n < 0 then fail F s 90 else if 8192 < n then fail F s 2 else (expect s 1 n.toNat, [])
def endHeader (s0 : Ps R T) : Ps R T × List (Ev E) :=
  let s := { s0 with bg := (s0.rd : Int) - 512 }
  if F.blank s.kp then endBlank F s
  else if s.bl then fail F s 120
  else match F.decode s.kp with
    | .inl e => fail F s e
    | .inr h =>
      let s := { s with cl := F.cls (F.typ h) }
      if s.cl = 0 then fail F s 80
      else if s.cl = 1 then beginThing F s h
      else beginMeta F s (F.size h)
def add (l : List R) (b : List Int) : Sum Int (List R) :=
  match F.recs b with
  | .inl e => .inl e
  | .inr m => if 64 < l.length + m.length then .inl 2 else .inr (l ++ m)
def layAhead (s : Ps R T) : Ps R T × Int :=
  if s.cl = 4 then ({ s with nm := F.text s.kp }, 0)
  else if s.cl = 5 then ({ s with lk := F.text s.kp }, 0)
  else if s.cl = 2 then (match add F s.lo s.kp with | .inl e => ({ s with lo := [] }, e) | .inr l => ({ s with lo := l }, 0))
  else if s.cl = 3 then (match add F s.gl s.kp with | .inl e => ({ s with gl := [] }, e) | .inr l => ({ s with gl := l }, 0))
  else (s, 0)
def endMeta (s : Ps R T) : Ps R T × List (Ev E) :=
  if (layAhead F s).2 = 0 then (fill (layAhead F s).1, []) else fail F (layAhead F s).1 (layAhead F s).2
def turn (s : Ps R T) : Ps R T × List (Ev E) :=
  if s.pt = 0 then endHeader F s
  else if s.pt = 1 then endMeta F s
  else if s.pt = 2 then (fill s, [.fin s.rd])
  else (expect s 0 512, [])
def take (s : Ps R T) (b : List Int) : Ps R T × List (Ev E) :=
  let s1 := { s with rd := s.rd + b.length, lf := s.lf - b.length }
  if s.pt = 0 ∨ s.pt = 1 then ({ s1 with kp := s.kp ++ b }, [])
  else if s.pt = 2 then (s1, [.dat b s1.rd])
  else (s1, [])

/-- how many turns there are yet -/
def rank (s : Ps R T) : Nat := if s.lf ≠ 0 ∨ s.pt = 4 then 0 else if s.pt = 0 then 3 else if s.pt = 3 then 1 else 2

theorem rank_le (s : Ps R T) : rank s ≤ 3 := by unfold rank; (repeat' split) <;> omega

theorem rank_stop (s : Ps R T) (er) : rank (stop F s er) = 0 := by simp [rank, stop]
theorem rank_512 (s : Ps R T) (p : Nat) : rank (expect s p 512) = 0 := by simp [rank, expect]
theorem rank_fill (s : Ps R T) : rank (fill s) ≤ 1 := by
  unfold rank fill expect
  simp only
  (repeat' split) <;> first | omega | simp_all

theorem rank_turn (s : Ps R T) (h0 : s.lf = 0) (h4 : s.pt ≠ 4) : rank (turn F s).1 < rank s := by
  have hs : rank s = if s.pt = 0 then 3 else if s.pt = 3 then 1 else 2 := by simp [rank, h0, h4]
  rw [hs]
  have hle : ∀ (x : Ps R T) (p n : Nat), p ≠ 0 → rank (expect x p n) ≤ 2 := fun x p n hp => by
    unfold rank expect
    simp only [hp, if_false]
    (repeat' split) <;> omega
  unfold turn
  by_cases c0 : s.pt = 0
  · rw [if_pos c0, if_pos c0]
    unfold endHeader
    simp only
    split
    · unfold endBlank
      split
      · rw [rank_stop]; omega
      · simp [rank, expect]
    · split
      · simp only [fail]; rw [rank_stop]; omega
      · split
        · simp only [fail]; rw [rank_stop]; omega
        · split
          · simp only [fail]; rw [rank_stop]; omega
          · split
            · unfold beginThing
              split
              · simp only [fail]; rw [rank_stop]; omega
              · exact Nat.lt_succ_of_le (hle _ _ _ (by omega))
            · unfold beginMeta
              split
              · simp only [fail]; rw [rank_stop]; omega
              · split
                · simp only [fail]; rw [rank_stop]; omega
                · exact Nat.lt_succ_of_le (hle _ _ _ (by omega))
  · rw [if_neg c0, if_neg c0]
    by_cases c1 : s.pt = 1
    · rw [if_pos c1, if_neg (by omega)]
      unfold endMeta
      split
      · exact Nat.lt_succ_of_le (rank_fill _)
      · simp only [fail]; rw [rank_stop]; omega
    · rw [if_neg c1]
      by_cases c2 : s.pt = 2
      · rw [if_pos c2, if_neg (by omega)]
        exact Nat.lt_succ_of_le (rank_fill _)
      · rw [if_neg c2, rank_512]
        split <;> omega

/-- all turns that there are -/
def settle : Nat → Ps R T → Ps R T × List (Ev E)
  | 0, s => (s, [])
  | f + 1, s => if s.lf = 0 ∧ s.pt ≠ 4 then ((settle f (turn F s).1).1, (turn F s).2 ++ (settle f (turn F s).1).2) else (s, [])

/-- a parser that waits for bytes, or is over -/
def Fit (s : Ps R T) : Prop := s.lf ≠ 0 ∨ s.pt = 4
theorem fit_rank {s : Ps R T} : Fit s ↔ rank s = 0 := by
  unfold Fit rank
  constructor
  · intro h; rw [if_pos h]
  · intro h
    apply Classical.byContradiction
    intro hc
    rw [if_neg hc] at h
    revert h
    (repeat' split) <;> intro h <;> omega

theorem settle_fit : ∀ (f : Nat) (s : Ps R T), rank s ≤ f → Fit (settle F f s).1
  | 0, s, h => fit_rank.2 (by show rank s = 0; omega)
  | f + 1, s, h => by
    unfold settle
    by_cases c : s.lf = 0 ∧ s.pt ≠ 4
    · rw [if_pos c]
      exact settle_fit f _ (by have := rank_turn F s c.1 c.2; omega)
    · rw [if_neg c]
      unfold Fit
      by_cases h1 : s.pt = 4
      · exact .inr h1
      · exact .inl fun h2 => c ⟨h2, h1⟩
theorem settle_of_fit {s : Ps R T} (h : Fit s) (f : Nat) : settle F f s = (s, []) := by
  cases f with
  | zero => rfl
  | succ f =>
    unfold settle
    rw [if_neg]
    rintro ⟨h1, h2⟩
    rcases h with h | h
    · exact h h1
    · exact h2 h

/-- bytes come -/
def feed : Nat → Ps R T → List Int → Ps R T × List (Ev E)
  | 0, s, _ => (s, [])
  | f + 1, s, b =>
    if b = [] ∨ s.pt = 4 then (s, [])
    else
      let n := min s.lf b.length
      let t := take s (b.take n)
      let u := settle F 3 t.1
      let r := feed f u.1 (b.drop n)
      (r.1, t.2 ++ u.2 ++ r.2)

/-- one byte comes -/
def step (s : Ps R T) (c : Int) : Ps R T × List (Ev E) :=
  if s.pt = 4 then (s, [])
  else
    let t := take s [c]
    let u := settle F 3 t.1
    (u.1, t.2 ++ u.2)
def run (s : Ps R T) : List Int → Ps R T × List (Ev E)
  | [] => (s, [])
  | c :: r => ((run (step F s c).1 r).1, (step F s c).2 ++ (run (step F s c).1 r).2)

theorem step_fit {s : Ps R T} (h : Fit s) (c : Int) : Fit (step F s c).1 := by
  unfold step
  split
  · exact h
  · exact settle_fit F 3 _ (rank_le _)
theorem run_fit {s : Ps R T} (h : Fit s) : ∀ b, Fit (run F s b).1 := by
  intro b
  induction b generalizing s with
  | nil => exact h
  | cons c r ih => exact ih (step_fit F h c)
theorem run_append (s : Ps R T) : ∀ a b, run F s (a ++ b) = ((run F (run F s a).1 b).1, (run F s a).2 ++ (run F (run F s a).1 b).2) := by
  intro a
  induction a generalizing s with
  | nil => intro b; rfl
  | cons c r ih => intro b; simp only [List.cons_append, run]; rw [ih]; simp
theorem run_over {s : Ps R T} (h : s.pt = 4) : ∀ b, run F s b = (s, []) := by
  intro b
  induction b with
  | nil => rfl
  | cons c r ih =>
    have : step F s c = (s, []) := by unfold step; rw [if_pos h]
    simp only [run, this, ih]
    rfl

/-- what is told of the same bytes in unlike pieces -/
inductive Same : List (Ev E) → List (Ev E) → Prop where
  | nil : Same [] []
  | ev (e : Ev E) {x y} (h : Same x y) : Same (e :: x) (e :: y)
  | cut (a b : List Int) (p : Nat) (ha : a ≠ []) (hb : b ≠ []) {x y} (h : Same (.dat b p :: x) y) : Same (.dat (a ++ b) p :: x) (.dat a (p - b.length) :: y)

theorem Same.refl : ∀ (x : List (Ev E)), Same x x
  | [] => .nil
  | e :: x => .ev e (Same.refl x)
theorem Same.pre : ∀ (p : List (Ev E)) {x y}, Same x y → Same (p ++ x) (p ++ y)
  | [], _, _, h => h
  | e :: p, _, _, h => .ev e (Same.pre p h)
theorem Same.post {x y : List (Ev E)} (h : Same x y) (z : List (Ev E)) {z'} (hz : Same z z') : Same (x ++ z) (y ++ z') := by
  induction h with
  | nil => exact hz
  | ev e _ ih => exact .ev e ih
  | cut a b p ha hb _ ih => exact .cut a b p ha hb ih

/-- bytes within a part, one by one -/
theorem run_part : ∀ (b : List Int) (s : Ps R T), s.pt ≠ 4 → b ≠ [] → b.length ≤ s.lf → ∃ evs, run F s b = ((settle F 3 (take (E := E) s b).1).1, evs) ∧ Same ((take (E := E) s b).2 ++ (settle F 3 (take (E := E) s b).1).2) evs
  | [], s, _, h, _ => absurd rfl h
  | [c], s, h4, _, hl => by
    refine ⟨_, ?_, Same.refl _⟩
    simp only [run, step, if_neg h4, List.append_nil]
  | c :: d :: r, s, h4, _, hl => by
    have hl2 : (d :: r).length + 1 ≤ s.lf := hl
    have hfit : Fit (take (E := E) s [c]).1 := by
      unfold Fit take
      simp only [List.length_singleton]
      left
      split
      · show s.lf - 1 ≠ 0; simp at hl2; omega
      · split <;> (show s.lf - 1 ≠ 0; simp at hl2; omega)
    have hst : step F s c = ((take (E := E) s [c]).1, (take (E := E) s [c]).2) := by
      unfold step
      rw [if_neg h4]
      simp only
      rw [settle_of_fit F hfit]
      simp
    have hpt : (take (E := E) s [c]).1.pt = s.pt := by unfold take; (repeat' split) <;> rfl
    have hlf : (take (E := E) s [c]).1.lf = s.lf - 1 := by unfold take; (repeat' split) <;> rfl
    obtain ⟨evs, e1, e2⟩ := run_part (d :: r) (take (E := E) s [c]).1 (by rw [hpt]; exact h4) (by simp) (by rw [hlf]; omega)
    have htt : (take (E := E) (take (E := E) s [c]).1 (d :: r)).1 = (take (E := E) s (c :: d :: r)).1 := by
      unfold take
      by_cases c0 : s.pt = 0 ∨ s.pt = 1
      · simp [c0, Nat.add_assoc, Nat.sub_sub, Nat.add_comm]
      · by_cases c2 : s.pt = 2
        · simp [c2, Nat.add_assoc, Nat.sub_sub, Nat.add_comm]
        · simp [c0, c2, Nat.add_assoc, Nat.sub_sub, Nat.add_comm]
    rw [htt] at e1 e2
    refine ⟨(take (E := E) s [c]).2 ++ evs, ?_, ?_⟩
    · show run F s (c :: (d :: r)) = _
      simp only [run] at e1 ⊢
      rw [hst]
      simp only
      injection e1 with e3 e4
      rw [e3, e4]
    · by_cases c0 : s.pt = 0 ∨ s.pt = 1
      · have z1 : (take (E := E) s [c]).2 = [] := by simp [take, c0]
        have z2 : (take (E := E) s (c :: d :: r)).2 = [] := by simp [take, c0]
        have z3 : (take (E := E) (take (E := E) s [c]).1 (d :: r)).2 = [] := by simp [take, c0]
        rw [z1, z2]
        rw [z3] at e2
        exact e2
      · by_cases c2 : s.pt = 2
        · have z1 : (take (E := E) s [c]).2 = [.dat [c] (s.rd + 1)] := by simp [take, c2]
          have z2 : (take (E := E) s (c :: d :: r)).2 = [.dat ([c] ++ (d :: r)) (s.rd + (r.length + 1 + 1))] := by simp [take, c2]
          have z3 : (take (E := E) (take (E := E) s [c]).1 (d :: r)).2 = [.dat (d :: r) (s.rd + (r.length + 1 + 1))] := by simp [take, c2]; omega
          rw [z1, z2]
          rw [z3] at e2
          have := Same.cut [c] (d :: r) (s.rd + (r.length + 1 + 1)) (by simp) (by simp) e2
          have e9 : s.rd + (r.length + 1 + 1) - (d :: r).length = s.rd + 1 := by simp; omega
          rw [e9] at this
          exact this
        · have z1 : (take (E := E) s [c]).2 = [] := by simp [take, c0, c2]
          have z2 : (take (E := E) s (c :: d :: r)).2 = [] := by simp [take, c0, c2]
          have z3 : (take (E := E) (take (E := E) s [c]).1 (d :: r)).2 = [] := by simp [take, c0, c2]
          rw [z1, z2]
          rw [z3] at e2
          exact e2

/-- bytes at once are those one by one -/
theorem feed_run : ∀ (f : Nat) (s : Ps R T) (b : List Int), b.length ≤ f → Fit s → (feed F f s b).1 = (run F s b).1 ∧ Same (feed F f s b).2 (run F s b).2
  | 0, s, b, h, _ => by
    obtain rfl : b = [] := List.eq_nil_of_length_eq_zero (by omega)
    exact ⟨rfl, .nil⟩
  | f + 1, s, b, h, hs => by
    unfold feed
    by_cases c : b = [] ∨ s.pt = 4
    · rw [if_pos c]
      rcases c with rfl | c
      · exact ⟨rfl, .nil⟩
      · rw [run_over F c]; exact ⟨rfl, .nil⟩
    · rw [if_neg c]
      have hb : b ≠ [] := fun h => c (.inl h)
      have h4 : s.pt ≠ 4 := fun h => c (.inr h)
      have hlf : s.lf ≠ 0 := by rcases hs with h | h; exact h; exact absurd h h4
      have hbl : 0 < b.length := List.length_pos_iff.2 hb
      obtain ⟨n, hn⟩ : ∃ n, n = min s.lf b.length := ⟨_, rfl⟩
      simp only [← hn]
      have hn0 : 0 < n := by omega
      have hnl : n ≤ b.length := by omega
      have htl : (b.take n).length = n := by rw [List.length_take]; omega
      obtain ⟨evs, e1, e2⟩ := run_part F (b.take n) s h4 (by intro h; rw [h] at htl; simp at htl; omega) (by omega)
      have hr := run_append F s (b.take n) (b.drop n)
      rw [List.take_append_drop] at hr
      rw [hr, e1]
      simp only
      obtain ⟨f1, f2⟩ := feed_run f (settle F 3 (take (E := E) s (b.take n)).1).1 (b.drop n) (by rw [List.length_drop]; omega) (settle_fit F 3 _ (rank_le _))
      exact ⟨f1, e2.post _ f2⟩

end Pu
end Go.Proofs.YtnmmaedngdibeaaGreatDoor

namespace Go.Proofs.YtnmmaedngdibeaaGreatDoor
set_option linter.unusedVariables false
set_option linter.unusedSimpArgs false

namespace Pu
variable {H E R T : Type}

/-- a thing that was read -/
structure Th (E : Type) where
  e : E
  d : List Int
  wh : Bool
  p : Nat
/-- what was gathered -/
structure Ac (E : Type) where
  ts : List (Th E)
  op : Bool
  ov : Bool
  dn : Bool
  code : Int
  place : Int

def Ac.nil : Ac E := ⟨[], false, false, false, 0, 0⟩

def chLast (f : Th E → Th E) : List (Th E) → List (Th E)
  | [] => []
  | [t] => [f t]
  | t :: u :: r => t :: chLast f (u :: r)

theorem chLast_snoc (f : Th E → Th E) (t : Th E) : ∀ l, chLast f (l ++ [t]) = l ++ [f t]
  | [] => rfl
  | [a] => rfl
  | a :: b :: r => by
    have := chLast_snoc f t (b :: r)
    simp only [List.cons_append] at this ⊢
    simp only [chLast]
    rw [this]
theorem chLast_length (f : Th E → Th E) : ∀ l, (chLast f l).length = l.length
  | [] => rfl
  | [a] => rfl
  | a :: b :: r => by simp only [chLast, List.length_cons]; rw [chLast_length f (b :: r)]; rfl
theorem chLast_comp (f g : Th E → Th E) : ∀ l, chLast f (chLast g l) = chLast (f ∘ g) l
  | [] => rfl
  | [a] => rfl
  | [a, b] => rfl
  | a :: b :: c :: r => by
    have := chLast_comp f g (b :: c :: r)
    simp only [chLast] at this ⊢
    rw [this]

def arc (a : Ac E) : Ev E → Option (Ac E)
  | .bgn e p => if a.ov then none else if a.op then none else some { a with ts := a.ts ++ [⟨e, [], false, p⟩], op := true }
  | .dat b p => if a.ov then none else if a.op = false ∨ b = [] then none else some { a with ts := chLast (fun t => { t with d := t.d ++ b, p := p }) a.ts }
  | .fin p => if a.ov then none else if a.op = false then none else some { a with ts := chLast (fun t => { t with wh := true, p := p }) a.ts, op := false }
  | .don p => if a.ov then none else some { a with dn := true, ov := true }
  | .bad c q p => if a.ov then none else some { a with ov := true, code := c, place := q }

def arcs (a : Ac E) : List (Ev E) → Option (Ac E)
  | [] => some a
  | e :: r => (arc a e).bind fun b => arcs b r

theorem arcs_append (a : Ac E) : ∀ x y, arcs a (x ++ y) = (arcs a x).bind fun b => arcs b y := by
  intro x
  induction x generalizing a with
  | nil => intro y; rfl
  | cons e r ih =>
    intro y
    simp only [List.cons_append, arcs]
    cases arc a e with
    | none => rfl
    | some b => exact ih b y

theorem arcs_same {x y : List (Ev E)} (h : Same x y) : ∀ a : Ac E, arcs a x = arcs a y := by
  induction h with
  | nil => intro a; rfl
  | ev e _ ih => intro a; simp only [arcs]; cases arc a e with | none => rfl | some b => exact ih b
  | cut u v p hu hv _ ih =>
    intro a
    simp only [arcs]
    by_cases ho : a.ov = true
    · simp [arc, ho]
    · by_cases hp : a.op = false
      · simp [arc, ho, hp]
      · have h1 : arc a (.dat (u ++ v) p) = some { a with ts := chLast (fun t => { t with d := t.d ++ (u ++ v), p := p }) a.ts } := by simp [arc, ho, hp, hu]
        have h2 : arc a (.dat u (p - v.length)) = some { a with ts := chLast (fun t => { t with d := t.d ++ u, p := p - v.length }) a.ts } := by simp [arc, ho, hp, hu]
        rw [h1, h2]
        simp only [Option.bind_some]
        rw [← ih]
        simp only [arcs]
        have h3 : arc { a with ts := chLast (fun t : Th E => { t with d := t.d ++ u, p := p - v.length }) a.ts } (.dat v p) = some { a with ts := chLast (fun t => { t with d := t.d ++ (u ++ v), p := p }) a.ts } := by
          simp only [arc, ho, hp, hv, Bool.false_eq_true, if_false, or_self]
          rw [chLast_comp]
          simp [Function.comp_def, List.append_assoc]
        rw [h3]
        rfl

variable (F : Fns H E R T)

/-- what was gathered goes with the parser -/
structure Goes (s : Ps R T) (a : Ac E) : Prop where
  ov : a.ov = true ↔ s.pt = 4
  op : s.pt ≠ 4 → (a.op = true ↔ s.pt = 2)

theorem goes_new : Goes (new F) (Ac.nil (E := E)) := ⟨by simp [new, Ac.nil], by simp [new, Ac.nil]⟩

theorem Goes.fail {s : Ps R T} {a : Ac E} (hv : a.ov = false) (e : Int) : ∃ b, arcs a (fail F s e).2 = some b ∧ Goes (fail F s e).1 b :=
  ⟨_, by simp [Pu.fail, arcs, arc, hv]; rfl, ⟨by simp [Pu.fail, stop], by simp [Pu.fail, stop]⟩⟩

theorem Goes.turn {s : Ps R T} {a : Ac E} (h : Goes s a) (h4 : s.pt ≠ 4) : ∃ b, arcs a (turn F s).2 = some b ∧ Goes (turn F s).1 b := by
  have hv : a.ov = false := by
    cases hx : a.ov with
    | false => rfl
    | true => exact absurd (h.ov.1 hx) h4
  have hop := h.op h4
  have same : ∀ s' : Ps R T, s'.pt ≠ 4 → s'.pt ≠ 2 → a.op = false → Goes s' a := fun s' h1 h2 h3 => ⟨by simp [hv, h1], fun _ => by simp [h3, h2]⟩
  unfold Pu.turn
  by_cases c0 : s.pt = 0
  · have ho : a.op = false := by
      cases hx : a.op with
      | false => rfl
      | true => have := hop.1 hx; omega
    rw [if_pos c0]
    unfold endHeader
    simp only
    split
    · unfold endBlank
      split
      · exact ⟨_, by simp [arcs, arc, hv]; rfl, ⟨by simp [stop], by simp [stop]⟩⟩
      · exact ⟨a, rfl, same _ (by simp [expect]) (by simp [expect]) ho⟩
    · split
      · exact Goes.fail F hv _
      · split
        · exact Goes.fail F hv _
        · split
          · exact Goes.fail F hv _
          · split
            · unfold beginThing
              split
              · exact Goes.fail F hv _
              · exact ⟨_, by simp [arcs, arc, hv, ho]; rfl, ⟨by simp [expect, hv], by simp [expect]⟩⟩
            · unfold beginMeta
              split
              · exact Goes.fail F hv _
              · split
                · exact Goes.fail F hv _
                · exact ⟨a, rfl, same _ (by simp [expect]) (by simp [expect]) ho⟩
  · rw [if_neg c0]
    by_cases c1 : s.pt = 1
    · have ho : a.op = false := by
        cases hx : a.op with
        | false => rfl
        | true => have := hop.1 hx; omega
      rw [if_pos c1]
      unfold endMeta
      split
      · exact ⟨a, rfl, same _ (by simp [fill, expect]) (by simp [fill, expect]) ho⟩
      · exact Goes.fail F hv _
    · rw [if_neg c1]
      by_cases c2 : s.pt = 2
      · rw [if_pos c2]
        have ho : a.op = true := hop.2 c2
        exact ⟨_, by simp [arcs, arc, hv, ho]; rfl, ⟨by simp [fill, expect, hv], by simp [fill, expect]⟩⟩
      · rw [if_neg c2]
        have ho : a.op = false := by
          cases hx : a.op with
          | false => rfl
          | true => exact absurd (hop.1 hx) c2
        exact ⟨a, rfl, same _ (by simp [expect]) (by simp [expect]) ho⟩

theorem Goes.settle : ∀ (f : Nat) {s : Ps R T} {a : Ac E}, Goes s a → ∃ b, arcs a (settle F f s).2 = some b ∧ Goes (settle F f s).1 b
  | 0, s, a, h => ⟨a, rfl, h⟩
  | f + 1, s, a, h => by
    unfold Pu.settle
    by_cases c : s.lf = 0 ∧ s.pt ≠ 4
    · rw [if_pos c]
      obtain ⟨b, e1, h1⟩ := h.turn F c.2
      obtain ⟨d, e2, h2⟩ := Goes.settle f h1
      exact ⟨d, by simp only [arcs_append, e1, Option.bind_some]; exact e2, h2⟩
    · rw [if_neg c]; exact ⟨a, rfl, h⟩

theorem Goes.take {s : Ps R T} {a : Ac E} (h : Goes s a) (h4 : s.pt ≠ 4) (b : List Int) (hb : b ≠ []) : ∃ d, arcs a (take s b).2 = some d ∧ Goes (take (E := E) s b).1 d := by
  have hv : a.ov = false := by
    cases hx : a.ov with
    | false => rfl
    | true => exact absurd (h.ov.1 hx) h4
  have hpt : (Pu.take (E := E) s b).1.pt = s.pt := by unfold Pu.take; (repeat' split) <;> rfl
  by_cases c2 : s.pt = 2
  · have ho : a.op = true := (h.op h4).2 c2
    refine ⟨_, by simp [Pu.take, c2, arcs, arc, hv, ho, hb]; rfl, ⟨by simp [hpt, h4, hv], fun _ => by simp [hpt, c2, ho]⟩⟩
  · have e2 : (Pu.take (E := E) s b).2 = [] := by unfold Pu.take; simp only [c2, if_false]; split <;> rfl
    rw [e2]
    exact ⟨a, rfl, ⟨by rw [hpt]; exact h.ov, by rw [hpt]; exact h.op⟩⟩

theorem Goes.run {s : Ps R T} {a : Ac E} (h : Goes s a) : ∀ b, ∃ d, arcs a (run F s b).2 = some d ∧ Goes (run F s b).1 d := by
  intro b
  induction b generalizing s a with
  | nil => exact ⟨a, rfl, h⟩
  | cons c r ih =>
    have hst : ∃ d, arcs a (step F s c).2 = some d ∧ Goes (step F s c).1 d := by
      unfold step
      by_cases h4 : s.pt = 4
      · rw [if_pos h4]; exact ⟨a, rfl, h⟩
      · rw [if_neg h4]
        obtain ⟨d, e1, h1⟩ := h.take h4 [c] (by simp)
        obtain ⟨k, e2, h2⟩ := h1.settle F 3
        exact ⟨k, by simp only [arcs_append, e1, Option.bind_some]; exact e2, h2⟩
    obtain ⟨d, e1, h1⟩ := hst
    obtain ⟨k, e2, h2⟩ := ih h1
    exact ⟨k, by simp only [Pu.run, arcs_append, e1, Option.bind_some]; exact e2, h2⟩

/-- the archive that bytes are -/
def arch (b : List Int) : Ac E := (arcs Ac.nil (run F (new F) b).2).getD Ac.nil
theorem arch_eq (b : List Int) : arcs Ac.nil (run F (new F) b).2 = some (arch F b) ∧ Goes (run F (new F) b).1 (arch F b) := by
  obtain ⟨d, e, h⟩ := (goes_new F).run F b
  unfold arch
  rw [e]
  exact ⟨rfl, h⟩

/-- more behind an archive's end turns nothing -/
theorem arch_over (b m : List Int) (h : (arch F b).ov = true) : arch F (b ++ m) = arch F b ∧ (run F (new F) (b ++ m)).1 = (run F (new F) b).1 := by
  obtain ⟨e, g⟩ := arch_eq F b
  have h4 := g.ov.1 h
  have hr := run_append F (new F) b m
  rw [run_over F h4] at hr
  simp only [List.append_nil] at hr
  unfold arch
  rw [hr]
  exact ⟨rfl, rfl⟩

/-- one is the beginning of the other -/
structure Begins (a b : Ac E) : Prop where
  ts : ∀ (i : Nat) (t : Th E), a.ts[i]? = some t → ∃ u, b.ts[i]? = some u ∧ t.e = u.e ∧ (∃ m, u.d = t.d ++ m) ∧ (t.wh = true → t = u)
  dn : a.dn = true → b.dn = true

theorem Begins.refl (a : Ac E) : Begins a a := ⟨fun i t h => ⟨t, h, rfl, ⟨[], by simp⟩, fun _ => rfl⟩, fun h => h⟩
theorem Begins.trans {a b c : Ac E} (h : Begins a b) (k : Begins b c) : Begins a c := by
  refine ⟨fun i t ht => ?_, fun x => k.dn (h.dn x)⟩
  obtain ⟨u, e1, e2, ⟨m, e3⟩, e4⟩ := h.ts i t ht
  obtain ⟨v, f1, f2, ⟨m2, f3⟩, f4⟩ := k.ts i u e1
  refine ⟨v, f1, e2.trans f2, ⟨m ++ m2, by rw [f3, e3, List.append_assoc]⟩, fun hw => ?_⟩
  have e5 := e4 hw
  rw [e5]
  exact f4 (by rw [← e5]; exact hw)
theorem Begins.len {a b : Ac E} (h : Begins a b) : a.ts.length ≤ b.ts.length := by
  rcases Nat.eq_zero_or_pos a.ts.length with h0 | h0
  · omega
  · obtain ⟨u, hu, _⟩ := h.ts (a.ts.length - 1) _ (List.getElem?_eq_getElem (by omega))
    have := (List.getElem?_eq_some_iff.1 hu).1
    omega

/-- one that is open is not whole yet -/
def Half (a : Ac E) : Prop := a.op = true → ∃ l t, a.ts = l ++ [t] ∧ t.wh = false

theorem begins_last {a : Ac E} (l : List (Th E)) (t u : Th E) (ht : a.ts = l ++ [t]) (hw : t.wh = false) (he : t.e = u.e) (hd : ∃ m, u.d = t.d ++ m) {b : Ac E} (hb : b.ts = l ++ [u]) (hn : a.dn = true → b.dn = true) : Begins a b := by
  refine ⟨fun i x hx => ?_, hn⟩
  rw [ht] at hx
  rw [hb]
  by_cases c : i < l.length
  · rw [List.getElem?_append_left c] at hx ⊢
    exact ⟨x, hx, rfl, ⟨[], by simp⟩, fun _ => rfl⟩
  · rw [List.getElem?_append_right (by omega)] at hx ⊢
    have hi : i - l.length = 0 := by
      rcases Nat.eq_zero_or_pos (i - l.length) with h | h
      · exact h
      · rw [List.getElem?_eq_none (by simp; omega)] at hx; cases hx
    rw [hi] at hx ⊢
    simp at hx
    subst hx
    exact ⟨u, rfl, he, hd, fun h => by rw [hw] at h; cases h⟩

theorem arc_begins {a b : Ac E} {e : Ev E} (h : arc a e = some b) (hh : Half a) : Begins a b ∧ Half b := by
  cases e with
  | bgn x p =>
    simp only [arc] at h
    split at h
    · cases h
    · split at h
      · cases h
      · cases h
        refine ⟨⟨fun i t ht => ⟨t, ?_, rfl, ⟨[], by simp⟩, fun _ => rfl⟩, fun x => x⟩, fun _ => ⟨_, _, rfl, rfl⟩⟩
        show (a.ts ++ _)[i]? = _
        rw [List.getElem?_append_left (List.getElem?_eq_some_iff.1 ht).1]
        exact ht
  | dat d p =>
    simp only [arc] at h
    split at h
    · cases h
    · split at h
      · cases h
      · rename_i ho
        cases h
        have hop : a.op = true := by cases hx : a.op with | true => rfl | false => exact absurd (.inl hx) ho
        obtain ⟨l, t, e1, e2⟩ := hh hop
        have e3 : chLast (fun t : Th E => { t with d := t.d ++ d, p := p }) a.ts = l ++ [{ t with d := t.d ++ d, p := p }] := by rw [e1, chLast_snoc]
        exact ⟨begins_last l t { t with d := t.d ++ d, p := p } e1 e2 rfl ⟨d, rfl⟩ e3 (fun x => x), fun _ => ⟨l, _, e3, e2⟩⟩
  | fin p =>
    simp only [arc] at h
    split at h
    · cases h
    · split at h
      · cases h
      · rename_i ho
        cases h
        have hop : a.op = true := by cases hx : a.op with | true => rfl | false => exact absurd hx ho
        obtain ⟨l, t, e1, e2⟩ := hh hop
        have e3 : chLast (fun t : Th E => { t with wh := true, p := p }) a.ts = l ++ [{ t with wh := true, p := p }] := by rw [e1, chLast_snoc]
        exact ⟨begins_last l t { t with wh := true, p := p } e1 e2 rfl ⟨[], by simp⟩ e3 (fun x => x), fun h => by cases h⟩
  | don p =>
    simp only [arc] at h
    split at h
    · cases h
    · cases h
      exact ⟨⟨fun i t ht => ⟨t, ht, rfl, ⟨[], by simp⟩, fun _ => rfl⟩, fun _ => rfl⟩, hh⟩
  | bad c q p =>
    simp only [arc] at h
    split at h
    · cases h
    · cases h
      exact ⟨⟨fun i t ht => ⟨t, ht, rfl, ⟨[], by simp⟩, fun _ => rfl⟩, fun x => x⟩, hh⟩

theorem arcs_begins : ∀ (evs : List (Ev E)) {a b : Ac E}, arcs a evs = some b → Half a → Begins a b ∧ Half b
  | [], a, b, h, hh => by cases h; exact ⟨Begins.refl _, hh⟩
  | e :: r, a, b, h, hh => by
    simp only [arcs] at h
    cases hx : arc a e with
    | none => rw [hx] at h; cases h
    | some d =>
      rw [hx] at h
      obtain ⟨h1, h2⟩ := arc_begins hx hh
      obtain ⟨h3, h4⟩ := arcs_begins r h h2
      exact ⟨h1.trans h3, h4⟩

theorem arch_begins (b m : List Int) : Begins (arch F b) (arch F (b ++ m)) := by
  have h0 : Half (Ac.nil (E := E)) := fun h => by cases h
  obtain ⟨e1, _⟩ := arch_eq F b
  obtain ⟨e2, _⟩ := arch_eq F (b ++ m)
  rw [run_append] at e2
  simp only [arcs_append, e1, Option.bind_some] at e2
  exact (arcs_begins _ e2 (arcs_begins _ e1 h0).2).1

/-- pieces, one behind the other -/
def feeds (s : Ps R T) : List (List Int) → Ps R T × List (Ev E)
  | [] => (s, [])
  | b :: r => ((feeds (feed F b.length s b).1 r).1, (feed F b.length s b).2 ++ (feeds (feed F b.length s b).1 r).2)

theorem feed_fit {s : Ps R T} (h : Fit s) (b : List Int) : Fit (feed F b.length s b).1 := by
  rw [(feed_run F b.length s b (Nat.le_refl _) h).1]
  exact run_fit F h b

theorem feeds_run : ∀ (ps : List (List Int)) (s : Ps R T), Fit s → (feeds F s ps).1 = (run F s ps.flatten).1 ∧ ∀ a : Ac E, arcs a (feeds F s ps).2 = arcs a (run F s ps.flatten).2
  | [], s, _ => ⟨rfl, fun _ => rfl⟩
  | b :: r, s, h => by
    obtain ⟨e1, e2⟩ := feed_run F b.length s b (Nat.le_refl _) h
    obtain ⟨f1, f2⟩ := feeds_run r (feed F b.length s b).1 (feed_fit F h b)
    simp only [List.flatten_cons, run_append, feeds]
    rw [e1] at f1 f2 ⊢
    refine ⟨f1, fun a => ?_⟩
    rw [arcs_append, arcs_append, arcs_same e2]
    cases arcs a (run F s b).2 with
    | none => rfl
    | some d => exact f2 d

end Pu
end Go.Proofs.YtnmmaedngdibeaaGreatDoor

namespace Go.Proofs.YtnmmaedngdibeaaGreatDoor
open Go.RowKit
set_option linter.unusedVariables false
set_option linter.unusedSimpArgs false

abbrev Rec := ByteArray × ByteArray
abbrev PsR := Pu.Ps Rec ByteArray

/-- an error's value -/
def errV : Option (Int × Int) → Value
  | none => .nilIface
  | some (e, p) => F.chain e [p]

def pCells (s : PsR) (kv gv lv : Value) : Array Value := #[.int .i64 (s.rd : Int), .int .i64 (s.pt : Int), .int .i64 (s.lf : Int), kv, .int .i64 s.bg, .int .i64 s.cl, .bool s.bl, gv, lv, .string s.nm, .string s.lk, errV s.er]

/-- the blocks that a parser may change -/
def Mine (g : Nat) (kv gv lv : Value) (k : Nat) : Prop := k = g ∨ kv.ownBlock = some k ∨ gv.ownBlock = some k ∨ lv.ownBlock = some k

/-- a parser -/
structure Pm (w : World) (g : Nat) (s : PsR) (kv gv lv : Value) : Prop where
  box : w.heap[g]? = some (.cells (pCells s kv gv lv) 72 (0, 0))
  kept : w.ownsRow 0 5 1 kv s.kp.length (H.cellsOf s.kp)
  glob : w.ownsRow 0 59 2 gv s.gl.length (X.recCells s.gl)
  loc : w.ownsRow 0 59 2 lv s.lo.length (X.recCells s.lo)
  apart : ∀ k, gv.ownBlock = some k → lv.ownBlock ≠ some k

/-- only these blocks have changed -/
structure Mv (O : Nat → Prop) (w w' : World) : Prop where
  os : w'.os = w.os
  tape : w'.tape = w.tape
  output : w'.output = w.output
  size : w.heap.size ≤ w'.heap.size
  block : ∀ k, k < w.heap.size → ¬ O k → w'.heap[k]? = w.heap[k]?

theorem Mv.refl (O : Nat → Prop) (w : World) : Mv O w w := ⟨rfl, rfl, rfl, Nat.le_refl _, fun _ _ _ => rfl⟩
theorem Mv.of_below {O : Nat → Prop} {w w' : World} (b : Below w.heap.size w w') : Mv O w w' := ⟨b.os, b.tape, b.output, b.size, fun k hk _ => b.block k hk⟩
theorem Mv.trans {O O' : Nat → Prop} {a b c : World} (h : Mv O a b) (k : Mv O' b c) (hO : ∀ x, O' x → O x ∨ a.heap.size ≤ x) : Mv O a c :=
  ⟨k.os.trans h.os, k.tape.trans h.tape, k.output.trans h.output, Nat.le_trans h.size k.size, fun x hx hn => (k.block x (by have := h.size; omega) (fun hx' => by rcases hO x hx' with h1 | h1; exact hn h1; omega)).trans (h.block x hx hn)⟩
theorem Mv.below {O : Nat → Prop} {w w' : World} (h : Mv O w w') {B : Nat} (hB : B ≤ w.heap.size) (hO : ∀ k, O k → B ≤ k) : Below B w w' :=
  ⟨h.os, h.tape, h.output, h.size, fun k hk => h.block k (by omega) (fun hx => by have := hO k hx; omega)⟩

/-- the parser behind a call -/
def Nx (w w' : World) (g : Nat) (kv gv lv : Value) (s : PsR) : Prop :=
  ∃ kv' gv' lv', Pm w' g s kv' gv' lv' ∧ Mv (Mine g kv gv lv) w w' ∧ ∀ k, Mine g kv' gv' lv' k → Mine g kv gv lv k ∨ w.heap.size ≤ k

theorem lt_of_heap {w : World} {k : Nat} {o : Obj} (h : w.heap[k]? = some o) : k < w.heap.size := (Array.getElem?_eq_some_iff.1 h).1

theorem own_moved {w w' : World} {e n sz B : Nat} {v : Value} {xs : List Value} (h : w.ownsRow B e sz v n xs) (hb : ∀ k, v.ownBlock = some k → w'.heap[k]? = w.heap[k]?) : w'.ownsRow B e sz v n xs := by
  refine ⟨h.1, ?_⟩
  rcases h.2 with h2 | ⟨g, cap, cur, e1, e2, e3, e4⟩
  · exact .inl h2
  · exact .inr ⟨g, cap, cur, e1, e2, (hb g (by rw [e1]; rfl)).trans e3, e4⟩
theorem own_lt {w : World} {e n sz B : Nat} {v : Value} {xs : List Value} (h : w.ownsRow B e sz v n xs) {k : Nat} (hk : v.ownBlock = some k) : k < w.heap.size ∧ ∃ cur, w.heap[k]? = some (.cells cur e (0, 0)) := by
  rcases h.2 with ⟨e1, _⟩ | ⟨g, cap, cur, e1, e2, e3, e4⟩
  · rw [e1] at hk; simp [Value.ownBlock] at hk
  · rw [e1] at hk
    simp [Value.ownBlock] at hk
    subst hk
    exact ⟨lt_of_heap e3, cur, e3⟩

section
variable {w w' : World} {g : Nat} {s : PsR} {kv gv lv : Value}

theorem Pm.lt (h : Pm w g s kv gv lv) : g < w.heap.size := lt_of_heap h.box
theorem Pm.mine (h : Pm w g s kv gv lv) {k : Nat} (hk : Mine g kv gv lv k) : k < w.heap.size := by
  rcases hk with rfl | hk | hk | hk
  · exact h.lt
  · exact (own_lt h.kept hk).1
  · exact (own_lt h.glob hk).1
  · exact (own_lt h.loc hk).1
theorem Pm.moved (h : Pm w g s kv gv lv) (hb : ∀ k, Mine g kv gv lv k → w'.heap[k]? = w.heap[k]?) : Pm w' g s kv gv lv :=
  ⟨(hb g (.inl rfl)).trans h.box, own_moved h.kept fun k hk => hb k (.inr (.inl hk)), own_moved h.glob fun k hk => hb k (.inr (.inr (.inl hk))), own_moved h.loc fun k hk => hb k (.inr (.inr (.inr hk))), h.apart⟩
theorem Pm.grow (h : Pm w g s kv gv lv) (b : Below w.heap.size w w') : Pm w' g s kv gv lv := h.moved fun k hk => b.block k (h.mine hk)
theorem Pm.keptNe (h : Pm w g s kv gv lv) : kv.ownBlock ≠ some g := fun hk => by
  obtain ⟨_, cur, e⟩ := own_lt h.kept hk
  rw [h.box] at e
  injection e with e
  injection e with _ e
  cases e
theorem Pm.globNe (h : Pm w g s kv gv lv) : gv.ownBlock ≠ some g := fun hk => by
  obtain ⟨_, cur, e⟩ := own_lt h.glob hk
  rw [h.box] at e
  injection e with e
  injection e with _ e
  cases e
theorem Pm.locNe (h : Pm w g s kv gv lv) : lv.ownBlock ≠ some g := fun hk => by
  obtain ⟨_, cur, e⟩ := own_lt h.loc hk
  rw [h.box] at e
  injection e with e
  injection e with _ e
  cases e
theorem Pm.cell (h : Pm w g s kv gv lv) (i : Nat) : w.cell? ⟨g, i, none⟩ = (pCells s kv gv lv)[i]? := by simp [World.cell?, h.box]
theorem Pm.froz (h : Pm w g s kv gv lv) (i : Nat) : w.frozen? ⟨g, i, none⟩ = false := by simp [World.frozen?, h.box]

theorem Nx.refl (h : Pm w g s kv gv lv) : Nx w w g kv gv lv s := ⟨kv, gv, lv, h, Mv.refl _ _, fun k hk => .inl hk⟩
theorem Nx.grow (h : Pm w g s kv gv lv) (b : Below w.heap.size w w') : Nx w w' g kv gv lv s := ⟨kv, gv, lv, h.grow b, Mv.of_below b, fun k hk => .inl hk⟩
end

end Go.Proofs.YtnmmaedngdibeaaGreatDoor

namespace Go.Proofs.YtnmmaedngdibeaaGreatDoor
open Go.RowKit
set_option linter.unusedVariables false
set_option linter.unusedSimpArgs false

/-- the parser's box has changed, nothing else -/
structure Bx (g : Nat) (w W : World) (C : Array Value) : Prop where
  box : W.heap[g]? = some (.cells C 72 (0, 0))
  os : W.os = w.os
  tape : W.tape = w.tape
  output : W.output = w.output
  size : W.heap.size = w.heap.size
  block : ∀ k, k ≠ g → W.heap[k]? = w.heap[k]?

theorem Bx.mk0 {g : Nat} {w : World} {C : Array Value} (h : w.heap[g]? = some (.cells C 72 (0, 0))) : Bx g w w C := ⟨h, rfl, rfl, rfl, rfl, fun _ _ => rfl⟩
theorem Bx.drew {g : Nat} {w W : World} {C : Array Value} (h : Bx g w W C) : Bx g w W.drew C := ⟨h.box, h.os, h.tape, h.output, h.size, h.block⟩
theorem Bx.set {g : Nat} {w W : World} {C : Array Value} (h : Bx g w W C) (i : Nat) (v : Value) : Bx g w (W.setCell ⟨g, i, none⟩ v) (C.setIfInBounds i v) := by
  rw [setCell_eq_setRow W g i _ _ _ v h.box]
  exact ⟨setRow_heap _ _ _ _ _ _ h.box, h.os, h.tape, h.output, by rw [setRow_size]; exact h.size, fun k hk => (setRow_other _ _ _ _ hk).trans (h.block k hk)⟩
theorem Bx.setRow {g : Nat} {w W : World} {C : Array Value} (h : Bx g w W C) (D : Array Value) : Bx g w (W.setRow g D) D :=
  ⟨setRow_heap _ _ _ _ _ _ h.box, h.os, h.tape, h.output, by rw [setRow_size]; exact h.size, fun k hk => (setRow_other _ _ _ _ hk).trans (h.block k hk)⟩
theorem Bx.cell {g : Nat} {w W : World} {C : Array Value} (h : Bx g w W C) (i : Nat) : W.cell? ⟨g, i, none⟩ = C[i]? := by simp [World.cell?, h.box]
theorem Bx.froz {g : Nat} {w W : World} {C : Array Value} (h : Bx g w W C) (i : Nat) : W.frozen? ⟨g, i, none⟩ = false := by simp [World.frozen?, h.box]
theorem Bx.mv {g : Nat} {w W : World} {C : Array Value} (h : Bx g w W C) (kv gv lv : Value) : Mv (Mine g kv gv lv) w W :=
  ⟨h.os, h.tape, h.output, Nat.le_of_eq h.size.symm, fun k _ hn => h.block k (fun e => hn (.inl e))⟩

theorem own_sl {w : World} {e n sz B : Nat} {v : Value} {xs : List Value} (h : w.ownsRow B e sz v n xs) : ∃ a c, v = .slice a n c ∧ n ≤ c ∧ c ≤ 9223372036854775807 ∧ (a = none → c = 0) := by
  rcases h.2 with ⟨e1, e2⟩ | ⟨g, cap, cur, e1, e2, e3, e4, e5, _⟩
  · subst e1 e2; exact ⟨none, 0, rfl, Nat.le_refl _, by omega, fun _ => rfl⟩
  · subst e1; unfold maxLen at e5; exact ⟨_, cap, rfl, e4, by omega, fun h => by cases h⟩

/-- a row of one's own, made empty -/
def emptied : Value → Value
  | .slice a _ c => .slice a 0 c
  | v => v
theorem emptied_own {w : World} {e B n sz : Nat} {v : Value} {xs : List Value} (h : w.ownsRow B e sz v n xs) : w.ownsRow B e sz (emptied v) 0 [] := by
  refine ⟨by simp, ?_⟩
  rcases h.2 with ⟨e1, e2⟩ | ⟨g, cap, cur, e1, e2, e3, e4, e5, e6, e7⟩
  · subst e1; exact .inl ⟨rfl, rfl⟩
  · subst e1; exact .inr ⟨g, cap, cur, rfl, e2, e3, Nat.zero_le _, e5, e6, by simp⟩
theorem emptied_block (v : Value) : (emptied v).ownBlock = v.ownBlock := by
  cases v <;> first | rfl | skip
  rename_i a n c
  cases a <;> rfl

theorem slice0 {w : World} {n : Nat} {v : Value} {xs : List Value} (h : w.ownsRow 0 5 1 v n xs) (W : World) : (Instr.sliceAt 22 v none (some (.int .i64 0)) none).run Tryz.prog W = .ok (emptied v) W := by
  rcases h.2 with ⟨e1, e2⟩ | ⟨g, cap, cur, e1, e2, e3, e4, e5, e6, e7⟩
  · subst e1
    exact X.run_high W none 0 0 0 (Nat.le_refl _)
  · subst e1
    exact X.run_high W (some ⟨g, 0, none⟩) n cap 0 (Nat.zero_le _)

section
variable {w : World} {g : Nat} {s : PsR} {kv gv lv : Value}

theorem Pm.expect (h : Pm w g s kv gv lv) (pt lf : Nat) {W : World} (b : Bx g w W (pCells (Pu.expect s pt lf) (emptied kv) gv lv)) : Pm W g (Pu.expect s pt lf) (emptied kv) gv lv := by
  refine ⟨b.box, ?_, ?_, ?_, h.apart⟩
  · exact own_moved (emptied_own h.kept) fun k hk => b.block k (by rw [emptied_block] at hk; intro e; subst e; exact h.keptNe hk)
  · exact own_moved h.glob fun k hk => b.block k (by intro e; subst e; exact h.globNe hk)
  · exact own_moved h.loc fun k hk => b.block k (by intro e; subst e; exact h.locNe hk)
theorem Mine.emptied {k : Nat} (h : Mine g (emptied kv) gv lv k) : Mine g kv gv lv k := by
  unfold Mine at *
  rw [emptied_block] at h
  exact h

set_option maxRecDepth 20000 in
set_option maxHeartbeats 4000000 in
theorem expect_w (h : Pm w g s kv gv lv) (pt lf : Nat) :
    Calls Tryz.prog 42 #[.pointer (some ⟨g, 0, none⟩), .int .i64 (pt : Int), .int .i64 (lf : Int)] w fun e w' => e = .returned (.tuple #[]) ∧ Pm w' g (Pu.expect s pt lf) (emptied kv) gv lv ∧ Bx g w w' (pCells (Pu.expect s pt lf) (emptied kv) gv lv) := by
  obtain ⟨ka, kc, hkv, hk1, hk2, _⟩ := own_sl h.kept
  have hsl := slice0 h.kept
  generalize hPP : (fun (e : Ending) (w' : World) => e = .returned (.tuple #[]) ∧ Pm w' g (Pu.expect s pt lf) (emptied kv) gv lv ∧ Bx g w w' (pCells (Pu.expect s pt lf) (emptied kv) gv lv)) = PP
  have HPP : Hid (∀ W, Bx g w W (pCells (Pu.expect s pt lf) (emptied kv) gv lv) → PP (.returned (.tuple #[])) W) := fun W b => by rw [← hPP]; exact ⟨rfl, h.expect pt lf b, b⟩
  clear hPP
  have B0 : Bx g w w (pCells s kv gv lv) := Bx.mk0 h.box
  have c0 := B0.cell
  have f0 := B0.froz
  have HB0 : Hid (Bx g w w (pCells s kv gv lv)) := B0
  clear h B0
  unfold pCells at c0
  subst hkv
  simp only [emptied] at hsl HPP
  generalize s.kp.length = kn at *
  go_enter Tryz.func42, Tryz.ntmps42
  refine wp_region_held_drew (S := (fun W : World => True)) (by kernel_rfl) trivial (fun hHeld => ?_)
  refine wpAnyH_take (i := 0) (oi := { dst := some 6, op := Op.move (Operand.tmp 0), type := 37, pos := "push.go:116", after := #[], guard := none }) (v := ?_) rfl (by kernel_rfl) (by kernel_rfl) (by kernel_rfl) (fun _ _ _ h => h) (Or.inl ⟨by rfl, ?_⟩) (by assumption) ?_
  rotate_left 1
  · (intro W hSw; go_simp; try with_reducible rfl)
  (try simp only [Act.put, List.setIfInBounds_toArray, List.set_cons_zero, List.set_cons_succ])
  refine wpAnyH_take (i := 1) (oi := { dst := some 7, op := Op.move (Operand.tmp 0), type := 37, pos := "push.go:116", after := #[{ on := 12, ground := Ground.gcOnly Departure.lateStores }], guard := none }) (v := ?_) rfl (by kernel_rfl) (by kernel_rfl) (by kernel_rfl) (fun _ _ _ h => h) (Or.inl ⟨by rfl, ?_⟩) (by assumption) ?_
  rotate_left 1
  · (intro W hSw; go_simp; try with_reducible rfl)
  (try simp only [Act.put, List.setIfInBounds_toArray, List.set_cons_zero, List.set_cons_succ])
  refine wpAnyH_take (i := 2) (oi := { dst := some 8, op := Op.move (Operand.tmp 0), type := 37, pos := "push.go:116", after := #[{ on := 15, ground := Ground.gcOnly Departure.lateStores }], guard := none }) (v := ?_) rfl (by kernel_rfl) (by kernel_rfl) (by kernel_rfl) (fun _ _ _ h => h) (Or.inl ⟨by rfl, ?_⟩) (by assumption) ?_
  rotate_left 1
  · (intro W hSw; go_simp; try with_reducible rfl)
  (try simp only [Act.put, List.setIfInBounds_toArray, List.set_cons_zero, List.set_cons_succ])
  refine wpAnyH_take (i := 3) (oi := { dst := some 9, op := Op.move (Operand.tmp 1), type := 3, pos := "push.go:116", after := #[], guard := none }) (v := ?_) rfl (by kernel_rfl) (by kernel_rfl) (by kernel_rfl) (fun _ _ _ h => h) (Or.inl ⟨by rfl, ?_⟩) (by assumption) ?_
  rotate_left 1
  · (intro W hSw; go_simp; try with_reducible rfl)
  (try simp only [Act.put, List.setIfInBounds_toArray, List.set_cons_zero, List.set_cons_succ])
  refine wpAnyH_take (i := 4) (oi := { dst := some 10, op := Op.move (Operand.tmp 2), type := 2, pos := "push.go:116", after := #[{ on := 12, ground := Ground.gcOnly Departure.lateStores }], guard := none }) (v := ?_) rfl (by kernel_rfl) (by kernel_rfl) (by kernel_rfl) (fun _ _ _ h => h) (Or.inl ⟨by rfl, ?_⟩) (by assumption) ?_
  rotate_left 1
  · (intro W hSw; go_simp; try with_reducible rfl)
  (try simp only [Act.put, List.setIfInBounds_toArray, List.set_cons_zero, List.set_cons_succ])
  refine wpAnyH_take (i := 5) (oi := { dst := some 11, op := Op.move (Operand.tmp 0), type := 37, pos := "push.go:116", after := #[], guard := none }) (v := ?_) rfl (by kernel_rfl) (by kernel_rfl) (by kernel_rfl) (fun _ _ _ h => h) (Or.inl ⟨by rfl, ?_⟩) (by assumption) ?_
  rotate_left 1
  · (intro W hSw; go_simp; try with_reducible rfl)
  (try simp only [Act.put, List.setIfInBounds_toArray, List.set_cons_zero, List.set_cons_succ])
  refine wpAnyH_take (i := 6) (oi := { dst := some 12, op := Op.nilCheck (Operand.tmp 11), type := 0, pos := "push.go:116", after := #[{ on := 5, ground := Ground.data }], guard := none }) (v := ?_) rfl (by kernel_rfl) (by kernel_rfl) (by kernel_rfl) (fun _ _ _ h => h) (Or.inl ⟨by rfl, ?_⟩) (by assumption) ?_
  rotate_left 1
  · (intro W hSw; go_simp; try with_reducible rfl)
  (try simp only [Act.put, List.setIfInBounds_toArray, List.set_cons_zero, List.set_cons_succ])
  refine wpAnyH_take (i := 7) (oi := { dst := some 13, op := Op.fieldAddr 72 (Operand.tmp 12) 3, type := 0, pos := "push.go:116", after := #[{ on := 6, ground := Ground.data }], guard := none }) (v := ?_) rfl (by kernel_rfl) (by kernel_rfl) (by kernel_rfl) (fun _ _ _ h => h) (Or.inl ⟨by rfl, ?_⟩) (by assumption) ?_
  rotate_left 1
  · (intro W hSw; go_simp; try with_reducible rfl)
  (try simp only [Act.put, List.setIfInBounds_toArray, List.set_cons_zero, List.set_cons_succ])
  refine wpAnyH_ready (rs := [8]) (by kernel_rfl) (by simp) ?_
  refine AllReadyH.cons (o := { dst := some 14, op := Op.load 22 (Operand.tmp 13), type := 22, pos := "push.go:116", after := #[{ on := 7, ground := Ground.data }], guard := none }) rfl (fun K hK => ?_) AllReadyH.nil
  · go_simp
    refine hK.out _ _ (by first | exact trivial | assumption) (fun hHeld => ?_)
    clear hK K
    (try simp only [Act.put, List.setIfInBounds_toArray, List.set_cons_zero, List.set_cons_succ])
    refine wpAnyH_take (i := 9) (oi := { dst := some 15, op := Op.slice 22 (Operand.tmp 14) none (some (Operand.const (Value.int IntKind.i64 0))) none, type := 22, pos := "push.go:116", after := #[{ on := 8, ground := Ground.data }], guard := none }) (v := ?_) rfl (by kernel_rfl) (by kernel_rfl) (by kernel_rfl) (fun _ _ _ h => h) (Or.inl ⟨by rfl, ?_⟩) (by assumption) ?_
    rotate_left 1
    · (intro W hSw; go_simp; try with_reducible rfl)
    (try simp only [Act.put, List.setIfInBounds_toArray, List.set_cons_zero, List.set_cons_succ])
    refine wpAnyH_take (i := 10) (oi := { dst := some 16, op := Op.nilCheck (Operand.tmp 6), type := 0, pos := "push.go:116", after := #[{ on := 0, ground := Ground.data }, { on := 0, ground := Ground.phase }, { on := 1, ground := Ground.textOnly Departure.lateStores }, { on := 2, ground := Ground.textOnly Departure.lateStores }, { on := 3, ground := Ground.phase }, { on := 4, ground := Ground.textOnly Departure.lateStores }, { on := 5, ground := Ground.textOnly Departure.lateStores }, { on := 6, ground := Ground.textOnly Departure.lateStoresUnsure }, { on := 7, ground := Ground.textOnly Departure.lateStoresUnsure }, { on := 8, ground := Ground.phase }, { on := 9, ground := Ground.textOnly Departure.lateStoresUnsure }], guard := none }) (v := ?_) rfl (by kernel_rfl) (by kernel_rfl) (by kernel_rfl) (fun _ _ _ h => h) (Or.inl ⟨by rfl, ?_⟩) (by assumption) ?_
    rotate_left 1
    · (intro W hSw; go_simp; try with_reducible rfl)
    (try simp only [Act.put, List.setIfInBounds_toArray, List.set_cons_zero, List.set_cons_succ])
    refine wpAnyH_take (i := 11) (oi := { dst := some 17, op := Op.fieldAddr 72 (Operand.tmp 16) 1, type := 0, pos := "push.go:116", after := #[{ on := 10, ground := Ground.data }, { on := 0, ground := Ground.phase }, { on := 1, ground := Ground.textOnly Departure.lateStores }, { on := 2, ground := Ground.textOnly Departure.lateStores }, { on := 3, ground := Ground.phase }, { on := 4, ground := Ground.textOnly Departure.lateStores }, { on := 5, ground := Ground.textOnly Departure.lateStores }, { on := 6, ground := Ground.textOnly Departure.lateStoresUnsure }, { on := 7, ground := Ground.textOnly Departure.lateStoresUnsure }, { on := 8, ground := Ground.phase }, { on := 9, ground := Ground.textOnly Departure.lateStoresUnsure }], guard := none }) (v := ?_) rfl (by kernel_rfl) (by kernel_rfl) (by kernel_rfl) (fun _ _ _ h => h) (Or.inl ⟨by rfl, ?_⟩) (by assumption) ?_
    rotate_left 1
    · (intro W hSw; go_simp; try with_reducible rfl)
    (try simp only [Act.put, List.setIfInBounds_toArray, List.set_cons_zero, List.set_cons_succ])
    refine wpAnyH_ready (rs := [12]) (by kernel_rfl) (by simp) ?_
    refine AllReadyH.cons (o := { dst := none, op := Op.store 3 (Operand.tmp 17) (Operand.tmp 9), type := 0, pos := "push.go:116", after := #[{ on := 11, ground := Ground.data }, { on := 3, ground := Ground.data }, { on := 0, ground := Ground.phase }, { on := 1, ground := Ground.textOnly Departure.lateStores }, { on := 2, ground := Ground.textOnly Departure.lateStores }, { on := 3, ground := Ground.phase }, { on := 4, ground := Ground.textOnly Departure.lateStores }, { on := 5, ground := Ground.textOnly Departure.lateStores }, { on := 6, ground := Ground.textOnly Departure.lateStoresUnsure }, { on := 7, ground := Ground.textOnly Departure.lateStoresUnsure }, { on := 8, ground := Ground.phase }, { on := 9, ground := Ground.textOnly Departure.lateStoresUnsure }], guard := none }) rfl (fun K hK => ?_) AllReadyH.nil
    · go_simp
      refine hK.out _ _ (by first | exact trivial | assumption) (fun hHeld => ?_)
      clear hK K
      (try simp only [Act.put, List.setIfInBounds_toArray, List.set_cons_zero, List.set_cons_succ])
      refine wpAnyH_take (i := 13) (oi := { dst := some 18, op := Op.nilCheck (Operand.tmp 7), type := 0, pos := "push.go:116", after := #[{ on := 1, ground := Ground.data }, { on := 0, ground := Ground.phase }, { on := 1, ground := Ground.phase }, { on := 2, ground := Ground.textOnly Departure.lateStores }, { on := 3, ground := Ground.phase }, { on := 4, ground := Ground.phase }, { on := 5, ground := Ground.textOnly Departure.lateStores }, { on := 6, ground := Ground.textOnly Departure.lateStoresUnsure }, { on := 7, ground := Ground.textOnly Departure.lateStoresUnsure }, { on := 8, ground := Ground.phase }, { on := 9, ground := Ground.textOnly Departure.lateStoresUnsure }, { on := 10, ground := Ground.phase }, { on := 11, ground := Ground.phase }, { on := 12, ground := Ground.phase }], guard := none }) (v := ?_) rfl (by kernel_rfl) (by kernel_rfl) (by kernel_rfl) (fun _ _ _ h => h) (Or.inl ⟨by rfl, ?_⟩) (by assumption) ?_
      rotate_left 1
      · (intro W hSw; go_simp; try with_reducible rfl)
      (try simp only [Act.put, List.setIfInBounds_toArray, List.set_cons_zero, List.set_cons_succ])
      refine wpAnyH_take (i := 14) (oi := { dst := some 19, op := Op.fieldAddr 72 (Operand.tmp 18) 2, type := 0, pos := "push.go:116", after := #[{ on := 13, ground := Ground.data }, { on := 0, ground := Ground.phase }, { on := 1, ground := Ground.phase }, { on := 2, ground := Ground.textOnly Departure.lateStores }, { on := 3, ground := Ground.phase }, { on := 4, ground := Ground.phase }, { on := 5, ground := Ground.textOnly Departure.lateStores }, { on := 6, ground := Ground.textOnly Departure.lateStoresUnsure }, { on := 7, ground := Ground.textOnly Departure.lateStoresUnsure }, { on := 8, ground := Ground.phase }, { on := 9, ground := Ground.textOnly Departure.lateStoresUnsure }, { on := 10, ground := Ground.phase }, { on := 11, ground := Ground.phase }, { on := 12, ground := Ground.phase }], guard := none }) (v := ?_) rfl (by kernel_rfl) (by kernel_rfl) (by kernel_rfl) (fun _ _ _ h => h) (Or.inl ⟨by rfl, ?_⟩) (by assumption) ?_
      rotate_left 1
      · (intro W hSw; go_simp; try with_reducible rfl)
      (try simp only [Act.put, List.setIfInBounds_toArray, List.set_cons_zero, List.set_cons_succ])
      refine wpAnyH_ready (rs := [15]) (by kernel_rfl) (by simp) ?_
      refine AllReadyH.cons (o := { dst := none, op := Op.store 2 (Operand.tmp 19) (Operand.tmp 10), type := 0, pos := "push.go:116", after := #[{ on := 14, ground := Ground.data }, { on := 4, ground := Ground.data }, { on := 12, ground := Ground.chain }, { on := 0, ground := Ground.phase }, { on := 1, ground := Ground.phase }, { on := 2, ground := Ground.textOnly Departure.lateStores }, { on := 3, ground := Ground.phase }, { on := 4, ground := Ground.phase }, { on := 5, ground := Ground.textOnly Departure.lateStores }, { on := 6, ground := Ground.textOnly Departure.lateStoresUnsure }, { on := 7, ground := Ground.textOnly Departure.lateStoresUnsure }, { on := 8, ground := Ground.phase }, { on := 9, ground := Ground.textOnly Departure.lateStoresUnsure }, { on := 10, ground := Ground.phase }, { on := 11, ground := Ground.phase }, { on := 12, ground := Ground.phase }], guard := none }) rfl (fun K hK => ?_) AllReadyH.nil
      · go_simp
        refine hK.out _ _ (by first | exact trivial | assumption) (fun hHeld => ?_)
        clear hK K
        (try simp only [Act.put, List.setIfInBounds_toArray, List.set_cons_zero, List.set_cons_succ])
        refine wpAnyH_take (i := 16) (oi := { dst := some 20, op := Op.nilCheck (Operand.tmp 8), type := 0, pos := "push.go:116", after := #[{ on := 2, ground := Ground.data }, { on := 0, ground := Ground.phase }, { on := 1, ground := Ground.phase }, { on := 2, ground := Ground.phase }, { on := 3, ground := Ground.phase }, { on := 4, ground := Ground.phase }, { on := 5, ground := Ground.phase }, { on := 6, ground := Ground.phase }, { on := 7, ground := Ground.phase }, { on := 8, ground := Ground.phase }, { on := 9, ground := Ground.phase }, { on := 10, ground := Ground.phase }, { on := 11, ground := Ground.phase }, { on := 12, ground := Ground.phase }, { on := 13, ground := Ground.phase }, { on := 14, ground := Ground.phase }, { on := 15, ground := Ground.phase }], guard := none }) (v := ?_) rfl (by kernel_rfl) (by kernel_rfl) (by kernel_rfl) (fun _ _ _ h => h) (Or.inl ⟨by rfl, ?_⟩) (by assumption) ?_
        rotate_left 1
        · (intro W hSw; go_simp; try with_reducible rfl)
        (try simp only [Act.put, List.setIfInBounds_toArray, List.set_cons_zero, List.set_cons_succ])
        refine wpAnyH_take (i := 17) (oi := { dst := some 21, op := Op.fieldAddr 72 (Operand.tmp 20) 3, type := 0, pos := "push.go:116", after := #[{ on := 16, ground := Ground.data }, { on := 0, ground := Ground.phase }, { on := 1, ground := Ground.phase }, { on := 2, ground := Ground.phase }, { on := 3, ground := Ground.phase }, { on := 4, ground := Ground.phase }, { on := 5, ground := Ground.phase }, { on := 6, ground := Ground.phase }, { on := 7, ground := Ground.phase }, { on := 8, ground := Ground.phase }, { on := 9, ground := Ground.phase }, { on := 10, ground := Ground.phase }, { on := 11, ground := Ground.phase }, { on := 12, ground := Ground.phase }, { on := 13, ground := Ground.phase }, { on := 14, ground := Ground.phase }, { on := 15, ground := Ground.phase }], guard := none }) (v := ?_) rfl (by kernel_rfl) (by kernel_rfl) (by kernel_rfl) (fun _ _ _ h => h) (Or.inl ⟨by rfl, ?_⟩) (by assumption) ?_
        rotate_left 1
        · (intro W hSw; go_simp; try with_reducible rfl)
        (try simp only [Act.put, List.setIfInBounds_toArray, List.set_cons_zero, List.set_cons_succ])
        refine wpAnyH_ready (rs := [18]) (by kernel_rfl) (by simp) ?_
        refine AllReadyH.cons (o := { dst := none, op := Op.store 22 (Operand.tmp 21) (Operand.tmp 15), type := 0, pos := "push.go:116", after := #[{ on := 17, ground := Ground.data }, { on := 9, ground := Ground.data }, { on := 15, ground := Ground.chain }, { on := 0, ground := Ground.phase }, { on := 1, ground := Ground.phase }, { on := 2, ground := Ground.phase }, { on := 3, ground := Ground.phase }, { on := 4, ground := Ground.phase }, { on := 5, ground := Ground.phase }, { on := 6, ground := Ground.phase }, { on := 7, ground := Ground.phase }, { on := 8, ground := Ground.phase }, { on := 9, ground := Ground.phase }, { on := 10, ground := Ground.phase }, { on := 11, ground := Ground.phase }, { on := 12, ground := Ground.phase }, { on := 13, ground := Ground.phase }, { on := 14, ground := Ground.phase }, { on := 15, ground := Ground.phase }], guard := none }) rfl (fun K hK => ?_) AllReadyH.nil
        · go_simp
          refine hK.out _ _ (by first | exact trivial | assumption) (fun hHeld => ?_)
          clear hK K
          (try simp only [Act.put, List.setIfInBounds_toArray, List.set_cons_zero, List.set_cons_succ])
          refine wpAnyH_done (by kernel_rfl) ?_ _
          go_end0
          exact HPP.out _ (((HB0.out.set 1 _).set 2 _).set 3 _).drew

theorem Pm.cells (h : Pm w g s kv gv lv) (i : Nat) : w.cell? ⟨g, i, none⟩ = (#[.int .i64 (s.rd : Int), .int .i64 (s.pt : Int), .int .i64 (s.lf : Int), kv, .int .i64 s.bg, .int .i64 s.cl, .bool s.bl, gv, lv, .string s.nm, .string s.lk, errV s.er] : Array Value)[i]? := h.cell i

set_option maxRecDepth 20000 in
set_option maxHeartbeats 4000000 in
theorem fill_w (h : Pm w g s kv gv lv) (hr : s.rd ≤ 4611686018427387904) :
    Calls Tryz.prog 41 #[.pointer (some ⟨g, 0, none⟩)] w fun e w' => e = .returned (.tuple #[]) ∧ Pm w' g (Pu.fill s) (emptied kv) gv lv ∧ Bx g w w' (pCells (Pu.fill s) (emptied kv) gv lv) := by
  have q := expect_w h 3 (Pu.pad s.rd)
  have qp := E.pad_w (s.rd : Int) w (by omega) (by omega)
  have hp : (512 - (s.rd : Int) % 512) % 512 = (Pu.pad s.rd : Int) := by unfold Pu.pad; omega
  rw [hp] at qp
  have c0 := h.cells
  generalize hPP : (fun (e : Ending) (w' : World) => e = .returned (.tuple #[]) ∧ Pm w' g (Pu.fill s) (emptied kv) gv lv ∧ Bx g w w' (pCells (Pu.fill s) (emptied kv) gv lv)) = PP
  have HPP : Hid (∀ W, Pm W g (Pu.fill s) (emptied kv) gv lv ∧ Bx g w W (pCells (Pu.fill s) (emptied kv) gv lv) → PP (.returned (.tuple #[])) W) := fun W b => by rw [← hPP]; exact ⟨rfl, b⟩
  clear hPP h hp hr
  unfold Pu.fill at HPP
  generalize Pu.pad s.rd = pd at *
  go_enter Tryz.func41, Tryz.ntmps41
  go_wp2_with (first
    | (go_at_call 23; refine qp.mono ?_; rintro e w1 ⟨rfl, rfl⟩)
    | (go_at_call 42; refine q.mono ?_; rintro e w2 ⟨rfl, b2⟩))
  go_end0
  exact HPP.out _ b2

theorem zeroP (W : World) : (zeroValue 72).run Tryz.prog W = .ok (.agg #[.int .i64 0, .int .i64 0, .int .i64 0, .slice none 0 0, .int .i64 0, .int .i64 0, .bool false, .slice none 0 0, .slice none 0 0, .string ⟨#[]⟩, .string ⟨#[]⟩, .nilIface]) W := by
  have b : (Tryz.prog.info? 72).bind (fun i => i.zero) = some (.agg #[.int .i64 0, .int .i64 0, .int .i64 0, .slice none 0 0, .int .i64 0, .int .i64 0, .bool false, .slice none 0 0, .slice none 0 0, .string ⟨#[]⟩, .string ⟨#[]⟩, .nilIface]) := by kernel_rfl
  cases hq : Tryz.prog.info? 72 with
  | none => rw [hq] at b; simp at b
  | some i => rw [hq] at b; simp at b; simp [zeroValue, typeInfo, hq, b]
theorem sizeP : (Tryz.prog.info? 72).map (·.size) = some 12 := by kernel_rfl

def stopC (rd : Nat) (er : Option (Int × Int)) : Array Value := #[.int .i64 (rd : Int), .int .i64 4, .int .i64 0, .slice none 0 0, .int .i64 0, .int .i64 0, .bool false, .slice none 0 0, .slice none 0 0, .string ⟨#[]⟩, .string ⟨#[]⟩, errV er]
def stopS (s : PsR) (er : Option (Int × Int)) : PsR := ⟨s.rd, 4, 0, [], 0, 0, false, [], [], ⟨#[]⟩, ⟨#[]⟩, er⟩
theorem stopC_eq (s : PsR) (er) : pCells (stopS s er) (.slice none 0 0) (.slice none 0 0) (.slice none 0 0) = stopC s.rd er := rfl
theorem pm_stop {W : World} (er : Option (Int × Int)) (b : Bx g w W (stopC s.rd er)) : Pm W g (stopS s er) (.slice none 0 0) (.slice none 0 0) (.slice none 0 0) :=
  ⟨b.box, ⟨rfl, .inl ⟨rfl, rfl⟩⟩, ⟨rfl, .inl ⟨rfl, rfl⟩⟩, ⟨rfl, .inl ⟨rfl, rfl⟩⟩, fun k hk => by cases hk⟩

theorem errV_cases (er : Option (Int × Int)) : errV er = .nilIface ∨ ∃ t x, errV er = .iface t x := by
  cases er with
  | none => exact .inl rfl
  | some p => exact .inr (F.chain_form _ _)

set_option maxRecDepth 20000 in
set_option maxHeartbeats 4000000 in
theorem stop_w (h : Pm w g s kv gv lv) (er : Option (Int × Int)) :
    Calls Tryz.prog 73 #[.pointer (some ⟨g, 0, none⟩), errV er] w fun e w' => e = .returned (.tuple #[]) ∧ Bx g w w' (stopC s.rd er) := by
  generalize hPP : (fun (e : Ending) (w' : World) => e = .returned (.tuple #[]) ∧ Bx g w w' (stopC s.rd er)) = PP
  have HPP : Hid (∀ W, Bx g w W (stopC s.rd er) → PP (.returned (.tuple #[])) W) := fun W b => by rw [← hPP]; exact ⟨rfl, b⟩
  have c0 := h.cells
  have B0 : Hid (Bx g w w (pCells s kv gv lv)) := Bx.mk0 h.box
  have hz := zeroP
  have hbox := h.box
  unfold stopC at HPP
  unfold pCells at hbox
  clear hPP h
  rcases errV_cases er with e1 | ⟨t, x, e1⟩
  · rw [e1] at HPP ⊢
    go_enter Tryz.func73, Tryz.ntmps73
    go_wp2_with (refine wpList_store_row rfl 72 _ _ rfl _ _ rfl rfl 72 _ hbox sizeP rfl (by kernel_rfl) ?_)
    go_end0
    exact HPP.out _ (B0.out.setRow _)
  · rw [e1] at HPP ⊢
    go_enter Tryz.func73, Tryz.ntmps73
    go_wp2_with (refine wpList_store_row rfl 72 _ _ rfl _ _ rfl rfl 72 _ hbox sizeP rfl (by simp [Value.oneCell']) ?_)
    go_end0
    exact HPP.out _ (B0.out.setRow _)
end
end Go.Proofs.YtnmmaedngdibeaaGreatDoor

namespace Go.Proofs.YtnmmaedngdibeaaGreatDoor
open Go.RowKit
set_option linter.unusedVariables false
set_option linter.unusedSimpArgs false

abbrev EvE := Pu.Ev E.En

def zero10 : List Value := [.string ⟨#[]⟩, .string ⟨#[]⟩, .int .i64 0, .int .i64 0, .int .i64 0, .int .i64 0, .int .i64 0, .int .i64 0, .string ⟨#[]⟩, .string ⟨#[]⟩]
/-- something that was read, in memory; its bytes' slice -/
def evCells : EvE → Value → List Value
  | .bgn e p, v => .int .i64 1 :: (e.cells.toList ++ [.slice none 0 0, .nilIface, .int .i64 (p : Int)])
  | .dat b p, v => .int .i64 2 :: (zero10 ++ [v, .nilIface, .int .i64 (p : Int)])
  | .fin p, v => .int .i64 3 :: (zero10 ++ [.slice none 0 0, .nilIface, .int .i64 (p : Int)])
  | .don p, v => .int .i64 4 :: (zero10 ++ [.slice none 0 0, .nilIface, .int .i64 (p : Int)])
  | .bad c q p, v => .int .i64 5 :: (zero10 ++ [.slice none 0 0, F.chain c [q], .int .i64 (p : Int)])
theorem evCells_len (e : EvE) (v : Value) : (evCells e v).length = 14 := by cases e <;> simp [evCells, zero10, E.En.cells]

def EvS (w : World) (v : Value) (L : List (EvE × Value)) : Prop := w.ownsRow 0 44 14 v L.length (L.flatMap fun x => evCells x.1 x.2)

/-- bytes in a block of one's own -/
def Sq (w : World) (G : Nat) (b : List Int) : Prop := H.Src w (some ⟨G, 0, none⟩) b ∧ (b ≠ [] → ∃ (cs : Array Value) (ty : TypeId), w.heap[G]? = some (.cells cs ty (0, 0)))
/-- the bytes of what was read: nobody else's -/
def DatOk (w w' : World) (M : Nat → Prop) : EvE × Value → Prop
  | (.dat b _, v) => ∃ G c, v = .slice (some ⟨G, 0, none⟩) b.length c ∧ b.length ≤ c ∧ c ≤ 9223372036854775807 ∧ Sq w' G b ∧ w.heap.size ≤ G ∧ G < w'.heap.size ∧ ¬ M G
  | _ => True

/-- a parser behind a call, and what it told -/
def Out (w w' : World) (g : Nat) (kv gv lv : Value) (s : PsR) (v : Value) (L : List (EvE × Value)) : Prop :=
  ∃ kv' gv' lv', Pm w' g s kv' gv' lv' ∧ Mv (Mine g kv gv lv) w w' ∧ (∀ k, Mine g kv' gv' lv' k → Mine g kv gv lv k ∨ w.heap.size ≤ k) ∧ EvS w' v L ∧ (∀ k, v.ownBlock = some k → w.heap.size ≤ k ∧ ¬ Mine g kv' gv' lv' k) ∧ ∀ x ∈ L, DatOk w w' (Mine g kv' gv' lv') x

theorem Bx.trans {g : Nat} {a b c : World} {C D : Array Value} (h : Bx g a b C) (k : Bx g b c D) : Bx g a c D :=
  ⟨k.box, k.os.trans h.os, k.tape.trans h.tape, k.output.trans h.output, k.size.trans h.size, fun x hx => (k.block x hx).trans (h.block x hx)⟩
theorem Pm.boxed {w W : World} {g : Nat} {s s2 : PsR} {kv gv lv : Value} (h : Pm w g s kv gv lv) (h1 : s2.kp = s.kp) (h2 : s2.gl = s.gl) (h3 : s2.lo = s.lo) (b : Bx g w W (pCells s2 kv gv lv)) : Pm W g s2 kv gv lv :=
  ⟨b.box, by rw [h1]; exact own_moved h.kept fun k hk => b.block k (by intro e; subst e; exact h.keptNe hk), by rw [h2]; exact own_moved h.glob fun k hk => b.block k (by intro e; subst e; exact h.globNe hk), by rw [h3]; exact own_moved h.loc fun k hk => b.block k (by intro e; subst e; exact h.locNe hk), h.apart⟩

theorem evs_nil (w : World) : EvS w (.slice none 0 0) [] := ⟨rfl, .inl ⟨rfl, rfl⟩⟩

section
variable {w w' : World} {g : Nat} {s s' : PsR} {kv gv lv : Value}

theorem Nx.out (h : Nx w w' g kv gv lv s) : Out w w' g kv gv lv s (.slice none 0 0) [] := by
  obtain ⟨kv', gv', lv', h1, h2, h3⟩ := h
  exact ⟨kv', gv', lv', h1, h2, h3, evs_nil _, fun k hk => (nomatch hk), fun x hx => (nomatch hx)⟩

theorem nx_expect {s s2 : PsR} {W : World} (h : Pm w g s kv gv lv) (h2 : Pm W g s2 (emptied kv) gv lv) {C : Array Value} (b : Bx g w W C) : Nx w W g kv gv lv s2 :=
  ⟨_, _, _, h2, b.mv kv gv lv, fun k hk => .inl hk.emptied⟩

theorem one_ev (W : World) (e : EvE) (v : Value) (C : Array Value) (hC : C.toList = evCells e v) : EvS (W.alloc (.cells C 44)) (.slice (some ⟨W.heap.size, 0, none⟩) 1 1) [(e, v)] := by
  refine ⟨by simp [evCells_len], .inr ⟨W.heap.size, 1, C, rfl, Nat.zero_le _, heap_alloc_new W _, Nat.le_refl _, by decide, ?_, ?_⟩⟩
  · rw [← Array.length_toList, hC, evCells_len]
  · rw [hC, List.take_of_length_le (by rw [evCells_len]; exact Nat.le_refl _)]; simp

theorem Nx.one {W : World} (h : Nx w W g kv gv lv s) (e : EvE) (v : Value) (C : Array Value) (hC : C.toList = evCells e v) (hW : W.heap.size = w.heap.size) (hd : ∀ b p, e ≠ .dat b p) :
    Out w (W.alloc (.cells C 44)) g kv gv lv s (.slice (some ⟨w.heap.size, 0, none⟩) 1 1) [(e, v)] := by
  obtain ⟨kv', gv', lv', h1, h2, h3⟩ := h
  have b := (Below.refl _ W).alloc (Nat.le_refl _) (.cells C 44)
  refine ⟨kv', gv', lv', h1.grow b, h2.trans (Mv.of_below (O := fun _ => False) b) (fun x hx => hx.elim), h3, by rw [← hW]; exact one_ev W e v C hC, ?_, ?_⟩
  · intro k hk
    simp [Value.ownBlock] at hk
    subst hk
    exact ⟨Nat.le_refl _, fun hm => by have := h1.mine hm; omega⟩
  · intro x hx
    simp at hx
    subst hx
    cases e with
    | dat b p => exact absurd rfl (hd b p)
    | _ => trivial

theorem zeroEv (W : World) : (zeroValue 44).run Tryz.prog W = .ok (.agg #[.int .i64 0, .string ⟨#[]⟩, .string ⟨#[]⟩, .int .i64 0, .int .i64 0, .int .i64 0, .int .i64 0, .int .i64 0, .int .i64 0, .string ⟨#[]⟩, .string ⟨#[]⟩, .slice none 0 0, .nilIface, .int .i64 0]) W := by
  have b : (Tryz.prog.info? 44).bind (fun i => i.zero) = some (.agg #[.int .i64 0, .string ⟨#[]⟩, .string ⟨#[]⟩, .int .i64 0, .int .i64 0, .int .i64 0, .int .i64 0, .int .i64 0, .int .i64 0, .string ⟨#[]⟩, .string ⟨#[]⟩, .slice none 0 0, .nilIface, .int .i64 0]) := by kernel_rfl
  cases hq : Tryz.prog.info? 44 with
  | none => rw [hq] at b; simp at b
  | some i => rw [hq] at b; simp at b; simp [zeroValue, typeInfo, hq, b]

theorem nx_stop (h : Pm w g s kv gv lv) (er : Option (Int × Int)) {W : World} (b : Bx g w W (stopC s.rd er)) : Nx w W g kv gv lv (stopS s er) :=
  ⟨_, _, _, pm_stop (s := s) er b, b.mv kv gv lv, fun k hk => by
    rcases hk with rfl | hk | hk | hk
    · exact .inl (.inl rfl)
    · cases hk
    · cases hk
    · cases hk⟩

set_option maxRecDepth 20000 in
set_option maxHeartbeats 4000000 in
theorem fail_w (h : Pm w g s kv gv lv) (e : Int) (he : (e == 0) = false) :
    Calls Tryz.prog 57 #[.pointer (some ⟨g, 0, none⟩), .int .i64 e] w fun ev w' => ∃ v, ev = .returned v ∧ Out w w' g kv gv lv (stopS s (some (e, s.bg))) v [(.bad e s.bg s.rd, .slice none 0 0)] := by
  have qn := F.new_any e s.bg w he
  have qs := stop_w h (some (e, s.bg))
  have c0 := h.cells
  have hz := zeroEv
  generalize hPP : (fun (ev : Ending) (w' : World) => ∃ v, ev = .returned v ∧ Out w w' g kv gv lv (stopS s (some (e, s.bg))) v [(.bad e s.bg s.rd, .slice none 0 0)]) = PP
  have HPP : Hid (∀ W, Bx g w W (stopC s.rd (some (e, s.bg))) → PP (.returned (.slice (some ⟨w.heap.size, 0, none⟩) 1 1)) (W.alloc (.cells (evCells (.bad e s.bg s.rd) (.slice none 0 0)).toArray 44))) := fun W b => by
    rw [← hPP]
    exact ⟨_, rfl, (nx_stop h _ b).one _ _ _ rfl b.size (fun _ _ => by simp)⟩
  clear hPP h
  have hev : errV (some (e, s.bg)) = F.chain e [s.bg] := rfl
  rw [hev] at qs
  obtain ⟨t, x, hx⟩ := F.chain_form e [s.bg]
  simp only [evCells, zero10, hx, List.cons_append, List.nil_append] at HPP
  rw [hx] at qn qs
  have hcs : Hid (∀ W, Bx g w W (stopC s.rd (some (e, s.bg))) → ∀ i, W.cell? ⟨g, i, none⟩ = (stopC s.rd (some (e, s.bg)))[i]?) := fun W b => b.cell
  go_enter Tryz.func57, Tryz.ntmps57
  go_upto_region 3 with (first
    | (go_at_call 26; refine qn.mono ?_; rintro ev w1 ⟨rfl, rfl⟩)
    | (go_at_call 73; refine qs.mono ?_; rintro ev w2 ⟨rfl, b2⟩))
  have c2 := hcs.out _ b2
  unfold stopC at c2
  have HB2 : Hid _ := b2
  have hs2 := b2.size
  clear b2 qn qs hcs
  go_wp2_with fail
  exact HPP.out _ HB2.out

set_option maxRecDepth 20000 in
set_option maxHeartbeats 4000000 in
theorem endBlank_done (h : Pm w g s kv gv lv) (hb : s.bl = true) :
    Calls Tryz.prog 56 #[.pointer (some ⟨g, 0, none⟩)] w fun ev w' => ∃ v, ev = .returned v ∧ Out w w' g kv gv lv (stopS s none) v [(.don s.rd, .slice none 0 0)] := by
  have qs := stop_w h none
  have c0 := h.cells
  have hz := zeroEv
  rw [hb] at c0
  generalize hPP : (fun (ev : Ending) (w' : World) => ∃ v, ev = .returned v ∧ Out w w' g kv gv lv (stopS s none) v [(.don s.rd, .slice none 0 0)]) = PP
  have HPP : Hid (∀ W, Bx g w W (stopC s.rd none) → PP (.returned (.slice (some ⟨w.heap.size, 0, none⟩) 1 1)) (W.alloc (.cells (evCells (.don s.rd) (.slice none 0 0)).toArray 44))) := fun W b => by
    rw [← hPP]
    exact ⟨_, rfl, (nx_stop h _ b).one _ _ _ rfl b.size (fun _ _ => by simp)⟩
  clear hPP h
  simp only [evCells, zero10, List.cons_append, List.nil_append] at HPP
  have hev : errV none = .nilIface := rfl
  rw [hev] at qs
  have hcs : Hid (∀ W, Bx g w W (stopC s.rd none) → ∀ i, W.cell? ⟨g, i, none⟩ = (stopC s.rd none)[i]?) := fun W b => b.cell
  go_enter Tryz.func56, Tryz.ntmps56
  go_upto_region 3 with (go_at_call 73; refine qs.mono ?_; rintro ev w2 ⟨rfl, b2⟩)
  have c2 := hcs.out _ b2
  unfold stopC at c2
  have HB2 : Hid _ := b2
  have hs2 := b2.size
  clear b2 qs hcs
  go_wp2_with fail
  exact HPP.out _ HB2.out

set_option maxRecDepth 20000 in
set_option maxHeartbeats 4000000 in
theorem endBlank_first (h : Pm w g s kv gv lv) (hb : s.bl = false) :
    Calls Tryz.prog 56 #[.pointer (some ⟨g, 0, none⟩)] w fun ev w' => ev = .returned (.slice none 0 0) ∧ Nx w w' g kv gv lv { Pu.expect s 0 512 with bl := true } := by
  have c0 := h.cells
  rw [hb] at c0
  have f0 := h.froz
  generalize hPP : (fun (ev : Ending) (w' : World) => ev = .returned (.slice none 0 0) ∧ Nx w w' g kv gv lv { Pu.expect s 0 512 with bl := true }) = PP
  have B1 : Bx g w (w.setCell ⟨g, 6, none⟩ (.bool true)) (pCells { s with bl := true } kv gv lv) := (Bx.mk0 h.box).set 6 (.bool true)
  have h1 : Pm (w.setCell ⟨g, 6, none⟩ (.bool true)) g { s with bl := true } kv gv lv := h.boxed (s2 := { s with bl := true }) rfl rfl rfl B1
  have q := expect_w h1 0 512
  have HPP : Hid (∀ W, Pm W g (Pu.expect { s with bl := true } 0 512) (emptied kv) gv lv ∧ Bx g (w.setCell ⟨g, 6, none⟩ (.bool true)) W (pCells (Pu.expect { s with bl := true } 0 512) (emptied kv) gv lv) → PP (.returned (.slice none 0 0)) W) := fun W b => by
    rw [← hPP]
    exact ⟨rfl, _, _, _, b.1, (B1.trans b.2).mv kv gv lv, fun k hk => .inl hk.emptied⟩
  clear hPP h h1 B1
  generalize (pCells (Pu.expect { s with bl := true } 0 512) (emptied kv) gv lv) = CC at *
  generalize Pu.expect { s with bl := true } 0 512 = SS at *
  go_enter Tryz.func56, Tryz.ntmps56
  go_wp2_with (go_at_call 42; refine q.mono ?_; rintro ev w2 ⟨rfl, b2⟩)
  exact HPP.out _ b2

set_option maxRecDepth 20000 in
set_option maxHeartbeats 4000000 in
theorem beginMeta_w (F0 : Pu.Fns E.Hd E.En Rec ByteArray) (hF : F0.none = ⟨#[]⟩) (h : Pm w g s kv gv lv) (n : Int) :
    Calls Tryz.prog 61 #[.pointer (some ⟨g, 0, none⟩), .int .i64 n] w fun ev w' => ∃ v L, ev = .returned v ∧ Out w w' g kv gv lv (Pu.beginMeta F0 s n).1 v L ∧ L.map (·.1) = (Pu.beginMeta F0 s n).2 := by
  unfold Pu.beginMeta
  by_cases c1 : n < 0
  · have q := fail_w h 90 rfl
    rw [if_pos c1]
    go_enter Tryz.func61, Tryz.ntmps61
    go_wp2_with (go_at_call 57; refine q.mono ?_; rintro ev w2 ⟨v, rfl, b2⟩)
    go_ret
    exact ⟨v, _, rfl, by simpa [Pu.fail, Pu.stop, stopS, hF] using b2, rfl⟩
  · rw [if_neg c1]
    by_cases c2 : 8192 < n
    · have q := fail_w h 2 rfl
      rw [if_pos c2]
      go_enter Tryz.func61, Tryz.ntmps61
      go_wp2_with (go_at_call 57; refine q.mono ?_; rintro ev w2 ⟨v, rfl, b2⟩)
      go_ret
      exact ⟨v, _, rfl, by simpa [Pu.fail, Pu.stop, stopS, hF] using b2, rfl⟩
    · rw [if_neg c2]
      obtain ⟨m, rfl⟩ : ∃ m : Nat, n = (m : Int) := ⟨n.toNat, by omega⟩
      have q := expect_w h 1 m
      rw [Int.toNat_natCast]
      go_enter Tryz.func61, Tryz.ntmps61
      go_wp2_with (go_at_call 42; refine q.mono ?_; rintro ev w2 ⟨rfl, b2, b3⟩)
      go_ret
      exact ⟨_, [], rfl, (nx_expect h b2 b3).out, rfl⟩
end
end Go.Proofs.YtnmmaedngdibeaaGreatDoor

namespace Go.Proofs.YtnmmaedngdibeaaGreatDoor
open Go.RowKit
set_option linter.unusedVariables false
set_option linter.unusedSimpArgs false

def U8 (zs : List Int) : List UInt8 := zs.map fun z => UInt8.ofNat z.toNat
theorem U8_length (zs : List Int) : (U8 zs).length = zs.length := by simp [U8]
theorem U8_get {zs : List Int} (h : H.AllB zs) {i : Nat} (hi : i < zs.length) : (((U8 zs).getD i 0).toNat : Int) = zs[i] := by
  have hz := h zs[i] (List.getElem_mem hi)
  have e : (U8 zs).getD i 0 = UInt8.ofNat zs[i].toNat := by simp [U8, List.getD, hi]
  rw [e, UInt8.toNat_ofNat']
  omega

/-- bytes of one's own, as layer 7 reads them -/
theorem bytes_own {w : World} {B : Nat} {g c : Nat} {zs : List Int} (h : w.ownsRow B 5 1 (.slice (some ⟨g, 0, none⟩) zs.length c) zs.length (H.cellsOf zs)) (hb : H.AllB zs) : X.BytesAt w g 0 (U8 zs) := by
  intro i hi
  rw [U8_length] at hi
  rw [U8_get hb hi, Nat.zero_add]
  rcases h.2 with ⟨e1, e2⟩ | ⟨g', cap, cur, e1, e2, e3, e4, e5, e6, e7⟩
  · cases e1
  · simp at e1
    obtain ⟨rfl, rfl⟩ := e1
    have hs : (H.cellsOf zs)[i]? = some (.int .u8 zs[i]) := by simp [H.cellsOf, hi]
    rw [← e7, List.getElem?_take] at hs
    split at hs
    · simp only [World.cell?, e3]
      simpa using hs
    · cases hs

def textP (zs : List Int) : ByteArray :=
  match X.pos (U8 zs) 0 with
  | none => ⟨(U8 zs).toArray⟩
  | some i => ⟨((U8 zs).take i).toArray⟩

theorem cut_nil (w : World) (g d : Nat) (c : Int) (hc : w.cell? ⟨g, 0, none⟩ = some (.int .u8 c)) :
    Calls Tryz.prog 100 #[.slice none 0 0, .slice (some ⟨g, 0, none⟩) 1 d] w fun e w' => e = .returned (.tuple #[.slice none 0 0, .slice none 0 0, .bool false]) ∧ w = w' := by
  have q := Tryz.bytes_Index_one_nil g 0 d c w hc
  go_enter Tryz.func100, Tryz.ntmps100
  go_wp2_with (go_at_call 117; refine q.mono ?_; rintro e w' ⟨rfl, rfl⟩)
  go_ret3
  exact ⟨rfl, rfl⟩

set_option maxRecDepth 20000 in
set_option maxHeartbeats 4000000 in
theorem textOf_w {w : World} {B : Nat} {v : Value} {zs : List Int} (h : w.ownsRow B 5 1 v zs.length (H.cellsOf zs)) (hb : H.AllB zs) :
    Calls Tryz.prog 80 #[v] w fun e w' => e = .returned (.string (textP zs)) ∧ Below w.heap.size w w' := by
  have k1 : Below w.heap.size w (w.alloc (.cells #[.int .u8 0] 5)) := (Below.refl _ w).alloc (Nat.le_refl _) _
  have c1 : (w.alloc (.cells #[.int .u8 0] 5)).cell? ⟨w.heap.size, 0, none⟩ = some (.int .u8 0) := by simp [World.cell?_alloc_new]
  rcases id h.2 with ⟨e1, e2⟩ | ⟨g, cap, cur, e1, e2, e3, e4, e5, e6, e7⟩
  · subst e1
    obtain rfl : zs = [] := List.eq_nil_of_length_eq_zero e2
    have q := cut_nil (w.alloc (.cells #[.int .u8 0] 5)) w.heap.size 1 0 c1
    have hcv := fun W => X.conv_none W none 0
    have ht : textP [] = ⟨#[]⟩ := rfl
    rw [ht]
    clear h c1
    go_enter Tryz.func80, Tryz.ntmps80
    go_wp2_with (go_at_call 100; refine q.mono ?_; rintro e w' ⟨rfl, rfl⟩)
    go_ret
    exact ⟨rfl, k1⟩
  · subst e1
    have hB := (bytes_own h hb).below k1
    have e5' : cap ≤ 9223372036854775807 := by unfold maxLen at e5; omega
    have hl := U8_length zs
    cases hp : X.pos (U8 zs) 0 with
    | none =>
      have q := X.cut_none (w.alloc (.cells #[.int .u8 0] 5)) g 0 cap (U8 zs) w.heap.size 0 1 hB c1 hp
      have hcv := X.conv_str (w.alloc (.cells #[.int .u8 0] 5)) g 0 cap (U8 zs) hB
      have ht : textP zs = ⟨(U8 zs).toArray⟩ := by unfold textP; rw [hp]
      rw [ht]
      rw [hl] at q hcv
      generalize U8 zs = us at *
      generalize zs.length = n at *
      clear h c1 hB hp e3 e7 hl
      go_enter Tryz.func80, Tryz.ntmps80
      go_wp2_with (go_at_call 100; refine q.mono ?_; rintro e w' ⟨rfl, rfl⟩)
      go_ret
      exact ⟨rfl, k1⟩
    | some i =>
      have hi := (X.pos_some hp).2
      have q := X.cut_some (w.alloc (.cells #[.int .u8 0] 5)) g 0 cap (U8 zs) w.heap.size 0 1 hB c1 i hp (by omega) e5'
      have hcv : ∀ W, W = w.alloc (.cells #[.int .u8 0] 5) ∨ W = (w.alloc (.cells #[.int .u8 0] 5)).drew → (convert 22 9 (.slice (some ⟨g, 0, none⟩) i cap)).run Tryz.prog W = .ok (.string ⟨((U8 zs).take i).toArray⟩) W := fun W hW => by
        have hB2 : X.BytesAt W g 0 (U8 zs) := by rcases hW with rfl | rfl; exact hB; exact hB.below ((Below.refl _ _).drew)
        have := X.conv_str W g 0 cap ((U8 zs).take i) (hB2.take i)
        rwa [List.length_take, Nat.min_eq_left (by omega)] at this
      have ht : textP zs = ⟨((U8 zs).take i).toArray⟩ := by unfold textP; rw [hp]
      rw [ht]
      have HC : Hid _ := hcv
      rw [hl] at q
      generalize U8 zs = us at *
      generalize zs.length = n at *
      clear h c1 hB hp e3 e7 hl hcv
      generalize X.lowAt g 0 cap (i + 1) = la at *
      generalize n - (i + 1) = lb at *
      generalize cap - (i + 1) = lc at *
      go_enter Tryz.func80, Tryz.ntmps80
      go_upto_region 2 with (go_at_call 100; refine q.mono ?_; rintro e w' ⟨rfl, hw'⟩)
      have hcv := HC.out _ hw'
      have kw : Below w.heap.size w w' := by rcases hw' with rfl | rfl; exact k1; exact k1.drew
      clear HC q k1 hw'
      go_wp2_with fail
      go_ret
      exact ⟨rfl, kw⟩

end Go.Proofs.YtnmmaedngdibeaaGreatDoor

namespace Go.Proofs.YtnmmaedngdibeaaGreatDoor
open Go.RowKit
set_option linter.unusedVariables false
set_option linter.unusedSimpArgs false

/-- the records that were kept -/
def decP (zs : List Int) : List Rec × Int := X.dec zs.length [] (U8 zs)
/-- .. behind those that are there -/
def addP (l : List Rec) (zs : List Int) : List Rec × Int :=
  if ¬ (decP zs).2 = 0 then ([], (decP zs).2) else if 64 < l.length + (decP zs).1.length then ([], 2) else (l ++ (decP zs).1, 0)

theorem dec_len : ∀ (f : Nat) (acc : List Rec) (bs : List UInt8), acc.length ≤ 64 → (X.dec f acc bs).1.length ≤ 64
  | 0, acc, bs, h => h
  | f + 1, acc, bs, h => by
    unfold X.dec
    split
    · exact h
    · split
      · simp
      · split
        · simp
        · split
          · simp
          · exact dec_len f _ _ (by simp; omega)

set_option maxRecDepth 20000 in
theorem decode_nil (w : World) : Calls Tryz.prog 101 #[.slice none 0 0] w fun e w' => e = .returned (.tuple #[.slice none 0 0, .int .i64 0]) ∧ w = w' := by
  go_enter Tryz.func101, Tryz.ntmps101
  go_wp2
  go_loopw [0, 4] (fun t0 t4 wr => t0 = .slice none 0 0 ∧ t4 = .slice none 0 0 ∧ wr = w) (fun _ _ _ => 0)
  case atStart => exact ⟨rfl, rfl, rfl⟩
  case round =>
    obtain ⟨rfl, rfl, rfl⟩ := hrel
    go_wp2
    go_ret2
    exact ⟨rfl, rfl⟩

theorem decode_any {w : World} {B : Nat} {v : Value} {zs : List Int} (h : w.ownsRow B 5 1 v zs.length (H.cellsOf zs)) (hb : H.AllB zs) (hl : zs.length ≤ 8192) (hV : X.Vs w) :
    Calls Tryz.prog 101 #[v] w fun e w' => ∃ u, e = .returned (.tuple #[u, .int .i64 (decP zs).2]) ∧ w'.ownsRow w.heap.size 59 2 u (decP zs).1.length (X.recCells (decP zs).1) ∧ Below w.heap.size w w' := by
  rcases id h.2 with ⟨e1, e2⟩ | ⟨g, cap, cur, e1, e2, e3, e4, e5, e6, e7⟩
  · subst e1
    obtain rfl : zs = [] := List.eq_nil_of_length_eq_zero e2
    refine (decode_nil w).mono ?_
    rintro e w' ⟨rfl, rfl⟩
    exact ⟨_, rfl, World.ownsRow_nil _ _ _ _, Below.refl _ _⟩
  · subst e1
    have hl8 := U8_length zs
    have q := X.decode_w g 0 cap (U8 zs) w (bytes_own h hb) (by omega) (by unfold maxLen at e5; omega) (by omega) hV
    rw [hl8] at q
    exact q

theorem infoR : (Tryz.prog.info? 59).map (fun i => (i.zero, i.size, i.bytes)) = some (some (.agg #[.string ⟨#[]⟩, .string ⟨#[]⟩]), 2, 32) := by kernel_rfl

theorem recCells_append (a b : List Rec) : X.recCells a ++ X.recCells b = X.recCells (a ++ b) := by simp [X.recCells]
theorem recCells_len (l : List Rec) : (X.recCells l).length = l.length * 2 := by
  induction l with
  | nil => rfl
  | cons a r ih => simp only [X.recCells, List.flatMap_cons, List.length_append] at ih ⊢; rw [ih]; simp; omega
theorem recCells_one (l : List Rec) : ∀ u ∈ X.recCells l, u.oneCell' = true := by
  intro u hu
  simp only [X.recCells, List.mem_flatMap] at hu
  obtain ⟨r, _, hr⟩ := hu
  simp at hr
  rcases hr with rfl | rfl <;> rfl

set_option maxRecDepth 20000 in
set_option maxHeartbeats 4000000 in
theorem add_w {w : World} {lv kv : Value} {l : List Rec} {zs : List Int} (hl : w.ownsRow 0 59 2 lv l.length (X.recCells l)) (hk : w.ownsRow 0 5 1 kv zs.length (H.cellsOf zs)) (hb : H.AllB zs) (hz : zs.length ≤ 8192) (hll : l.length ≤ 64) (hV : X.Vs w) :
    Calls Tryz.prog 81 #[lv, kv] w fun e w' => ∃ v, e = .returned (.tuple #[v, .int .i64 (addP l zs).2]) ∧ w'.ownsRow 0 59 2 v (addP l zs).1.length (X.recCells (addP l zs).1) ∧ w.grownBy w' lv.ownBlock ∧ ∀ k, v.ownBlock = some k → lv.ownBlock = some k ∨ w.heap.size ≤ k := by
  have q := decode_any hk hb hz hV
  have hd : (decP zs).1.length ≤ 64 := dec_len _ _ _ (by simp)
  unfold addP
  generalize decP zs = d at *
  obtain ⟨ds, de⟩ := d
  simp only at q hd ⊢
  obtain ⟨la, lc, rfl, hl1, hl2, _⟩ := own_sl hl
  have HL : Hid (w.ownsRow 0 59 2 (.slice la l.length lc) l.length (X.recCells l)) := hl
  obtain ⟨kb, kc, rfl, _, _, _⟩ := own_sl hk
  have gb : ∀ {W : World} (row : Option Nat), Below w.heap.size w W → w.grownBy W row := fun row b => ⟨b.os, b.tape, b.output, b.size, fun k hk _ => b.block k hk⟩
  by_cases c1 : de = 0
  · subst c1
    rw [if_neg (by simp)]
    by_cases c2 : 64 < l.length + ds.length
    · rw [if_pos c2]
      have c3 : (64 : Int) < (l.length : Int) + (ds.length : Int) := by omega
      clear hl hk hV hb hz
      generalize zs.length = kn at *
      go_enter Tryz.func81, Tryz.ntmps81
      go_upto_region 4 with (go_at_call 101; refine q.mono ?_; rintro e w1 ⟨u, rfl, o1, b1⟩)
      obtain ⟨ua, uc, rfl, hu1, hu2, _⟩ := own_sl o1
      have HB : Hid _ := b1
      clear o1 b1 q
      go_wp2_with fail
      go_ret2
      exact ⟨_, rfl, World.ownsRow_nil _ _ _ _, gb _ HB.out, fun k hk => (nomatch hk)⟩
    · rw [if_neg c2]
      have c3 : ¬ (64 : Int) < (l.length : Int) + (ds.length : Int) := by omega
      clear hl hk hV hb hz
      generalize zs.length = kn at *
      obtain ⟨i0, hi, hz0, hz1, hz2⟩ := info_parts infoR
      go_enter Tryz.func81, Tryz.ntmps81
      go_upto_region 4 with (go_at_call 101; refine q.mono ?_; rintro e w1 ⟨u, rfl, o1, b1⟩)
      clear q
      have HB : Hid (Below w.heap.size w w1) := b1
      have HO : Hid (w1.ownsRow w.heap.size 59 2 u ds.length (X.recCells ds)) := o1
      have HL1 : Hid (w1.ownsRow 0 59 2 (.slice la l.length lc) l.length (X.recCells l)) := own_moved HL.out fun k hk => b1.block k (own_lt HL.out hk).1
      have hsz := b1.size
      rcases id o1.2 with ⟨e1, e2⟩ | ⟨g, cap, cur, e1, e2, e3, e4, e5, e6, e7⟩
      · subst e1
        obtain rfl : ds = [] := List.eq_nil_of_length_eq_zero e2
        have c3 : ¬ (64 : Int) < (l.length : Int) := by simp at c3; omega
        clear o1 b1 e2
        go_wp2_with (at_builtin; refine wpList_append_own_none rfl _ _ 68 rfl 0 59 i0 2 Tryz.underlying68 hi _ _ _ rfl HL1.out rfl ?_)
        go_ret2
        exact ⟨_, rfl, by simpa using HL1.out, gb _ HB.out, fun k hk => .inl hk⟩
      · subst e1
        have hcell : ∀ j x, (X.recCells ds)[j]? = some x → w1.cell? ((⟨g, 0, none⟩ : Addr).add j) = some x := HO.out.cells (g := g) rfl
        have HC : Hid _ := hcell
        clear o1 b1 e3 e4 e5 e6 e7 hcell
        go_wp2_with (at_builtin; refine wpList_append_own_at _ rfl _ _ 68 rfl 0 59 i0 _ 2 32 Tryz.underlying68 hi hz0 hz1 hz2 rfl (by decide) _ _ _ rfl HL1.out ⟨g, 0, none⟩ ds.length cap (X.recCells ds) rfl (recCells_len ds) HC.out (recCells_one ds) (by unfold maxLen; omega) (by omega) (Nat.zero_le _) ?_; intro v2 w2 o2 g2 _ at2)
        go_ret2
        refine ⟨v2, rfl, ?_, ?_, ?_⟩
        · rw [List.length_append, ← recCells_append]; exact o2
        · exact ⟨g2.os.trans HB.out.os, g2.tape.trans HB.out.tape, g2.output.trans HB.out.output, Nat.le_trans HB.out.size g2.size, fun k hk hn => (g2.block k (by omega) hn).trans (HB.out.block k hk)⟩
        · intro k hk
          rcases at2 with h | h
          · left; exact h.symm.trans hk
          · right; rw [h] at hk; cases hk; exact hsz
  · rw [if_pos c1]
    have c3 : (de == 0) = false := by simpa using c1
    clear hl hk hV hb hz
    generalize zs.length = kn at *
    go_enter Tryz.func81, Tryz.ntmps81
    go_upto_region 2 with (go_at_call 101; refine q.mono ?_; rintro e w1 ⟨u, rfl, o1, b1⟩)
    have HB : Hid _ := b1
    clear o1 b1 q
    go_wp2_with fail
    go_ret2
    exact ⟨_, rfl, World.ownsRow_nil _ _ _ _, gb _ HB.out, fun k hk => (nomatch hk)⟩

end Go.Proofs.YtnmmaedngdibeaaGreatDoor

namespace Go.Proofs.YtnmmaedngdibeaaGreatDoor
open Go.RowKit
set_option linter.unusedVariables false
set_option linter.unusedSimpArgs false

def recsP (zs : List Int) : Sum Int (List Rec) := if (decP zs).2 = 0 then .inr (decP zs).1 else .inl (decP zs).2

/-- what other layers answer, as far as what stands ahead goes -/
structure Fok (F0 : Pu.Fns E.Hd E.En Rec ByteArray) : Prop where
  none : F0.none = ⟨#[]⟩
  text : F0.text = textP
  recs : F0.recs = recsP

/-- a parser within its bounds -/
structure Small (s : PsR) : Prop where
  kp : H.AllB s.kp
  kl : s.kp.length ≤ 8192
  gl : s.gl.length ≤ 64
  lo : s.lo.length ≤ 64

section
variable {w w1 w2 : World} {g : Nat} {s s2 : PsR} {kv gv lv : Value}

theorem nx_box (h : Pm w g s kv gv lv) (b : Below w.heap.size w w1) (h1 : s2.kp = s.kp) (h2 : s2.gl = s.gl) (h3 : s2.lo = s.lo) (bx : Bx g w1 w2 (pCells s2 kv gv lv)) : Nx w w2 g kv gv lv s2 :=
  ⟨kv, gv, lv, (h.grow b).boxed h1 h2 h3 bx, (Mv.of_below b).trans (bx.mv kv gv lv) (fun x hx => .inl hx), fun k hk => .inl hk⟩

theorem nx_loc (h : Pm w g s kv gv lv) {v : Value} {l : List Rec} (o : w1.ownsRow 0 59 2 v l.length (X.recCells l)) (gr : w.grownBy w1 lv.ownBlock) (hv : ∀ k, v.ownBlock = some k → lv.ownBlock = some k ∨ w.heap.size ≤ k)
    (bx : Bx g w1 w2 (pCells { s with lo := l } kv gv v)) : Nx w w2 g kv gv lv { s with lo := l } := by
  have hg : ∀ k, k < w.heap.size → lv.ownBlock ≠ some k → w1.heap[k]? = w.heap[k]? := fun k hk hn => gr.block k hk (fun e => hn e.symm)
  have hvg : v.ownBlock ≠ some g := fun e => by
    rcases hv g e with h1 | h1
    · exact h.locNe h1
    · have := h.lt; omega
  refine ⟨kv, gv, v, ⟨bx.box, ?_, ?_, ?_, ?_⟩, ?_, ?_⟩
  · refine own_moved h.kept fun k hk => (bx.block k (by intro e; subst e; exact h.keptNe hk)).trans (hg k (own_lt h.kept hk).1 fun hl => ?_)
    obtain ⟨_, c1, e1⟩ := own_lt h.kept hk
    obtain ⟨_, c2, e2⟩ := own_lt h.loc hl
    rw [e1] at e2
    injection e2 with e2
    injection e2 with _ e2
    cases e2
  · exact own_moved h.glob fun k hk => (bx.block k (by intro e; subst e; exact h.globNe hk)).trans (hg k (own_lt h.glob hk).1 (h.apart k hk))
  · exact own_moved o fun k hk => bx.block k (by intro e; subst e; exact hvg hk)
  · intro k hk e
    rcases hv k e with h1 | h1
    · exact h.apart k hk h1
    · have := (own_lt h.glob hk).1; omega
  · refine ⟨bx.os.trans gr.os, bx.tape.trans gr.tape, bx.output.trans gr.output, Nat.le_trans gr.size (Nat.le_of_eq bx.size.symm), fun k hk hn => ?_⟩
    exact (bx.block k fun e => hn (.inl e)).trans (hg k hk fun e => hn (.inr (.inr (.inr e))))
  · intro k hk
    rcases hk with h1 | h1 | h1 | h1
    · exact .inl (.inl h1)
    · exact .inl (.inr (.inl h1))
    · exact .inl (.inr (.inr (.inl h1)))
    · rcases hv k h1 with h2 | h2
      · exact .inl (.inr (.inr (.inr h2)))
      · exact .inr h2

theorem nx_glob (h : Pm w g s kv gv lv) {v : Value} {l : List Rec} (o : w1.ownsRow 0 59 2 v l.length (X.recCells l)) (gr : w.grownBy w1 gv.ownBlock) (hv : ∀ k, v.ownBlock = some k → gv.ownBlock = some k ∨ w.heap.size ≤ k)
    (bx : Bx g w1 w2 (pCells { s with gl := l } kv v lv)) : Nx w w2 g kv gv lv { s with gl := l } := by
  have hg : ∀ k, k < w.heap.size → gv.ownBlock ≠ some k → w1.heap[k]? = w.heap[k]? := fun k hk hn => gr.block k hk (fun e => hn e.symm)
  have hvg : v.ownBlock ≠ some g := fun e => by
    rcases hv g e with h1 | h1
    · exact h.globNe h1
    · have := h.lt; omega
  refine ⟨kv, v, lv, ⟨bx.box, ?_, ?_, ?_, ?_⟩, ?_, ?_⟩
  · refine own_moved h.kept fun k hk => (bx.block k (by intro e; subst e; exact h.keptNe hk)).trans (hg k (own_lt h.kept hk).1 fun hl => ?_)
    obtain ⟨_, c1, e1⟩ := own_lt h.kept hk
    obtain ⟨_, c2, e2⟩ := own_lt h.glob hl
    rw [e1] at e2
    injection e2 with e2
    injection e2 with _ e2
    cases e2
  · exact own_moved o fun k hk => bx.block k (by intro e; subst e; exact hvg hk)
  · exact own_moved h.loc fun k hk => (bx.block k (by intro e; subst e; exact h.locNe hk)).trans (hg k (own_lt h.loc hk).1 fun hl => h.apart k hl hk)
  · intro k hk e
    rcases hv k hk with h1 | h1
    · exact h.apart k h1 e
    · have := (own_lt h.loc e).1; omega
  · refine ⟨bx.os.trans gr.os, bx.tape.trans gr.tape, bx.output.trans gr.output, Nat.le_trans gr.size (Nat.le_of_eq bx.size.symm), fun k hk hn => ?_⟩
    exact (bx.block k fun e => hn (.inl e)).trans (hg k hk fun e => hn (.inr (.inr (.inl e))))
  · intro k hk
    rcases hk with h1 | h1 | h1 | h1
    · exact .inl (.inl h1)
    · exact .inl (.inr (.inl h1))
    · rcases hv k h1 with h2 | h2
      · exact .inl (.inr (.inr (.inl h2)))
      · exact .inr h2
    · exact .inl (.inr (.inr (.inr h1)))

set_option maxRecDepth 20000 in
set_option maxHeartbeats 4000000 in
theorem lay_name (h : Pm w g s kv gv lv) (hS : Small s) (hc : s.cl = 4) :
    Calls Tryz.prog 62 #[.pointer (some ⟨g, 0, none⟩)] w fun e w' => e = .returned (.int .i64 0) ∧ Nx w w' g kv gv lv { s with nm := textP s.kp } := by
  obtain ⟨ka, kc, hkv, _, _, _⟩ := own_sl h.kept
  have q := textOf_w h.kept hS.kp
  have c0 := h.cells
  rw [hc] at c0
  generalize hPP : (fun (e : Ending) (w' : World) => e = .returned (.int .i64 0) ∧ Nx w w' g kv gv lv { s with nm := textP s.kp }) = PP
  have HPP : Hid (∀ w1, Below w.heap.size w w1 → (∀ i, w1.cell? ⟨g, i, none⟩ = (pCells s kv gv lv)[i]?) ∧ (∀ i, w1.frozen? ⟨g, i, none⟩ = false) ∧ PP (.returned (.int .i64 0)) (w1.setCell ⟨g, 9, none⟩ (.string (textP s.kp)))) := fun w1 b => by
    have h1 := h.grow b
    refine ⟨h1.cell, h1.froz, ?_⟩
    rw [← hPP]
    exact ⟨rfl, nx_box h b rfl rfl rfl ((Bx.mk0 h1.box).set 9 _)⟩
  clear hPP h hS
  unfold pCells at HPP
  rw [hc] at HPP
  subst hkv
  generalize textP s.kp = tx at *
  generalize s.kp.length = kn at *
  go_enter Tryz.func62, Tryz.ntmps62
  go_wp2_with (go_at_call 80; refine q.mono ?_; rintro e w1 ⟨rfl, b1⟩; obtain ⟨c1, f1, HF⟩ := HPP.out _ b1)
  exact HF

set_option maxRecDepth 20000 in
set_option maxHeartbeats 4000000 in
theorem lay_link (h : Pm w g s kv gv lv) (hS : Small s) (hc : s.cl = 5) :
    Calls Tryz.prog 62 #[.pointer (some ⟨g, 0, none⟩)] w fun e w' => e = .returned (.int .i64 0) ∧ Nx w w' g kv gv lv { s with lk := textP s.kp } := by
  obtain ⟨ka, kc, hkv, _, _, _⟩ := own_sl h.kept
  have q := textOf_w h.kept hS.kp
  have c0 := h.cells
  rw [hc] at c0
  generalize hPP : (fun (e : Ending) (w' : World) => e = .returned (.int .i64 0) ∧ Nx w w' g kv gv lv { s with lk := textP s.kp }) = PP
  have HPP : Hid (∀ w1, Below w.heap.size w w1 → (∀ i, w1.cell? ⟨g, i, none⟩ = (pCells s kv gv lv)[i]?) ∧ (∀ i, w1.frozen? ⟨g, i, none⟩ = false) ∧ PP (.returned (.int .i64 0)) (w1.setCell ⟨g, 10, none⟩ (.string (textP s.kp)))) := fun w1 b => by
    have h1 := h.grow b
    refine ⟨h1.cell, h1.froz, ?_⟩
    rw [← hPP]
    exact ⟨rfl, nx_box h b rfl rfl rfl ((Bx.mk0 h1.box).set 10 _)⟩
  clear hPP h hS
  unfold pCells at HPP
  rw [hc] at HPP
  subst hkv
  generalize textP s.kp = tx at *
  generalize s.kp.length = kn at *
  go_enter Tryz.func62, Tryz.ntmps62
  go_wp2_with (go_at_call 80; refine q.mono ?_; rintro e w1 ⟨rfl, b1⟩; obtain ⟨c1, f1, HF⟩ := HPP.out _ b1)
  exact HF

set_option maxRecDepth 20000 in
set_option maxHeartbeats 4000000 in
theorem lay_loc (h : Pm w g s kv gv lv) (hS : Small s) (hc : s.cl = 2) (hV : X.Vs w) :
    Calls Tryz.prog 62 #[.pointer (some ⟨g, 0, none⟩)] w fun e w' => e = .returned (.int .i64 (addP s.lo s.kp).2) ∧ Nx w w' g kv gv lv { s with lo := (addP s.lo s.kp).1 } := by
  obtain ⟨ka, kc, hkv, _, _, _⟩ := own_sl h.kept
  obtain ⟨la, lc, hlv, _, _, _⟩ := own_sl h.loc
  have bd : Below w.heap.size w w.drew := (Below.refl _ _).drew
  have hd := h.grow bd
  have q := add_w hd.loc hd.kept hS.kp hS.kl hS.lo (hV.below bd)
  have c0 := h.cells
  rw [hc] at c0
  generalize hPP : (fun (e : Ending) (w' : World) => e = .returned (.int .i64 (addP s.lo s.kp).2) ∧ Nx w w' g kv gv lv { s with lo := (addP s.lo s.kp).1 }) = PP
  have HPP : Hid (∀ w1 v, w1.ownsRow 0 59 2 v (addP s.lo s.kp).1.length (X.recCells (addP s.lo s.kp).1) → w.drew.grownBy w1 lv.ownBlock → (∀ k, v.ownBlock = some k → lv.ownBlock = some k ∨ w.drew.heap.size ≤ k) → (∀ i, w1.cell? ⟨g, i, none⟩ = (pCells s kv gv lv)[i]?) ∧ (∀ i, w1.frozen? ⟨g, i, none⟩ = false) ∧ PP (.returned (.int .i64 (addP s.lo s.kp).2)) (w1.setCell ⟨g, 8, none⟩ v)) := fun w1 v o gr hv => by
    have hbx : w1.heap[g]? = some (.cells (pCells s kv gv lv) 72 (0, 0)) := (gr.block g h.lt (fun e => h.locNe e.symm)).trans h.box
    refine ⟨(Bx.mk0 hbx).cell, (Bx.mk0 hbx).froz, ?_⟩
    rw [← hPP]
    exact ⟨rfl, nx_loc h o ⟨gr.os, gr.tape, gr.output, gr.size, fun k hk hn => gr.block k hk hn⟩ hv ((Bx.mk0 hbx).set 8 v)⟩
  clear hPP h hS hd bd hV
  unfold pCells at HPP
  rw [hc] at HPP
  subst hkv hlv
  generalize addP s.lo s.kp = ap at *
  generalize s.kp.length = kn at *
  generalize s.lo.length = ln at *
  go_enter Tryz.func62, Tryz.ntmps62
  go_upto_region 8 with fail
  refine wp_region_held_drew (S := (fun W : World => True)) (by kernel_rfl) trivial (fun hHeld => ?_)
  refine wpAnyH_take (i := 0) (oi := { dst := some 33, op := Op.move (Operand.tmp 0), type := 37, pos := "push.go:195", after := #[], guard := none }) (v := ?_) rfl (by kernel_rfl) (by kernel_rfl) (by kernel_rfl) (fun _ _ _ h => h) (Or.inl ⟨by rfl, ?_⟩) (by assumption) ?_
  rotate_left 1
  · (intro W hSw; go_simp; try with_reducible rfl)
  (try simp only [Act.put, List.setIfInBounds_toArray, List.set_cons_zero, List.set_cons_succ])
  refine wpAnyH_take (i := 1) (oi := { dst := some 34, op := Op.move (Operand.tmp 0), type := 37, pos := "push.go:195", after := #[], guard := none }) (v := ?_) rfl (by kernel_rfl) (by kernel_rfl) (by kernel_rfl) (fun _ _ _ h => h) (Or.inl ⟨by rfl, ?_⟩) (by assumption) ?_
  rotate_left 1
  · (intro W hSw; go_simp; try with_reducible rfl)
  (try simp only [Act.put, List.setIfInBounds_toArray, List.set_cons_zero, List.set_cons_succ])
  refine wpAnyH_take (i := 2) (oi := { dst := some 35, op := Op.nilCheck (Operand.tmp 34), type := 0, pos := "push.go:195", after := #[{ on := 1, ground := Ground.data }], guard := none }) (v := ?_) rfl (by kernel_rfl) (by kernel_rfl) (by kernel_rfl) (fun _ _ _ h => h) (Or.inl ⟨by rfl, ?_⟩) (by assumption) ?_
  rotate_left 1
  · (intro W hSw; go_simp; try with_reducible rfl)
  (try simp only [Act.put, List.setIfInBounds_toArray, List.set_cons_zero, List.set_cons_succ])
  refine wpAnyH_take (i := 3) (oi := { dst := some 36, op := Op.fieldAddr 72 (Operand.tmp 35) 7, type := 0, pos := "push.go:195", after := #[{ on := 2, ground := Ground.data }], guard := none }) (v := ?_) rfl (by kernel_rfl) (by kernel_rfl) (by kernel_rfl) (fun _ _ _ h => h) (Or.inl ⟨by rfl, ?_⟩) (by assumption) ?_
  rotate_left 1
  · (intro W hSw; go_simp; try with_reducible rfl)
  (try simp only [Act.put, List.setIfInBounds_toArray, List.set_cons_zero, List.set_cons_succ])
  refine wpAnyH_take (i := 4) (oi := { dst := some 37, op := Op.fieldAddr 70 (Operand.tmp 36) 1, type := 0, pos := "push.go:195", after := #[{ on := 3, ground := Ground.data }], guard := none }) (v := ?_) rfl (by kernel_rfl) (by kernel_rfl) (by kernel_rfl) (fun _ _ _ h => h) (Or.inl ⟨by rfl, ?_⟩) (by assumption) ?_
  rotate_left 1
  · (intro W hSw; go_simp; try with_reducible rfl)
  (try simp only [Act.put, List.setIfInBounds_toArray, List.set_cons_zero, List.set_cons_succ])
  refine wpAnyH_take (i := 6) (oi := { dst := some 39, op := Op.move (Operand.tmp 0), type := 37, pos := "push.go:195", after := #[], guard := none }) (v := ?_) rfl (by kernel_rfl) (by kernel_rfl) (by kernel_rfl) (fun _ _ _ h => h) (Or.inl ⟨by rfl, ?_⟩) (by assumption) ?_
  rotate_left 1
  · (intro W hSw; go_simp; try with_reducible rfl)
  (try simp only [Act.put, List.setIfInBounds_toArray, List.set_cons_zero, List.set_cons_succ])
  refine wpAnyH_take (i := 7) (oi := { dst := some 40, op := Op.nilCheck (Operand.tmp 39), type := 0, pos := "push.go:195", after := #[{ on := 6, ground := Ground.data }], guard := none }) (v := ?_) rfl (by kernel_rfl) (by kernel_rfl) (by kernel_rfl) (fun _ _ _ h => h) (Or.inl ⟨by rfl, ?_⟩) (by assumption) ?_
  rotate_left 1
  · (intro W hSw; go_simp; try with_reducible rfl)
  (try simp only [Act.put, List.setIfInBounds_toArray, List.set_cons_zero, List.set_cons_succ])
  refine wpAnyH_take (i := 8) (oi := { dst := some 41, op := Op.fieldAddr 72 (Operand.tmp 40) 3, type := 0, pos := "push.go:195", after := #[{ on := 7, ground := Ground.data }], guard := none }) (v := ?_) rfl (by kernel_rfl) (by kernel_rfl) (by kernel_rfl) (fun _ _ _ h => h) (Or.inl ⟨by rfl, ?_⟩) (by assumption) ?_
  rotate_left 1
  · (intro W hSw; go_simp; try with_reducible rfl)
  (try simp only [Act.put, List.setIfInBounds_toArray, List.set_cons_zero, List.set_cons_succ])
  refine wpAnyH_ready (rs := [5, 9]) (by kernel_rfl) (by simp) ?_
  refine AllReadyH.cons (o := { dst := some 38, op := Op.load 68 (Operand.tmp 37), type := 68, pos := "push.go:195", after := #[{ on := 4, ground := Ground.data }], guard := none }) rfl (fun K hK => ?_) (AllReadyH.cons (o := { dst := some 42, op := Op.load 22 (Operand.tmp 41), type := 22, pos := "push.go:195", after := #[{ on := 8, ground := Ground.data }], guard := none }) rfl (fun K hK => ?_) AllReadyH.nil)
  · go_simp
    refine hK.out _ _ (by first | exact trivial | assumption) (fun hHeld => ?_)
    clear hK K
    (try simp only [Act.put, List.setIfInBounds_toArray, List.set_cons_zero, List.set_cons_succ])
    refine wpAnyH_ready (rs := [9]) (by kernel_rfl) (by simp) ?_
    refine AllReadyH.cons (o := { dst := some 42, op := Op.load 22 (Operand.tmp 41), type := 22, pos := "push.go:195", after := #[{ on := 8, ground := Ground.data }], guard := none }) rfl (fun K hK => ?_) AllReadyH.nil
    · go_simp
      refine hK.out _ _ (by first | exact trivial | assumption) (fun hHeld => ?_)
      clear hK K
      (try simp only [Act.put, List.setIfInBounds_toArray, List.set_cons_zero, List.set_cons_succ])
      refine wpAnyH_ready (rs := [10]) (by kernel_rfl) (by simp) ?_
      refine AllReadyH.cons (o := { dst := some 43, op := Op.call { callee := Callee.value (Operand.func 81), args := #[Operand.tmp 38, Operand.tmp 42], argTypes := #[68, 22] }, type := 146, pos := "push.go:195", after := #[{ on := 5, ground := Ground.data }, { on := 9, ground := Ground.data }], guard := none }) rfl (fun K hK => ?_) AllReadyH.nil
      · go_simp
        refine q.mono ?_
        rintro ev w1 ⟨v1, rfl, o1, g1, hv1⟩
        obtain ⟨c1, f1, HF⟩ := HPP.out _ _ o1 g1 hv1
        obtain ⟨va, vc, hva, _, _, _⟩ := own_sl o1
        subst hva
        clear c0 q o1 g1 hv1
        refine hK.out _ _ trivial (fun hHeld => ?_)
        clear hK K
        (try simp only [Act.put, List.setIfInBounds_toArray, List.set_cons_zero, List.set_cons_succ])
        refine wpAnyH_take (i := 11) (oi := { dst := some 32, op := Op.move (Operand.tmp 43), type := 146, pos := "push.go:195", after := #[{ on := 10, ground := Ground.data }], guard := none }) (v := ?_) rfl (by kernel_rfl) (by kernel_rfl) (by kernel_rfl) (fun _ _ _ h => h) (Or.inl ⟨by rfl, ?_⟩) (by assumption) ?_
        rotate_left 1
        · (intro W hSw; go_simp; try with_reducible rfl)
        (try simp only [Act.put, List.setIfInBounds_toArray, List.set_cons_zero, List.set_cons_succ])
        refine wpAnyH_take (i := 12) (oi := { dst := some 44, op := Op.extract (Operand.tmp 32) 0, type := 68, pos := "push.go:195", after := #[{ on := 11, ground := Ground.data }], guard := none }) (v := ?_) rfl (by kernel_rfl) (by kernel_rfl) (by kernel_rfl) (fun _ _ _ h => h) (Or.inl ⟨by rfl, ?_⟩) (by assumption) ?_
        rotate_left 1
        · (intro W hSw; go_simp; try with_reducible rfl)
        (try simp only [Act.put, List.setIfInBounds_toArray, List.set_cons_zero, List.set_cons_succ])
        refine wpAnyH_take (i := 13) (oi := { dst := some 45, op := Op.extract (Operand.tmp 32) 1, type := 48, pos := "push.go:195", after := #[{ on := 11, ground := Ground.data }, { on := 17, ground := Ground.gcOnly Departure.lateStores }], guard := none }) (v := ?_) rfl (by kernel_rfl) (by kernel_rfl) (by kernel_rfl) (fun _ _ _ h => h) (Or.inl ⟨by rfl, ?_⟩) (by assumption) ?_
        rotate_left 1
        · (intro W hSw; go_simp; try with_reducible rfl)
        (try simp only [Act.put, List.setIfInBounds_toArray, List.set_cons_zero, List.set_cons_succ])
        refine wpAnyH_take (i := 14) (oi := { dst := some 46, op := Op.nilCheck (Operand.tmp 33), type := 0, pos := "push.go:195", after := #[{ on := 0, ground := Ground.data }, { on := 0, ground := Ground.phase }, { on := 1, ground := Ground.phase }, { on := 2, ground := Ground.phase }, { on := 3, ground := Ground.phase }, { on := 4, ground := Ground.phase }, { on := 5, ground := Ground.phase }, { on := 6, ground := Ground.phase }, { on := 7, ground := Ground.phase }, { on := 8, ground := Ground.phase }, { on := 9, ground := Ground.phase }, { on := 10, ground := Ground.phase }, { on := 11, ground := Ground.phase }, { on := 12, ground := Ground.phase }, { on := 13, ground := Ground.textOnly Departure.lateStores }], guard := none }) (v := ?_) rfl (by kernel_rfl) (by kernel_rfl) (by kernel_rfl) (fun _ _ _ h => h) (Or.inl ⟨by rfl, ?_⟩) (by assumption) ?_
        rotate_left 1
        · (intro W hSw; go_simp; try with_reducible rfl)
        (try simp only [Act.put, List.setIfInBounds_toArray, List.set_cons_zero, List.set_cons_succ])
        refine wpAnyH_take (i := 15) (oi := { dst := some 47, op := Op.fieldAddr 72 (Operand.tmp 46) 7, type := 0, pos := "push.go:195", after := #[{ on := 14, ground := Ground.data }, { on := 0, ground := Ground.phase }, { on := 1, ground := Ground.phase }, { on := 2, ground := Ground.phase }, { on := 3, ground := Ground.phase }, { on := 4, ground := Ground.phase }, { on := 5, ground := Ground.phase }, { on := 6, ground := Ground.phase }, { on := 7, ground := Ground.phase }, { on := 8, ground := Ground.phase }, { on := 9, ground := Ground.phase }, { on := 10, ground := Ground.phase }, { on := 11, ground := Ground.phase }, { on := 12, ground := Ground.phase }, { on := 13, ground := Ground.textOnly Departure.lateStores }], guard := none }) (v := ?_) rfl (by kernel_rfl) (by kernel_rfl) (by kernel_rfl) (fun _ _ _ h => h) (Or.inl ⟨by rfl, ?_⟩) (by assumption) ?_
        rotate_left 1
        · (intro W hSw; go_simp; try with_reducible rfl)
        (try simp only [Act.put, List.setIfInBounds_toArray, List.set_cons_zero, List.set_cons_succ])
        refine wpAnyH_take (i := 16) (oi := { dst := some 48, op := Op.fieldAddr 70 (Operand.tmp 47) 1, type := 0, pos := "push.go:195", after := #[{ on := 15, ground := Ground.data }, { on := 0, ground := Ground.phase }, { on := 1, ground := Ground.phase }, { on := 2, ground := Ground.phase }, { on := 3, ground := Ground.phase }, { on := 4, ground := Ground.phase }, { on := 5, ground := Ground.phase }, { on := 6, ground := Ground.phase }, { on := 7, ground := Ground.phase }, { on := 8, ground := Ground.phase }, { on := 9, ground := Ground.phase }, { on := 10, ground := Ground.phase }, { on := 11, ground := Ground.phase }, { on := 12, ground := Ground.phase }, { on := 13, ground := Ground.textOnly Departure.lateStores }], guard := none }) (v := ?_) rfl (by kernel_rfl) (by kernel_rfl) (by kernel_rfl) (fun _ _ _ h => h) (Or.inl ⟨by rfl, ?_⟩) (by assumption) ?_
        rotate_left 1
        · (intro W hSw; go_simp; try with_reducible rfl)
        (try simp only [Act.put, List.setIfInBounds_toArray, List.set_cons_zero, List.set_cons_succ])
        refine wpAnyH_ready (rs := [17]) (by kernel_rfl) (by simp) ?_
        refine AllReadyH.cons (o := { dst := none, op := Op.store 68 (Operand.tmp 48) (Operand.tmp 44), type := 0, pos := "push.go:195", after := #[{ on := 16, ground := Ground.data }, { on := 12, ground := Ground.data }, { on := 10, ground := Ground.chain }, { on := 0, ground := Ground.phase }, { on := 1, ground := Ground.phase }, { on := 2, ground := Ground.phase }, { on := 3, ground := Ground.phase }, { on := 4, ground := Ground.phase }, { on := 5, ground := Ground.phase }, { on := 6, ground := Ground.phase }, { on := 7, ground := Ground.phase }, { on := 8, ground := Ground.phase }, { on := 9, ground := Ground.phase }, { on := 10, ground := Ground.phase }, { on := 11, ground := Ground.phase }, { on := 12, ground := Ground.phase }, { on := 13, ground := Ground.textOnly Departure.lateStores }], guard := none }) rfl (fun K hK => ?_) AllReadyH.nil
        · go_simp
          refine hK.out _ _ (by first | exact trivial | assumption) (fun hHeld => ?_)
          clear hK K
          (try simp only [Act.put, List.setIfInBounds_toArray, List.set_cons_zero, List.set_cons_succ])
          refine wpAnyH_take (i := 18) (oi := { dst := some 3, op := Op.assign (Operand.tmp 45), type := 48, pos := "push.go:195", after := #[{ on := 13, ground := Ground.data }, { on := 17, ground := Ground.chain }, { on := 0, ground := Ground.phase }, { on := 1, ground := Ground.phase }, { on := 2, ground := Ground.phase }, { on := 3, ground := Ground.phase }, { on := 4, ground := Ground.phase }, { on := 5, ground := Ground.phase }, { on := 6, ground := Ground.phase }, { on := 7, ground := Ground.phase }, { on := 8, ground := Ground.phase }, { on := 9, ground := Ground.phase }, { on := 10, ground := Ground.phase }, { on := 11, ground := Ground.phase }, { on := 12, ground := Ground.phase }, { on := 13, ground := Ground.phase }, { on := 14, ground := Ground.phase }, { on := 15, ground := Ground.phase }, { on := 16, ground := Ground.phase }, { on := 17, ground := Ground.phase }], guard := none }) (v := ?_) rfl (by kernel_rfl) (by kernel_rfl) (by kernel_rfl) (fun _ _ _ h => h) (Or.inl ⟨by rfl, ?_⟩) (by assumption) ?_
          rotate_left 1
          · (intro W hSw; go_simp; try with_reducible rfl)
          (try simp only [Act.put, List.setIfInBounds_toArray, List.set_cons_zero, List.set_cons_succ])
          refine wpAnyH_done (by kernel_rfl) ?_ _
          go_wp2_with fail
          exact HF
  · go_simp
    refine hK.out _ _ (by first | exact trivial | assumption) (fun hHeld => ?_)
    clear hK K
    (try simp only [Act.put, List.setIfInBounds_toArray, List.set_cons_zero, List.set_cons_succ])
    refine wpAnyH_ready (rs := [5]) (by kernel_rfl) (by simp) ?_
    refine AllReadyH.cons (o := { dst := some 38, op := Op.load 68 (Operand.tmp 37), type := 68, pos := "push.go:195", after := #[{ on := 4, ground := Ground.data }], guard := none }) rfl (fun K hK => ?_) AllReadyH.nil
    · go_simp
      refine hK.out _ _ (by first | exact trivial | assumption) (fun hHeld => ?_)
      clear hK K
      (try simp only [Act.put, List.setIfInBounds_toArray, List.set_cons_zero, List.set_cons_succ])
      refine wpAnyH_ready (rs := [10]) (by kernel_rfl) (by simp) ?_
      refine AllReadyH.cons (o := { dst := some 43, op := Op.call { callee := Callee.value (Operand.func 81), args := #[Operand.tmp 38, Operand.tmp 42], argTypes := #[68, 22] }, type := 146, pos := "push.go:195", after := #[{ on := 5, ground := Ground.data }, { on := 9, ground := Ground.data }], guard := none }) rfl (fun K hK => ?_) AllReadyH.nil
      · go_simp
        refine q.mono ?_
        rintro ev w1 ⟨v1, rfl, o1, g1, hv1⟩
        obtain ⟨c1, f1, HF⟩ := HPP.out _ _ o1 g1 hv1
        obtain ⟨va, vc, hva, _, _, _⟩ := own_sl o1
        subst hva
        clear c0 q o1 g1 hv1
        refine hK.out _ _ trivial (fun hHeld => ?_)
        clear hK K
        (try simp only [Act.put, List.setIfInBounds_toArray, List.set_cons_zero, List.set_cons_succ])
        refine wpAnyH_take (i := 11) (oi := { dst := some 32, op := Op.move (Operand.tmp 43), type := 146, pos := "push.go:195", after := #[{ on := 10, ground := Ground.data }], guard := none }) (v := ?_) rfl (by kernel_rfl) (by kernel_rfl) (by kernel_rfl) (fun _ _ _ h => h) (Or.inl ⟨by rfl, ?_⟩) (by assumption) ?_
        rotate_left 1
        · (intro W hSw; go_simp; try with_reducible rfl)
        (try simp only [Act.put, List.setIfInBounds_toArray, List.set_cons_zero, List.set_cons_succ])
        refine wpAnyH_take (i := 12) (oi := { dst := some 44, op := Op.extract (Operand.tmp 32) 0, type := 68, pos := "push.go:195", after := #[{ on := 11, ground := Ground.data }], guard := none }) (v := ?_) rfl (by kernel_rfl) (by kernel_rfl) (by kernel_rfl) (fun _ _ _ h => h) (Or.inl ⟨by rfl, ?_⟩) (by assumption) ?_
        rotate_left 1
        · (intro W hSw; go_simp; try with_reducible rfl)
        (try simp only [Act.put, List.setIfInBounds_toArray, List.set_cons_zero, List.set_cons_succ])
        refine wpAnyH_take (i := 13) (oi := { dst := some 45, op := Op.extract (Operand.tmp 32) 1, type := 48, pos := "push.go:195", after := #[{ on := 11, ground := Ground.data }, { on := 17, ground := Ground.gcOnly Departure.lateStores }], guard := none }) (v := ?_) rfl (by kernel_rfl) (by kernel_rfl) (by kernel_rfl) (fun _ _ _ h => h) (Or.inl ⟨by rfl, ?_⟩) (by assumption) ?_
        rotate_left 1
        · (intro W hSw; go_simp; try with_reducible rfl)
        (try simp only [Act.put, List.setIfInBounds_toArray, List.set_cons_zero, List.set_cons_succ])
        refine wpAnyH_take (i := 14) (oi := { dst := some 46, op := Op.nilCheck (Operand.tmp 33), type := 0, pos := "push.go:195", after := #[{ on := 0, ground := Ground.data }, { on := 0, ground := Ground.phase }, { on := 1, ground := Ground.phase }, { on := 2, ground := Ground.phase }, { on := 3, ground := Ground.phase }, { on := 4, ground := Ground.phase }, { on := 5, ground := Ground.phase }, { on := 6, ground := Ground.phase }, { on := 7, ground := Ground.phase }, { on := 8, ground := Ground.phase }, { on := 9, ground := Ground.phase }, { on := 10, ground := Ground.phase }, { on := 11, ground := Ground.phase }, { on := 12, ground := Ground.phase }, { on := 13, ground := Ground.textOnly Departure.lateStores }], guard := none }) (v := ?_) rfl (by kernel_rfl) (by kernel_rfl) (by kernel_rfl) (fun _ _ _ h => h) (Or.inl ⟨by rfl, ?_⟩) (by assumption) ?_
        rotate_left 1
        · (intro W hSw; go_simp; try with_reducible rfl)
        (try simp only [Act.put, List.setIfInBounds_toArray, List.set_cons_zero, List.set_cons_succ])
        refine wpAnyH_take (i := 15) (oi := { dst := some 47, op := Op.fieldAddr 72 (Operand.tmp 46) 7, type := 0, pos := "push.go:195", after := #[{ on := 14, ground := Ground.data }, { on := 0, ground := Ground.phase }, { on := 1, ground := Ground.phase }, { on := 2, ground := Ground.phase }, { on := 3, ground := Ground.phase }, { on := 4, ground := Ground.phase }, { on := 5, ground := Ground.phase }, { on := 6, ground := Ground.phase }, { on := 7, ground := Ground.phase }, { on := 8, ground := Ground.phase }, { on := 9, ground := Ground.phase }, { on := 10, ground := Ground.phase }, { on := 11, ground := Ground.phase }, { on := 12, ground := Ground.phase }, { on := 13, ground := Ground.textOnly Departure.lateStores }], guard := none }) (v := ?_) rfl (by kernel_rfl) (by kernel_rfl) (by kernel_rfl) (fun _ _ _ h => h) (Or.inl ⟨by rfl, ?_⟩) (by assumption) ?_
        rotate_left 1
        · (intro W hSw; go_simp; try with_reducible rfl)
        (try simp only [Act.put, List.setIfInBounds_toArray, List.set_cons_zero, List.set_cons_succ])
        refine wpAnyH_take (i := 16) (oi := { dst := some 48, op := Op.fieldAddr 70 (Operand.tmp 47) 1, type := 0, pos := "push.go:195", after := #[{ on := 15, ground := Ground.data }, { on := 0, ground := Ground.phase }, { on := 1, ground := Ground.phase }, { on := 2, ground := Ground.phase }, { on := 3, ground := Ground.phase }, { on := 4, ground := Ground.phase }, { on := 5, ground := Ground.phase }, { on := 6, ground := Ground.phase }, { on := 7, ground := Ground.phase }, { on := 8, ground := Ground.phase }, { on := 9, ground := Ground.phase }, { on := 10, ground := Ground.phase }, { on := 11, ground := Ground.phase }, { on := 12, ground := Ground.phase }, { on := 13, ground := Ground.textOnly Departure.lateStores }], guard := none }) (v := ?_) rfl (by kernel_rfl) (by kernel_rfl) (by kernel_rfl) (fun _ _ _ h => h) (Or.inl ⟨by rfl, ?_⟩) (by assumption) ?_
        rotate_left 1
        · (intro W hSw; go_simp; try with_reducible rfl)
        (try simp only [Act.put, List.setIfInBounds_toArray, List.set_cons_zero, List.set_cons_succ])
        refine wpAnyH_ready (rs := [17]) (by kernel_rfl) (by simp) ?_
        refine AllReadyH.cons (o := { dst := none, op := Op.store 68 (Operand.tmp 48) (Operand.tmp 44), type := 0, pos := "push.go:195", after := #[{ on := 16, ground := Ground.data }, { on := 12, ground := Ground.data }, { on := 10, ground := Ground.chain }, { on := 0, ground := Ground.phase }, { on := 1, ground := Ground.phase }, { on := 2, ground := Ground.phase }, { on := 3, ground := Ground.phase }, { on := 4, ground := Ground.phase }, { on := 5, ground := Ground.phase }, { on := 6, ground := Ground.phase }, { on := 7, ground := Ground.phase }, { on := 8, ground := Ground.phase }, { on := 9, ground := Ground.phase }, { on := 10, ground := Ground.phase }, { on := 11, ground := Ground.phase }, { on := 12, ground := Ground.phase }, { on := 13, ground := Ground.textOnly Departure.lateStores }], guard := none }) rfl (fun K hK => ?_) AllReadyH.nil
        · go_simp
          refine hK.out _ _ (by first | exact trivial | assumption) (fun hHeld => ?_)
          clear hK K
          (try simp only [Act.put, List.setIfInBounds_toArray, List.set_cons_zero, List.set_cons_succ])
          refine wpAnyH_take (i := 18) (oi := { dst := some 3, op := Op.assign (Operand.tmp 45), type := 48, pos := "push.go:195", after := #[{ on := 13, ground := Ground.data }, { on := 17, ground := Ground.chain }, { on := 0, ground := Ground.phase }, { on := 1, ground := Ground.phase }, { on := 2, ground := Ground.phase }, { on := 3, ground := Ground.phase }, { on := 4, ground := Ground.phase }, { on := 5, ground := Ground.phase }, { on := 6, ground := Ground.phase }, { on := 7, ground := Ground.phase }, { on := 8, ground := Ground.phase }, { on := 9, ground := Ground.phase }, { on := 10, ground := Ground.phase }, { on := 11, ground := Ground.phase }, { on := 12, ground := Ground.phase }, { on := 13, ground := Ground.phase }, { on := 14, ground := Ground.phase }, { on := 15, ground := Ground.phase }, { on := 16, ground := Ground.phase }, { on := 17, ground := Ground.phase }], guard := none }) (v := ?_) rfl (by kernel_rfl) (by kernel_rfl) (by kernel_rfl) (fun _ _ _ h => h) (Or.inl ⟨by rfl, ?_⟩) (by assumption) ?_
          rotate_left 1
          · (intro W hSw; go_simp; try with_reducible rfl)
          (try simp only [Act.put, List.setIfInBounds_toArray, List.set_cons_zero, List.set_cons_succ])
          refine wpAnyH_done (by kernel_rfl) ?_ _
          go_wp2_with fail
          exact HF

set_option maxRecDepth 20000 in
set_option maxHeartbeats 4000000 in
theorem lay_glob (h : Pm w g s kv gv lv) (hS : Small s) (hc : s.cl = 3) (hV : X.Vs w) :
    Calls Tryz.prog 62 #[.pointer (some ⟨g, 0, none⟩)] w fun e w' => e = .returned (.int .i64 (addP s.gl s.kp).2) ∧ Nx w w' g kv gv lv { s with gl := (addP s.gl s.kp).1 } := by
  obtain ⟨ka, kc, hkv, _, _, _⟩ := own_sl h.kept
  obtain ⟨la, lc, hlv, _, _, _⟩ := own_sl h.glob
  have bd : Below w.heap.size w w.drew := (Below.refl _ _).drew
  have hd := h.grow bd
  have q := add_w hd.glob hd.kept hS.kp hS.kl hS.gl (hV.below bd)
  have c0 := h.cells
  rw [hc] at c0
  generalize hPP : (fun (e : Ending) (w' : World) => e = .returned (.int .i64 (addP s.gl s.kp).2) ∧ Nx w w' g kv gv lv { s with gl := (addP s.gl s.kp).1 }) = PP
  have HPP : Hid (∀ w1 v, w1.ownsRow 0 59 2 v (addP s.gl s.kp).1.length (X.recCells (addP s.gl s.kp).1) → w.drew.grownBy w1 gv.ownBlock → (∀ k, v.ownBlock = some k → gv.ownBlock = some k ∨ w.drew.heap.size ≤ k) → (∀ i, w1.cell? ⟨g, i, none⟩ = (pCells s kv gv lv)[i]?) ∧ (∀ i, w1.frozen? ⟨g, i, none⟩ = false) ∧ PP (.returned (.int .i64 (addP s.gl s.kp).2)) (w1.setCell ⟨g, 7, none⟩ v)) := fun w1 v o gr hv => by
    have hbx : w1.heap[g]? = some (.cells (pCells s kv gv lv) 72 (0, 0)) := (gr.block g h.lt (fun e => h.globNe e.symm)).trans h.box
    refine ⟨(Bx.mk0 hbx).cell, (Bx.mk0 hbx).froz, ?_⟩
    rw [← hPP]
    exact ⟨rfl, nx_glob h o ⟨gr.os, gr.tape, gr.output, gr.size, fun k hk hn => gr.block k hk hn⟩ hv ((Bx.mk0 hbx).set 7 v)⟩
  clear hPP h hS hd bd hV
  unfold pCells at HPP
  rw [hc] at HPP
  subst hkv hlv
  generalize addP s.gl s.kp = ap at *
  generalize s.kp.length = kn at *
  generalize s.gl.length = ln at *
  go_enter Tryz.func62, Tryz.ntmps62
  go_upto_region 10 with fail
  refine wp_region_held_drew (S := (fun W : World => True)) (by kernel_rfl) trivial (fun hHeld => ?_)
  refine wpAnyH_take (i := 0) (oi := { dst := some 52, op := Op.move (Operand.tmp 0), type := 37, pos := "push.go:197", after := #[], guard := none }) (v := ?_) rfl (by kernel_rfl) (by kernel_rfl) (by kernel_rfl) (fun _ _ _ h => h) (Or.inl ⟨by rfl, ?_⟩) (by assumption) ?_
  rotate_left 1
  · (intro W hSw; go_simp; try with_reducible rfl)
  (try simp only [Act.put, List.setIfInBounds_toArray, List.set_cons_zero, List.set_cons_succ])
  refine wpAnyH_take (i := 1) (oi := { dst := some 53, op := Op.move (Operand.tmp 0), type := 37, pos := "push.go:197", after := #[], guard := none }) (v := ?_) rfl (by kernel_rfl) (by kernel_rfl) (by kernel_rfl) (fun _ _ _ h => h) (Or.inl ⟨by rfl, ?_⟩) (by assumption) ?_
  rotate_left 1
  · (intro W hSw; go_simp; try with_reducible rfl)
  (try simp only [Act.put, List.setIfInBounds_toArray, List.set_cons_zero, List.set_cons_succ])
  refine wpAnyH_take (i := 2) (oi := { dst := some 54, op := Op.nilCheck (Operand.tmp 53), type := 0, pos := "push.go:197", after := #[{ on := 1, ground := Ground.data }], guard := none }) (v := ?_) rfl (by kernel_rfl) (by kernel_rfl) (by kernel_rfl) (fun _ _ _ h => h) (Or.inl ⟨by rfl, ?_⟩) (by assumption) ?_
  rotate_left 1
  · (intro W hSw; go_simp; try with_reducible rfl)
  (try simp only [Act.put, List.setIfInBounds_toArray, List.set_cons_zero, List.set_cons_succ])
  refine wpAnyH_take (i := 3) (oi := { dst := some 55, op := Op.fieldAddr 72 (Operand.tmp 54) 7, type := 0, pos := "push.go:197", after := #[{ on := 2, ground := Ground.data }], guard := none }) (v := ?_) rfl (by kernel_rfl) (by kernel_rfl) (by kernel_rfl) (fun _ _ _ h => h) (Or.inl ⟨by rfl, ?_⟩) (by assumption) ?_
  rotate_left 1
  · (intro W hSw; go_simp; try with_reducible rfl)
  (try simp only [Act.put, List.setIfInBounds_toArray, List.set_cons_zero, List.set_cons_succ])
  refine wpAnyH_take (i := 4) (oi := { dst := some 56, op := Op.fieldAddr 70 (Operand.tmp 55) 0, type := 0, pos := "push.go:197", after := #[{ on := 3, ground := Ground.data }], guard := none }) (v := ?_) rfl (by kernel_rfl) (by kernel_rfl) (by kernel_rfl) (fun _ _ _ h => h) (Or.inl ⟨by rfl, ?_⟩) (by assumption) ?_
  rotate_left 1
  · (intro W hSw; go_simp; try with_reducible rfl)
  (try simp only [Act.put, List.setIfInBounds_toArray, List.set_cons_zero, List.set_cons_succ])
  refine wpAnyH_take (i := 6) (oi := { dst := some 58, op := Op.move (Operand.tmp 0), type := 37, pos := "push.go:197", after := #[], guard := none }) (v := ?_) rfl (by kernel_rfl) (by kernel_rfl) (by kernel_rfl) (fun _ _ _ h => h) (Or.inl ⟨by rfl, ?_⟩) (by assumption) ?_
  rotate_left 1
  · (intro W hSw; go_simp; try with_reducible rfl)
  (try simp only [Act.put, List.setIfInBounds_toArray, List.set_cons_zero, List.set_cons_succ])
  refine wpAnyH_take (i := 7) (oi := { dst := some 59, op := Op.nilCheck (Operand.tmp 58), type := 0, pos := "push.go:197", after := #[{ on := 6, ground := Ground.data }], guard := none }) (v := ?_) rfl (by kernel_rfl) (by kernel_rfl) (by kernel_rfl) (fun _ _ _ h => h) (Or.inl ⟨by rfl, ?_⟩) (by assumption) ?_
  rotate_left 1
  · (intro W hSw; go_simp; try with_reducible rfl)
  (try simp only [Act.put, List.setIfInBounds_toArray, List.set_cons_zero, List.set_cons_succ])
  refine wpAnyH_take (i := 8) (oi := { dst := some 60, op := Op.fieldAddr 72 (Operand.tmp 59) 3, type := 0, pos := "push.go:197", after := #[{ on := 7, ground := Ground.data }], guard := none }) (v := ?_) rfl (by kernel_rfl) (by kernel_rfl) (by kernel_rfl) (fun _ _ _ h => h) (Or.inl ⟨by rfl, ?_⟩) (by assumption) ?_
  rotate_left 1
  · (intro W hSw; go_simp; try with_reducible rfl)
  (try simp only [Act.put, List.setIfInBounds_toArray, List.set_cons_zero, List.set_cons_succ])
  refine wpAnyH_ready (rs := [5, 9]) (by kernel_rfl) (by simp) ?_
  refine AllReadyH.cons (o := { dst := some 57, op := Op.load 68 (Operand.tmp 56), type := 68, pos := "push.go:197", after := #[{ on := 4, ground := Ground.data }], guard := none }) rfl (fun K hK => ?_) (AllReadyH.cons (o := { dst := some 61, op := Op.load 22 (Operand.tmp 60), type := 22, pos := "push.go:197", after := #[{ on := 8, ground := Ground.data }], guard := none }) rfl (fun K hK => ?_) AllReadyH.nil)
  · go_simp
    refine hK.out _ _ (by first | exact trivial | assumption) (fun hHeld => ?_)
    clear hK K
    (try simp only [Act.put, List.setIfInBounds_toArray, List.set_cons_zero, List.set_cons_succ])
    refine wpAnyH_ready (rs := [9]) (by kernel_rfl) (by simp) ?_
    refine AllReadyH.cons (o := { dst := some 61, op := Op.load 22 (Operand.tmp 60), type := 22, pos := "push.go:197", after := #[{ on := 8, ground := Ground.data }], guard := none }) rfl (fun K hK => ?_) AllReadyH.nil
    · go_simp
      refine hK.out _ _ (by first | exact trivial | assumption) (fun hHeld => ?_)
      clear hK K
      (try simp only [Act.put, List.setIfInBounds_toArray, List.set_cons_zero, List.set_cons_succ])
      refine wpAnyH_ready (rs := [10]) (by kernel_rfl) (by simp) ?_
      refine AllReadyH.cons (o := { dst := some 62, op := Op.call { callee := Callee.value (Operand.func 81), args := #[Operand.tmp 57, Operand.tmp 61], argTypes := #[68, 22] }, type := 146, pos := "push.go:197", after := #[{ on := 5, ground := Ground.data }, { on := 9, ground := Ground.data }], guard := none }) rfl (fun K hK => ?_) AllReadyH.nil
      · go_simp
        refine q.mono ?_
        rintro ev w1 ⟨v1, rfl, o1, g1, hv1⟩
        obtain ⟨c1, f1, HF⟩ := HPP.out _ _ o1 g1 hv1
        obtain ⟨va, vc, hva, _, _, _⟩ := own_sl o1
        subst hva
        clear c0 q o1 g1 hv1
        refine hK.out _ _ trivial (fun hHeld => ?_)
        clear hK K
        (try simp only [Act.put, List.setIfInBounds_toArray, List.set_cons_zero, List.set_cons_succ])
        refine wpAnyH_take (i := 11) (oi := { dst := some 51, op := Op.move (Operand.tmp 62), type := 146, pos := "push.go:197", after := #[{ on := 10, ground := Ground.data }], guard := none }) (v := ?_) rfl (by kernel_rfl) (by kernel_rfl) (by kernel_rfl) (fun _ _ _ h => h) (Or.inl ⟨by rfl, ?_⟩) (by assumption) ?_
        rotate_left 1
        · (intro W hSw; go_simp; try with_reducible rfl)
        (try simp only [Act.put, List.setIfInBounds_toArray, List.set_cons_zero, List.set_cons_succ])
        refine wpAnyH_take (i := 12) (oi := { dst := some 63, op := Op.extract (Operand.tmp 51) 0, type := 68, pos := "push.go:197", after := #[{ on := 11, ground := Ground.data }], guard := none }) (v := ?_) rfl (by kernel_rfl) (by kernel_rfl) (by kernel_rfl) (fun _ _ _ h => h) (Or.inl ⟨by rfl, ?_⟩) (by assumption) ?_
        rotate_left 1
        · (intro W hSw; go_simp; try with_reducible rfl)
        (try simp only [Act.put, List.setIfInBounds_toArray, List.set_cons_zero, List.set_cons_succ])
        refine wpAnyH_take (i := 13) (oi := { dst := some 64, op := Op.extract (Operand.tmp 51) 1, type := 48, pos := "push.go:197", after := #[{ on := 11, ground := Ground.data }, { on := 17, ground := Ground.gcOnly Departure.lateStores }], guard := none }) (v := ?_) rfl (by kernel_rfl) (by kernel_rfl) (by kernel_rfl) (fun _ _ _ h => h) (Or.inl ⟨by rfl, ?_⟩) (by assumption) ?_
        rotate_left 1
        · (intro W hSw; go_simp; try with_reducible rfl)
        (try simp only [Act.put, List.setIfInBounds_toArray, List.set_cons_zero, List.set_cons_succ])
        refine wpAnyH_take (i := 14) (oi := { dst := some 65, op := Op.nilCheck (Operand.tmp 52), type := 0, pos := "push.go:197", after := #[{ on := 0, ground := Ground.data }, { on := 0, ground := Ground.phase }, { on := 1, ground := Ground.phase }, { on := 2, ground := Ground.phase }, { on := 3, ground := Ground.phase }, { on := 4, ground := Ground.phase }, { on := 5, ground := Ground.phase }, { on := 6, ground := Ground.phase }, { on := 7, ground := Ground.phase }, { on := 8, ground := Ground.phase }, { on := 9, ground := Ground.phase }, { on := 10, ground := Ground.phase }, { on := 11, ground := Ground.phase }, { on := 12, ground := Ground.phase }, { on := 13, ground := Ground.textOnly Departure.lateStores }], guard := none }) (v := ?_) rfl (by kernel_rfl) (by kernel_rfl) (by kernel_rfl) (fun _ _ _ h => h) (Or.inl ⟨by rfl, ?_⟩) (by assumption) ?_
        rotate_left 1
        · (intro W hSw; go_simp; try with_reducible rfl)
        (try simp only [Act.put, List.setIfInBounds_toArray, List.set_cons_zero, List.set_cons_succ])
        refine wpAnyH_take (i := 15) (oi := { dst := some 66, op := Op.fieldAddr 72 (Operand.tmp 65) 7, type := 0, pos := "push.go:197", after := #[{ on := 14, ground := Ground.data }, { on := 0, ground := Ground.phase }, { on := 1, ground := Ground.phase }, { on := 2, ground := Ground.phase }, { on := 3, ground := Ground.phase }, { on := 4, ground := Ground.phase }, { on := 5, ground := Ground.phase }, { on := 6, ground := Ground.phase }, { on := 7, ground := Ground.phase }, { on := 8, ground := Ground.phase }, { on := 9, ground := Ground.phase }, { on := 10, ground := Ground.phase }, { on := 11, ground := Ground.phase }, { on := 12, ground := Ground.phase }, { on := 13, ground := Ground.textOnly Departure.lateStores }], guard := none }) (v := ?_) rfl (by kernel_rfl) (by kernel_rfl) (by kernel_rfl) (fun _ _ _ h => h) (Or.inl ⟨by rfl, ?_⟩) (by assumption) ?_
        rotate_left 1
        · (intro W hSw; go_simp; try with_reducible rfl)
        (try simp only [Act.put, List.setIfInBounds_toArray, List.set_cons_zero, List.set_cons_succ])
        refine wpAnyH_take (i := 16) (oi := { dst := some 67, op := Op.fieldAddr 70 (Operand.tmp 66) 0, type := 0, pos := "push.go:197", after := #[{ on := 15, ground := Ground.data }, { on := 0, ground := Ground.phase }, { on := 1, ground := Ground.phase }, { on := 2, ground := Ground.phase }, { on := 3, ground := Ground.phase }, { on := 4, ground := Ground.phase }, { on := 5, ground := Ground.phase }, { on := 6, ground := Ground.phase }, { on := 7, ground := Ground.phase }, { on := 8, ground := Ground.phase }, { on := 9, ground := Ground.phase }, { on := 10, ground := Ground.phase }, { on := 11, ground := Ground.phase }, { on := 12, ground := Ground.phase }, { on := 13, ground := Ground.textOnly Departure.lateStores }], guard := none }) (v := ?_) rfl (by kernel_rfl) (by kernel_rfl) (by kernel_rfl) (fun _ _ _ h => h) (Or.inl ⟨by rfl, ?_⟩) (by assumption) ?_
        rotate_left 1
        · (intro W hSw; go_simp; try with_reducible rfl)
        (try simp only [Act.put, List.setIfInBounds_toArray, List.set_cons_zero, List.set_cons_succ])
        refine wpAnyH_ready (rs := [17]) (by kernel_rfl) (by simp) ?_
        refine AllReadyH.cons (o := { dst := none, op := Op.store 68 (Operand.tmp 67) (Operand.tmp 63), type := 0, pos := "push.go:197", after := #[{ on := 16, ground := Ground.data }, { on := 12, ground := Ground.data }, { on := 10, ground := Ground.chain }, { on := 0, ground := Ground.phase }, { on := 1, ground := Ground.phase }, { on := 2, ground := Ground.phase }, { on := 3, ground := Ground.phase }, { on := 4, ground := Ground.phase }, { on := 5, ground := Ground.phase }, { on := 6, ground := Ground.phase }, { on := 7, ground := Ground.phase }, { on := 8, ground := Ground.phase }, { on := 9, ground := Ground.phase }, { on := 10, ground := Ground.phase }, { on := 11, ground := Ground.phase }, { on := 12, ground := Ground.phase }, { on := 13, ground := Ground.textOnly Departure.lateStores }], guard := none }) rfl (fun K hK => ?_) AllReadyH.nil
        · go_simp
          refine hK.out _ _ (by first | exact trivial | assumption) (fun hHeld => ?_)
          clear hK K
          (try simp only [Act.put, List.setIfInBounds_toArray, List.set_cons_zero, List.set_cons_succ])
          refine wpAnyH_take (i := 18) (oi := { dst := some 3, op := Op.assign (Operand.tmp 64), type := 48, pos := "push.go:197", after := #[{ on := 13, ground := Ground.data }, { on := 17, ground := Ground.chain }, { on := 0, ground := Ground.phase }, { on := 1, ground := Ground.phase }, { on := 2, ground := Ground.phase }, { on := 3, ground := Ground.phase }, { on := 4, ground := Ground.phase }, { on := 5, ground := Ground.phase }, { on := 6, ground := Ground.phase }, { on := 7, ground := Ground.phase }, { on := 8, ground := Ground.phase }, { on := 9, ground := Ground.phase }, { on := 10, ground := Ground.phase }, { on := 11, ground := Ground.phase }, { on := 12, ground := Ground.phase }, { on := 13, ground := Ground.phase }, { on := 14, ground := Ground.phase }, { on := 15, ground := Ground.phase }, { on := 16, ground := Ground.phase }, { on := 17, ground := Ground.phase }], guard := none }) (v := ?_) rfl (by kernel_rfl) (by kernel_rfl) (by kernel_rfl) (fun _ _ _ h => h) (Or.inl ⟨by rfl, ?_⟩) (by assumption) ?_
          rotate_left 1
          · (intro W hSw; go_simp; try with_reducible rfl)
          (try simp only [Act.put, List.setIfInBounds_toArray, List.set_cons_zero, List.set_cons_succ])
          refine wpAnyH_done (by kernel_rfl) ?_ _
          go_wp2_with fail
          exact HF
  · go_simp
    refine hK.out _ _ (by first | exact trivial | assumption) (fun hHeld => ?_)
    clear hK K
    (try simp only [Act.put, List.setIfInBounds_toArray, List.set_cons_zero, List.set_cons_succ])
    refine wpAnyH_ready (rs := [5]) (by kernel_rfl) (by simp) ?_
    refine AllReadyH.cons (o := { dst := some 57, op := Op.load 68 (Operand.tmp 56), type := 68, pos := "push.go:197", after := #[{ on := 4, ground := Ground.data }], guard := none }) rfl (fun K hK => ?_) AllReadyH.nil
    · go_simp
      refine hK.out _ _ (by first | exact trivial | assumption) (fun hHeld => ?_)
      clear hK K
      (try simp only [Act.put, List.setIfInBounds_toArray, List.set_cons_zero, List.set_cons_succ])
      refine wpAnyH_ready (rs := [10]) (by kernel_rfl) (by simp) ?_
      refine AllReadyH.cons (o := { dst := some 62, op := Op.call { callee := Callee.value (Operand.func 81), args := #[Operand.tmp 57, Operand.tmp 61], argTypes := #[68, 22] }, type := 146, pos := "push.go:197", after := #[{ on := 5, ground := Ground.data }, { on := 9, ground := Ground.data }], guard := none }) rfl (fun K hK => ?_) AllReadyH.nil
      · go_simp
        refine q.mono ?_
        rintro ev w1 ⟨v1, rfl, o1, g1, hv1⟩
        obtain ⟨c1, f1, HF⟩ := HPP.out _ _ o1 g1 hv1
        obtain ⟨va, vc, hva, _, _, _⟩ := own_sl o1
        subst hva
        clear c0 q o1 g1 hv1
        refine hK.out _ _ trivial (fun hHeld => ?_)
        clear hK K
        (try simp only [Act.put, List.setIfInBounds_toArray, List.set_cons_zero, List.set_cons_succ])
        refine wpAnyH_take (i := 11) (oi := { dst := some 51, op := Op.move (Operand.tmp 62), type := 146, pos := "push.go:197", after := #[{ on := 10, ground := Ground.data }], guard := none }) (v := ?_) rfl (by kernel_rfl) (by kernel_rfl) (by kernel_rfl) (fun _ _ _ h => h) (Or.inl ⟨by rfl, ?_⟩) (by assumption) ?_
        rotate_left 1
        · (intro W hSw; go_simp; try with_reducible rfl)
        (try simp only [Act.put, List.setIfInBounds_toArray, List.set_cons_zero, List.set_cons_succ])
        refine wpAnyH_take (i := 12) (oi := { dst := some 63, op := Op.extract (Operand.tmp 51) 0, type := 68, pos := "push.go:197", after := #[{ on := 11, ground := Ground.data }], guard := none }) (v := ?_) rfl (by kernel_rfl) (by kernel_rfl) (by kernel_rfl) (fun _ _ _ h => h) (Or.inl ⟨by rfl, ?_⟩) (by assumption) ?_
        rotate_left 1
        · (intro W hSw; go_simp; try with_reducible rfl)
        (try simp only [Act.put, List.setIfInBounds_toArray, List.set_cons_zero, List.set_cons_succ])
        refine wpAnyH_take (i := 13) (oi := { dst := some 64, op := Op.extract (Operand.tmp 51) 1, type := 48, pos := "push.go:197", after := #[{ on := 11, ground := Ground.data }, { on := 17, ground := Ground.gcOnly Departure.lateStores }], guard := none }) (v := ?_) rfl (by kernel_rfl) (by kernel_rfl) (by kernel_rfl) (fun _ _ _ h => h) (Or.inl ⟨by rfl, ?_⟩) (by assumption) ?_
        rotate_left 1
        · (intro W hSw; go_simp; try with_reducible rfl)
        (try simp only [Act.put, List.setIfInBounds_toArray, List.set_cons_zero, List.set_cons_succ])
        refine wpAnyH_take (i := 14) (oi := { dst := some 65, op := Op.nilCheck (Operand.tmp 52), type := 0, pos := "push.go:197", after := #[{ on := 0, ground := Ground.data }, { on := 0, ground := Ground.phase }, { on := 1, ground := Ground.phase }, { on := 2, ground := Ground.phase }, { on := 3, ground := Ground.phase }, { on := 4, ground := Ground.phase }, { on := 5, ground := Ground.phase }, { on := 6, ground := Ground.phase }, { on := 7, ground := Ground.phase }, { on := 8, ground := Ground.phase }, { on := 9, ground := Ground.phase }, { on := 10, ground := Ground.phase }, { on := 11, ground := Ground.phase }, { on := 12, ground := Ground.phase }, { on := 13, ground := Ground.textOnly Departure.lateStores }], guard := none }) (v := ?_) rfl (by kernel_rfl) (by kernel_rfl) (by kernel_rfl) (fun _ _ _ h => h) (Or.inl ⟨by rfl, ?_⟩) (by assumption) ?_
        rotate_left 1
        · (intro W hSw; go_simp; try with_reducible rfl)
        (try simp only [Act.put, List.setIfInBounds_toArray, List.set_cons_zero, List.set_cons_succ])
        refine wpAnyH_take (i := 15) (oi := { dst := some 66, op := Op.fieldAddr 72 (Operand.tmp 65) 7, type := 0, pos := "push.go:197", after := #[{ on := 14, ground := Ground.data }, { on := 0, ground := Ground.phase }, { on := 1, ground := Ground.phase }, { on := 2, ground := Ground.phase }, { on := 3, ground := Ground.phase }, { on := 4, ground := Ground.phase }, { on := 5, ground := Ground.phase }, { on := 6, ground := Ground.phase }, { on := 7, ground := Ground.phase }, { on := 8, ground := Ground.phase }, { on := 9, ground := Ground.phase }, { on := 10, ground := Ground.phase }, { on := 11, ground := Ground.phase }, { on := 12, ground := Ground.phase }, { on := 13, ground := Ground.textOnly Departure.lateStores }], guard := none }) (v := ?_) rfl (by kernel_rfl) (by kernel_rfl) (by kernel_rfl) (fun _ _ _ h => h) (Or.inl ⟨by rfl, ?_⟩) (by assumption) ?_
        rotate_left 1
        · (intro W hSw; go_simp; try with_reducible rfl)
        (try simp only [Act.put, List.setIfInBounds_toArray, List.set_cons_zero, List.set_cons_succ])
        refine wpAnyH_take (i := 16) (oi := { dst := some 67, op := Op.fieldAddr 70 (Operand.tmp 66) 0, type := 0, pos := "push.go:197", after := #[{ on := 15, ground := Ground.data }, { on := 0, ground := Ground.phase }, { on := 1, ground := Ground.phase }, { on := 2, ground := Ground.phase }, { on := 3, ground := Ground.phase }, { on := 4, ground := Ground.phase }, { on := 5, ground := Ground.phase }, { on := 6, ground := Ground.phase }, { on := 7, ground := Ground.phase }, { on := 8, ground := Ground.phase }, { on := 9, ground := Ground.phase }, { on := 10, ground := Ground.phase }, { on := 11, ground := Ground.phase }, { on := 12, ground := Ground.phase }, { on := 13, ground := Ground.textOnly Departure.lateStores }], guard := none }) (v := ?_) rfl (by kernel_rfl) (by kernel_rfl) (by kernel_rfl) (fun _ _ _ h => h) (Or.inl ⟨by rfl, ?_⟩) (by assumption) ?_
        rotate_left 1
        · (intro W hSw; go_simp; try with_reducible rfl)
        (try simp only [Act.put, List.setIfInBounds_toArray, List.set_cons_zero, List.set_cons_succ])
        refine wpAnyH_ready (rs := [17]) (by kernel_rfl) (by simp) ?_
        refine AllReadyH.cons (o := { dst := none, op := Op.store 68 (Operand.tmp 67) (Operand.tmp 63), type := 0, pos := "push.go:197", after := #[{ on := 16, ground := Ground.data }, { on := 12, ground := Ground.data }, { on := 10, ground := Ground.chain }, { on := 0, ground := Ground.phase }, { on := 1, ground := Ground.phase }, { on := 2, ground := Ground.phase }, { on := 3, ground := Ground.phase }, { on := 4, ground := Ground.phase }, { on := 5, ground := Ground.phase }, { on := 6, ground := Ground.phase }, { on := 7, ground := Ground.phase }, { on := 8, ground := Ground.phase }, { on := 9, ground := Ground.phase }, { on := 10, ground := Ground.phase }, { on := 11, ground := Ground.phase }, { on := 12, ground := Ground.phase }, { on := 13, ground := Ground.textOnly Departure.lateStores }], guard := none }) rfl (fun K hK => ?_) AllReadyH.nil
        · go_simp
          refine hK.out _ _ (by first | exact trivial | assumption) (fun hHeld => ?_)
          clear hK K
          (try simp only [Act.put, List.setIfInBounds_toArray, List.set_cons_zero, List.set_cons_succ])
          refine wpAnyH_take (i := 18) (oi := { dst := some 3, op := Op.assign (Operand.tmp 64), type := 48, pos := "push.go:197", after := #[{ on := 13, ground := Ground.data }, { on := 17, ground := Ground.chain }, { on := 0, ground := Ground.phase }, { on := 1, ground := Ground.phase }, { on := 2, ground := Ground.phase }, { on := 3, ground := Ground.phase }, { on := 4, ground := Ground.phase }, { on := 5, ground := Ground.phase }, { on := 6, ground := Ground.phase }, { on := 7, ground := Ground.phase }, { on := 8, ground := Ground.phase }, { on := 9, ground := Ground.phase }, { on := 10, ground := Ground.phase }, { on := 11, ground := Ground.phase }, { on := 12, ground := Ground.phase }, { on := 13, ground := Ground.phase }, { on := 14, ground := Ground.phase }, { on := 15, ground := Ground.phase }, { on := 16, ground := Ground.phase }, { on := 17, ground := Ground.phase }], guard := none }) (v := ?_) rfl (by kernel_rfl) (by kernel_rfl) (by kernel_rfl) (fun _ _ _ h => h) (Or.inl ⟨by rfl, ?_⟩) (by assumption) ?_
          rotate_left 1
          · (intro W hSw; go_simp; try with_reducible rfl)
          (try simp only [Act.put, List.setIfInBounds_toArray, List.set_cons_zero, List.set_cons_succ])
          refine wpAnyH_done (by kernel_rfl) ?_ _
          go_wp2_with fail
          exact HF

end
end Go.Proofs.YtnmmaedngdibeaaGreatDoor

namespace Go.Proofs.YtnmmaedngdibeaaGreatDoor
open Go.RowKit
set_option linter.unusedVariables false
set_option linter.unusedSimpArgs false

section
variable {w w1 w2 : World} {g : Nat} {s s2 : PsR} {kv gv lv : Value} {F0 : Pu.Fns E.Hd E.En Rec ByteArray}

theorem add_eq (hF : Fok F0) (l : List Rec) (b : List Int) : (match Pu.add F0 l b with | .inl e => (([], e) : List Rec × Int) | .inr m => (m, 0)) = addP l b := by
  unfold Pu.add addP
  rw [hF.recs]
  unfold recsP
  by_cases c : (decP b).2 = 0
  · simp only [c, if_true, not_true_eq_false, if_false]
    by_cases c2 : 64 < l.length + (decP b).1.length
    · simp [c2]
    · simp [c2]
  · simp [c]

theorem lay_any (hF : Fok F0) (h : Pm w g s kv gv lv) (hS : Small s) (hc : s.cl = 2 ∨ s.cl = 3 ∨ s.cl = 4 ∨ s.cl = 5) (hV : X.Vs w) :
    Calls Tryz.prog 62 #[.pointer (some ⟨g, 0, none⟩)] w fun e w' => e = .returned (.int .i64 (Pu.layAhead F0 s).2) ∧ Nx w w' g kv gv lv (Pu.layAhead F0 s).1 := by
  unfold Pu.layAhead
  rcases hc with c | c | c | c
  · have q := lay_loc h hS c hV
    have e := add_eq hF s.lo s.kp
    rw [← e] at q
    rw [if_neg (by omega), if_neg (by omega), if_pos c]
    cases hx : Pu.add F0 s.lo s.kp with
    | inl x => rw [hx] at q; exact q
    | inr x => rw [hx] at q; exact q
  · have q := lay_glob h hS c hV
    have e := add_eq hF s.gl s.kp
    rw [← e] at q
    rw [if_neg (by omega), if_neg (by omega), if_neg (by omega), if_pos c]
    cases hx : Pu.add F0 s.gl s.kp with
    | inl x => rw [hx] at q; exact q
    | inr x => rw [hx] at q; exact q
  · rw [if_pos c, hF.text]
    exact lay_name h hS c
  · rw [if_neg (by omega), if_pos c, hF.text]
    exact lay_link h hS c

theorem lay_rd (F0 : Pu.Fns E.Hd E.En Rec ByteArray) (s : PsR) : (Pu.layAhead F0 s).1.rd = s.rd := by
  unfold Pu.layAhead
  (repeat' split) <;> rfl

theorem DatOk.since {M : Nat → Prop} {x : EvE × Value} (h : DatOk w1 w2 M x) (hs : w.heap.size ≤ w1.heap.size) : DatOk w w2 M x := by
  obtain ⟨e, v⟩ := x
  cases e with
  | dat b p =>
    obtain ⟨G, c, h1, h2, h3, h4, h5, h6⟩ := h
    exact ⟨G, c, h1, h2, h3, h4, Nat.le_trans hs h5, h6⟩
  | _ => trivial

theorem Out.after {kv1 gv1 lv1 v : Value} {L : List (EvE × Value)} (m : Mv (Mine g kv gv lv) w w1) (hm : ∀ k, Mine g kv1 gv1 lv1 k → Mine g kv gv lv k ∨ w.heap.size ≤ k) (h : Out w1 w2 g kv1 gv1 lv1 s2 v L) : Out w w2 g kv gv lv s2 v L := by
  obtain ⟨kv', gv', lv', p, mv, sub, ev, fr, dt⟩ := h
  refine ⟨kv', gv', lv', p, m.trans mv hm, fun k hk => ?_, ev, fun k hk => ⟨Nat.le_trans m.size (fr k hk).1, (fr k hk).2⟩, fun x hx => (dt x hx).since m.size⟩
  rcases sub k hk with h1 | h1
  · exact hm k h1
  · exact .inr (Nat.le_trans m.size h1)

set_option maxRecDepth 20000 in
set_option maxHeartbeats 4000000 in
theorem endMeta_w (hF : Fok F0) (h : Pm w g s kv gv lv) (hS : Small s) (hc : s.cl = 2 ∨ s.cl = 3 ∨ s.cl = 4 ∨ s.cl = 5) (hV : X.Vs w) (hr : s.rd ≤ 4611686018427387904) :
    Calls Tryz.prog 40 #[.pointer (some ⟨g, 0, none⟩)] w fun ev w' => ∃ v L, ev = .returned v ∧ Out w w' g kv gv lv (Pu.endMeta F0 s).1 v L ∧ L.map (·.1) = (Pu.endMeta F0 s).2 := by
  have q := lay_any hF h hS hc hV
  have hrd := lay_rd F0 s
  unfold Pu.endMeta
  generalize Pu.layAhead F0 s = la at *
  obtain ⟨s1, e1⟩ := la
  simp only at q hrd ⊢
  clear h hS hc hV
  by_cases c : e1 = 0
  · subst c
    rw [if_pos rfl]
    go_enter Tryz.func40, Tryz.ntmps40
    go_upto_region 2 with (go_at_call 62; refine q.mono ?_; rintro e w1 ⟨rfl, kv1, gv1, lv1, p1, m1, u1⟩)
    have q2 := fill_w p1 (by omega)
    have HP : Hid (∀ W, Pm W g (Pu.fill s1) (emptied kv1) gv1 lv1 → Bx g w1 W (pCells (Pu.fill s1) (emptied kv1) gv1 lv1) → Out w W g kv gv lv (Pu.fill s1) (.slice none 0 0) []) := fun W a b => Out.after m1 u1 (nx_expect p1 a b).out
    clear q p1 m1 u1
    go_wp2_with (go_at_call 41; refine q2.mono ?_; rintro e w2 ⟨rfl, a2, b2⟩)
    go_ret
    exact ⟨_, [], rfl, HP.out _ a2 b2, rfl⟩
  · rw [if_neg c]
    have c3 : (e1 == 0) = false := by simpa using c
    go_enter Tryz.func40, Tryz.ntmps40
    go_upto_region 2 with (go_at_call 62; refine q.mono ?_; rintro e w1 ⟨rfl, kv1, gv1, lv1, p1, m1, u1⟩)
    have q2 := fail_w p1 e1 c3
    have HP : Hid (∀ W v L, Out w1 W g kv1 gv1 lv1 (stopS s1 (some (e1, s1.bg))) v L → Out w W g kv gv lv (stopS s1 (some (e1, s1.bg))) v L) := fun W v L a => Out.after m1 u1 a
    clear q p1 m1 u1
    go_wp2_with (go_at_call 57; refine q2.mono ?_; rintro e w2 ⟨v2, rfl, o2⟩)
    go_ret
    refine ⟨v2, [(.bad e1 s1.bg s1.rd, .slice none 0 0)], rfl, ?_, rfl⟩
    have := HP.out _ _ _ o2
    simpa [Pu.fail, Pu.stop, stopS, hF.none] using this
end
end Go.Proofs.YtnmmaedngdibeaaGreatDoor

namespace Go.Proofs.YtnmmaedngdibeaaGreatDoor
open Go.RowKit
set_option linter.unusedVariables false
set_option linter.unusedSimpArgs false

def clsP (a : Int) : Int := if a = 120 then 2 else if a = 103 then 3 else if a = 76 then 4 else if a = 75 then 5 else if E.kd a = 0 then 0 else 1

theorem class_w (a : Int) (w : World) : Calls Tryz.prog 59 #[.int .u8 a] w fun e w' => e = .returned (.int .i64 (clsP a)) ∧ w = w' := by
  have q := E.kind_w a w
  unfold clsP
  by_cases c0 : a = 120
  · subst c0
    clear q
    go_enter Tryz.func59, Tryz.ntmps59
    go_wp2
    go_ret
    exact ⟨rfl, rfl⟩
  by_cases c1 : a = 103
  · subst c1
    clear q
    go_enter Tryz.func59, Tryz.ntmps59
    go_wp2
    go_ret
    exact ⟨rfl, rfl⟩
  by_cases c2 : a = 76
  · subst c2
    clear q
    go_enter Tryz.func59, Tryz.ntmps59
    go_wp2
    go_ret
    exact ⟨rfl, rfl⟩
  by_cases c3 : a = 75
  · subst c3
    clear q
    go_enter Tryz.func59, Tryz.ntmps59
    go_wp2
    go_ret
    exact ⟨rfl, rfl⟩
  simp only [c0, c1, c2, c3, if_false]
  generalize E.kd a = z at *
  by_cases h : z = 0
  · subst h
    go_enter Tryz.func59, Tryz.ntmps59
    go_wp2_with (go_at_call 78; refine q.mono ?_; rintro e w' ⟨rfl, rfl⟩)
    go_ret
    exact ⟨rfl, rfl⟩
  · simp only [h, if_false]
    go_enter Tryz.func59, Tryz.ntmps59
    go_wp2_with (go_at_call 78; refine q.mono ?_; rintro e w' ⟨rfl, rfl⟩)
    go_ret
    exact ⟨rfl, rfl⟩

def keyAt (l : List Rec) (i : Nat) : ByteArray := (l.getD i (⟨#[]⟩, ⟨#[]⟩)).1
def valAt (l : List Rec) (i : Nat) : ByteArray := (l.getD i (⟨#[]⟩, ⟨#[]⟩)).2
/-- what stands ahead, as layer 9 takes it -/
def aOf (gv lv : Value) (gl lo : List Rec) (nm lk : ByteArray) : E.Ah := ⟨gv, lv, keyAt gl, valAt gl, gl.length, keyAt lo, valAt lo, lo.length, nm, lk⟩

theorem recCells_get : ∀ (l : List Rec) (i : Nat), i < l.length → (X.recCells l)[i * 2]? = some (.string (keyAt l i)) ∧ (X.recCells l)[i * 2 + 1]? = some (.string (valAt l i))
  | [], i, h => by simp at h
  | r :: l, 0, h => by simp [X.recCells, keyAt, valAt]
  | r :: l, i + 1, h => by
    have := recCells_get l i (by simpa using h)
    have e : X.recCells (r :: l) = .string r.1 :: .string r.2 :: X.recCells l := by simp [X.recCells]
    rw [e, show (i + 1) * 2 = i * 2 + 1 + 1 by omega]
    simp only [List.getElem?_cons_succ]
    simpa [keyAt, valAt] using this

theorem lst_own {w : World} {v : Value} {l : List Rec} (h : w.ownsRow 0 59 2 v l.length (X.recCells l)) (hl : l.length ≤ 64) : E.Lst w v (keyAt l) (valAt l) l.length := by
  obtain ⟨a, c, rfl, _⟩ := own_sl h
  refine ⟨a, c, rfl, by omega, ?_⟩
  rcases Nat.eq_zero_or_pos l.length with h0 | h0
  · exact .inl h0
  · right
    rcases h.2 with ⟨e1, e2⟩ | ⟨g, cap, cur, e1, e2, e3, e4⟩
    · omega
    · simp at e1
      obtain ⟨rfl, rfl⟩ := e1
      have hc := h.cells (g := g) rfl
      have e9 : ∀ j, (⟨g, 0, none⟩ : Addr).add j = ⟨g, j, none⟩ := fun j => by unfold Addr.add; split <;> simp_all
      refine ⟨g, 0, rfl, fun i hi => ?_⟩
      obtain ⟨g1, g2⟩ := recCells_get l i hi
      have a1 := hc _ _ g1
      have a2 := hc _ _ g2
      rw [e9] at a1 a2
      rw [Nat.zero_add]
      exact ⟨a1, a2⟩

theorem ahead_in {w : World} {g : Nat} {s : PsR} {kv gv lv : Value} (h : Pm w g s kv gv lv) (hS : Small s) : (aOf gv lv s.gl s.lo s.nm s.lk).In w := ⟨lst_own h.glob hS.gl, lst_own h.loc hS.lo⟩

/-- a number can't be read -/
def badB (h : E.Hd) (a : E.Ah) : Bool := (E.numV h a 0).isNone || (E.numV h a 1).isNone || (E.numV h a 2).isNone || (E.numV h a 3).isNone
theorem badB_iff (h : E.Hd) (a : E.Ah) : badB h a = true ↔ E.badN h a := by
  unfold badB E.badN
  simp only [Bool.or_eq_true, Option.isNone_iff_eq_none]
  constructor
  · rintro (((h1 | h1) | h1) | h1)
    · exact ⟨0, by omega, h1⟩
    · exact ⟨1, by omega, h1⟩
    · exact ⟨2, by omega, h1⟩
    · exact ⟨3, by omega, h1⟩
  · rintro ⟨k, hk, h1⟩
    match k, hk, h1 with
    | 0, _, h1 => exact .inl (.inl (.inl h1))
    | 1, _, h1 => exact .inl (.inl (.inr h1))
    | 2, _, h1 => exact .inl (.inr h1)
    | 3, _, h1 => exact .inr h1
    | k + 4, hk, _ => omega

/-- layer 9's Make -/
def makeP (h : E.Hd) (gl lo : List Rec) (nm lk : ByteArray) : Sum Int E.En :=
  let a := aOf (.slice none 0 0) (.slice none 0 0) gl lo nm lk
  if E.kd h.typ = 0 then .inl 80 else if badB h a = true then .inl 70 else if (E.fullE h a).size < 0 ∨ (E.fullE h a).uid < 0 ∨ (E.fullE h a).gid < 0 then .inl 90 else .inr (E.fullE h a)

theorem full_same (gv lv : Value) (h : E.Hd) (gl lo : List Rec) (nm lk : ByteArray) : E.fullE h (aOf gv lv gl lo nm lk) = E.fullE h (aOf (.slice none 0 0) (.slice none 0 0) gl lo nm lk) := rfl
theorem bad_same (gv lv : Value) (h : E.Hd) (gl lo : List Rec) (nm lk : ByteArray) : E.badN h (aOf gv lv gl lo nm lk) = E.badN h (aOf (.slice none 0 0) (.slice none 0 0) gl lo nm lk) := rfl

/-- Make at a parser's state -/
theorem make_any {w : World} {h : E.Hd} {gv lv : Value} {gl lo : List Rec} {nm lk : ByteArray} (hI : (aOf gv lv gl lo nm lk).In w) (hV : E.Vs w) (h1 : h.prefx.size ≤ 140737488355328) (h2 : h.name.size ≤ 140737488355328) (h3 : nm.size ≤ 140737488355328) (hsz : ∀ k, ((aOf gv lv gl lo nm lk).val k).size ≤ 281474976710656) :
    Calls Tryz.prog 79 #[.agg h.cells, .agg #[gv, lv, .string nm, .string lk]] w fun ev w' => ∃ (en : E.En) (e : Int), ev = .returned (.tuple #[.agg en.cells, .int .i64 e]) ∧ (match makeP h gl lo nm lk with | .inl x => e = x ∧ (x == 0) = false | .inr y => e = 0 ∧ en = y ∧ 0 ≤ y.size) ∧ Below w.heap.size w w' := by
  refine (E.make_w h (aOf gv lv gl lo nm lk) w hI hV h1 h2 h3 hsz).mono ?_
  rintro ev w' ⟨hx, hb⟩
  unfold makeP
  rcases hx with ⟨c1, rfl⟩ | ⟨c1, c2, rfl⟩ | ⟨c1, c2, c3, rfl⟩ | ⟨c1, c2, c3, rfl⟩
  · refine ⟨_, _, rfl, ?_, hb⟩
    simp only [c1, if_true]
    exact ⟨by first | rfl | trivial, rfl⟩
  · rw [bad_same, ← badB_iff] at c2
    refine ⟨_, _, rfl, ?_, hb⟩
    simp only [c1, c2, if_true, if_false]
    exact ⟨by first | rfl | trivial, rfl⟩
  · rw [bad_same, ← badB_iff] at c2
    rw [full_same] at c3
    refine ⟨_, _, rfl, ?_, hb⟩
    simp only [c1, c2, c3, if_true, if_false]
    exact ⟨by first | rfl | trivial, rfl⟩
  · rw [bad_same, ← badB_iff] at c2
    rw [full_same] at c3
    refine ⟨_, _, rfl, ?_, hb⟩
    simp only [c1, c2, c3, if_false]
    exact ⟨by first | rfl | trivial, full_same _ _ _ _ _ _ _, by omega⟩

end Go.Proofs.YtnmmaedngdibeaaGreatDoor

namespace Go.Proofs.YtnmmaedngdibeaaGreatDoor
open Go.RowKit
set_option linter.unusedVariables false
set_option linter.unusedSimpArgs false

section
variable {w w1 w2 : World} {g : Nat} {s s2 : PsR} {kv gv lv : Value} {F0 : Pu.Fns E.Hd E.En Rec ByteArray}

/-- a parser whose local records are let go -/
theorem Pm.noLoc (h : Pm w g s kv gv lv) (s2 : PsR) (h1 : s2.kp = s.kp) (h2 : s2.gl = s.gl) (h3 : s2.lo = []) {W : World} (b : Bx g w W (pCells s2 kv gv (.slice none 0 0))) : Pm W g s2 kv gv (.slice none 0 0) :=
  ⟨b.box, by rw [h1]; exact own_moved h.kept fun k hk => b.block k (by intro e; subst e; exact h.keptNe hk), by rw [h2]; exact own_moved h.glob fun k hk => b.block k (by intro e; subst e; exact h.globNe hk), by rw [h3]; exact World.ownsRow_nil _ _ _ _, fun k _ e => by cases e⟩

theorem zeroA (W : World) : (zeroValue 70).run Tryz.prog W = .ok (.agg #[.slice none 0 0, .slice none 0 0, .string ⟨#[]⟩, .string ⟨#[]⟩]) W := by
  have b : (Tryz.prog.info? 70).bind (fun i => i.zero) = some (.agg #[.slice none 0 0, .slice none 0 0, .string ⟨#[]⟩, .string ⟨#[]⟩]) := by kernel_rfl
  cases hq : Tryz.prog.info? 70 with
  | none => rw [hq] at b; simp at b
  | some i => rw [hq] at b; simp at b; simp [zeroValue, typeInfo, hq, b]
theorem zeroEn (W : World) : (zeroValue 33).run Tryz.prog W = .ok (.agg zero10.toArray) W := by
  have b : (Tryz.prog.info? 33).bind (fun i => i.zero) = some (.agg zero10.toArray) := by kernel_rfl
  cases hq : Tryz.prog.info? 33 with
  | none => rw [hq] at b; simp at b
  | some i => rw [hq] at b; simp at b; simp [zeroValue, typeInfo, hq, b]

theorem bel_row {B : Nat} {a W : World} (b : Below B a W) {G : Nat} (hG : B ≤ G) (D : Array Value) : Below B a (W.setRow G D) :=
  ⟨b.os, b.tape, b.output, by rw [setRow_size]; exact b.size, fun k hk => (setRow_other _ _ _ _ (by omega)).trans (b.block k hk)⟩
theorem en_one (en : E.En) : en.cells.all (·.oneCell') = true := by simp [E.En.cells, Value.oneCell']
theorem en_size (en : E.En) : (Tryz.prog.info? 33).map (·.size) = some en.cells.size := by
  have h10 : en.cells.size = 10 := by simp [E.En.cells]
  have h11 : (Tryz.prog.info? 33).map (·.size) = some 10 := by kernel_rfl
  rw [h10, h11]

/-- where beginThing stands behind Make: the header's box, the entry's, the parser as it was -/
structure Bt (w W : World) (g hb eb : Nat) (s : PsR) (kv gv lv : Value) (en : E.En) : Prop where
  pm : Pm W g s kv gv lv
  en : W.heap[eb]? = some (.cells en.cells 33 (0, 0))
  bel : Below w.heap.size w W
  ne : eb ≠ g
  lt : w.heap.size ≤ eb

theorem Nx.one2 {W : World} (h : Nx w W g kv gv lv s) (e : EvE) (v : Value) (C : Array Value) (hC : C.toList = evCells e v) (hd : ∀ b p, e ≠ .dat b p) :
    Out w (W.alloc (.cells C 44)) g kv gv lv s (.slice (some ⟨W.heap.size, 0, none⟩) 1 1) [(e, v)] := by
  obtain ⟨kv', gv', lv', h1, h2, h3⟩ := h
  have b := (Below.refl _ W).alloc (Nat.le_refl _) (.cells C 44)
  refine ⟨kv', gv', lv', h1.grow b, h2.trans (Mv.of_below (O := fun _ => False) b) (fun x hx => hx.elim), h3, one_ev W e v C hC, ?_, ?_⟩
  · intro k hk
    simp [Value.ownBlock] at hk
    subst hk
    exact ⟨h2.size, fun hm => by have := h1.mine hm; omega⟩
  · intro x hx
    simp at hx
    subst hx
    cases e with
    | dat b p => exact absurd rfl (hd b p)
    | _ => trivial

def lessS (s : PsR) : PsR := { s with lo := [], nm := ⟨#[]⟩, lk := ⟨#[]⟩ }
def lessW (wS : World) (g : Nat) (gv : Value) : World := (((wS.setCell ⟨g, 7, none⟩ gv).setCell ⟨g, 8, none⟩ (.slice none 0 0)).setCell ⟨g, 9, none⟩ (.string ⟨#[]⟩)).setCell ⟨g, 10, none⟩ (.string ⟨#[]⟩)

/-- behind Make, where the entry can be -/
theorem thing_tail (h : Pm w g s kv gv lv) {eb n : Nat} {en : E.En} (he : w.heap[eb]? = some (.cells en.cells 33 (0, 0))) (hn : en.size = (n : Int)) :
    (∀ i, (lessW w g gv).cell? ⟨eb, i, none⟩ = en.cells[i]?) ∧
    Calls Tryz.prog 42 #[.pointer (some ⟨g, 0, none⟩), .int .i64 2, .int .i64 en.size] (lessW w g gv) fun e w' => e = .returned (.tuple #[]) ∧ (∀ i, w'.cell? ⟨eb, i, none⟩ = en.cells[i]?) ∧ (∀ i, w'.cell? ⟨g, i, none⟩ = (pCells (Pu.expect (lessS s) 2 n) (emptied kv) gv (.slice none 0 0))[i]?) ∧
      ∀ C : Array Value, C.toList = evCells (.bgn en s.rd) (.slice none 0 0) → Out w (w'.drew.alloc (.cells C 44)) g kv gv lv (Pu.expect (lessS s) 2 n) (.slice (some ⟨w'.heap.size, 0, none⟩) 1 1) [(.bgn en s.rd, .slice none 0 0)] := by
  have hne : eb ≠ g := by
    rintro rfl
    rw [h.box] at he
    injection he with he
    injection he with _ he
    cases he
  have B4 : Bx g w (lessW w g gv) (pCells (lessS s) kv gv (.slice none 0 0)) := ((((Bx.mk0 h.box).set 7 gv).set 8 (.slice none 0 0)).set 9 (.string ⟨#[]⟩)).set 10 (.string ⟨#[]⟩)
  have h4 : Pm (lessW w g gv) g (lessS s) kv gv (.slice none 0 0) := h.noLoc (lessS s) rfl rfl rfl B4
  have q := expect_w h4 2 n
  rw [← hn] at q
  refine ⟨fun i => by simp [World.cell?, (B4.block eb hne).trans he], q.mono ?_⟩
  rintro e w' ⟨rfl, p5, B5⟩
  refine ⟨rfl, fun i => by simp [World.cell?, ((B5.block eb hne).trans (B4.block eb hne)).trans he], p5.cell, fun C hC => ?_⟩
  have hnx : Nx w w'.drew g kv gv lv (Pu.expect (lessS s) 2 n) := by
    refine ⟨_, _, _, p5.grow ((Below.refl _ _).drew), (B4.trans B5).drew.mv kv gv lv, fun k hk => ?_⟩
    rcases hk with h1 | h1 | h1 | h1
    · exact .inl (.inl h1)
    · rw [emptied_block] at h1; exact .inl (.inr (.inl h1))
    · exact .inl (.inr (.inr (.inl h1)))
    · cases h1
  exact hnx.one2 _ _ C hC (fun _ _ => by simp)

set_option maxRecDepth 20000 in
set_option maxHeartbeats 4000000 in
theorem beginThing_w (hF : Fok F0) (hM : F0.make = makeP) (hE : F0.esize = fun e => e.size.toNat) (h : Pm w g s kv gv lv) (hS : Small s) (hd : E.Hd) (hV : E.Vs w) (h1 : hd.prefx.size ≤ 140737488355328) (h2 : hd.name.size ≤ 140737488355328) (h3 : s.nm.size ≤ 140737488355328) (hsz : ∀ k, ((aOf gv lv s.gl s.lo s.nm s.lk).val k).size ≤ 281474976710656) :
    Calls Tryz.prog 60 #[.pointer (some ⟨g, 0, none⟩), .agg hd.cells] w fun ev w' => ∃ v L, ev = .returned v ∧ Out w w' g kv gv lv (Pu.beginThing F0 s hd).1 v L ∧ L.map (·.1) = (Pu.beginThing F0 s hd).2 := by
  unfold Pu.beginThing
  rw [hM, hE]
  obtain ⟨ka, kc, hkv, _, _, _⟩ := own_sl h.kept
  obtain ⟨ga, gc, hgv, _, _, _⟩ := own_sl h.glob
  obtain ⟨la, lc, hlv, _, _, _⟩ := own_sl h.loc
  have b0 : Below w.heap.size w (w.alloc (.cells hd.cells 55)) := (Below.refl _ w).alloc (Nat.le_refl _) _
  have hbx : (w.alloc (.cells hd.cells 55)).heap[w.heap.size]? = some (.cells hd.cells 55 (0, 0)) := heap_alloc_new w _
  have KM : Hid (∀ W, Below w.heap.size w W → Calls Tryz.prog 79 #[.agg hd.cells, .agg #[gv, lv, .string s.nm, .string s.lk]] W fun ev w' => ∃ (en : E.En) (e : Int), ev = .returned (.tuple #[.agg en.cells, .int .i64 e]) ∧ (match makeP hd s.gl s.lo s.nm s.lk with | .inl x => e = x ∧ (x == 0) = false | .inr y => e = 0 ∧ en = y ∧ 0 ≤ y.size) ∧ Below W.heap.size W w') := fun W b => make_any ((ahead_in h hS).below b) (hV.below b) h1 h2 h3 hsz
  have Hh : Hid (Pm w g s kv gv lv) := h
  have bd0 : Below w.heap.size w (w.alloc (.cells hd.cells 55)).drew := b0.drew
  have HS : Hid (∀ W, Below (w.alloc (.cells hd.cells 55)).heap.size (w.alloc (.cells hd.cells 55)) W → (∀ i, W.cell? ⟨w.heap.size, i, none⟩ = hd.cells[i]?) ∧ (∀ i, W.cell? ⟨g, i, none⟩ = (pCells s kv gv lv)[i]?)) := fun W b => by
    have hp := (h.grow b0).grow b
    refine ⟨fun i => ?_, hp.cell⟩
    have := (b.block _ (lt_of_heap hbx)).trans hbx
    simp [World.cell?, this]
  have hzE := zeroEn
  have hzA := zeroA
  have hgl := h.lt
  clear h hS hV h1 h2 h3 hsz
  cases hx : makeP hd s.gl s.lo s.nm s.lk with
  | inl x =>
    rw [hx] at KM
    simp only at KM
    have HX : Hid (∀ W W' v L, Below w.heap.size w W → Out W W' g kv gv lv (stopS s (some (x, s.bg))) v L → Out w W' g kv gv lv (stopS s (some (x, s.bg))) v L) := fun W W' v L b o => Out.after (Mv.of_below b) (fun k hk => .inl hk) o
    have KF : Hid (∀ W, Below w.heap.size w W → (x == 0) = false → Calls Tryz.prog 57 #[.pointer (some ⟨g, 0, none⟩), .int .i64 x] W fun ev w' => ∃ v, ev = .returned v ∧ Out W w' g kv gv lv (stopS s (some (x, s.bg))) v [(.bad x s.bg s.rd, .slice none 0 0)]) := fun W b hx0 => fail_w (Hh.out.grow b) x hx0
    obtain ⟨form, name, link, prefx, user, group, typ, mode, uid, gid, size, mtime⟩ := hd
    simp only [E.Hd.cells, pCells, zero10] at *
    subst hkv hgv hlv
    clear Hh
    go_enter Tryz.func60, Tryz.ntmps60
    go_upto_region 1 with fail
    have h0 := HS.out _ ((Below.refl _ _).drew)
    generalize hw0 : w.alloc _ = w0 at *
    refine wp_region_held_drew (S := (fun W : World => (∀ i, W.cell? ⟨w.heap.size, i, none⟩ = (#[.int .i64 form, .string name, .string link, .string prefx, .string user, .string group, .int .u8 typ, .int .i64 mode, .int .i64 uid, .int .i64 gid, .int .i64 size, .int .i64 mtime] : Array Value)[i]?) ∧ (∀ i, W.cell? ⟨g, i, none⟩ = (#[.int .i64 (s.rd : Int), .int .i64 (s.pt : Int), .int .i64 (s.lf : Int), .slice ka s.kp.length kc, .int .i64 s.bg, .int .i64 s.cl, .bool s.bl, .slice ga s.gl.length gc, .slice la s.lo.length lc, .string s.nm, .string s.lk, errV s.er] : Array Value)[i]?))) (by kernel_rfl) h0 (fun hHeld => ?_)
    refine wpAnyH_take (i := 0) (oi := { dst := some 8, op := Op.load 55 (Operand.tmp 3), type := 55, pos := "push.go:158", after := #[], guard := none }) (v := ?_) rfl (by kernel_rfl) (by kernel_rfl) (by kernel_rfl) (fun _ _ _ h => h) (Or.inl ⟨by rfl, ?_⟩) (by assumption) ?_
    rotate_left 1
    · (intro W hSw; obtain ⟨hSw0, hSw1⟩ := hSw; go_simp; try with_reducible rfl)
    (try simp only [Act.put, List.setIfInBounds_toArray, List.set_cons_zero, List.set_cons_succ])
    refine wpAnyH_take (i := 1) (oi := { dst := some 9, op := Op.move (Operand.tmp 0), type := 37, pos := "push.go:158", after := #[], guard := none }) (v := ?_) rfl (by kernel_rfl) (by kernel_rfl) (by kernel_rfl) (fun _ _ _ h => h) (Or.inl ⟨by rfl, ?_⟩) (by assumption) ?_
    rotate_left 1
    · (intro W hSw; obtain ⟨hSw0, hSw1⟩ := hSw; go_simp; try with_reducible rfl)
    (try simp only [Act.put, List.setIfInBounds_toArray, List.set_cons_zero, List.set_cons_succ])
    refine wpAnyH_take (i := 2) (oi := { dst := some 10, op := Op.nilCheck (Operand.tmp 9), type := 0, pos := "push.go:158", after := #[{ on := 1, ground := Ground.data }], guard := none }) (v := ?_) rfl (by kernel_rfl) (by kernel_rfl) (by kernel_rfl) (fun _ _ _ h => h) (Or.inl ⟨by rfl, ?_⟩) (by assumption) ?_
    rotate_left 1
    · (intro W hSw; obtain ⟨hSw0, hSw1⟩ := hSw; go_simp; try with_reducible rfl)
    (try simp only [Act.put, List.setIfInBounds_toArray, List.set_cons_zero, List.set_cons_succ])
    refine wpAnyH_take (i := 3) (oi := { dst := some 11, op := Op.fieldAddr 72 (Operand.tmp 10) 7, type := 0, pos := "push.go:158", after := #[{ on := 2, ground := Ground.data }], guard := none }) (v := ?_) rfl (by kernel_rfl) (by kernel_rfl) (by kernel_rfl) (fun _ _ _ h => h) (Or.inl ⟨by rfl, ?_⟩) (by assumption) ?_
    rotate_left 1
    · (intro W hSw; obtain ⟨hSw0, hSw1⟩ := hSw; go_simp; try with_reducible rfl)
    (try simp only [Act.put, List.setIfInBounds_toArray, List.set_cons_zero, List.set_cons_succ])
    refine wpAnyH_take (i := 4) (oi := { dst := some 12, op := Op.load 70 (Operand.tmp 11), type := 70, pos := "push.go:158", after := #[{ on := 3, ground := Ground.data }], guard := none }) (v := ?_) rfl (by kernel_rfl) (by kernel_rfl) (by kernel_rfl) (fun _ _ _ h => h) (Or.inl ⟨by rfl, ?_⟩) (by assumption) ?_
    rotate_left 1
    · (intro W hSw; obtain ⟨hSw0, hSw1⟩ := hSw; go_simp; try with_reducible rfl)
    (try simp only [Act.put, List.setIfInBounds_toArray, List.set_cons_zero, List.set_cons_succ])
    refine wpAnyH_ready (rs := [5, 9]) (by kernel_rfl) (by simp) ?_
    refine AllReadyH.cons (o := { dst := some 13, op := Op.call { callee := Callee.value (Operand.func 79), args := #[Operand.tmp 8, Operand.tmp 12], argTypes := #[55, 70] }, type := 143, pos := "push.go:158", after := #[{ on := 0, ground := Ground.data }, { on := 4, ground := Ground.data }], guard := none }) rfl (fun K hK => ?_) (AllReadyH.cons (o := { dst := some 5, op := Op.alloc 33, type := 0, pos := "push.go:158", after := #[], guard := none }) rfl (fun K hK => ?_) AllReadyH.nil)
    · go_simp
      refine (KM.out _ bd0).mono ?_
      rintro ev w1 ⟨en, e9, rfl, ⟨rfl, hx0⟩, b1⟩
      have b01 : Below w0.heap.size w0 w1 := ((Below.refl _ w0).drew).trans b1
      refine hK.out _ _ (HS.out _ b01) (fun hHeld => ?_)
      clear hK K
      (try simp only [Act.put, List.setIfInBounds_toArray, List.set_cons_zero, List.set_cons_succ])
      refine wpAnyH_take (i := 6) (oi := { dst := some 7, op := Op.move (Operand.tmp 13), type := 143, pos := "push.go:158", after := #[{ on := 5, ground := Ground.data }], guard := none }) (v := ?_) rfl (by kernel_rfl) (by kernel_rfl) (by kernel_rfl) (fun _ _ _ h => h) (Or.inl ⟨by rfl, ?_⟩) (by assumption) ?_
      rotate_left 1
      · (intro W hSw; obtain ⟨hSw0, hSw1⟩ := hSw; go_simp; try with_reducible rfl)
      (try simp only [Act.put, List.setIfInBounds_toArray, List.set_cons_zero, List.set_cons_succ])
      refine wpAnyH_take (i := 7) (oi := { dst := some 14, op := Op.extract (Operand.tmp 7) 0, type := 33, pos := "push.go:158", after := #[{ on := 6, ground := Ground.data }], guard := none }) (v := ?_) rfl (by kernel_rfl) (by kernel_rfl) (by kernel_rfl) (fun _ _ _ h => h) (Or.inl ⟨by rfl, ?_⟩) (by assumption) ?_
      rotate_left 1
      · (intro W hSw; obtain ⟨hSw0, hSw1⟩ := hSw; go_simp; try with_reducible rfl)
      (try simp only [Act.put, List.setIfInBounds_toArray, List.set_cons_zero, List.set_cons_succ])
      refine wpAnyH_take (i := 8) (oi := { dst := some 15, op := Op.extract (Operand.tmp 7) 1, type := 48, pos := "push.go:158", after := #[{ on := 6, ground := Ground.data }, { on := 10, ground := Ground.gcOnly Departure.lateStores }], guard := none }) (v := ?_) rfl (by kernel_rfl) (by kernel_rfl) (by kernel_rfl) (fun _ _ _ h => h) (Or.inl ⟨by rfl, ?_⟩) (by assumption) ?_
      rotate_left 1
      · (intro W hSw; obtain ⟨hSw0, hSw1⟩ := hSw; go_simp; try with_reducible rfl)
      (try simp only [Act.put, List.setIfInBounds_toArray, List.set_cons_zero, List.set_cons_succ])
      refine wpAnyH_ready (rs := [9]) (by kernel_rfl) (by simp) ?_
      refine AllReadyH.cons (o := { dst := some 5, op := Op.alloc 33, type := 0, pos := "push.go:158", after := #[], guard := none }) rfl (fun K hK => ?_) AllReadyH.nil
      · go_simp
        have hgz : (w1.alloc (.cells #[.string ⟨#[]⟩, .string ⟨#[]⟩, .int .i64 0, .int .i64 0, .int .i64 0, .int .i64 0, .int .i64 0, .int .i64 0, .string ⟨#[]⟩, .string ⟨#[]⟩] 33)).heap[w1.heap.size]? = some (.cells #[.string ⟨#[]⟩, .string ⟨#[]⟩, .int .i64 0, .int .i64 0, .int .i64 0, .int .i64 0, .int .i64 0, .int .i64 0, .string ⟨#[]⟩, .string ⟨#[]⟩] 33 (0, 0)) := heap_alloc_new w1 _
        have ba : Below w0.heap.size w0 (w1.alloc (.cells #[.string ⟨#[]⟩, .string ⟨#[]⟩, .int .i64 0, .int .i64 0, .int .i64 0, .int .i64 0, .int .i64 0, .int .i64 0, .string ⟨#[]⟩, .string ⟨#[]⟩] 33)) := b01.alloc b01.size _
        have ba2 : Below w.heap.size w (w1.alloc (.cells #[.string ⟨#[]⟩, .string ⟨#[]⟩, .int .i64 0, .int .i64 0, .int .i64 0, .int .i64 0, .int .i64 0, .int .i64 0, .string ⟨#[]⟩, .string ⟨#[]⟩] 33)) := b0.trans (ba.mono b0.size)
        have hgE := hgz
        refine hK.out _ _ (HS.out _ ba) (fun hHeld => ?_)
        clear hK K
        (try simp only [Act.put, List.setIfInBounds_toArray, List.set_cons_zero, List.set_cons_succ])
        refine wpAnyH_ready (rs := [10]) (by kernel_rfl) (by simp) ?_
        refine AllReadyH.cons (o := { dst := none, op := Op.store 33 (Operand.tmp 5) (Operand.tmp 14), type := 0, pos := "push.go:158", after := #[{ on := 9, ground := Ground.data }, { on := 7, ground := Ground.data }, { on := 5, ground := Ground.chain }, { on := 0, ground := Ground.phase }, { on := 1, ground := Ground.phase }, { on := 2, ground := Ground.phase }, { on := 3, ground := Ground.phase }, { on := 4, ground := Ground.phase }, { on := 5, ground := Ground.phase }, { on := 6, ground := Ground.phase }, { on := 7, ground := Ground.phase }, { on := 8, ground := Ground.textOnly Departure.lateStores }, { on := 9, ground := Ground.phase }], guard := none }) rfl (fun K hK => ?_) AllReadyH.nil
        · rw [if_pos (by rfl)]
          refine wp_store_row 33 _ _ rfl _ _ rfl rfl 33 _ hgE (en_size _) (by simp [E.En.cells]) (en_one _) ?_
          have bs : Below w0.heap.size w0 ((w1.alloc (.cells #[.string ⟨#[]⟩, .string ⟨#[]⟩, .int .i64 0, .int .i64 0, .int .i64 0, .int .i64 0, .int .i64 0, .int .i64 0, .string ⟨#[]⟩, .string ⟨#[]⟩] 33)).setRow w1.heap.size en.cells) := bel_row ba b01.size _
          have bs2 := b0.trans (bs.mono b0.size)
          have hen := setRow_heap _ _ _ en.cells _ _ hgE
          refine hK.out _ _ (HS.out _ bs) (fun hHeld => ?_)
          clear hK K
          (try simp only [Act.put, List.setIfInBounds_toArray, List.set_cons_zero, List.set_cons_succ])
          refine wpAnyH_take (i := 11) (oi := { dst := some 6, op := Op.assign (Operand.tmp 15), type := 48, pos := "push.go:158", after := #[{ on := 8, ground := Ground.data }, { on := 10, ground := Ground.chain }, { on := 0, ground := Ground.phase }, { on := 1, ground := Ground.phase }, { on := 2, ground := Ground.phase }, { on := 3, ground := Ground.phase }, { on := 4, ground := Ground.phase }, { on := 5, ground := Ground.phase }, { on := 6, ground := Ground.phase }, { on := 7, ground := Ground.phase }, { on := 8, ground := Ground.phase }, { on := 9, ground := Ground.phase }, { on := 10, ground := Ground.phase }], guard := none }) (v := ?_) rfl (by kernel_rfl) (by kernel_rfl) (by kernel_rfl) (fun _ _ _ h => h) (Or.inl ⟨by rfl, ?_⟩) (by assumption) ?_
          rotate_left 1
          · (intro W hSw; obtain ⟨hSw0, hSw1⟩ := hSw; go_simp; try with_reducible rfl)
          (try simp only [Act.put, List.setIfInBounds_toArray, List.set_cons_zero, List.set_cons_succ])
          refine wpAnyH_done (by kernel_rfl) ?_ _
          have HB : Hid _ := bs2
          have q9 := KF.out _ bs2 hx0
          clear KM HS hHeld hen hgE bs bs2 h0
          go_wp2_with (go_at_call 57; refine q9.mono ?_; rintro ev w9 ⟨v9, rfl, o9⟩)
          go_ret
          refine ⟨v9, [(.bad e9 s.bg s.rd, .slice none 0 0)], rfl, ?_, rfl⟩
          have h9 := HX.out _ _ _ _ HB.out o9
          simpa [Pu.fail, Pu.stop, stopS, hF.none] using h9
    · go_simp
      have hgz : (w0.drew.alloc (.cells #[.string ⟨#[]⟩, .string ⟨#[]⟩, .int .i64 0, .int .i64 0, .int .i64 0, .int .i64 0, .int .i64 0, .int .i64 0, .string ⟨#[]⟩, .string ⟨#[]⟩] 33)).heap[w0.drew.heap.size]? = some (.cells #[.string ⟨#[]⟩, .string ⟨#[]⟩, .int .i64 0, .int .i64 0, .int .i64 0, .int .i64 0, .int .i64 0, .int .i64 0, .string ⟨#[]⟩, .string ⟨#[]⟩] 33 (0, 0)) := heap_alloc_new w0.drew _
      have ba : Below w0.heap.size w0 (w0.drew.alloc (.cells #[.string ⟨#[]⟩, .string ⟨#[]⟩, .int .i64 0, .int .i64 0, .int .i64 0, .int .i64 0, .int .i64 0, .int .i64 0, .string ⟨#[]⟩, .string ⟨#[]⟩] 33)) := ((Below.refl _ w0).drew).alloc (Nat.le_refl _) _
      have ba2 : Below w.heap.size w (w0.drew.alloc (.cells #[.string ⟨#[]⟩, .string ⟨#[]⟩, .int .i64 0, .int .i64 0, .int .i64 0, .int .i64 0, .int .i64 0, .int .i64 0, .string ⟨#[]⟩, .string ⟨#[]⟩] 33)) := b0.trans (ba.mono b0.size)
      refine hK.out _ _ (HS.out _ ba) (fun hHeld => ?_)
      clear hK K
      (try simp only [Act.put, List.setIfInBounds_toArray, List.set_cons_zero, List.set_cons_succ])
      refine wpAnyH_ready (rs := [5]) (by kernel_rfl) (by simp) ?_
      refine AllReadyH.cons (o := { dst := some 13, op := Op.call { callee := Callee.value (Operand.func 79), args := #[Operand.tmp 8, Operand.tmp 12], argTypes := #[55, 70] }, type := 143, pos := "push.go:158", after := #[{ on := 0, ground := Ground.data }, { on := 4, ground := Ground.data }], guard := none }) rfl (fun K hK => ?_) AllReadyH.nil
      · go_simp
        refine (KM.out _ ba2).mono ?_
        rintro ev w1 ⟨en, e9, rfl, ⟨rfl, hx0⟩, b1⟩
        have b01 : Below w0.heap.size w0 w1 := ba.trans (b1.mono ba.size)
        have hgE := (b1.block _ (lt_of_heap hgz)).trans hgz
        refine hK.out _ _ (HS.out _ b01) (fun hHeld => ?_)
        clear hK K
        (try simp only [Act.put, List.setIfInBounds_toArray, List.set_cons_zero, List.set_cons_succ])
        refine wpAnyH_take (i := 6) (oi := { dst := some 7, op := Op.move (Operand.tmp 13), type := 143, pos := "push.go:158", after := #[{ on := 5, ground := Ground.data }], guard := none }) (v := ?_) rfl (by kernel_rfl) (by kernel_rfl) (by kernel_rfl) (fun _ _ _ h => h) (Or.inl ⟨by rfl, ?_⟩) (by assumption) ?_
        rotate_left 1
        · (intro W hSw; obtain ⟨hSw0, hSw1⟩ := hSw; go_simp; try with_reducible rfl)
        (try simp only [Act.put, List.setIfInBounds_toArray, List.set_cons_zero, List.set_cons_succ])
        refine wpAnyH_take (i := 7) (oi := { dst := some 14, op := Op.extract (Operand.tmp 7) 0, type := 33, pos := "push.go:158", after := #[{ on := 6, ground := Ground.data }], guard := none }) (v := ?_) rfl (by kernel_rfl) (by kernel_rfl) (by kernel_rfl) (fun _ _ _ h => h) (Or.inl ⟨by rfl, ?_⟩) (by assumption) ?_
        rotate_left 1
        · (intro W hSw; obtain ⟨hSw0, hSw1⟩ := hSw; go_simp; try with_reducible rfl)
        (try simp only [Act.put, List.setIfInBounds_toArray, List.set_cons_zero, List.set_cons_succ])
        refine wpAnyH_take (i := 8) (oi := { dst := some 15, op := Op.extract (Operand.tmp 7) 1, type := 48, pos := "push.go:158", after := #[{ on := 6, ground := Ground.data }, { on := 10, ground := Ground.gcOnly Departure.lateStores }], guard := none }) (v := ?_) rfl (by kernel_rfl) (by kernel_rfl) (by kernel_rfl) (fun _ _ _ h => h) (Or.inl ⟨by rfl, ?_⟩) (by assumption) ?_
        rotate_left 1
        · (intro W hSw; obtain ⟨hSw0, hSw1⟩ := hSw; go_simp; try with_reducible rfl)
        (try simp only [Act.put, List.setIfInBounds_toArray, List.set_cons_zero, List.set_cons_succ])
        refine wpAnyH_ready (rs := [10]) (by kernel_rfl) (by simp) ?_
        refine AllReadyH.cons (o := { dst := none, op := Op.store 33 (Operand.tmp 5) (Operand.tmp 14), type := 0, pos := "push.go:158", after := #[{ on := 9, ground := Ground.data }, { on := 7, ground := Ground.data }, { on := 5, ground := Ground.chain }, { on := 0, ground := Ground.phase }, { on := 1, ground := Ground.phase }, { on := 2, ground := Ground.phase }, { on := 3, ground := Ground.phase }, { on := 4, ground := Ground.phase }, { on := 5, ground := Ground.phase }, { on := 6, ground := Ground.phase }, { on := 7, ground := Ground.phase }, { on := 8, ground := Ground.textOnly Departure.lateStores }, { on := 9, ground := Ground.phase }], guard := none }) rfl (fun K hK => ?_) AllReadyH.nil
        · rw [if_pos (by rfl)]
          refine wp_store_row 33 _ _ rfl _ _ rfl rfl 33 _ hgE (en_size _) (by simp [E.En.cells]) (en_one _) ?_
          have bs : Below w0.heap.size w0 (w1.setRow w0.heap.size en.cells) := bel_row b01 (Nat.le_refl _) _
          have bs2 := b0.trans (bs.mono b0.size)
          have hen := setRow_heap _ _ _ en.cells _ _ hgE
          refine hK.out _ _ (HS.out _ bs) (fun hHeld => ?_)
          clear hK K
          (try simp only [Act.put, List.setIfInBounds_toArray, List.set_cons_zero, List.set_cons_succ])
          refine wpAnyH_take (i := 11) (oi := { dst := some 6, op := Op.assign (Operand.tmp 15), type := 48, pos := "push.go:158", after := #[{ on := 8, ground := Ground.data }, { on := 10, ground := Ground.chain }, { on := 0, ground := Ground.phase }, { on := 1, ground := Ground.phase }, { on := 2, ground := Ground.phase }, { on := 3, ground := Ground.phase }, { on := 4, ground := Ground.phase }, { on := 5, ground := Ground.phase }, { on := 6, ground := Ground.phase }, { on := 7, ground := Ground.phase }, { on := 8, ground := Ground.phase }, { on := 9, ground := Ground.phase }, { on := 10, ground := Ground.phase }], guard := none }) (v := ?_) rfl (by kernel_rfl) (by kernel_rfl) (by kernel_rfl) (fun _ _ _ h => h) (Or.inl ⟨by rfl, ?_⟩) (by assumption) ?_
          rotate_left 1
          · (intro W hSw; obtain ⟨hSw0, hSw1⟩ := hSw; go_simp; try with_reducible rfl)
          (try simp only [Act.put, List.setIfInBounds_toArray, List.set_cons_zero, List.set_cons_succ])
          refine wpAnyH_done (by kernel_rfl) ?_ _
          have HB : Hid _ := bs2
          have q9 := KF.out _ bs2 hx0
          clear KM HS hHeld hen hgE bs bs2 h0
          go_wp2_with (go_at_call 57; refine q9.mono ?_; rintro ev w9 ⟨v9, rfl, o9⟩)
          go_ret
          refine ⟨v9, [(.bad e9 s.bg s.rd, .slice none 0 0)], rfl, ?_, rfl⟩
          have h9 := HX.out _ _ _ _ HB.out o9
          simpa [Pu.fail, Pu.stop, stopS, hF.none] using h9

  | inr y =>
    rw [hx] at KM
    simp only at KM
    have HT : Hid (∀ W eb, Below w.heap.size w W → W.heap[eb]? = some (.cells y.cells 33 (0, 0)) → 0 ≤ y.size → (∀ i, W.cell? ⟨g, i, none⟩ = (pCells s kv gv lv)[i]?) ∧ (∀ i, W.frozen? ⟨g, i, none⟩ = false) ∧ (∀ i, (lessW W g gv).cell? ⟨eb, i, none⟩ = y.cells[i]?) ∧
        Calls Tryz.prog 42 #[.pointer (some ⟨g, 0, none⟩), .int .i64 2, .int .i64 y.size] (lessW W g gv) fun e w' => e = .returned (.tuple #[]) ∧ (∀ i, w'.cell? ⟨eb, i, none⟩ = y.cells[i]?) ∧ (∀ i, w'.cell? ⟨g, i, none⟩ = (pCells (Pu.expect (lessS s) 2 y.size.toNat) (emptied kv) gv (.slice none 0 0))[i]?) ∧
          ∀ C : Array Value, C.toList = evCells (.bgn y s.rd) (.slice none 0 0) → Out w (w'.drew.alloc (.cells C 44)) g kv gv lv (Pu.expect (lessS s) 2 y.size.toNat) (.slice (some ⟨w'.heap.size, 0, none⟩) 1 1) [(.bgn y s.rd, .slice none 0 0)]) := fun W eb b he hy => by
      have hp := Hh.out.grow b
      obtain ⟨a1, a2⟩ := thing_tail hp he (n := y.size.toNat) (by omega)
      refine ⟨hp.cell, hp.froz, a1, a2.mono ?_⟩
      rintro e w' ⟨rfl, c1, c2, c3⟩
      exact ⟨rfl, c1, c2, fun C hC => Out.after (Mv.of_below b) (fun k hk => .inl hk) (c3 C hC)⟩
    have hno : F0.none = ⟨#[]⟩ := hF.none
    rw [hno]
    obtain ⟨form, name, link, prefx, user, group, typ, mode, uid, gid, size, mtime⟩ := hd
    simp only [E.Hd.cells, pCells, zero10] at *
    subst hkv hgv hlv
    clear Hh
    go_enter Tryz.func60, Tryz.ntmps60
    go_upto_region 1 with fail
    have h0 := HS.out _ ((Below.refl _ _).drew)
    generalize hw0 : w.alloc _ = w0 at *
    refine wp_region_held_drew (S := (fun W : World => (∀ i, W.cell? ⟨w.heap.size, i, none⟩ = (#[.int .i64 form, .string name, .string link, .string prefx, .string user, .string group, .int .u8 typ, .int .i64 mode, .int .i64 uid, .int .i64 gid, .int .i64 size, .int .i64 mtime] : Array Value)[i]?) ∧ (∀ i, W.cell? ⟨g, i, none⟩ = (#[.int .i64 (s.rd : Int), .int .i64 (s.pt : Int), .int .i64 (s.lf : Int), .slice ka s.kp.length kc, .int .i64 s.bg, .int .i64 s.cl, .bool s.bl, .slice ga s.gl.length gc, .slice la s.lo.length lc, .string s.nm, .string s.lk, errV s.er] : Array Value)[i]?))) (by kernel_rfl) h0 (fun hHeld => ?_)
    refine wpAnyH_take (i := 0) (oi := { dst := some 8, op := Op.load 55 (Operand.tmp 3), type := 55, pos := "push.go:158", after := #[], guard := none }) (v := ?_) rfl (by kernel_rfl) (by kernel_rfl) (by kernel_rfl) (fun _ _ _ h => h) (Or.inl ⟨by rfl, ?_⟩) (by assumption) ?_
    rotate_left 1
    · (intro W hSw; obtain ⟨hSw0, hSw1⟩ := hSw; go_simp; try with_reducible rfl)
    (try simp only [Act.put, List.setIfInBounds_toArray, List.set_cons_zero, List.set_cons_succ])
    refine wpAnyH_take (i := 1) (oi := { dst := some 9, op := Op.move (Operand.tmp 0), type := 37, pos := "push.go:158", after := #[], guard := none }) (v := ?_) rfl (by kernel_rfl) (by kernel_rfl) (by kernel_rfl) (fun _ _ _ h => h) (Or.inl ⟨by rfl, ?_⟩) (by assumption) ?_
    rotate_left 1
    · (intro W hSw; obtain ⟨hSw0, hSw1⟩ := hSw; go_simp; try with_reducible rfl)
    (try simp only [Act.put, List.setIfInBounds_toArray, List.set_cons_zero, List.set_cons_succ])
    refine wpAnyH_take (i := 2) (oi := { dst := some 10, op := Op.nilCheck (Operand.tmp 9), type := 0, pos := "push.go:158", after := #[{ on := 1, ground := Ground.data }], guard := none }) (v := ?_) rfl (by kernel_rfl) (by kernel_rfl) (by kernel_rfl) (fun _ _ _ h => h) (Or.inl ⟨by rfl, ?_⟩) (by assumption) ?_
    rotate_left 1
    · (intro W hSw; obtain ⟨hSw0, hSw1⟩ := hSw; go_simp; try with_reducible rfl)
    (try simp only [Act.put, List.setIfInBounds_toArray, List.set_cons_zero, List.set_cons_succ])
    refine wpAnyH_take (i := 3) (oi := { dst := some 11, op := Op.fieldAddr 72 (Operand.tmp 10) 7, type := 0, pos := "push.go:158", after := #[{ on := 2, ground := Ground.data }], guard := none }) (v := ?_) rfl (by kernel_rfl) (by kernel_rfl) (by kernel_rfl) (fun _ _ _ h => h) (Or.inl ⟨by rfl, ?_⟩) (by assumption) ?_
    rotate_left 1
    · (intro W hSw; obtain ⟨hSw0, hSw1⟩ := hSw; go_simp; try with_reducible rfl)
    (try simp only [Act.put, List.setIfInBounds_toArray, List.set_cons_zero, List.set_cons_succ])
    refine wpAnyH_take (i := 4) (oi := { dst := some 12, op := Op.load 70 (Operand.tmp 11), type := 70, pos := "push.go:158", after := #[{ on := 3, ground := Ground.data }], guard := none }) (v := ?_) rfl (by kernel_rfl) (by kernel_rfl) (by kernel_rfl) (fun _ _ _ h => h) (Or.inl ⟨by rfl, ?_⟩) (by assumption) ?_
    rotate_left 1
    · (intro W hSw; obtain ⟨hSw0, hSw1⟩ := hSw; go_simp; try with_reducible rfl)
    (try simp only [Act.put, List.setIfInBounds_toArray, List.set_cons_zero, List.set_cons_succ])
    refine wpAnyH_ready (rs := [5, 9]) (by kernel_rfl) (by simp) ?_
    refine AllReadyH.cons (o := { dst := some 13, op := Op.call { callee := Callee.value (Operand.func 79), args := #[Operand.tmp 8, Operand.tmp 12], argTypes := #[55, 70] }, type := 143, pos := "push.go:158", after := #[{ on := 0, ground := Ground.data }, { on := 4, ground := Ground.data }], guard := none }) rfl (fun K hK => ?_) (AllReadyH.cons (o := { dst := some 5, op := Op.alloc 33, type := 0, pos := "push.go:158", after := #[], guard := none }) rfl (fun K hK => ?_) AllReadyH.nil)
    · go_simp
      refine (KM.out _ bd0).mono ?_
      rintro ev w1 ⟨en, e9, rfl, ⟨he9, hey, hy0⟩, b1⟩
      subst he9 hey
      have b01 : Below w0.heap.size w0 w1 := ((Below.refl _ w0).drew).trans b1
      refine hK.out _ _ (HS.out _ b01) (fun hHeld => ?_)
      clear hK K
      (try simp only [Act.put, List.setIfInBounds_toArray, List.set_cons_zero, List.set_cons_succ])
      refine wpAnyH_take (i := 6) (oi := { dst := some 7, op := Op.move (Operand.tmp 13), type := 143, pos := "push.go:158", after := #[{ on := 5, ground := Ground.data }], guard := none }) (v := ?_) rfl (by kernel_rfl) (by kernel_rfl) (by kernel_rfl) (fun _ _ _ h => h) (Or.inl ⟨by rfl, ?_⟩) (by assumption) ?_
      rotate_left 1
      · (intro W hSw; obtain ⟨hSw0, hSw1⟩ := hSw; go_simp; try with_reducible rfl)
      (try simp only [Act.put, List.setIfInBounds_toArray, List.set_cons_zero, List.set_cons_succ])
      refine wpAnyH_take (i := 7) (oi := { dst := some 14, op := Op.extract (Operand.tmp 7) 0, type := 33, pos := "push.go:158", after := #[{ on := 6, ground := Ground.data }], guard := none }) (v := ?_) rfl (by kernel_rfl) (by kernel_rfl) (by kernel_rfl) (fun _ _ _ h => h) (Or.inl ⟨by rfl, ?_⟩) (by assumption) ?_
      rotate_left 1
      · (intro W hSw; obtain ⟨hSw0, hSw1⟩ := hSw; go_simp; try with_reducible rfl)
      (try simp only [Act.put, List.setIfInBounds_toArray, List.set_cons_zero, List.set_cons_succ])
      refine wpAnyH_take (i := 8) (oi := { dst := some 15, op := Op.extract (Operand.tmp 7) 1, type := 48, pos := "push.go:158", after := #[{ on := 6, ground := Ground.data }, { on := 10, ground := Ground.gcOnly Departure.lateStores }], guard := none }) (v := ?_) rfl (by kernel_rfl) (by kernel_rfl) (by kernel_rfl) (fun _ _ _ h => h) (Or.inl ⟨by rfl, ?_⟩) (by assumption) ?_
      rotate_left 1
      · (intro W hSw; obtain ⟨hSw0, hSw1⟩ := hSw; go_simp; try with_reducible rfl)
      (try simp only [Act.put, List.setIfInBounds_toArray, List.set_cons_zero, List.set_cons_succ])
      refine wpAnyH_ready (rs := [9]) (by kernel_rfl) (by simp) ?_
      refine AllReadyH.cons (o := { dst := some 5, op := Op.alloc 33, type := 0, pos := "push.go:158", after := #[], guard := none }) rfl (fun K hK => ?_) AllReadyH.nil
      · go_simp
        have hgz : (w1.alloc (.cells #[.string ⟨#[]⟩, .string ⟨#[]⟩, .int .i64 0, .int .i64 0, .int .i64 0, .int .i64 0, .int .i64 0, .int .i64 0, .string ⟨#[]⟩, .string ⟨#[]⟩] 33)).heap[w1.heap.size]? = some (.cells #[.string ⟨#[]⟩, .string ⟨#[]⟩, .int .i64 0, .int .i64 0, .int .i64 0, .int .i64 0, .int .i64 0, .int .i64 0, .string ⟨#[]⟩, .string ⟨#[]⟩] 33 (0, 0)) := heap_alloc_new w1 _
        have ba : Below w0.heap.size w0 (w1.alloc (.cells #[.string ⟨#[]⟩, .string ⟨#[]⟩, .int .i64 0, .int .i64 0, .int .i64 0, .int .i64 0, .int .i64 0, .int .i64 0, .string ⟨#[]⟩, .string ⟨#[]⟩] 33)) := b01.alloc b01.size _
        have ba2 : Below w.heap.size w (w1.alloc (.cells #[.string ⟨#[]⟩, .string ⟨#[]⟩, .int .i64 0, .int .i64 0, .int .i64 0, .int .i64 0, .int .i64 0, .int .i64 0, .string ⟨#[]⟩, .string ⟨#[]⟩] 33)) := b0.trans (ba.mono b0.size)
        have hgE := hgz
        refine hK.out _ _ (HS.out _ ba) (fun hHeld => ?_)
        clear hK K
        (try simp only [Act.put, List.setIfInBounds_toArray, List.set_cons_zero, List.set_cons_succ])
        refine wpAnyH_ready (rs := [10]) (by kernel_rfl) (by simp) ?_
        refine AllReadyH.cons (o := { dst := none, op := Op.store 33 (Operand.tmp 5) (Operand.tmp 14), type := 0, pos := "push.go:158", after := #[{ on := 9, ground := Ground.data }, { on := 7, ground := Ground.data }, { on := 5, ground := Ground.chain }, { on := 0, ground := Ground.phase }, { on := 1, ground := Ground.phase }, { on := 2, ground := Ground.phase }, { on := 3, ground := Ground.phase }, { on := 4, ground := Ground.phase }, { on := 5, ground := Ground.phase }, { on := 6, ground := Ground.phase }, { on := 7, ground := Ground.phase }, { on := 8, ground := Ground.textOnly Departure.lateStores }, { on := 9, ground := Ground.phase }], guard := none }) rfl (fun K hK => ?_) AllReadyH.nil
        · rw [if_pos (by rfl)]
          refine wp_store_row 33 _ _ rfl _ _ rfl rfl 33 _ hgE (en_size _) (by simp [E.En.cells]) (en_one _) ?_
          have bs : Below w0.heap.size w0 ((w1.alloc (.cells #[.string ⟨#[]⟩, .string ⟨#[]⟩, .int .i64 0, .int .i64 0, .int .i64 0, .int .i64 0, .int .i64 0, .int .i64 0, .string ⟨#[]⟩, .string ⟨#[]⟩] 33)).setRow w1.heap.size en.cells) := bel_row ba b01.size _
          have bs2 := b0.trans (bs.mono b0.size)
          have hen := setRow_heap _ _ _ en.cells _ _ hgE
          refine hK.out _ _ (HS.out _ bs) (fun hHeld => ?_)
          clear hK K
          (try simp only [Act.put, List.setIfInBounds_toArray, List.set_cons_zero, List.set_cons_succ])
          refine wpAnyH_take (i := 11) (oi := { dst := some 6, op := Op.assign (Operand.tmp 15), type := 48, pos := "push.go:158", after := #[{ on := 8, ground := Ground.data }, { on := 10, ground := Ground.chain }, { on := 0, ground := Ground.phase }, { on := 1, ground := Ground.phase }, { on := 2, ground := Ground.phase }, { on := 3, ground := Ground.phase }, { on := 4, ground := Ground.phase }, { on := 5, ground := Ground.phase }, { on := 6, ground := Ground.phase }, { on := 7, ground := Ground.phase }, { on := 8, ground := Ground.phase }, { on := 9, ground := Ground.phase }, { on := 10, ground := Ground.phase }], guard := none }) (v := ?_) rfl (by kernel_rfl) (by kernel_rfl) (by kernel_rfl) (fun _ _ _ h => h) (Or.inl ⟨by rfl, ?_⟩) (by assumption) ?_
          rotate_left 1
          · (intro W hSw; obtain ⟨hSw0, hSw1⟩ := hSw; go_simp; try with_reducible rfl)
          (try simp only [Act.put, List.setIfInBounds_toArray, List.set_cons_zero, List.set_cons_succ])
          refine wpAnyH_done (by kernel_rfl) ?_ _
          obtain ⟨c9, f9, c8, q9⟩ := HT.out _ w1.heap.size bs2 hen hy0
          clear KM HS HT hHeld hen hgE bs bs2 h0
          generalize ((w1.alloc (.cells #[.string ⟨#[]⟩, .string ⟨#[]⟩, .int .i64 0, .int .i64 0, .int .i64 0, .int .i64 0, .int .i64 0, .int .i64 0, .string ⟨#[]⟩, .string ⟨#[]⟩] 33)).setRow w1.heap.size en.cells) = wS at *
          generalize w1.heap.size = eb at *
          go_upto_region 5 with fail
          unfold lessW at c8 q9
          generalize World.setCell _ _ _ = W4 at *
          clear c9 f9
          have hz := zeroEv
          obtain ⟨ep, el, ek, em, eu, eg, et, es, er1, er2⟩ := en
          simp only [E.En.cells] at *
          go_upto_region 6 with (go_at_call 42; refine q9.mono ?_; rintro ev w6 ⟨rfl, d1, d2, d3⟩)
          have l1 := World.block_lt_of_cell? _ _ (d1 0)
          have l2 := World.block_lt_of_cell? _ _ (d2 0)
          have h6 : (∀ i, w6.drew.cell? ⟨eb, i, none⟩ = _) ∧ (∀ i, w6.drew.cell? ⟨g, i, none⟩ = _) := ⟨d1, d2⟩
          refine wp_region_held_drew (S := (fun W : World => (∀ i, W.cell? ⟨eb, i, none⟩ = (#[.string ep, .string el, .int .i64 ek, .int .i64 em, .int .i64 eu, .int .i64 eg, .int .i64 et, .int .i64 es, .string er1, .string er2] : Array Value)[i]?) ∧ (∀ i, W.cell? ⟨g, i, none⟩ = (#[.int .i64 (s.rd : Int), .int .i64 2, .int .i64 (es.toNat : Int), emptied (.slice ka s.kp.length kc), .int .i64 s.bg, .int .i64 s.cl, .bool s.bl, .slice ga s.gl.length gc, .slice none 0 0, .string ⟨#[]⟩, .string ⟨#[]⟩, errV s.er] : Array Value)[i]?))) (by kernel_rfl) h6 (fun hHeld => ?_)
          refine wpAnyH_take (i := 0) (oi := { dst := some 34, op := Op.load 33 (Operand.tmp 5), type := 33, pos := "push.go:164", after := #[], guard := none }) (v := ?_) rfl (by kernel_rfl) (by kernel_rfl) (by kernel_rfl) (fun _ _ _ h => h) (Or.inl ⟨by rfl, ?_⟩) (by assumption) ?_
          rotate_left 1
          · (intro W hSw; obtain ⟨hSw0, hSw1⟩ := hSw; go_simp; try with_reducible rfl)
          (try simp only [Act.put, List.setIfInBounds_toArray, List.set_cons_zero, List.set_cons_succ])
          refine wpAnyH_take (i := 1) (oi := { dst := some 35, op := Op.move (Operand.tmp 0), type := 37, pos := "push.go:164", after := #[], guard := none }) (v := ?_) rfl (by kernel_rfl) (by kernel_rfl) (by kernel_rfl) (fun _ _ _ h => h) (Or.inl ⟨by rfl, ?_⟩) (by assumption) ?_
          rotate_left 1
          · (intro W hSw; obtain ⟨hSw0, hSw1⟩ := hSw; go_simp; try with_reducible rfl)
          (try simp only [Act.put, List.setIfInBounds_toArray, List.set_cons_zero, List.set_cons_succ])
          refine wpAnyH_take (i := 2) (oi := { dst := some 36, op := Op.nilCheck (Operand.tmp 35), type := 0, pos := "push.go:164", after := #[{ on := 1, ground := Ground.data }], guard := none }) (v := ?_) rfl (by kernel_rfl) (by kernel_rfl) (by kernel_rfl) (fun _ _ _ h => h) (Or.inl ⟨by rfl, ?_⟩) (by assumption) ?_
          rotate_left 1
          · (intro W hSw; obtain ⟨hSw0, hSw1⟩ := hSw; go_simp; try with_reducible rfl)
          (try simp only [Act.put, List.setIfInBounds_toArray, List.set_cons_zero, List.set_cons_succ])
          refine wpAnyH_take (i := 3) (oi := { dst := some 37, op := Op.fieldAddr 72 (Operand.tmp 36) 0, type := 0, pos := "push.go:164", after := #[{ on := 2, ground := Ground.data }], guard := none }) (v := ?_) rfl (by kernel_rfl) (by kernel_rfl) (by kernel_rfl) (fun _ _ _ h => h) (Or.inl ⟨by rfl, ?_⟩) (by assumption) ?_
          rotate_left 1
          · (intro W hSw; obtain ⟨hSw0, hSw1⟩ := hSw; go_simp; try with_reducible rfl)
          (try simp only [Act.put, List.setIfInBounds_toArray, List.set_cons_zero, List.set_cons_succ])
          refine wpAnyH_take (i := 4) (oi := { dst := some 38, op := Op.load 3 (Operand.tmp 37), type := 3, pos := "push.go:164", after := #[{ on := 3, ground := Ground.data }], guard := none }) (v := ?_) rfl (by kernel_rfl) (by kernel_rfl) (by kernel_rfl) (fun _ _ _ h => h) (Or.inl ⟨by rfl, ?_⟩) (by assumption) ?_
          rotate_left 1
          · (intro W hSw; obtain ⟨hSw0, hSw1⟩ := hSw; go_simp; try with_reducible rfl)
          (try simp only [Act.put, List.setIfInBounds_toArray, List.set_cons_zero, List.set_cons_succ])
          refine wpAnyH_take (i := 5) (oi := { dst := some 39, op := Op.build 44 #[(0, Operand.const (Value.int IntKind.i64 1)), (1, Operand.tmp 34), (4, Operand.tmp 38)], type := 44, pos := "push.go:164", after := #[{ on := 0, ground := Ground.data }, { on := 4, ground := Ground.data }], guard := none }) (v := ?_) rfl (by kernel_rfl) (by kernel_rfl) (by kernel_rfl) (fun _ _ _ h => h) (Or.inl ⟨by rfl, ?_⟩) (by assumption) ?_
          rotate_left 1
          · (intro W hSw; obtain ⟨hSw0, hSw1⟩ := hSw; go_simp; try with_reducible rfl)
          (try simp only [Act.put, List.setIfInBounds_toArray, List.set_cons_zero, List.set_cons_succ])
          refine wpAnyH_ready (rs := [6]) (by kernel_rfl) (by simp) ?_
          refine AllReadyH.cons (o := { dst := some 40, op := Op.buildSlice 39 1 #[(0, Operand.tmp 39)], type := 39, pos := "push.go:164", after := #[{ on := 5, ground := Ground.data }], guard := none }) rfl (fun K hK => ?_) AllReadyH.nil
          · go_simp
            refine hK.out _ _ ⟨fun i => (World.cell?_alloc_lt _ _ ⟨eb, i, none⟩ l1).trans (d1 i), fun i => (World.cell?_alloc_lt _ _ ⟨g, i, none⟩ l2).trans (d2 i)⟩ (fun hHeld => ?_)
            clear hK K
            (try simp only [Act.put, List.setIfInBounds_toArray, List.set_cons_zero, List.set_cons_succ])
            refine wpAnyH_take (i := 7) (oi := { dst := some 4, op := Op.assign (Operand.tmp 40), type := 39, pos := "push.go:164", after := #[{ on := 6, ground := Ground.data }, { on := 0, ground := Ground.phase }, { on := 1, ground := Ground.phase }, { on := 2, ground := Ground.phase }, { on := 3, ground := Ground.phase }, { on := 4, ground := Ground.phase }, { on := 5, ground := Ground.phase }, { on := 6, ground := Ground.phase }], guard := none }) (v := ?_) rfl (by kernel_rfl) (by kernel_rfl) (by kernel_rfl) (fun _ _ _ h => h) (Or.inl ⟨by rfl, ?_⟩) (by assumption) ?_
            rotate_left 1
            · (intro W hSw; obtain ⟨hSw0, hSw1⟩ := hSw; go_simp; try with_reducible rfl)
            (try simp only [Act.put, List.setIfInBounds_toArray, List.set_cons_zero, List.set_cons_succ])
            refine wpAnyH_done (by kernel_rfl) ?_ _
            go_wp2_with fail
            go_ret
            exact ⟨_, rfl, [(.bgn ⟨ep, el, ek, em, eu, eg, et, es, er1, er2⟩ s.rd, .slice none 0 0)], d3 _ rfl, by first | rfl | exact ⟨_, rfl, rfl⟩ | simp⟩
    · go_simp
      have hgz : (w0.drew.alloc (.cells #[.string ⟨#[]⟩, .string ⟨#[]⟩, .int .i64 0, .int .i64 0, .int .i64 0, .int .i64 0, .int .i64 0, .int .i64 0, .string ⟨#[]⟩, .string ⟨#[]⟩] 33)).heap[w0.drew.heap.size]? = some (.cells #[.string ⟨#[]⟩, .string ⟨#[]⟩, .int .i64 0, .int .i64 0, .int .i64 0, .int .i64 0, .int .i64 0, .int .i64 0, .string ⟨#[]⟩, .string ⟨#[]⟩] 33 (0, 0)) := heap_alloc_new w0.drew _
      have ba : Below w0.heap.size w0 (w0.drew.alloc (.cells #[.string ⟨#[]⟩, .string ⟨#[]⟩, .int .i64 0, .int .i64 0, .int .i64 0, .int .i64 0, .int .i64 0, .int .i64 0, .string ⟨#[]⟩, .string ⟨#[]⟩] 33)) := ((Below.refl _ w0).drew).alloc (Nat.le_refl _) _
      have ba2 : Below w.heap.size w (w0.drew.alloc (.cells #[.string ⟨#[]⟩, .string ⟨#[]⟩, .int .i64 0, .int .i64 0, .int .i64 0, .int .i64 0, .int .i64 0, .int .i64 0, .string ⟨#[]⟩, .string ⟨#[]⟩] 33)) := b0.trans (ba.mono b0.size)
      refine hK.out _ _ (HS.out _ ba) (fun hHeld => ?_)
      clear hK K
      (try simp only [Act.put, List.setIfInBounds_toArray, List.set_cons_zero, List.set_cons_succ])
      refine wpAnyH_ready (rs := [5]) (by kernel_rfl) (by simp) ?_
      refine AllReadyH.cons (o := { dst := some 13, op := Op.call { callee := Callee.value (Operand.func 79), args := #[Operand.tmp 8, Operand.tmp 12], argTypes := #[55, 70] }, type := 143, pos := "push.go:158", after := #[{ on := 0, ground := Ground.data }, { on := 4, ground := Ground.data }], guard := none }) rfl (fun K hK => ?_) AllReadyH.nil
      · go_simp
        refine (KM.out _ ba2).mono ?_
        rintro ev w1 ⟨en, e9, rfl, ⟨he9, hey, hy0⟩, b1⟩
        subst he9 hey
        have b01 : Below w0.heap.size w0 w1 := ba.trans (b1.mono ba.size)
        have hgE := (b1.block _ (lt_of_heap hgz)).trans hgz
        refine hK.out _ _ (HS.out _ b01) (fun hHeld => ?_)
        clear hK K
        (try simp only [Act.put, List.setIfInBounds_toArray, List.set_cons_zero, List.set_cons_succ])
        refine wpAnyH_take (i := 6) (oi := { dst := some 7, op := Op.move (Operand.tmp 13), type := 143, pos := "push.go:158", after := #[{ on := 5, ground := Ground.data }], guard := none }) (v := ?_) rfl (by kernel_rfl) (by kernel_rfl) (by kernel_rfl) (fun _ _ _ h => h) (Or.inl ⟨by rfl, ?_⟩) (by assumption) ?_
        rotate_left 1
        · (intro W hSw; obtain ⟨hSw0, hSw1⟩ := hSw; go_simp; try with_reducible rfl)
        (try simp only [Act.put, List.setIfInBounds_toArray, List.set_cons_zero, List.set_cons_succ])
        refine wpAnyH_take (i := 7) (oi := { dst := some 14, op := Op.extract (Operand.tmp 7) 0, type := 33, pos := "push.go:158", after := #[{ on := 6, ground := Ground.data }], guard := none }) (v := ?_) rfl (by kernel_rfl) (by kernel_rfl) (by kernel_rfl) (fun _ _ _ h => h) (Or.inl ⟨by rfl, ?_⟩) (by assumption) ?_
        rotate_left 1
        · (intro W hSw; obtain ⟨hSw0, hSw1⟩ := hSw; go_simp; try with_reducible rfl)
        (try simp only [Act.put, List.setIfInBounds_toArray, List.set_cons_zero, List.set_cons_succ])
        refine wpAnyH_take (i := 8) (oi := { dst := some 15, op := Op.extract (Operand.tmp 7) 1, type := 48, pos := "push.go:158", after := #[{ on := 6, ground := Ground.data }, { on := 10, ground := Ground.gcOnly Departure.lateStores }], guard := none }) (v := ?_) rfl (by kernel_rfl) (by kernel_rfl) (by kernel_rfl) (fun _ _ _ h => h) (Or.inl ⟨by rfl, ?_⟩) (by assumption) ?_
        rotate_left 1
        · (intro W hSw; obtain ⟨hSw0, hSw1⟩ := hSw; go_simp; try with_reducible rfl)
        (try simp only [Act.put, List.setIfInBounds_toArray, List.set_cons_zero, List.set_cons_succ])
        refine wpAnyH_ready (rs := [10]) (by kernel_rfl) (by simp) ?_
        refine AllReadyH.cons (o := { dst := none, op := Op.store 33 (Operand.tmp 5) (Operand.tmp 14), type := 0, pos := "push.go:158", after := #[{ on := 9, ground := Ground.data }, { on := 7, ground := Ground.data }, { on := 5, ground := Ground.chain }, { on := 0, ground := Ground.phase }, { on := 1, ground := Ground.phase }, { on := 2, ground := Ground.phase }, { on := 3, ground := Ground.phase }, { on := 4, ground := Ground.phase }, { on := 5, ground := Ground.phase }, { on := 6, ground := Ground.phase }, { on := 7, ground := Ground.phase }, { on := 8, ground := Ground.textOnly Departure.lateStores }, { on := 9, ground := Ground.phase }], guard := none }) rfl (fun K hK => ?_) AllReadyH.nil
        · rw [if_pos (by rfl)]
          refine wp_store_row 33 _ _ rfl _ _ rfl rfl 33 _ hgE (en_size _) (by simp [E.En.cells]) (en_one _) ?_
          have bs : Below w0.heap.size w0 (w1.setRow w0.heap.size en.cells) := bel_row b01 (Nat.le_refl _) _
          have bs2 := b0.trans (bs.mono b0.size)
          have hen := setRow_heap _ _ _ en.cells _ _ hgE
          refine hK.out _ _ (HS.out _ bs) (fun hHeld => ?_)
          clear hK K
          (try simp only [Act.put, List.setIfInBounds_toArray, List.set_cons_zero, List.set_cons_succ])
          refine wpAnyH_take (i := 11) (oi := { dst := some 6, op := Op.assign (Operand.tmp 15), type := 48, pos := "push.go:158", after := #[{ on := 8, ground := Ground.data }, { on := 10, ground := Ground.chain }, { on := 0, ground := Ground.phase }, { on := 1, ground := Ground.phase }, { on := 2, ground := Ground.phase }, { on := 3, ground := Ground.phase }, { on := 4, ground := Ground.phase }, { on := 5, ground := Ground.phase }, { on := 6, ground := Ground.phase }, { on := 7, ground := Ground.phase }, { on := 8, ground := Ground.phase }, { on := 9, ground := Ground.phase }, { on := 10, ground := Ground.phase }], guard := none }) (v := ?_) rfl (by kernel_rfl) (by kernel_rfl) (by kernel_rfl) (fun _ _ _ h => h) (Or.inl ⟨by rfl, ?_⟩) (by assumption) ?_
          rotate_left 1
          · (intro W hSw; obtain ⟨hSw0, hSw1⟩ := hSw; go_simp; try with_reducible rfl)
          (try simp only [Act.put, List.setIfInBounds_toArray, List.set_cons_zero, List.set_cons_succ])
          refine wpAnyH_done (by kernel_rfl) ?_ _
          obtain ⟨c9, f9, c8, q9⟩ := HT.out _ w0.heap.size bs2 hen hy0
          clear KM HS HT hHeld hen hgE bs bs2 h0
          generalize (w1.setRow w0.heap.size en.cells) = wS at *
          generalize w0.heap.size = eb at *
          go_upto_region 5 with fail
          unfold lessW at c8 q9
          generalize World.setCell _ _ _ = W4 at *
          clear c9 f9
          have hz := zeroEv
          obtain ⟨ep, el, ek, em, eu, eg, et, es, er1, er2⟩ := en
          simp only [E.En.cells] at *
          go_upto_region 6 with (go_at_call 42; refine q9.mono ?_; rintro ev w6 ⟨rfl, d1, d2, d3⟩)
          have l1 := World.block_lt_of_cell? _ _ (d1 0)
          have l2 := World.block_lt_of_cell? _ _ (d2 0)
          have h6 : (∀ i, w6.drew.cell? ⟨eb, i, none⟩ = _) ∧ (∀ i, w6.drew.cell? ⟨g, i, none⟩ = _) := ⟨d1, d2⟩
          refine wp_region_held_drew (S := (fun W : World => (∀ i, W.cell? ⟨eb, i, none⟩ = (#[.string ep, .string el, .int .i64 ek, .int .i64 em, .int .i64 eu, .int .i64 eg, .int .i64 et, .int .i64 es, .string er1, .string er2] : Array Value)[i]?) ∧ (∀ i, W.cell? ⟨g, i, none⟩ = (#[.int .i64 (s.rd : Int), .int .i64 2, .int .i64 (es.toNat : Int), emptied (.slice ka s.kp.length kc), .int .i64 s.bg, .int .i64 s.cl, .bool s.bl, .slice ga s.gl.length gc, .slice none 0 0, .string ⟨#[]⟩, .string ⟨#[]⟩, errV s.er] : Array Value)[i]?))) (by kernel_rfl) h6 (fun hHeld => ?_)
          refine wpAnyH_take (i := 0) (oi := { dst := some 34, op := Op.load 33 (Operand.tmp 5), type := 33, pos := "push.go:164", after := #[], guard := none }) (v := ?_) rfl (by kernel_rfl) (by kernel_rfl) (by kernel_rfl) (fun _ _ _ h => h) (Or.inl ⟨by rfl, ?_⟩) (by assumption) ?_
          rotate_left 1
          · (intro W hSw; obtain ⟨hSw0, hSw1⟩ := hSw; go_simp; try with_reducible rfl)
          (try simp only [Act.put, List.setIfInBounds_toArray, List.set_cons_zero, List.set_cons_succ])
          refine wpAnyH_take (i := 1) (oi := { dst := some 35, op := Op.move (Operand.tmp 0), type := 37, pos := "push.go:164", after := #[], guard := none }) (v := ?_) rfl (by kernel_rfl) (by kernel_rfl) (by kernel_rfl) (fun _ _ _ h => h) (Or.inl ⟨by rfl, ?_⟩) (by assumption) ?_
          rotate_left 1
          · (intro W hSw; obtain ⟨hSw0, hSw1⟩ := hSw; go_simp; try with_reducible rfl)
          (try simp only [Act.put, List.setIfInBounds_toArray, List.set_cons_zero, List.set_cons_succ])
          refine wpAnyH_take (i := 2) (oi := { dst := some 36, op := Op.nilCheck (Operand.tmp 35), type := 0, pos := "push.go:164", after := #[{ on := 1, ground := Ground.data }], guard := none }) (v := ?_) rfl (by kernel_rfl) (by kernel_rfl) (by kernel_rfl) (fun _ _ _ h => h) (Or.inl ⟨by rfl, ?_⟩) (by assumption) ?_
          rotate_left 1
          · (intro W hSw; obtain ⟨hSw0, hSw1⟩ := hSw; go_simp; try with_reducible rfl)
          (try simp only [Act.put, List.setIfInBounds_toArray, List.set_cons_zero, List.set_cons_succ])
          refine wpAnyH_take (i := 3) (oi := { dst := some 37, op := Op.fieldAddr 72 (Operand.tmp 36) 0, type := 0, pos := "push.go:164", after := #[{ on := 2, ground := Ground.data }], guard := none }) (v := ?_) rfl (by kernel_rfl) (by kernel_rfl) (by kernel_rfl) (fun _ _ _ h => h) (Or.inl ⟨by rfl, ?_⟩) (by assumption) ?_
          rotate_left 1
          · (intro W hSw; obtain ⟨hSw0, hSw1⟩ := hSw; go_simp; try with_reducible rfl)
          (try simp only [Act.put, List.setIfInBounds_toArray, List.set_cons_zero, List.set_cons_succ])
          refine wpAnyH_take (i := 4) (oi := { dst := some 38, op := Op.load 3 (Operand.tmp 37), type := 3, pos := "push.go:164", after := #[{ on := 3, ground := Ground.data }], guard := none }) (v := ?_) rfl (by kernel_rfl) (by kernel_rfl) (by kernel_rfl) (fun _ _ _ h => h) (Or.inl ⟨by rfl, ?_⟩) (by assumption) ?_
          rotate_left 1
          · (intro W hSw; obtain ⟨hSw0, hSw1⟩ := hSw; go_simp; try with_reducible rfl)
          (try simp only [Act.put, List.setIfInBounds_toArray, List.set_cons_zero, List.set_cons_succ])
          refine wpAnyH_take (i := 5) (oi := { dst := some 39, op := Op.build 44 #[(0, Operand.const (Value.int IntKind.i64 1)), (1, Operand.tmp 34), (4, Operand.tmp 38)], type := 44, pos := "push.go:164", after := #[{ on := 0, ground := Ground.data }, { on := 4, ground := Ground.data }], guard := none }) (v := ?_) rfl (by kernel_rfl) (by kernel_rfl) (by kernel_rfl) (fun _ _ _ h => h) (Or.inl ⟨by rfl, ?_⟩) (by assumption) ?_
          rotate_left 1
          · (intro W hSw; obtain ⟨hSw0, hSw1⟩ := hSw; go_simp; try with_reducible rfl)
          (try simp only [Act.put, List.setIfInBounds_toArray, List.set_cons_zero, List.set_cons_succ])
          refine wpAnyH_ready (rs := [6]) (by kernel_rfl) (by simp) ?_
          refine AllReadyH.cons (o := { dst := some 40, op := Op.buildSlice 39 1 #[(0, Operand.tmp 39)], type := 39, pos := "push.go:164", after := #[{ on := 5, ground := Ground.data }], guard := none }) rfl (fun K hK => ?_) AllReadyH.nil
          · go_simp
            refine hK.out _ _ ⟨fun i => (World.cell?_alloc_lt _ _ ⟨eb, i, none⟩ l1).trans (d1 i), fun i => (World.cell?_alloc_lt _ _ ⟨g, i, none⟩ l2).trans (d2 i)⟩ (fun hHeld => ?_)
            clear hK K
            (try simp only [Act.put, List.setIfInBounds_toArray, List.set_cons_zero, List.set_cons_succ])
            refine wpAnyH_take (i := 7) (oi := { dst := some 4, op := Op.assign (Operand.tmp 40), type := 39, pos := "push.go:164", after := #[{ on := 6, ground := Ground.data }, { on := 0, ground := Ground.phase }, { on := 1, ground := Ground.phase }, { on := 2, ground := Ground.phase }, { on := 3, ground := Ground.phase }, { on := 4, ground := Ground.phase }, { on := 5, ground := Ground.phase }, { on := 6, ground := Ground.phase }], guard := none }) (v := ?_) rfl (by kernel_rfl) (by kernel_rfl) (by kernel_rfl) (fun _ _ _ h => h) (Or.inl ⟨by rfl, ?_⟩) (by assumption) ?_
            rotate_left 1
            · (intro W hSw; obtain ⟨hSw0, hSw1⟩ := hSw; go_simp; try with_reducible rfl)
            (try simp only [Act.put, List.setIfInBounds_toArray, List.set_cons_zero, List.set_cons_succ])
            refine wpAnyH_done (by kernel_rfl) ?_ _
            go_wp2_with fail
            go_ret
            exact ⟨_, rfl, [(.bgn ⟨ep, el, ek, em, eu, eg, et, es, er1, er2⟩ s.rd, .slice none 0 0)], d3 _ rfl, by first | rfl | exact ⟨_, rfl, rfl⟩ | simp⟩

end
end Go.Proofs.YtnmmaedngdibeaaGreatDoor

namespace Go.Proofs.YtnmmaedngdibeaaGreatDoor
open Go.RowKit
set_option linter.unusedVariables false
set_option linter.unusedSimpArgs false

/-- bytes of one's own, as layer 6 reads them -/
theorem kept_src {w : World} {B g c : Nat} {zs : List Int} (h : w.ownsRow B 5 1 (.slice (some ⟨g, 0, none⟩) zs.length c) zs.length (H.cellsOf zs)) : H.Src w (some ⟨g, 0, none⟩) zs := by
  intro _
  exact ⟨_, rfl, fun j v hv => h.cells (g := g) rfl j v hv⟩

/-- the header that a block is -/
def hdOf (zs : List Int) : E.Hd := ⟨H.formL zs, H.tx zs 0 100, H.tx zs 157 257, if H.isU zs then H.tx zs 345 500 else ⟨#[]⟩, if H.notOld zs then H.tx zs 265 297 else ⟨#[]⟩, if H.notOld zs then H.tx zs 297 329 else ⟨#[]⟩, zs[156]?.getD 0, H.vN zs 0, H.vN zs 1, H.vN zs 2, H.vN zs 3, H.vN zs 4⟩
theorem hdOf_cells (zs : List Int) : (hdOf zs).cells = H.hdF zs := rfl
def zeroHd : E.Hd := ⟨0, ⟨#[]⟩, ⟨#[]⟩, ⟨#[]⟩, ⟨#[]⟩, ⟨#[]⟩, 0, 0, 0, 0, 0, 0⟩
theorem zeroHd_cells : zeroHd.cells = H.hzero := rfl

/-- layer 6's Decode of a whole block -/
def decH (zs : List Int) : Sum Int E.Hd :=
  if H.rightB zs = false then .inl 50
  else if ¬ H.eN zs 0 = 0 then .inl (H.eN zs 0)
  else if ¬ H.eN zs 1 = 0 then .inl (H.eN zs 1)
  else if ¬ H.eN zs 2 = 0 then .inl (H.eN zs 2)
  else if ¬ H.eN zs 3 = 0 then .inl (H.eN zs 3)
  else if ¬ H.eN zs 4 = 0 then .inl (H.eN zs 4)
  else .inr (hdOf zs)

theorem decH_no (zs : List Int) (hr : H.rightB zs = true) (k : Nat) (hk : k < 5) (h0 : ∀ j, j < k → H.eN zs j = 0) (h1 : H.eN zs k ≠ 0) : decH zs = .inl (H.eN zs k) := by
  unfold decH
  rw [if_neg (by simp [hr])]
  have hkk : k = 0 ∨ k = 1 ∨ k = 2 ∨ k = 3 ∨ k = 4 := by omega
  rcases hkk with rfl | rfl | rfl | rfl | rfl
  · rw [if_pos h1]
  · rw [if_neg (fun h => h (h0 0 (by omega))), if_pos h1]
  · rw [if_neg (fun h => h (h0 0 (by omega))), if_neg (fun h => h (h0 1 (by omega))), if_pos h1]
  · rw [if_neg (fun h => h (h0 0 (by omega))), if_neg (fun h => h (h0 1 (by omega))), if_neg (fun h => h (h0 2 (by omega))), if_pos h1]
  · rw [if_neg (fun h => h (h0 0 (by omega))), if_neg (fun h => h (h0 1 (by omega))), if_neg (fun h => h (h0 2 (by omega))), if_neg (fun h => h (h0 3 (by omega))), if_pos h1]
theorem decH_yes (zs : List Int) (hr : H.rightB zs = true) (h0 : ∀ j, j < 5 → H.eN zs j = 0) : decH zs = .inr (hdOf zs) := by
  unfold decH
  rw [if_neg (by simp [hr]), if_neg (fun h => h (h0 0 (by omega))), if_neg (fun h => h (h0 1 (by omega))), if_neg (fun h => h (h0 2 (by omega))), if_neg (fun h => h (h0 3 (by omega))), if_neg (fun h => h (h0 4 (by omega)))]

theorem decH_w {w : World} {kv : Value} {zs : List Int} (h : w.ownsRow 0 5 1 kv zs.length (H.cellsOf zs)) (hb : H.AllB zs) (hl : zs.length = 512) (hL : H.Laid w) :
    Calls Tryz.prog 58 #[kv] w fun ev w' => ∃ (hd : E.Hd) (e : Int), ev = .returned (.tuple #[.agg hd.cells, .int .i64 e]) ∧ (match decH zs with | .inl x => e = x ∧ (x == 0) = false | .inr y => e = 0 ∧ hd = y) ∧ Below w.heap.size w w' := by
  rcases id h.2 with ⟨e1, e2⟩ | ⟨g, cap, cur, e1, e2, e3, e4, e5, e6, e7⟩
  · omega
  · subst e1
    have hs := kept_src h
    have hc2 : cap ≤ 9223372036854775807 := by unfold maxLen at e5; omega
    rw [hl]
    cases hr : H.rightB zs with
    | false =>
      refine (H.dec_sum ⟨g, 0, none⟩ cap zs w hb hl (by omega) hc2 hs hr).mono ?_
      rintro ev w' ⟨rfl, b⟩
      have hd : decH zs = .inl 50 := by unfold decH; rw [if_pos hr]
      rw [hd]
      exact ⟨zeroHd, 50, by rw [zeroHd_cells], ⟨rfl, rfl⟩, b⟩
    | true =>
      refine (H.dec_yes ⟨g, 0, none⟩ cap zs w hb hl (by omega) hc2 hs hr hL).mono ?_
      rintro ev w' ⟨hx, b⟩
      rcases hx with ⟨k, hk, h0, h1, rfl⟩ | ⟨h0, rfl⟩
      · rw [decH_no zs hr k hk h0 h1]
        exact ⟨zeroHd, _, by rw [zeroHd_cells], ⟨rfl, by simpa using h1⟩, b⟩
      · rw [decH_yes zs hr h0]
        exact ⟨hdOf zs, 0, by rw [hdOf_cells], ⟨rfl, rfl⟩, b⟩

theorem blank_kept {w : World} {kv : Value} {zs : List Int} (h : w.ownsRow 0 5 1 kv zs.length (H.cellsOf zs)) (hl : zs.length = 512) :
    Calls Tryz.prog 55 #[kv] w fun e w' => e = .returned (.bool (H.blankB zs)) ∧ w = w' := by
  rcases id h.2 with ⟨e1, e2⟩ | ⟨g, cap, cur, e1, e2, e3, e4, e5, e6, e7⟩
  · omega
  · subst e1
    have hs := kept_src h
    rw [hl]
    exact H.blank_yes ⟨g, 0, none⟩ cap zs w hl hs

end Go.Proofs.YtnmmaedngdibeaaGreatDoor

namespace Go.Proofs.YtnmmaedngdibeaaGreatDoor
open Go.RowKit
set_option linter.unusedVariables false
set_option linter.unusedSimpArgs false

/-- what other layers answer -/
structure Fall (F0 : Pu.Fns E.Hd E.En Rec ByteArray) : Prop extends Fok F0 where
  blank : F0.blank = H.blankB
  dec : F0.decode = decH
  typ : F0.typ = E.Hd.typ
  size : F0.size = E.Hd.size
  cls : F0.cls = clsP
  make : F0.make = makeP
  esize : F0.esize = fun e => e.size.toNat

section
variable {w : World} {g : Nat} {s : PsR} {kv gv lv : Value} {F0 : Pu.Fns E.Hd E.En Rec ByteArray}

def begS (s : PsR) : PsR := { s with bg := (s.rd : Int) - 512 }

set_option maxRecDepth 20000 in
set_option maxHeartbeats 4000000 in
theorem head_blank (hF : Fall F0) (h : Pm w g s kv gv lv) (hl : s.kp.length = 512) (hr : s.rd ≤ 4611686018427387904) (hb : H.blankB s.kp = true) :
    Calls Tryz.prog 39 #[.pointer (some ⟨g, 0, none⟩)] w fun ev w' => ∃ v L, ev = .returned v ∧ Out w w' g kv gv lv (Pu.endHeader F0 s).1 v L ∧ L.map (·.1) = (Pu.endHeader F0 s).2 := by
  have B1 : Bx g w (w.setCell ⟨g, 4, none⟩ (.int .i64 ((s.rd : Int) - 512))) (pCells (begS s) kv gv lv) := (Bx.mk0 h.box).set 4 _
  have h1 : Pm (w.setCell ⟨g, 4, none⟩ (.int .i64 ((s.rd : Int) - 512))) g (begS s) kv gv lv := h.boxed (s2 := begS s) rfl rfl rfl B1
  have qb := blank_kept h1.kept hl
  have hkp : (begS s).kp = s.kp := rfl
  rw [hkp, hb] at qb
  have c0 := h.cells
  have f0 := h.froz
  have c1 := h1.cells
  have HA : Hid (∀ W' s' v L, Out (w.setCell ⟨g, 4, none⟩ (.int .i64 ((s.rd : Int) - 512))) W' g kv gv lv s' v L → Out w W' g kv gv lv s' v L) := fun W' s' v L o => Out.after (B1.mv kv gv lv) (fun k hk => .inl hk) o
  have hw : IntKind.i64.wrap ((s.rd : Int) - 512) = (s.rd : Int) - 512 := by rw [IntKind.wrap_i64]; omega
  obtain ⟨ka, kc, hkv, _, _, _⟩ := own_sl h.kept
  have he : Pu.endHeader F0 s = Pu.endBlank F0 (begS s) := by
    unfold Pu.endHeader
    rw [hF.blank]
    simp only [hb, if_true]
    rfl
  rw [he]
  unfold Pu.endBlank
  cases hbl : s.bl with
  | true =>
    have q := endBlank_done h1 (show (begS s).bl = true from hbl)
    rw [if_pos (show (begS s).bl = true from hbl)]
    have h0 := hF.none
    clear h h1 B1 hb hl he
    simp only [begS] at c1 q qb
    subst hkv
    generalize s.kp.length = kn at *
    go_enter Tryz.func39, Tryz.ntmps39
    go_wp2_with (first
      | (go_at_call 55; refine qb.mono ?_; rintro ev w2 ⟨rfl, rfl⟩)
      | (go_at_call 56; refine q.mono ?_; rintro ev w3 ⟨v3, rfl, o3⟩))
    go_ret
    have o4 := HA.out _ _ _ _ o3
    exact ⟨_, [(.don s.rd, .slice none 0 0)], rfl, by simpa [Pu.stop, stopS, h0, begS] using o4, by first | rfl | exact ⟨_, rfl, rfl⟩ | simp⟩
  | false =>
    have q := endBlank_first h1 (show (begS s).bl = false from hbl)
    rw [if_neg (by show ¬ (begS s).bl = true; rw [show (begS s).bl = s.bl from rfl, hbl]; simp)]
    clear h h1 B1 hb hl he
    simp only [begS] at c1 q qb
    subst hkv
    generalize s.kp.length = kn at *
    go_enter Tryz.func39, Tryz.ntmps39
    go_wp2_with (first
      | (go_at_call 55; refine qb.mono ?_; rintro ev w2 ⟨rfl, rfl⟩)
      | (go_at_call 56; refine q.mono ?_; rintro ev w3 ⟨rfl, o3⟩))
    go_ret
    have o4 := HA.out _ _ _ _ o3.out
    first | exact ⟨_, [], rfl, o4, rfl⟩ | exact ⟨_, rfl, [], o4, rfl⟩ | exact ⟨_, rfl, o4⟩

set_option maxRecDepth 20000 in
set_option maxHeartbeats 4000000 in
theorem head_late (hF : Fall F0) (h : Pm w g s kv gv lv) (hl : s.kp.length = 512) (hr : s.rd ≤ 4611686018427387904) (hb : H.blankB s.kp = false) (hbl : s.bl = true) :
    Calls Tryz.prog 39 #[.pointer (some ⟨g, 0, none⟩)] w fun ev w' => ∃ v L, ev = .returned v ∧ Out w w' g kv gv lv (Pu.endHeader F0 s).1 v L ∧ L.map (·.1) = (Pu.endHeader F0 s).2 := by
  have B1 : Bx g w (w.setCell ⟨g, 4, none⟩ (.int .i64 ((s.rd : Int) - 512))) (pCells (begS s) kv gv lv) := (Bx.mk0 h.box).set 4 _
  have h1 : Pm (w.setCell ⟨g, 4, none⟩ (.int .i64 ((s.rd : Int) - 512))) g (begS s) kv gv lv := h.boxed (s2 := begS s) rfl rfl rfl B1
  have qb := blank_kept h1.kept hl
  have hkp : (begS s).kp = s.kp := rfl
  rw [hkp, hb] at qb
  have c0 := h.cells
  have f0 := h.froz
  have c1 := h1.cells
  have HA : Hid (∀ W' s' v L, Out (w.setCell ⟨g, 4, none⟩ (.int .i64 ((s.rd : Int) - 512))) W' g kv gv lv s' v L → Out w W' g kv gv lv s' v L) := fun W' s' v L o => Out.after (B1.mv kv gv lv) (fun k hk => .inl hk) o
  have hw : IntKind.i64.wrap ((s.rd : Int) - 512) = (s.rd : Int) - 512 := by rw [IntKind.wrap_i64]; omega
  obtain ⟨ka, kc, hkv, _, _, _⟩ := own_sl h.kept
  have he : Pu.endHeader F0 s = Pu.fail F0 (begS s) 120 := by
    unfold Pu.endHeader
    rw [hF.blank]
    simp only [hb, hbl, if_true, Bool.false_eq_true, if_false]
    rfl
  rw [he]
  have q := fail_w h1 120 rfl
  have h0 := hF.none
  clear h h1 B1 hb hl he
  simp only [begS] at c1 q qb
  rw [hbl] at c1
  subst hkv
  generalize s.kp.length = kn at *
  go_enter Tryz.func39, Tryz.ntmps39
  go_wp2_with (first
    | (go_at_call 55; refine qb.mono ?_; rintro ev w2 ⟨rfl, rfl⟩)
    | (go_at_call 57; refine q.mono ?_; rintro ev w3 ⟨v3, rfl, o3⟩))
  go_ret
  have o4 := HA.out _ _ _ _ o3
  exact ⟨_, [(.bad 120 ((s.rd : Int) - 512) s.rd, .slice none 0 0)], rfl, by simpa [Pu.fail, Pu.stop, stopS, h0, begS] using o4, by first | rfl | exact ⟨_, rfl, rfl⟩ | simp⟩

theorem laid_moved {w w' : World} (h : H.Laid w) (hb : ∀ k, k < 14 → w'.heap[k]? = w.heap[k]?) : H.Laid w' := by
  have hc : ∀ k i, k < 14 → w'.cell? ⟨k, i, none⟩ = w.cell? ⟨k, i, none⟩ := fun k i hk => by simp only [World.cell?, hb k hk]
  obtain ⟨⟩ := h
  constructor <;> (first | (rw [hc _ _ (by decide)]; assumption) | assumption)

theorem zeroH (W : World) : (zeroValue 55).run Tryz.prog W = .ok (.agg zeroHd.cells) W := by
  have b : (Tryz.prog.info? 55).bind (fun i => i.zero) = some (.agg zeroHd.cells) := by kernel_rfl
  cases hq : Tryz.prog.info? 55 with
  | none => rw [hq] at b; simp at b
  | some i => rw [hq] at b; simp at b; simp [zeroValue, typeInfo, hq, b]
theorem hd_size (y : E.Hd) : (Tryz.prog.info? 55).map (·.size) = some y.cells.size := by
  have h10 : y.cells.size = 12 := by simp [E.Hd.cells]
  have h11 : (Tryz.prog.info? 55).map (·.size) = some 12 := by kernel_rfl
  rw [h10, h11]
theorem hd_one (y : E.Hd) : y.cells.all (·.oneCell') = true := by simp [E.Hd.cells, Value.oneCell']

set_option maxRecDepth 20000 in
set_option maxHeartbeats 4000000 in
theorem head_bad (hF : Fall F0) (h : Pm w g s kv gv lv) (hS : Small s) (hl : s.kp.length = 512) (hr : s.rd ≤ 4611686018427387904) (hb : H.blankB s.kp = false) (hbl : s.bl = false) (hL : H.Laid w) (hG : 14 ≤ g) (x : Int) (hx : decH s.kp = .inl x) :
    Calls Tryz.prog 39 #[.pointer (some ⟨g, 0, none⟩)] w fun ev w' => ∃ v L, ev = .returned v ∧ Out w w' g kv gv lv (Pu.endHeader F0 s).1 v L ∧ L.map (·.1) = (Pu.endHeader F0 s).2 := by
  have B1 : Bx g w (w.setCell ⟨g, 4, none⟩ (.int .i64 ((s.rd : Int) - 512))) (pCells (begS s) kv gv lv) := (Bx.mk0 h.box).set 4 _
  have h1 : Pm (w.setCell ⟨g, 4, none⟩ (.int .i64 ((s.rd : Int) - 512))) g (begS s) kv gv lv := h.boxed (s2 := begS s) rfl rfl rfl B1
  have qb := blank_kept h1.kept hl
  have hkp : (begS s).kp = s.kp := rfl
  rw [hkp, hb] at qb
  have c0 := h.cells
  have f0 := h.froz
  have c1 := h1.cells
  have HA : Hid (∀ W' s' v L, Out (w.setCell ⟨g, 4, none⟩ (.int .i64 ((s.rd : Int) - 512))) W' g kv gv lv s' v L → Out w W' g kv gv lv s' v L) := fun W' s' v L o => Out.after (B1.mv kv gv lv) (fun k hk => .inl hk) o
  have hw : IntKind.i64.wrap ((s.rd : Int) - 512) = (s.rd : Int) - 512 := by rw [IntKind.wrap_i64]; omega
  obtain ⟨ka, kc, hkv, _, _, _⟩ := own_sl h.kept
  have he : Pu.endHeader F0 s = Pu.fail F0 (begS s) x := by
    unfold Pu.endHeader
    rw [hF.blank, hF.dec]
    simp only [hb, hbl, hx, Bool.false_eq_true, if_false]
    rfl
  rw [he]
  have hL1 : H.Laid (w.setCell ⟨g, 4, none⟩ (.int .i64 ((s.rd : Int) - 512))) := laid_moved hL fun k hk => B1.block k (by omega)
  have qd := decH_w h1.kept hS.kp hl hL1
  rw [hkp, hx] at qd
  simp only at qd
  have KF : Hid (∀ W, Below (w.setCell ⟨g, 4, none⟩ (.int .i64 ((s.rd : Int) - 512))).heap.size (w.setCell ⟨g, 4, none⟩ (.int .i64 ((s.rd : Int) - 512))) W → (x == 0) = false → Calls Tryz.prog 57 #[.pointer (some ⟨g, 0, none⟩), .int .i64 x] W fun ev w' => ∃ v, ev = .returned v ∧ Out w w' g kv gv lv (stopS (begS s) (some (x, (begS s).bg))) v [(.bad x (begS s).bg s.rd, .slice none 0 0)]) := fun W b hx0 => (fail_w (h1.grow b) x hx0).mono fun ev w' ⟨v, e, o⟩ => ⟨v, e, HA.out _ _ _ _ (Out.after (Mv.of_below b) (fun k hk => .inl hk) o)⟩
  have h0 := hF.none
  have hz := zeroH
  clear h h1 B1 hb hl he hL hL1 hS
  simp only [begS] at c1 qb
  rw [hbl] at c1
  subst hkv
  generalize s.kp.length = kn at *
  go_enter Tryz.func39, Tryz.ntmps39
  go_upto_region 6 with (go_at_call 55; refine qb.mono ?_; rintro ev w2 ⟨rfl, rfl⟩)
  go_upto_region 7 with (first
    | (go_at_call 58; refine qd.mono ?_; rintro ev w2 ⟨hd, e9, rfl, ⟨rfl, hx0⟩, b2⟩)
    | (refine wpList_store_row rfl 55 _ _ rfl _ _ rfl rfl 55 _ (heap_alloc_new w2 _) (hd_size hd) (by simp [E.Hd.cells, zeroHd]) (hd_one hd) ?_))
  have b3 := bel_row (b2.alloc b2.size (.cells zeroHd.cells 55)) b2.size hd.cells
  have q9 := KF.out _ b3 hx0
  clear qd KF b2 b3 HA
  go_wp2_with (go_at_call 57; refine q9.mono ?_; rintro ev w4 ⟨v4, rfl, o4⟩)
  go_ret
  exact ⟨_, [(.bad e9 ((s.rd : Int) - 512) s.rd, .slice none 0 0)], rfl, by simpa [Pu.fail, Pu.stop, stopS, h0, begS] using o4, by first | rfl | exact ⟨_, rfl, rfl⟩ | simp⟩
end
end Go.Proofs.YtnmmaedngdibeaaGreatDoor

