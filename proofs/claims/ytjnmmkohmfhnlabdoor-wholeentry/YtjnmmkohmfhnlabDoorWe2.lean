/-
  Plain: an entry said by records alone, and one said by the header alone.
-/
import Derived.Test.YtjnmmkohmfhnlabDoorWe1
namespace Go.Proofs.YtjnmmkohmfhnlabDoor
open Go.RowKit
set_option linter.unusedVariables false
set_option linter.unusedSimpArgs false

theorem mode_and (m : Int) : bits .and .i64 m 4095 = m % 4096 := by
  have hb : IntKind.i64.bits = 64 := rfl
  simp only [bits, BitVec.toNat_and, BitVec.toNat_ofInt, hb]
  have e : ((4095 : Int) % ((2 ^ 64 : Nat) : Int)).toNat = 2 ^ 12 - 1 := by decide
  rw [e, Nat.and_two_pow_sub_one_eq_mod, IntKind.wrap_i64]
  have e2 : ((2 ^ 64 : Nat) : Int) = 18446744073709551616 := by decide
  have e3 : (2 : Nat) ^ 12 = 4096 := by decide
  rw [e2, e3]
  omega

def other : ByteArray := ⟨#[111, 116, 104, 101, 114]⟩
def rK : Nat → ByteArray
  | 0 => kPath | 1 => kLink | 2 => kUser | 3 => kGroup | 4 => kUid | 5 => kGid | 6 => kSize | _ => kMtime
def rV (e : En) : Nat → ByteArray
  | 0 => e.path | 1 => e.link | 2 => e.user | 3 => e.group | 4 => num e.uid | 5 => num e.gid | 6 => num e.size | _ => num e.mtime
def aR (g : Nat) (e : En) : Ah := ⟨.slice none 0 0, .slice (some ⟨g, 0, none⟩) 8 8, fun _ => noE, fun _ => noE, 0, rK, rV e, 8, other, other⟩
def recCells (e : En) : Array Value := #[.string ⟨#[112, 97, 116, 104]⟩, .string e.path, .string ⟨#[108, 105, 110, 107, 112, 97, 116, 104]⟩, .string e.link, .string ⟨#[117, 110, 97, 109, 101]⟩, .string e.user, .string ⟨#[103, 110, 97, 109, 101]⟩, .string e.group, .string ⟨#[117, 105, 100]⟩, .string (num e.uid), .string ⟨#[103, 105, 100]⟩, .string (num e.gid), .string ⟨#[115, 105, 122, 101]⟩, .string (num e.size), .string ⟨#[109, 116, 105, 109, 101]⟩, .string (num e.mtime)]

theorem rK_inj : ∀ i, i < 8 → ∀ j, j < 8 → rK i = rK j → i = j := by decide +kernel

theorem last_at (K V : Nat → ByteArray) (j : Nat) : ∀ n, j < n → (∀ i, i < n → K i = K j → i = j) → lastOf K V (K j) n = (V j, true)
  | 0, h, _ => by omega
  | n + 1, h, hi => by
    unfold lastOf
    by_cases c : K n = K j
    · rw [if_pos c, hi n (by omega) c]
    · rw [if_neg c]
      exact last_at K V j n (by rcases Nat.lt_succ_iff_lt_or_eq.1 h with h | rfl; exact h; exact absurd rfl c) (fun i hi' => hi i (by omega))

theorem last_some (K V : Nat → ByteArray) (k : ByteArray) : ∀ n, (lastOf K V k n).1 = ⟨#[]⟩ ∨ ∃ j, j < n ∧ (lastOf K V k n).1 = V j
  | 0 => .inl rfl
  | n + 1 => by
    unfold lastOf
    by_cases c : K n = k
    · rw [if_pos c]; exact .inr ⟨n, by omega, rfl⟩
    · rw [if_neg c]
      rcases last_some K V k n with h | ⟨j, h1, h2⟩
      · exact .inl h
      · exact .inr ⟨j, by omega, h2⟩

theorem aR_val (g : Nat) (e : En) (j : Nat) (hj : j < 8) : (aR g e).val (rK j) = rV e j := by
  have h := last_at rK (rV e) j 8 hj (fun i hi => rK_inj i hi j hj)
  unfold Ah.val
  show (if (lastOf rK (rV e) (rK j) 8).2 = true then (lastOf rK (rV e) (rK j) 8).1 else _) = _
  rw [h]; rfl

theorem aR_size (g : Nat) (e : En) (k : ByteArray) (B : Nat) (h : ∀ j, j < 8 → (rV e j).size ≤ B) : ((aR g e).val k).size ≤ B := by
  unfold Ah.val
  split
  · show (lastOf rK (rV e) k 8).1.size ≤ B
    rcases last_some rK (rV e) k 8 with h1 | ⟨j, h1, h2⟩
    · rw [h1]; exact Nat.zero_le _
    · rw [h2]; exact h j h1
  · exact Nat.zero_le _

theorem num_size (v : Int) (h0 : -9223372036854775808 ≤ v) (h1 : v ≤ 9223372036854775807) : (num v).size ≤ 30 := by
  rw [← size_list, num_list]
  by_cases c : v < 0
  · obtain ⟨u, rfl⟩ : ∃ u : Nat, v = -(u : Int) := ⟨v.natAbs, by omega⟩
    rw [itoa_neg' u (by omega)]
    have := dec_len19 u (by omega)
    simp; omega
  · obtain ⟨u, rfl⟩ : ∃ u : Nat, v = (u : Int) := ⟨v.toNat, by omega⟩
    rw [itoa_nat]
    have := dec_len19 u (by omega)
    omega

theorem num_emp (v : Int) : emp (num v) = false := by
  have h := num_list v
  unfold emp
  rw [ByteArray.toList_eq, h]
  by_cases c : v < 0
  · obtain ⟨u, rfl⟩ : ∃ u : Nat, v = -(u : Int) := ⟨v.natAbs, by omega⟩
    rw [itoa_neg' u (by omega)]; rfl
  · obtain ⟨u, rfl⟩ : ∃ u : Nat, v = (u : Int) := ⟨v.toNat, by omega⟩
    rw [itoa_nat]
    cases hd : Lib.decDigits u with
    | nil => exact absurd hd (dec_ne u)
    | cons x r => rfl

/-- what the law asks of an entry -/
structure Ok (e : En) (form : Int) : Prop where
  kind : e.kind = 1 ∨ e.kind = 2 ∨ e.kind = 3 ∨ e.kind = 4
  mode : 0 ≤ e.mode ∧ e.mode ≤ 4095
  path : emp e.path = false
  user : emp e.user = false
  group : emp e.group = false
  link : (e.kind = 2 ∨ e.kind = 3) ↔ emp e.link = false
  size : ¬ e.kind = 1 → e.size = 0
  old : ¬ (e.kind = 1 ∧ form = 0 ∧ slashB e.path = true)
  uid : 0 ≤ e.uid ∧ e.uid ≤ 9223372036854775807
  gid : 0 ≤ e.gid ∧ e.gid ≤ 9223372036854775807
  sz : 0 ≤ e.size ∧ e.size ≤ 9223372036854775807
  mtime : -9223372036854775808 ≤ e.mtime ∧ e.mtime ≤ 9223372036854775807
  fp : e.path.size ≤ 140737488351232
  fl : e.link.size ≤ 140737488351232
  fu : e.user.size ≤ 140737488351232
  fg : e.group.size ≤ 140737488351232

theorem kd_ty {k : Int} (h : k = 1 ∨ k = 2 ∨ k = 3 ∨ k = 4) : kd (ty k) = k := by rcases h with rfl | rfl | rfl | rfl <;> decide

theorem or3_first {a b c : ByteArray} (h : emp a = false) : or3 a b c = a := by unfold or3; rw [h]; rfl

/-- an entry as it is settled already -/
theorem settled {e : En} {form : Int} (o : Ok e form) (L : ByteArray) (hL : (e.kind = 2 ∨ e.kind = 3) → L = e.link) : settleF { e with link := L } form = e := by
  obtain ⟨path, link, kind, mode, uid, gid, mtime, size, user, group⟩ := e
  have hk : kindF ⟨path, L, kind, mode, uid, gid, mtime, size, user, group⟩ form = kind := by
    unfold kindF
    rw [if_neg o.old]
  have hl := o.link
  have hs := o.size
  simp only at hl hs hL
  unfold settleF
  simp only [hk]
  have e1 : (if kind = 1 then size else 0) = size := by
    split
    · rfl
    · rename_i c; exact (hs c).symm
  have e2 : (if kind = 2 ∨ kind = 3 then L else ⟨#[]⟩) = link := by
    split
    · rename_i c; exact hL c
    · rename_i c
      cases hq : emp link with
      | true => exact (emp_true hq).symm
      | false => exact absurd (hl.2 hq) c
  rw [e1, e2]

theorem numV_rec (h : Hd) (g : Nat) (e : En) {form : Int} (o : Ok e form) : numV h (aR g e) 0 = some e.size ∧ numV h (aR g e) 1 = some e.uid ∧ numV h (aR g e) 2 = some e.gid ∧ numV h (aR g e) 3 = some e.mtime := by
  have q : ∀ (k j : Nat) (v : Int), kyN k = rK j → j < 8 → rV e j = num v → -9223372036854775808 ≤ v → v ≤ 9223372036854775807 → numV h (aR g e) k = some v := by
    intro k j v h1 h2 h3 h4 h5
    unfold numV
    rw [h1, aR_val g e j h2, h3, num_emp, nval_num v h4 h5]
    rfl
  have o1 := o.uid
  have o2 := o.gid
  have o3 := o.sz
  exact ⟨q 0 6 _ rfl (by omega) rfl (by omega) (by omega), q 1 4 _ rfl (by omega) rfl (by omega) (by omega), q 2 5 _ rfl (by omega) rfl (by omega) (by omega), q 3 7 _ rfl (by omega) rfl o.mtime.1 o.mtime.2⟩

theorem rec_bad (h : Hd) (g : Nat) (e : En) {form : Int} (o : Ok e form) : ¬ badN h (aR g e) := by
  rintro ⟨k, hk, hn⟩
  obtain ⟨q0, q1, q2, q3⟩ := numV_rec h g e o
  match k, hk with
  | 0, _ => rw [q0] at hn; cases hn
  | 1, _ => rw [q1] at hn; cases hn
  | 2, _ => rw [q2] at hn; cases hn
  | 3, _ => rw [q3] at hn; cases hn

theorem full_rec (h : Hd) (g : Nat) (e : En) (o : Ok e h.form) (ht : h.typ = ty e.kind) (hm : h.mode = e.mode) : fullE h (aR g e) = e := by
  obtain ⟨q0, q1, q2, q3⟩ := numV_rec h g e o
  have t0 : tx h (aR g e) 0 = e.path := by
    unfold tx
    rw [show ky 0 = rK 0 from rfl, aR_val g e 0 (by omega)]
    exact or3_first o.path
  have t2 : tx h (aR g e) 2 = e.user := by
    unfold tx
    rw [show ky 2 = rK 2 from rfl, aR_val g e 2 (by omega)]
    exact or3_first o.user
  have t3 : tx h (aR g e) 3 = e.group := by
    unfold tx
    rw [show ky 3 = rK 3 from rfl, aR_val g e 3 (by omega)]
    exact or3_first o.group
  have hmod : bits .and .i64 h.mode 4095 = e.mode := by
    rw [hm, mode_and]
    have := o.mode
    omega
  rw [fullE_eq, q0, q1, q2, q3, t0, t2, t3, hmod, ht, kd_ty o.kind]
  refine settled o _ fun c => ?_
  unfold tx
  rw [show ky 1 = rK 1 from rfl, aR_val g e 1 (by omega)]
  exact or3_first (o.link.1 c)

def hE (e : En) : Hd := ⟨1, e.path, e.link, noE, e.user, e.group, ty e.kind, e.mode, e.uid, e.gid, e.size, e.mtime⟩

theorem full_hd (e : En) {form : Int} (o : Ok e form) : fullE (hE e) (noA noE noE) = e := by
  have o' : Ok e 1 := ⟨o.kind, o.mode, o.path, o.user, o.group, o.link, o.size, fun h => absurd h.2.1 (by decide), o.uid, o.gid, o.sz, o.mtime, o.fp, o.fl, o.fu, o.fg⟩
  rw [noA_full]
  have hmod : bits .and .i64 (hE e).mode 4095 = e.mode := by
    show bits .and .i64 e.mode 4095 = e.mode
    rw [mode_and]
    have := o.mode
    omega
  have hfull : (hE e).full = e.path := by
    unfold Hd.full
    rw [if_pos (show emp (hE e).prefx = true from emp_none)]; rfl
  rw [hmod, hfull, or2_none, or2_none, show kd (hE e).typ = e.kind from kd_ty o.kind]
  exact settled o' e.link fun _ => rfl

theorem rec_in (w : World) (g : Nat) (e : En) (h : w.heap[g]? = some (.cells (recCells e) 36 (0, 0))) : (aR g e).In w := by
  refine ⟨⟨none, 0, rfl, by show (0 : Nat) ≤ _; omega, .inl rfl⟩, ⟨some ⟨g, 0, none⟩, 8, rfl, by show (8 : Nat) ≤ _; omega, .inr ⟨g, 0, rfl, fun i hi => ?_⟩⟩⟩
  have hc : ∀ o, w.cell? ⟨g, o, none⟩ = (recCells e)[o]? := fun o => by simp [World.cell?, h]
  rw [hc, hc]
  have hi' : i < 8 := hi
  match i, hi' with
  | 0, _ | 1, _ | 2, _ | 3, _ | 4, _ | 5, _ | 6, _ | 7, _ => exact ⟨rfl, rfl⟩

theorem rec_fit (w : World) (g : Nat) (e : En) {form : Int} (o : Ok e form) (h : Hd) (hp : h.prefx.size ≤ 140737488351232) (hn : h.name.size ≤ 140737488351232) (hh : w.heap[g]? = some (.cells (recCells e) 36 (0, 0))) : Fit h (aR g e) w := by
  refine ⟨rec_in w g e hh, by omega, by omega, by show (5 : Nat) ≤ _; omega, fun k => aR_size g e k _ fun j hj => ?_⟩
  have o1 := o.uid
  have o2 := o.gid
  have o3 := o.sz
  have o4 := o.mtime
  have f1 := o.fp
  have f2 := o.fl
  have f3 := o.fu
  have f4 := o.fg
  have n1 := num_size e.uid (by omega) (by omega)
  have n2 := num_size e.gid (by omega) (by omega)
  have n3 := num_size e.size (by omega) (by omega)
  have n4 := num_size e.mtime (by omega) (by omega)
  match j, hj with
  | 0, _ => show e.path.size ≤ _; omega
  | 1, _ => show e.link.size ≤ _; omega
  | 2, _ => show e.user.size ≤ _; omega
  | 3, _ => show e.group.size ≤ _; omega
  | 4, _ => show (num e.uid).size ≤ _; omega
  | 5, _ => show (num e.gid).size ≤ _; omega
  | 6, _ => show (num e.size).size ≤ _; omega
  | 7, _ => show (num e.mtime).size ≤ _; omega

theorem rec_ok (w : World) (hv : Vs w) (g : Nat) (e : En) (h : Hd) (o : Ok e h.form) (ht : h.typ = ty e.kind) (hm : h.mode = e.mode) (hp : h.prefx.size ≤ 140737488351232) (hn : h.name.size ≤ 140737488351232) (hh : w.heap[g]? = some (.cells (recCells e) 36 (0, 0))) :
    Calls Tryd.prog 4 #[.agg h.cells, .agg (aR g e).cells] w fun ev w' => ev = .returned (.tuple #[.agg e.cells, .int .i64 0]) ∧ Below w.heap.size w w' := by
  have q := make_ok (rec_fit w g e o h hp hn hh) hv (by rw [ht, kd_ty o.kind]; rcases o.kind with c | c | c | c <;> rw [c] <;> decide) (rec_bad h g e o) (by
    unfold neg
    rw [full_rec h g e o ht hm]
    have := o.uid
    have := o.gid
    have := o.sz
    omega)
  rw [full_rec h g e o ht hm] at q
  exact q

theorem hd_ok (w : World) (hv : Vs w) (e : En) {form : Int} (o : Ok e form) :
    Calls Tryd.prog 4 #[.agg (hE e).cells, .agg (noA noE noE).cells] w fun ev w' => ev = .returned (.tuple #[.agg e.cells, .int .i64 0]) ∧ Below w.heap.size w w' := by
  have f1 := o.fp
  have q := make_ok (noA_fit (hE e) noE noE w (by show (0 : Nat) ≤ _; omega) (by show e.path.size ≤ _; omega) (by show (0 : Nat) ≤ _; omega)) hv (by show ¬ kd (ty e.kind) = 0; rw [kd_ty o.kind]; rcases o.kind with c | c | c | c <;> rw [c] <;> decide) (noA_bad _ _ _) (by
    unfold neg
    rw [full_hd e o]
    have := o.uid
    have := o.gid
    have := o.sz
    omega)
  rw [full_hd e o] at q
  exact q

theorem first_ok (w : World) (hv : Vs w) : Calls Tryd.prog 4 #[.agg hA.cells, .agg (noA noE noE).cells] w fun ev w' => ev = .returned (.tuple #[.agg #[.string ⟨#[97]⟩, .string ⟨#[]⟩, .int .i64 4, .int .i64 0, .int .i64 0, .int .i64 0, .int .i64 0, .int .i64 0, .string ⟨#[]⟩, .string ⟨#[]⟩], .int .i64 0]) ∧ Below w.heap.size w w' := by
  have q := make_ok (hA_fit w) hv hA_kd (noA_bad _ _ _) hA_neg
  rw [hA_full] at q
  exact q

end Go.Proofs.YtjnmmkohmfhnlabDoor
