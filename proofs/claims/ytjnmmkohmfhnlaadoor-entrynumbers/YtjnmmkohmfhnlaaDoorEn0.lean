/-
  Numbers said by one record: what Make makes of it.
-/
import Derived.Test.YtjnmmkohmfhnlaaDoorOpen
import Derived.ProofKit
namespace Go.Proofs.YtjnmmkohmfhnlaaDoor
open Go.ChangeShapes Go.WideShapes Go.RowKit
set_option linter.unusedVariables false
set_option linter.unusedSimpArgs false

def hNum (s : Int) : Hd := ⟨1, ⟨#[97]⟩, noE, noE, noE, noE, 48, 0, s, s, s, s⟩
/-- one record for an entry -/
def aN (g : Nat) (nm v : ByteArray) : Ah := ⟨.slice none 0 0, .slice (some ⟨g, 0, none⟩) 1 1, fun _ => noE, fun _ => noE, 0, fun _ => nm, fun _ => v, 1, noE, noE⟩
theorem aN_val (g : Nat) (nm v k : ByteArray) : (aN g nm v).val k = if nm = k then v else ⟨#[]⟩ := by
  unfold Ah.val
  show (if (lastOf (fun _ => nm) (fun _ => v) k 1).2 then (lastOf (fun _ => nm) (fun _ => v) k 1).1 else ⟨#[]⟩) = _
  simp only [lastOf]
  by_cases c : nm = k
  · simp [c]
  · simp [c]
theorem aN_num (g : Nat) (nm v : ByteArray) (s : Int) (i : Nat) (hi : i < 4) : numV (hNum s) (aN g nm v) i = if nm = kyN i then (if emp v then some s else nval v) else some s := by
  have hh : hdN (hNum s) i = s := by
    match i, hi with
    | 0, _ => rfl
    | 1, _ => rfl
    | 2, _ => rfl
    | 3, _ => rfl
  unfold numV
  rw [aN_val, hh]
  by_cases c : nm = kyN i
  · rw [if_pos c, if_pos c]
  · rw [if_neg c, if_neg c, emp_none]; rfl
theorem aN_tx (g : Nat) (nm v : ByteArray) (s : Int) (i : Nat) (h : ¬ nm = ky i) : tx (hNum s) (aN g nm v) i = or2 (lg (aN g nm v) i) (hdr (hNum s) i) := by
  unfold tx
  rw [aN_val, if_neg h, or3_none]
theorem num_fullname (s : Int) : (hNum s).full = ⟨#[97]⟩ := by unfold Hd.full; rw [show emp (hNum s).prefx = true from emp_none]; rfl
theorem aN_full (g : Nat) (nm v : ByteArray) (s : Int) (h0 : ¬ nm = ky 0) (h1 : ¬ nm = ky 1) (h2 : ¬ nm = ky 2) (h3 : ¬ nm = ky 3) :
    fullE (hNum s) (aN g nm v) = ⟨⟨#[97]⟩, noE, 1, 0, (numV (hNum s) (aN g nm v) 1).getD 0, (numV (hNum s) (aN g nm v) 2).getD 0, (numV (hNum s) (aN g nm v) 3).getD 0, (numV (hNum s) (aN g nm v) 0).getD 0, noE, noE⟩ := by
  have t0 : tx (hNum s) (aN g nm v) 0 = ⟨#[97]⟩ := (aN_tx g nm v s 0 h0).trans ((or2_none _).trans (num_fullname s))
  have t1 : tx (hNum s) (aN g nm v) 1 = noE := (aN_tx g nm v s 1 h1).trans (or2_none _)
  have t2 : tx (hNum s) (aN g nm v) 2 = noE := (aN_tx g nm v s 2 h2).trans (or2_none _)
  have t3 : tx (hNum s) (aN g nm v) 3 = noE := (aN_tx g nm v s 3 h3).trans (or2_none _)
  have e1 : kd (hNum s).typ = 1 := by show kd 48 = 1; decide
  have e2 : bits .and .i64 (hNum s).mode 4095 = 0 := by show bits .and .i64 0 4095 = 0; decide +kernel
  have e3 : (hNum s).form = 1 := rfl
  rw [fullE_eq, t0, t1, t2, t3, e1, e2, e3]
  simp [settleF, kindF, noE]
theorem aN_fit (W : World) (nm v : ByteArray) (s : Int) (hv : v.size ≤ 200) : Fit (hNum s) (aN W.heap.size nm v) (W.alloc (.cells #[.string nm, .string v] 45)) := by
  refine ⟨⟨⟨none, 0, rfl, by show (0 : Nat) ≤ _; omega, .inl rfl⟩, ⟨_, 1, rfl, by show (1 : Nat) ≤ _; omega, .inr ⟨_, 0, rfl, ?_⟩⟩⟩, by show (0 : Nat) ≤ _; omega, by show (1 : Nat) ≤ _; omega, by show (0 : Nat) ≤ _; omega, fun k => ?_⟩
  · intro i hi
    have hi' : i < 1 := hi
    match i, hi' with
    | 0, _ => exact ⟨alloc_cell W _ 45 0 _ rfl, alloc_cell W _ 45 1 _ rfl⟩
  · rw [aN_val]
    split
    · omega
    · show (0 : Nat) ≤ _; omega

def nmK : Nat → ByteArray | 0 => kUid | 1 => kGid | 2 => kSize | _ => kMtime
def ixK : Nat → Nat | 0 => 1 | 1 => 2 | 2 => 0 | _ => 3
def eNum (k : Nat) (s n : Int) : En := setN ⟨⟨#[97]⟩, noE, 1, 0, s, s, s, s, noE, noE⟩ n (ixK k)
theorem nm_apart (k : Nat) (hk : k < 4) : ∀ i, i < 4 → ¬ nmK k = ky i := by
  intro i hi
  match k, hk, i, hi with
  | 0, _, 0, _ => decide +kernel
  | 0, _, 1, _ => decide +kernel
  | 0, _, 2, _ => decide +kernel
  | 0, _, 3, _ => decide +kernel
  | 1, _, 0, _ => decide +kernel
  | 1, _, 1, _ => decide +kernel
  | 1, _, 2, _ => decide +kernel
  | 1, _, 3, _ => decide +kernel
  | 2, _, 0, _ => decide +kernel
  | 2, _, 1, _ => decide +kernel
  | 2, _, 2, _ => decide +kernel
  | 2, _, 3, _ => decide +kernel
  | 3, _, 0, _ => decide +kernel
  | 3, _, 1, _ => decide +kernel
  | 3, _, 2, _ => decide +kernel
  | 3, _, 3, _ => decide +kernel
theorem nm_hit (k : Nat) (hk : k < 4) : nmK k = kyN (ixK k) := by
  match k, hk with
  | 0, _ => rfl
  | 1, _ => rfl
  | 2, _ => rfl
  | 3, _ => rfl
theorem nm_miss (k i : Nat) (hk : k < 4) (hi : i < 4) (hne : ¬ i = ixK k) : ¬ nmK k = kyN i := by
  match k, hk, i, hi with
  | 0, _, 0, _ => decide +kernel
  | 0, _, 1, _ => exact absurd rfl hne
  | 0, _, 2, _ => decide +kernel
  | 0, _, 3, _ => decide +kernel
  | 1, _, 0, _ => decide +kernel
  | 1, _, 1, _ => decide +kernel
  | 1, _, 2, _ => exact absurd rfl hne
  | 1, _, 3, _ => decide +kernel
  | 2, _, 0, _ => exact absurd rfl hne
  | 2, _, 1, _ => decide +kernel
  | 2, _, 2, _ => decide +kernel
  | 2, _, 3, _ => decide +kernel
  | 3, _, 0, _ => decide +kernel
  | 3, _, 1, _ => decide +kernel
  | 3, _, 2, _ => decide +kernel
  | 3, _, 3, _ => exact absurd rfl hne
theorem kN_num (k : Nat) (hk : k < 4) (g : Nat) (v : ByteArray) (s : Int) (i : Nat) (hi : i < 4) : numV (hNum s) (aN g (nmK k) v) i = if i = ixK k then (if emp v then some s else nval v) else some s := by
  rw [aN_num g _ v s i hi]
  by_cases c : i = ixK k
  · subst c; rw [if_pos (nm_hit k hk), if_pos rfl]
  · rw [if_neg (nm_miss k i hk hi c), if_neg c]
/-- the number that a record says, or the header's -/
def theN (v : ByteArray) (s : Int) : Option Int := if emp v then some s else nval v
theorem kN_bad (k : Nat) (hk : k < 4) (g : Nat) (v : ByteArray) (s : Int) : badN (hNum s) (aN g (nmK k) v) ↔ theN v s = none := by
  constructor
  · rintro ⟨i, hi, h⟩
    rw [kN_num k hk g v s i hi] at h
    split at h
    · exact h
    · cases h
  · intro h
    have hj : ixK k < 4 := by
      match k, hk with
      | 0, _ => decide
      | 1, _ => decide
      | 2, _ => decide
      | 3, _ => decide
    exact ⟨ixK k, hj, by rw [kN_num k hk g v s _ hj, if_pos rfl]; exact h⟩
theorem kN_full (k : Nat) (hk : k < 4) (g : Nat) (v : ByteArray) (s n : Int) (h : theN v s = some n) : fullE (hNum s) (aN g (nmK k) v) = eNum k s n := by
  have hz : ∀ i, i < 4 → (numV (hNum s) (aN g (nmK k) v) i).getD 0 = if i = ixK k then n else s := fun i hi => by
    rw [kN_num k hk g v s i hi]
    unfold theN at h
    rw [h]
    split <;> rfl
  rw [aN_full g (nmK k) v s (nm_apart k hk 0 (by omega)) (nm_apart k hk 1 (by omega)) (nm_apart k hk 2 (by omega)) (nm_apart k hk 3 (by omega)), hz 0 (by omega), hz 1 (by omega), hz 2 (by omega), hz 3 (by omega)]
  match k, hk with
  | 0, _ => rfl
  | 1, _ => rfl
  | 2, _ => rfl
  | 3, _ => rfl
theorem kN_neg (k : Nat) (hk : k < 4) (g : Nat) (v : ByteArray) (s n : Int) (hs : 0 ≤ s) (h : theN v s = some n) : neg (hNum s) (aN g (nmK k) v) ↔ (n < 0 ∧ ¬ k = 3) := by
  unfold neg
  rw [kN_full k hk g v s n h]
  match k, hk with
  | 0, _ => show (s < 0 ∨ n < 0 ∨ s < 0) ↔ _; omega
  | 1, _ => show (s < 0 ∨ s < 0 ∨ n < 0) ↔ _; omega
  | 2, _ => show (n < 0 ∨ s < 0 ∨ s < 0) ↔ _; omega
  | 3, _ => show (s < 0 ∨ s < 0 ∨ s < 0) ↔ _; omega

theorem ix42_0 (w : World) : (Instr.index 42 (.agg #[.string ⟨#[117, 105, 100]⟩, .string ⟨#[103, 105, 100]⟩, .string ⟨#[115, 105, 122, 101]⟩, .string ⟨#[109, 116, 105, 109, 101]⟩]) (.int .i64 0)).run Tryd.prog w = .ok (.string ⟨#[117, 105, 100]⟩) w := by kernel_rfl
theorem ix53_0 (a b c d : Int) (w : World) : (Instr.index 53 (.agg #[.int .i64 a, .int .i64 b, .int .i64 c, .int .i64 d]) (.int .i64 0)).run Tryd.prog w = .ok (.int .i64 a) w := by kernel_rfl
theorem ix42_1 (w : World) : (Instr.index 42 (.agg #[.string ⟨#[117, 105, 100]⟩, .string ⟨#[103, 105, 100]⟩, .string ⟨#[115, 105, 122, 101]⟩, .string ⟨#[109, 116, 105, 109, 101]⟩]) (.int .i64 1)).run Tryd.prog w = .ok (.string ⟨#[103, 105, 100]⟩) w := by kernel_rfl
theorem ix53_1 (a b c d : Int) (w : World) : (Instr.index 53 (.agg #[.int .i64 a, .int .i64 b, .int .i64 c, .int .i64 d]) (.int .i64 1)).run Tryd.prog w = .ok (.int .i64 b) w := by kernel_rfl
theorem ix42_2 (w : World) : (Instr.index 42 (.agg #[.string ⟨#[117, 105, 100]⟩, .string ⟨#[103, 105, 100]⟩, .string ⟨#[115, 105, 122, 101]⟩, .string ⟨#[109, 116, 105, 109, 101]⟩]) (.int .i64 2)).run Tryd.prog w = .ok (.string ⟨#[115, 105, 122, 101]⟩) w := by kernel_rfl
theorem ix53_2 (a b c d : Int) (w : World) : (Instr.index 53 (.agg #[.int .i64 a, .int .i64 b, .int .i64 c, .int .i64 d]) (.int .i64 2)).run Tryd.prog w = .ok (.int .i64 c) w := by kernel_rfl
theorem ix42_3 (w : World) : (Instr.index 42 (.agg #[.string ⟨#[117, 105, 100]⟩, .string ⟨#[103, 105, 100]⟩, .string ⟨#[115, 105, 122, 101]⟩, .string ⟨#[109, 116, 105, 109, 101]⟩]) (.int .i64 3)).run Tryd.prog w = .ok (.string ⟨#[109, 116, 105, 109, 101]⟩) w := by kernel_rfl
theorem ix53_3 (a b c d : Int) (w : World) : (Instr.index 53 (.agg #[.int .i64 a, .int .i64 b, .int .i64 c, .int .i64 d]) (.int .i64 3)).run Tryd.prog w = .ok (.int .i64 d) w := by kernel_rfl

theorem num_bad (k : Nat) (hk : k < 4) (v : ByteArray) (s : Int) (hv : v.size ≤ 200) (w : World) (hV : Vs w) (h : theN v s = none) :
    ∀ W, Below w.heap.size w W → Calls Tryd.prog 10 #[.agg (hNum s).cells, .agg (aN W.heap.size (nmK k) v).cells] (W.alloc (.cells #[.string (nmK k), .string v] 45)) fun ev w' => ev = .returned (.tuple #[.agg zeroE.cells, .int .i64 70]) ∧ Below w.heap.size w w' := fun W hb => by
  have hb' := hb.alloc hb.size (.cells #[.string (nmK k), .string v] 45)
  refine (make_bad (aN_fit W (nmK k) v s hv) (hV.below hb') (by show ¬ kd 48 = 0; decide) ((kN_bad k hk _ v s).2 h)).mono ?_
  rintro ev w' ⟨x, y⟩
  exact ⟨x, hb'.trans (y.mono hb'.size)⟩
theorem num_neg (k : Nat) (hk : k < 4) (v : ByteArray) (s n : Int) (hs : 0 ≤ s) (hv : v.size ≤ 200) (w : World) (hV : Vs w) (h : theN v s = some n) (hn : n < 0) (h3 : ¬ k = 3) :
    ∀ W, Below w.heap.size w W → Calls Tryd.prog 10 #[.agg (hNum s).cells, .agg (aN W.heap.size (nmK k) v).cells] (W.alloc (.cells #[.string (nmK k), .string v] 45)) fun ev w' => ev = .returned (.tuple #[.agg zeroE.cells, .int .i64 90]) ∧ Below w.heap.size w w' := fun W hb => by
  have hb' := hb.alloc hb.size (.cells #[.string (nmK k), .string v] 45)
  refine (make_neg (aN_fit W (nmK k) v s hv) (hV.below hb') (by show ¬ kd 48 = 0; decide) (fun hB => by rw [(kN_bad k hk _ v s).1 hB] at h; cases h) ((kN_neg k hk _ v s n hs h).2 ⟨hn, h3⟩)).mono ?_
  rintro ev w' ⟨x, y⟩
  exact ⟨x, hb'.trans (y.mono hb'.size)⟩
theorem num_ok (k : Nat) (hk : k < 4) (v : ByteArray) (s n : Int) (hs : 0 ≤ s) (hv : v.size ≤ 200) (w : World) (hV : Vs w) (h : theN v s = some n) (hn : ¬ (n < 0 ∧ ¬ k = 3)) :
    ∀ W, Below w.heap.size w W → Calls Tryd.prog 10 #[.agg (hNum s).cells, .agg (aN W.heap.size (nmK k) v).cells] (W.alloc (.cells #[.string (nmK k), .string v] 45)) fun ev w' => ev = .returned (.tuple #[.agg (eNum k s n).cells, .int .i64 0]) ∧ Below w.heap.size w w' := fun W hb => by
  have hb' := hb.alloc hb.size (.cells #[.string (nmK k), .string v] 45)
  refine (make_ok (aN_fit W (nmK k) v s hv) (hV.below hb') (by show ¬ kd 48 = 0; decide) (fun hB => by rw [(kN_bad k hk _ v s).1 hB] at h; cases h) (fun hN => hn ((kN_neg k hk _ v s n hs h).1 hN))).mono ?_
  rintro ev w' ⟨x, y⟩
  rw [kN_full k hk _ v s n h] at x
  exact ⟨x, hb'.trans (y.mono hb'.size)⟩

end Go.Proofs.YtjnmmkohmfhnlaaDoor
