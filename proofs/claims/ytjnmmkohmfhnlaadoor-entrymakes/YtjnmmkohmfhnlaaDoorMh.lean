/-
  Make, way by way; the laws' head.
-/
import Derived.Test.YtjnmmkohmfhnlaaDoorMk
import Derived.Test.YtjnmmkohmfhnlaaDoorPad
namespace Go.Proofs.YtjnmmkohmfhnlaaDoor
open Go.RowKit
set_option linter.unusedVariables false
set_option linter.unusedSimpArgs false

/-- what Make is handed -/
structure Fit (h : Hd) (a : Ah) (w : World) : Prop where
  isIn : a.In w
  p : h.prefx.size ≤ 140737488355328
  n : h.name.size ≤ 140737488355328
  l : a.name.size ≤ 140737488355328
  v : ∀ k, (a.val k).size ≤ 281474976710656

def neg (h : Hd) (a : Ah) : Prop := (fullE h a).size < 0 ∨ (fullE h a).uid < 0 ∨ (fullE h a).gid < 0

theorem make_kind {h : Hd} {a : Ah} {w : World} (f : Fit h a w) (hVs : Vs w) (hk : kd h.typ = 0) :
    Calls Tryd.prog 10 #[.agg h.cells, .agg a.cells] w fun ev w' => ev = .returned (.tuple #[.agg zeroE.cells, .int .i64 80]) ∧ Below w.heap.size w w' :=
  (make_w h a w f.isIn hVs f.p f.n f.l f.v).mono fun ev w' ⟨x, b⟩ => by
    rcases x with ⟨_, x⟩ | ⟨y, _⟩ | ⟨y, _⟩ | ⟨y, _⟩
    · exact ⟨x, b⟩
    all_goals exact absurd hk y

theorem make_bad {h : Hd} {a : Ah} {w : World} (f : Fit h a w) (hVs : Vs w) (hk : ¬ kd h.typ = 0) (hb : badN h a) :
    Calls Tryd.prog 10 #[.agg h.cells, .agg a.cells] w fun ev w' => ev = .returned (.tuple #[.agg zeroE.cells, .int .i64 70]) ∧ Below w.heap.size w w' :=
  (make_w h a w f.isIn hVs f.p f.n f.l f.v).mono fun ev w' ⟨x, b⟩ => by
    rcases x with ⟨y, _⟩ | ⟨_, _, x⟩ | ⟨_, y, _⟩ | ⟨_, y, _⟩
    · exact absurd y hk
    · exact ⟨x, b⟩
    all_goals exact absurd hb y

theorem make_neg {h : Hd} {a : Ah} {w : World} (f : Fit h a w) (hVs : Vs w) (hk : ¬ kd h.typ = 0) (hb : ¬ badN h a) (hn : neg h a) :
    Calls Tryd.prog 10 #[.agg h.cells, .agg a.cells] w fun ev w' => ev = .returned (.tuple #[.agg zeroE.cells, .int .i64 90]) ∧ Below w.heap.size w w' :=
  (make_w h a w f.isIn hVs f.p f.n f.l f.v).mono fun ev w' ⟨x, b⟩ => by
    rcases x with ⟨y, _⟩ | ⟨_, y, _⟩ | ⟨_, _, _, x⟩ | ⟨_, _, y, _⟩
    · exact absurd y hk
    · exact absurd y hb
    · exact ⟨x, b⟩
    · exact absurd hn y

theorem make_ok {h : Hd} {a : Ah} {w : World} (f : Fit h a w) (hVs : Vs w) (hk : ¬ kd h.typ = 0) (hb : ¬ badN h a) (hn : ¬ neg h a) :
    Calls Tryd.prog 10 #[.agg h.cells, .agg a.cells] w fun ev w' => ev = .returned (.tuple #[.agg (fullE h a).cells, .int .i64 0]) ∧ Below w.heap.size w w' :=
  (make_w h a w f.isIn hVs f.p f.n f.l f.v).mono fun ev w' ⟨x, b⟩ => by
    rcases x with ⟨y, _⟩ | ⟨_, y, _⟩ | ⟨_, _, y, _⟩ | ⟨_, _, _, x⟩
    · exact absurd y hk
    · exact absurd y hb
    · exact absurd y hn
    · exact ⟨x, b⟩

theorem fullE_eq (h : Hd) (a : Ah) : fullE h a = settleF ⟨tx h a 0, tx h a 1, kd h.typ, bits .and .i64 h.mode 4095, (numV h a 1).getD 0, (numV h a 2).getD 0, (numV h a 3).getD 0, (numV h a 0).getD 0, tx h a 2, tx h a 3⟩ h.form := rfl

/-! ### no records -/
def noE : ByteArray := ⟨#[]⟩
def noA (name link : ByteArray) : Ah := ⟨.slice none 0 0, .slice none 0 0, fun _ => noE, fun _ => noE, 0, fun _ => noE, fun _ => noE, 0, name, link⟩
theorem noA_val (name link k : ByteArray) : (noA name link).val k = ⟨#[]⟩ := rfl
theorem emp_none : emp ⟨#[]⟩ = true := by decide +kernel
theorem noA_num (h : Hd) (name link : ByteArray) (k : Nat) : numV h (noA name link) k = some (hdN h k) := by
  unfold numV; rw [noA_val, emp_none]; rfl
theorem noA_bad (h : Hd) (name link : ByteArray) : ¬ badN h (noA name link) := fun ⟨k, _, hk⟩ => by rw [noA_num] at hk; cases hk
theorem noA_in (name link : ByteArray) (w : World) : (noA name link).In w := ⟨⟨none, 0, rfl, by show (0 : Nat) ≤ _; omega, .inl rfl⟩, ⟨none, 0, rfl, by show (0 : Nat) ≤ _; omega, .inl rfl⟩⟩
theorem noA_fit (h : Hd) (name link : ByteArray) (w : World) (h1 : h.prefx.size ≤ 140737488355328) (h2 : h.name.size ≤ 140737488355328) (h3 : name.size ≤ 140737488355328) : Fit h (noA name link) w :=
  ⟨noA_in name link w, h1, h2, h3, fun k => by rw [noA_val]; show (0 : Nat) ≤ _; omega⟩
def or2 (a b : ByteArray) : ByteArray := if emp a then b else a
theorem or3_none (b c : ByteArray) : or3 ⟨#[]⟩ b c = or2 b c := by
  unfold or3 or2; rw [emp_none]; rfl
theorem or2_none (b : ByteArray) : or2 noE b = b := by
  unfold or2 noE; rw [emp_none]; rfl
theorem noA_tx (h : Hd) (name link : ByteArray) (k : Nat) : tx h (noA name link) k = or2 (lg (noA name link) k) (hdr h k) := by
  unfold tx; rw [noA_val, or3_none]
theorem noA_full (h : Hd) (name link : ByteArray) : fullE h (noA name link) = settleF ⟨or2 name h.full, or2 link h.link, kd h.typ, bits .and .i64 h.mode 4095, h.uid, h.gid, h.mtime, h.size, h.user, h.group⟩ h.form := by
  have e2 : tx h (noA name link) 2 = h.user := (noA_tx h name link 2).trans (or2_none _)
  have e3 : tx h (noA name link) 3 = h.group := (noA_tx h name link 3).trans (or2_none _)
  rw [fullE_eq, e2, e3, noA_tx, noA_tx, noA_num, noA_num, noA_num, noA_num]
  rfl

/-! ### the head of the laws -/
def bcS : ByteArray := ⟨#[98, 47, 99]⟩
def hMk : Hd := ⟨1, ⟨#[97]⟩, noE, noE, noE, noE, 48, 33188, 0, 0, 5, 0⟩
def aMk (g : Nat) : Ah := ⟨.slice none 0 0, .slice (some ⟨g, 0, none⟩) 2 2, fun _ => noE, fun _ => noE, 0, fun i => if i = 0 then kPath else kMtime, fun i => if i = 0 then bcS else ⟨#[55]⟩, 2, noE, noE⟩

theorem nval7 : nval ⟨#[55]⟩ = some 7 := by
  have e1 : Lib.parseIntB 64 [55] = .ok 7 := by decide +kernel
  have e2 : num 7 = ⟨#[55]⟩ := by
    unfold num
    have : Lib.itoa 7 = [55] := by
      show Lib.itoa ((7 : Nat) : Int) = [55]
      unfold Lib.itoa
      rw [if_neg (by omega)]
      rw [Lib.decDigits, dif_pos (by decide)]
      decide +kernel
    rw [this]
  unfold nval
  have e0 : (⟨#[55]⟩ : ByteArray).data.toList = [55] := rfl
  rw [e0, e1]
  simp only
  rw [if_pos e2]

theorem aMk_0 (g : Nat) : numV hMk (aMk g) 0 = some 5 := by
  unfold numV; rw [show (aMk g).val (kyN 0) = ⟨#[]⟩ by kernel_rfl, emp_none]; rfl
theorem aMk_1 (g : Nat) : numV hMk (aMk g) 1 = some 0 := by
  unfold numV; rw [show (aMk g).val (kyN 1) = ⟨#[]⟩ by kernel_rfl, emp_none]; rfl
theorem aMk_2 (g : Nat) : numV hMk (aMk g) 2 = some 0 := by
  unfold numV; rw [show (aMk g).val (kyN 2) = ⟨#[]⟩ by kernel_rfl, emp_none]; rfl
theorem emp55 : emp ⟨#[55]⟩ = false := by decide +kernel
theorem aMk_3 (g : Nat) : numV hMk (aMk g) 3 = some 7 := by
  unfold numV; rw [show (aMk g).val (kyN 3) = ⟨#[55]⟩ by kernel_rfl, emp55, nval7]; rfl
theorem aMk_bad (g : Nat) : ¬ badN hMk (aMk g) := fun ⟨k, hk4, hk⟩ => by
  match k, hk4 with
  | 0, _ => rw [aMk_0] at hk; cases hk
  | 1, _ => rw [aMk_1] at hk; cases hk
  | 2, _ => rw [aMk_2] at hk; cases hk
  | 3, _ => rw [aMk_3] at hk; cases hk
def eMk : En := ⟨bcS, noE, 1, 420, 0, 0, 7, 5, noE, noE⟩
theorem empBc : emp bcS = false := by decide +kernel
theorem aMk_t0 (g : Nat) : tx hMk (aMk g) 0 = bcS := by
  unfold tx; rw [show (aMk g).val (ky 0) = bcS by kernel_rfl]; unfold or3; rw [empBc]; rfl
theorem aMk_t1 (g : Nat) : tx hMk (aMk g) 1 = noE := by
  unfold tx; rw [show (aMk g).val (ky 1) = ⟨#[]⟩ by kernel_rfl, or3_none]; exact or2_none _
theorem aMk_t2 (g : Nat) : tx hMk (aMk g) 2 = noE := by
  unfold tx; rw [show (aMk g).val (ky 2) = ⟨#[]⟩ by kernel_rfl, or3_none]; exact or2_none _
theorem aMk_t3 (g : Nat) : tx hMk (aMk g) 3 = noE := by
  unfold tx; rw [show (aMk g).val (ky 3) = ⟨#[]⟩ by kernel_rfl, or3_none]; exact or2_none _
theorem mode420 : bits .and .i64 33188 4095 = 420 := by decide +kernel
theorem aMk_full (g : Nat) : fullE hMk (aMk g) = eMk := by
  rw [fullE_eq, aMk_0, aMk_1, aMk_2, aMk_3, aMk_t0, aMk_t1, aMk_t2, aMk_t3]
  have e1 : kd hMk.typ = 1 := by decide
  have e2 : bits .and .i64 hMk.mode 4095 = 420 := mode420
  have e3 : hMk.form = 1 := rfl
  rw [e1, e2, e3]
  simp [settleF, kindF, eMk, noE]
theorem aMk_neg (g : Nat) : ¬ neg hMk (aMk g) := by
  unfold neg
  rw [aMk_full]
  show ¬ ((5 : Int) < 0 ∨ (0 : Int) < 0 ∨ (0 : Int) < 0)
  omega
theorem aMk_val (g : Nat) (k : ByteArray) : ((aMk g).val k).size ≤ 281474976710656 := by
  unfold Ah.val
  show (if (lastOf (aMk g).lK (aMk g).lV k 2).2 then (lastOf (aMk g).lK (aMk g).lV k 2).1 else _).size ≤ _
  have : (lastOf (aMk g).lK (aMk g).lV k 2).1.size ≤ 3 := by
    simp only [lastOf]
    split
    · show (1 : Nat) ≤ 3; omega
    · split
      · show (3 : Nat) ≤ 3; omega
      · show (0 : Nat) ≤ 3; omega
  split
  · omega
  · show (0 : Nat) ≤ _; omega

theorem makes_q (w W : World) (hVs : Vs w) (hb : Below w.heap.size w W) : Calls Tryd.prog 10 #[.agg hMk.cells, .agg (aMk W.heap.size).cells] (W.alloc (.cells #[.string ⟨#[112, 97, 116, 104]⟩, .string ⟨#[98, 47, 99]⟩, .string ⟨#[109, 116, 105, 109, 101]⟩, .string ⟨#[55]⟩] 45)) fun ev w' => ev = .returned (.tuple #[.agg eMk.cells, .int .i64 0]) ∧ Below w.heap.size w w' := by
  have hb' := hb.alloc hb.size (.cells #[.string ⟨#[112, 97, 116, 104]⟩, .string ⟨#[98, 47, 99]⟩, .string ⟨#[109, 116, 105, 109, 101]⟩, .string ⟨#[55]⟩] 45)
  have f : Fit hMk (aMk W.heap.size) (W.alloc (.cells #[.string ⟨#[112, 97, 116, 104]⟩, .string ⟨#[98, 47, 99]⟩, .string ⟨#[109, 116, 105, 109, 101]⟩, .string ⟨#[55]⟩] 45)) := by
    refine ⟨⟨⟨none, 0, rfl, by show (0 : Nat) ≤ _; omega, .inl rfl⟩, ⟨_, 2, rfl, by show (2 : Nat) ≤ _; omega, .inr ⟨_, 0, rfl, ?_⟩⟩⟩, by show (0 : Nat) ≤ _; omega, by show (1 : Nat) ≤ _; omega, by show (0 : Nat) ≤ _; omega, aMk_val _⟩
    intro i hi
    have key : ∀ j v, (#[.string ⟨#[112, 97, 116, 104]⟩, .string ⟨#[98, 47, 99]⟩, .string ⟨#[109, 116, 105, 109, 101]⟩, .string ⟨#[55]⟩] : Array Value)[j]? = some v → (W.alloc (.cells #[.string ⟨#[112, 97, 116, 104]⟩, .string ⟨#[98, 47, 99]⟩, .string ⟨#[109, 116, 105, 109, 101]⟩, .string ⟨#[55]⟩] 45)).cell? ⟨W.heap.size, j, none⟩ = some v := fun j v h => alloc_cell W _ 45 j v h
    have hi' : i < 2 := hi
    match i, hi' with
    | 0, _ => exact ⟨key 0 _ rfl, key 1 _ rfl⟩
    | 1, _ => exact ⟨key 2 _ rfl, key 3 _ rfl⟩
  refine (make_ok f (hVs.below hb') (by decide) (aMk_bad _) (aMk_neg _)).mono ?_
  rintro ev w' ⟨x, y⟩
  rw [aMk_full] at x
  exact ⟨x, hb'.trans (y.mono hb'.size)⟩

set_option maxHeartbeats 2000000 in
theorem makes_w (w : World) (hVs : Vs w) : Calls Tryd.prog 9 #[] w fun e w' => e = .returned (.bool true) ∧ Below w.heap.size w w' := by
  have q := makes_q w (w.alloc (.cells hMk.cells 23)) hVs ((Below.refl _ w).alloc (Nat.le_refl _) _)
  have z : (w.alloc (.cells hMk.cells 23)).heap.size = w.heap.size + 1 := by simp
  rw [z] at q
  clear z
  simp only [hMk, aMk, eMk, Hd.cells, Ah.cells, En.cells, noE, bcS] at q
  have qp := fun W => pad_w 5 W (by decide) (by decide)
  have qp2 := fun W => pad_w 512 W (by decide) (by decide)
  go_enter Tryd.func9, Tryd.ntmps9
  go_wp2_with (first | (go_at_call 10; refine q.mono ?_; rintro e w1 ⟨rfl, b1⟩) | (go_at_call 15; first | (refine (qp _).mono ?_; rintro e w2 ⟨rfl, rfl⟩) | (refine (qp2 _).mono ?_; rintro e w2 ⟨rfl, rfl⟩)))
  go_ret
  exact ⟨rfl, (b1.alloc b1.size _).alloc (Nat.le_trans b1.size (by simp)) _⟩

end Go.Proofs.YtjnmmkohmfhnlaaDoor
