/-
  Make, way by way; the laws' head.
-/
import Derived.Test.YtjnmmkohmfhnlabDoorMk
namespace Go.Proofs.YtjnmmkohmfhnlabDoor
open Go.RowKit
set_option linter.unusedVariables false
set_option linter.unusedSimpArgs false

/-- what Make is handed -/
structure Fit (h : Hd) (a : Ah) (w : World) : Prop where
  isIn : a.In w
  p : h.prefx.size ≤ 140737488355328
  n : h.name.size ≤ 140737488355328
  l : a.name.size ≤ 140737488355328
  v : ∀ k, (a.val k).size ≤ 281474976710656

def neg (h : Hd) (a : Ah) : Prop := (fullE h a).size < 0 ∨ (fullE h a).uid < 0 ∨ (fullE h a).gid < 0

theorem make_kind {h : Hd} {a : Ah} {w : World} (f : Fit h a w) (hVs : Vs w) (hk : kd h.typ = 0) :
    Calls Tryd.prog 4 #[.agg h.cells, .agg a.cells] w fun ev w' => ev = .returned (.tuple #[.agg zeroE.cells, .int .i64 80]) ∧ Below w.heap.size w w' :=
  (make_w h a w f.isIn hVs f.p f.n f.l f.v).mono fun ev w' ⟨x, b⟩ => by
    rcases x with ⟨_, x⟩ | ⟨y, _⟩ | ⟨y, _⟩ | ⟨y, _⟩
    · exact ⟨x, b⟩
    all_goals exact absurd hk y

theorem make_bad {h : Hd} {a : Ah} {w : World} (f : Fit h a w) (hVs : Vs w) (hk : ¬ kd h.typ = 0) (hb : badN h a) :
    Calls Tryd.prog 4 #[.agg h.cells, .agg a.cells] w fun ev w' => ev = .returned (.tuple #[.agg zeroE.cells, .int .i64 70]) ∧ Below w.heap.size w w' :=
  (make_w h a w f.isIn hVs f.p f.n f.l f.v).mono fun ev w' ⟨x, b⟩ => by
    rcases x with ⟨y, _⟩ | ⟨_, _, x⟩ | ⟨_, y, _⟩ | ⟨_, y, _⟩
    · exact absurd y hk
    · exact ⟨x, b⟩
    all_goals exact absurd hb y

theorem make_neg {h : Hd} {a : Ah} {w : World} (f : Fit h a w) (hVs : Vs w) (hk : ¬ kd h.typ = 0) (hb : ¬ badN h a) (hn : neg h a) :
    Calls Tryd.prog 4 #[.agg h.cells, .agg a.cells] w fun ev w' => ev = .returned (.tuple #[.agg zeroE.cells, .int .i64 90]) ∧ Below w.heap.size w w' :=
  (make_w h a w f.isIn hVs f.p f.n f.l f.v).mono fun ev w' ⟨x, b⟩ => by
    rcases x with ⟨y, _⟩ | ⟨_, y, _⟩ | ⟨_, _, _, x⟩ | ⟨_, _, y, _⟩
    · exact absurd y hk
    · exact absurd y hb
    · exact ⟨x, b⟩
    · exact absurd hn y

theorem make_ok {h : Hd} {a : Ah} {w : World} (f : Fit h a w) (hVs : Vs w) (hk : ¬ kd h.typ = 0) (hb : ¬ badN h a) (hn : ¬ neg h a) :
    Calls Tryd.prog 4 #[.agg h.cells, .agg a.cells] w fun ev w' => ev = .returned (.tuple #[.agg (fullE h a).cells, .int .i64 0]) ∧ Below w.heap.size w w' :=
  (make_w h a w f.isIn hVs f.p f.n f.l f.v).mono fun ev w' ⟨x, b⟩ => by
    rcases x with ⟨y, _⟩ | ⟨_, y, _⟩ | ⟨_, _, y, _⟩ | ⟨_, _, _, x⟩
    · exact absurd y hk
    · exact absurd y hb
    · exact absurd y hn
    · exact ⟨x, b⟩

theorem fullE_eq (h : Hd) (a : Ah) : fullE h a = settleF ⟨tx h a 0, tx h a 1, kd h.typ, bits .and .i64 h.mode 4095, (numV h a 1).getD 0, (numV h a 2).getD 0, (numV h a 3).getD 0, (numV h a 0).getD 0, tx h a 2, tx h a 3⟩ h.form := rfl

/-! ### no records -/
def noE : ByteArray := ⟨#[]⟩
def noA (name link : ByteArray) : Ah := ⟨.slice none 0 0, .slice none 0 0, fun _ => noE, fun _ => noE, 0, fun _ => noE, fun _ => noE, 0, name, link⟩
theorem noA_val (name link k : ByteArray) : (noA name link).val k = ⟨#[]⟩ := rfl
theorem emp_none : emp ⟨#[]⟩ = true := by decide +kernel
theorem noA_num (h : Hd) (name link : ByteArray) (k : Nat) : numV h (noA name link) k = some (hdN h k) := by
  unfold numV; rw [noA_val, emp_none]; rfl
theorem noA_bad (h : Hd) (name link : ByteArray) : ¬ badN h (noA name link) := fun ⟨k, _, hk⟩ => by rw [noA_num] at hk; cases hk
theorem noA_in (name link : ByteArray) (w : World) : (noA name link).In w := ⟨⟨none, 0, rfl, by show (0 : Nat) ≤ _; omega, .inl rfl⟩, ⟨none, 0, rfl, by show (0 : Nat) ≤ _; omega, .inl rfl⟩⟩
theorem noA_fit (h : Hd) (name link : ByteArray) (w : World) (h1 : h.prefx.size ≤ 140737488355328) (h2 : h.name.size ≤ 140737488355328) (h3 : name.size ≤ 140737488355328) : Fit h (noA name link) w :=
  ⟨noA_in name link w, h1, h2, h3, fun k => by rw [noA_val]; show (0 : Nat) ≤ _; omega⟩
def or2 (a b : ByteArray) : ByteArray := if emp a then b else a
theorem or3_none (b c : ByteArray) : or3 ⟨#[]⟩ b c = or2 b c := by
  unfold or3 or2; rw [emp_none]; rfl
theorem or2_none (b : ByteArray) : or2 noE b = b := by
  unfold or2 noE; rw [emp_none]; rfl
theorem noA_tx (h : Hd) (name link : ByteArray) (k : Nat) : tx h (noA name link) k = or2 (lg (noA name link) k) (hdr h k) := by
  unfold tx; rw [noA_val, or3_none]
theorem noA_full (h : Hd) (name link : ByteArray) : fullE h (noA name link) = settleF ⟨or2 name h.full, or2 link h.link, kd h.typ, bits .and .i64 h.mode 4095, h.uid, h.gid, h.mtime, h.size, h.user, h.group⟩ h.form := by
  have e2 : tx h (noA name link) 2 = h.user := (noA_tx h name link 2).trans (or2_none _)
  have e3 : tx h (noA name link) 3 = h.group := (noA_tx h name link 3).trans (or2_none _)
  rw [fullE_eq, e2, e3, noA_tx, noA_tx, noA_num, noA_num, noA_num, noA_num]
  rfl

/-! ### the head of the laws -/
end Go.Proofs.YtjnmmkohmfhnlabDoor
