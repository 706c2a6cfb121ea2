/-
  Contracts: strings.IndexByte, head.hasNul, head.Fits, strings.Cut at a byte 0.
-/
import Derived.Test.YtnmmaedngdibeaaGreatDoorHStr
import Derived.Test.YtnmmaedngdibeaaGreatDoorHRight
import Derived.Lib.Bytealg
import Derived.Lib.IndexLaws
import Derived.WalkKit
import Derived.Below
namespace Go.Proofs.YtnmmaedngdibeaaGreatDoor.H
open Go.RowKit
set_option linter.unusedVariables false
set_option linter.unusedSimpArgs false

def idx (s : ByteArray) (c : UInt8) : Int := Lib.indexByte s.data.toList c

set_option maxRecDepth 20000 in
theorem index46 (s : ByteArray) (c : Int) (w : World) :
    Calls Tryz.prog 102 #[.string s, .int .u8 c] w fun e w' => e = .returned (.int .i64 (idx s c.toNat.toUInt8)) ∧ w = w' := by
  go_enter Tryz.func102, Tryz.ntmps102
  go_wp2
  rw [run_callFunc_extern Tryz.func119 (by kernel_rfl) (by kernel_rfl) (by kernel_rfl) (e := Extern.BytealgIndexByte.indexByte) (by kernel_rfl), Lib.run_indexByteString]
  simp only [Result.andThen]
  rw [Oper.upon_value]
  go_wp2
  go_ret
  exact ⟨rfl, rfl⟩

theorem index35 (s : ByteArray) (c : Int) (w : World) :
    Calls Tryz.prog 82 #[.string s, .int .u8 c] w fun e w' => e = .returned (.int .i64 (idx s c.toNat.toUInt8)) ∧ w = w' := by
  have q := index46 s c w
  go_enter Tryz.func82, Tryz.ntmps82
  go_wp2_with fail
  refine q.mono ?_
  rintro e w' ⟨rfl, rfl⟩
  go_wp2
  go_ret
  exact ⟨rfl, rfl⟩

def hasN (s : ByteArray) : Bool := decide (0 ≤ idx s 0)

theorem hasNul_w (s : ByteArray) (w : World) : Calls Tryz.prog 66 #[.string s] w fun e w' => e = .returned (.bool (hasN s)) ∧ w = w' := by
  have q := index35 s 0 w
  unfold hasN
  rw [show (0 : Int).toNat.toUInt8 = 0 from rfl] at q
  generalize idx s 0 = i at *
  by_cases c : 0 ≤ i
  · go_enter Tryz.func66, Tryz.ntmps66
    go_wp2_with fail
    refine q.mono ?_
    rintro e w' ⟨rfl, rfl⟩
    go_wp2
    go_ret
    exact ⟨by simp [c], rfl⟩
  · go_enter Tryz.func66, Tryz.ntmps66
    go_wp2_with fail
    refine q.mono ?_
    rintro e w' ⟨rfl, rfl⟩
    go_wp2
    go_ret
    exact ⟨by simp [c], rfl⟩

def fitsT (s : ByteArray) (m : Int) : Bool := decide ((s.size : Int) ≤ m) && !hasN s

theorem fitsT_w (s : ByteArray) (m : Int) (w : World) : Calls Tryz.prog 49 #[.string s, .int .i64 m] w fun e w' => e = .returned (.bool (fitsT s m)) ∧ w = w' := by
  have q := hasNul_w s w
  unfold fitsT
  generalize hasN s = b at *
  by_cases c : (s.size : Int) ≤ m
  · go_enter Tryz.func49, Tryz.ntmps49
    go_wp2_with fail
    refine q.mono ?_
    rintro e w' ⟨rfl, rfl⟩
    go_wp2
    go_ret
    exact ⟨by simp [c], rfl⟩
  · have c' : decide ((s.size : Int) ≤ m) = false := decide_eq_false c
    rw [c']
    go_enter Tryz.func49, Tryz.ntmps49
    go_wp2
    go_ret
    exact ⟨by simp, rfl⟩

/-- the string of one byte 0 -/
theorem one_of (s : ByteArray) (h : ([0] == s.toList) = true) : s = ⟨#[0]⟩ := by
  have h1 : s.toList = [0] := by simpa using (eq_of_beq h).symm
  rw [ByteArray.toList_eq] at h1
  cases s with
  | mk d =>
    congr 1
    apply Array.ext'
    simpa using h1

theorem index53 (s : ByteArray) (w : World) : Calls Tryz.prog 122 #[.string s, .string ⟨#[0]⟩] w fun e w' => e = .returned (.int .i64 (idx s 0)) ∧ w = w' := by
  have q := index46 s 0 w
  rw [show (0 : Int).toNat.toUInt8 = 0 from rfl] at q
  cases hE : ([0] == s.toList) with
  | true =>
    have hi : idx s 0 = 0 := by rw [one_of s hE]; decide
    rw [hi]
    clear q hi
    go_enter Tryz.func122, Tryz.ntmps122
    go_wp2
    go_ret
    exact ⟨rfl, rfl⟩
  | false =>
    go_enter Tryz.func122, Tryz.ntmps122
    go_wp2_with fail
    refine q.mono ?_
    rintro e w' ⟨rfl, rfl⟩
    go_wp2
    go_ret
    exact ⟨rfl, rfl⟩

/-- a text ends ahead of its first byte 0 -/
def txt (zs : List Int) : List Int := zs.takeWhile (fun z => z != 0)

theorem strOf_data (zs : List Int) : (strOf zs).data.toList = zs.map (fun n => UInt8.ofNat n.toNat) := by
  unfold strOf
  have : ∀ (l : List Int) (b : ByteArray), (l.foldl (fun r n => r.push (UInt8.ofNat n.toNat)) b).data.toList = b.data.toList ++ l.map (fun n => UInt8.ofNat n.toNat) := by
    intro l
    induction l with
    | nil => intro b; simp
    | cons x l ih => intro b; rw [List.foldl_cons, ih]; simp [ByteArray.push]
  rw [this]; simp

theorem strOf_ext {s : ByteArray} {zs : List Int} (h : s.data.toList = zs.map (fun n => UInt8.ofNat n.toNat)) : s = strOf zs := by
  cases s with
  | mk d =>
    have := strOf_data zs
    cases hq : strOf zs with
    | mk d' =>
      rw [hq] at this
      congr 1
      apply Array.ext'
      rw [this]; exact h

theorem byte_zero (z : Int) (h0 : 0 ≤ z) (h1 : z ≤ 255) : (UInt8.ofNat z.toNat == 0) = (z == 0) := by
  by_cases c : z = 0
  · subst c; decide
  · have : ¬ UInt8.ofNat z.toNat = 0 := by
      intro e
      have := congrArg UInt8.toNat e
      simp at this
      omega
    rw [beq_eq_false_iff_ne.2 this, beq_eq_false_iff_ne.2 c]

theorem idx_txt : ∀ (zs : List Int), AllB zs → (Lib.indexByte (zs.map (fun n => UInt8.ofNat n.toNat)) 0 = -1 ∧ txt zs = zs) ∨ (∃ i : Nat, Lib.indexByte (zs.map (fun n => UInt8.ofNat n.toNat)) 0 = i ∧ i < zs.length ∧ txt zs = zs.take i)
  | [], _ => .inl ⟨rfl, rfl⟩
  | z :: l, h => by
    have hz := h z (by simp)
    have hl : AllB l := fun x hx => h x (by simp [hx])
    have hb := byte_zero z (by omega) (by omega)
    rw [List.map_cons, Lib.indexByte, hb]
    by_cases c : z = 0
    · subst c
      refine .inr ⟨0, by simp, by simp, by simp [txt]⟩
    · have c' : (z == 0) = false := by simpa using c
      rw [c']
      rcases idx_txt l hl with ⟨h1, h2⟩ | ⟨i, h1, h2, h3⟩
      · refine .inl ⟨by rw [h1]; rfl, ?_⟩
        simp only [txt] at h2 ⊢
        rw [List.takeWhile_cons]
        simp [c, h2]
      · refine .inr ⟨i + 1, ?_, by simp; omega, ?_⟩
        · rw [h1]
          have : ((i : Int) == -1) = false := by simp
          simp [this]
        · simp only [txt] at h3 ⊢
          rw [List.takeWhile_cons]
          simp [c, h3]

theorem strOf_size (zs : List Int) : (strOf zs).size = zs.length := by
  have := congrArg List.length (strOf_data zs)
  simpa using this

set_option maxHeartbeats 1000000 in
theorem cut50 (zs : List Int) (w : World) (hb : AllB zs) (hl : zs.length ≤ 2000) :
    Calls Tryz.prog 111 #[.string (strOf zs), .string ⟨#[0]⟩] w fun e w' => ∃ r b, e = .returned (.tuple #[.string (strOf (txt zs)), .string r, .bool b]) ∧ (w' = w ∨ w' = w.drew) := by
  have q := index53 (strOf zs) w
  have hsz := strOf_size zs
  have hi := idx_txt zs hb
  rw [← strOf_data] at hi
  change (idx (strOf zs) 0 = -1 ∧ _) ∨ (∃ i : Nat, idx (strOf zs) 0 = i ∧ _) at hi
  rcases hi with ⟨h1, h2⟩ | ⟨i, h1, h2, h3⟩
  · rw [h1] at q
    rw [h2]
    go_enter Tryz.func111, Tryz.ntmps111
    go_wp2_with fail
    refine q.mono ?_
    rintro e w' ⟨rfl, rfl⟩
    go_wp2
    go_ret3
    exact ⟨_, _, rfl, .inl rfl⟩
  · rw [h1] at q
    have hx : (strOf zs).extract 0 i = strOf (txt zs) := by
      apply strOf_ext
      rw [h3]
      simp [ByteArray.data_extract, strOf_data]
    have c1 : (0 : Int) ≤ ↑i := by omega
    have c2 : (↑i : Int) ≤ ↑(strOf zs).size := by omega
    have c3 : (0 : Int) ≤ ↑i + 1 := by omega
    have c4 : (↑i + 1 : Int) ≤ ↑(strOf zs).size := by omega
    rw [← hx]
    generalize strOf zs = s at *
    clear h1 h3 hb hx
    go_enter Tryz.func111, Tryz.ntmps111
    go_wp2_with fail
    refine q.mono ?_
    rintro e w' ⟨rfl, rfl⟩
    go_wp2
    go_region
    go_wp2
    go_ret3
    exact ⟨_, _, rfl, .inr rfl⟩

theorem cut38 (zs : List Int) (w : World) (hb : AllB zs) (hl : zs.length ≤ 2000) :
    Calls Tryz.prog 94 #[.string (strOf zs), .string ⟨#[0]⟩] w fun e w' => ∃ r b, e = .returned (.tuple #[.string (strOf (txt zs)), .string r, .bool b]) ∧ (w' = w ∨ w' = w.drew) := by
  have q := cut50 zs w hb hl
  clear hb
  generalize strOf zs = s at *
  generalize strOf (txt zs) = t at *
  go_enter Tryz.func94, Tryz.ntmps94
  go_wp2_with fail
  refine q.mono ?_
  rintro e w' ⟨r, b, rfl, hw⟩
  go_wp2
  go_ret3
  exact ⟨_, _, rfl, hw⟩

end Go.Proofs.YtnmmaedngdibeaaGreatDoor.H
