/-
  A row of bytes of one's own; made a string.
-/
import Derived.Test.YtmeaiplinkodiabDoorStr
import Derived.Laws.BytesString
import Derived.Laws.CopyRow
namespace Go.Proofs.YtmeaiplinkodiabDoor
open Go.RowKit
open Go.Lib hiding intOf
set_option linter.unusedVariables false
set_option linter.unusedSimpArgs false

def bcs (l : List UInt8) : List Value := l.map fun c => .int .u8 (c.toNat : Int)

/-- the bytes of a block -/
def By (w : World) (g : Nat) (l : List UInt8) : Prop := w.heap[g]? = some (.cells (bcs l).toArray 5 (0, 0))

theorem By.cell {w : World} {g : Nat} {l : List UInt8} (h : By w g l) (m : Nat) (hm : m < l.length) : w.cell? ⟨g, m, none⟩ = some (.int .u8 (l[m].toNat : Int)) := by
  unfold By at h
  simp [World.cell?, h, bcs, hm]
theorem By.frozen {w : World} {g : Nat} {l : List UInt8} (h : By w g l) (m : Nat) : w.frozen? ⟨g, m, none⟩ = false := by
  unfold By at h
  simp [World.frozen?, h]
theorem By.set {w : World} {g : Nat} {l : List UInt8} (h : By w g l) (m : Nat) (c : UInt8) : By (w.setCell ⟨g, m, none⟩ (.int .u8 (c.toNat : Int))) g (l.set m c) := by
  unfold By at h ⊢
  rw [setCell_eq_setRow w g m _ _ _ _ h, setRow_heap _ _ _ _ _ _ h]
  simp [bcs, List.map_set]

theorem fold_bs : ∀ (l : List UInt8) (r : ByteArray), (l.map fun c => ((c.toNat : Nat) : Int)).foldl (fun r n => r.push (UInt8.ofNat n.toNat)) r = r ++ bs l
  | [], r => by
    show r = r ++ bs []
    apply ByteArray.ext
    simp [bs, ByteArray.data_append]
  | c :: t, r => by
    rw [List.map_cons, List.foldl_cons, fold_bs t]
    have e : UInt8.ofNat ((c.toNat : Nat) : Int).toNat = c := by simp
    rw [e]
    apply ByteArray.ext
    simp [bs, ByteArray.data_append]

theorem By.str {w : World} {g : Nat} {l : List UInt8} (h : By w g l) (c : Nat) : (convert 23 9 (.slice (some ⟨g, 0, none⟩) l.length c)).run Tryd.prog w = .ok (.string (bs l)) w := by
  rw [run_convert_bytes_string w 23 9 5 _ _ _ Tryd.underlying23 Tryd.underlying5 Tryd.underlying9]
  have hl := run_loadCells_list (P := Tryd.prog) (w := w) ⟨g, 0, none⟩ (bcs l) (fun j v hj => by
    have hjl : j < l.length := by have := (List.getElem?_eq_some_iff.1 hj).1; simpa [bcs] using this
    have := h.cell j hjl
    have e : v = .int .u8 (l[j].toNat : Int) := by simp [bcs, hjl] at hj; exact hj.symm
    rw [e]
    by_cases h0 : j = 0
    · subst h0; simpa [Addr.add] using this
    · simpa [Addr.add, h0] using this)
  have hl2 : (loadCells ⟨g, 0, none⟩ l.length).run Tryd.prog w = .ok ((l.map fun c => ((c.toNat : Nat) : Int)).map (Value.int .u8)).toArray w := by
    have e : bcs l = (l.map fun c => ((c.toNat : Nat) : Int)).map (Value.int .u8) := by simp [bcs]
    rw [← e]
    simpa [bcs] using hl
  rw [run_bytesToString w _ _ _ _ hl2, fold_bs]
  congr 2

theorem By.fresh (w : World) (n : Nat) : By (w.alloc (.cells (madeCells #[.int .u8 0] n) 5)) w.heap.size (List.replicate n 0) := by
  unfold By
  have e : madeCells #[.int .u8 0] n = (bcs (List.replicate n 0)).toArray := by
    apply Array.ext
    · simp [bcs, madeCells]
    · intro i h1 h2
      simp [bcs, madeCells, Nat.mod_one]
  rw [e]
  show (w.heap.push _)[w.heap.size]? = _
  simp

theorem info_u8 : (Tryd.prog.info? 5).map (fun i => (i.zero, i.size, i.bytes)) = some (some (.int .u8 0), 1, 1) := by kernel_rfl

/-! the texts of the law -/

/-- a slash at each second place -/
def alt : Nat → List UInt8
  | 0 => []
  | 1 => [97]
  | n + 2 => 97 :: 47 :: alt n

theorem alt_length : ∀ n, (alt n).length = n
  | 0 => rfl
  | 1 => rfl
  | n + 2 => by simp [alt, alt_length n]
theorem alt_get : ∀ (n i : Nat) (h : i < (alt n).length), (alt n)[i] = if i % 2 = 1 then 47 else 97
  | 0, i, h => by simp [alt] at h
  | 1, i, h => by simp [alt] at h; subst h; rfl
  | n + 2, 0, h => rfl
  | n + 2, 1, h => rfl
  | n + 2, i + 2, h => by
    have := alt_get n i (by simpa [alt] using h)
    simp only [alt, List.getElem_cons_succ]
    rw [this]
    simp
theorem alt_spl : ∀ n, badOf (spl (alt n)) = 0
  | 0 => by decide
  | 1 => by decide
  | n + 2 => by
    have : spl (alt (n + 2)) = [97] :: spl (alt n) := by
      show spl ([97] ++ 47 :: alt n) = _
      exact spl_app [97] _ (by decide)
    rw [this, badOf, if_neg (by decide), if_neg (by decide), if_neg (by decide), alt_spl n]
theorem valid_asc (l : List UInt8) (h : ∀ b ∈ l, b.toNat < 128) : validD l = true := by
  have := validD_ascii l.length l (fun b hb => h b (List.mem_of_mem_take hb))
  rw [this, List.drop_length, validD_nil]
theorem alt_mem : ∀ n, ∀ b ∈ alt n, b = 97 ∨ b = 47
  | 0, b, h => by simp [alt] at h
  | 1, b, h => by simp [alt] at h; exact .inl h
  | n + 2, b, h => by
    simp [alt] at h
    rcases h with h | h | h
    · exact .inl h
    · exact .inr h
    · exact alt_mem n b h
theorem alt_err (n : Nat) (h1 : 1 ≤ n) : err (alt n) = if n ≤ 4000 then 0 else 2 := by
  have hne : alt n ≠ [] := by intro e; have := congrArg List.length e; rw [alt_length] at this; simp at this; omega
  have h0 : 0 ∉ alt n := fun h => by rcases alt_mem n 0 h with h | h <;> exact absurd h (by decide)
  have hv : validD (alt n) = true := valid_asc _ fun b hb => by rcases alt_mem n b hb with h | h <;> rw [h] <;> decide
  have hh : (alt n).head? ≠ some 47 := by
    match n, h1 with
    | 1, _ => decide
    | n + 2, _ => simp [alt]
  by_cases h : n ≤ 4000
  · rw [if_pos h, err_zero]
    exact ⟨(snd_zero _).2 ⟨hne, by rw [alt_length]; exact h, h0, hv, hh⟩, alt_spl n⟩
  · rw [if_neg h]
    have hs : snd0 (alt n) = 2 := by
      unfold snd0
      rw [if_neg hne, if_pos (by rw [alt_length]; omega)]
    unfold err
    rw [hs]
    simp

theorem bb_err (n : Nat) (h1 : 3 ≤ n) (h2 : n ≤ 4000) : err (List.replicate n 98) = if n ≤ 255 then 0 else 2 := by
  have hne : List.replicate n (98 : UInt8) ≠ [] := by simp; omega
  have hm : ∀ b ∈ List.replicate n (98 : UInt8), b = 98 := fun b hb => (List.mem_replicate.1 hb).2
  have h47 : 47 ∉ List.replicate n (98 : UInt8) := fun h => absurd (hm _ h) (by decide)
  have hs : snd0 (List.replicate n 98) = 0 := (snd_zero _).2 ⟨hne, by simpa using h2, fun h => absurd (hm _ h) (by decide), valid_asc _ (fun b hb => by rw [hm b hb]; decide), by
    cases n with
    | zero => simp at h1
    | succ n => simp [List.replicate_succ]⟩
  have hk : keep (List.replicate n (98 : UInt8)) = true := by
    unfold keep
    have : List.replicate n (98 : UInt8) ≠ [46] := fun e => absurd (hm 46 (by rw [e]; simp)) (by decide)
    simp [hne, this]
  have hd : List.replicate n (98 : UInt8) ≠ [46, 46] := fun e => absurd (hm 46 (by rw [e]; simp)) (by decide)
  rw [err_of _ hs, spl_plain _ h47, badOf, if_neg (by rw [hk]; simp), if_neg hd]
  by_cases h : n ≤ 255
  · rw [if_neg (by simp; omega), if_pos h]; rfl
  · rw [if_pos (by simp; omega), if_neg h]

end Go.Proofs.YtmeaiplinkodiabDoor
