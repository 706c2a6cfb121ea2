/-
  A slice of bytes made a string; where the bytes of a new row lie.
-/
import Derived.Test.YtpjfhfbjdcgbjaaNew
import Derived.Laws.BytesString
namespace Go.Proofs.Ytpjfhfbjdcgbjaa
open Go.RowKit
set_option linter.unusedVariables false
set_option linter.unusedSimpArgs false

def strOf (ns : List Int) : ByteArray := ns.foldl (fun r n => r.push (UInt8.ofNat n.toNat)) ByteArray.empty

theorem conv_src (w : World) (a : Option Addr) (zs : List Int) (n cap : Nat) (hn : zs.length = n) (h : Src w a zs) :
    (convert 30 9 (.slice a n cap)).run Try.prog w = .ok (.string (strOf zs)) w := by
  subst hn
  rw [run_convert_bytes_string w 30 9 5 _ _ _ Try.underlying30 Try.underlying5 Try.underlying9]
  cases a with
  | none =>
    have : zs = [] := by
      rcases Nat.eq_zero_or_pos zs.length with h0 | h0
      · exact List.eq_nil_of_length_eq_zero h0
      · obtain ⟨ad, h1, _⟩ := h h0; cases h1
    subst this
    rfl
  | some ad =>
    refine run_bytesToString w _ _ _ zs ?_
    have hl := run_loadCells_list (P := Try.prog) (w := w) ad (cellsOf zs) (fun j v hj => by
      have h0 : 0 < zs.length := by
        have := (List.getElem?_eq_some_iff.1 hj).1
        rw [cellsOf_length] at this; omega
      obtain ⟨ad', h1, h2⟩ := h h0
      cases h1
      exact h2 j v hj)
    rw [cellsOf_length] at hl
    simpa [cellsOf] using hl

theorem src_row {w : World} {g : Nat} {t : TypeId} {fz : Nat × Nat} (zs rest : List Int) (h : w.heap[g]? = some (.cells (cellsOf zs).toArray t fz)) : Src w (some ⟨g, 0, none⟩) zs := by
  intro _
  refine ⟨_, rfl, fun j v hv => ?_⟩
  have e1 : (⟨g, 0, none⟩ : Addr).add j = ⟨g, j, none⟩ := by unfold Addr.add; split <;> simp_all
  rw [e1]
  simp only [World.cell?, h]
  simpa using hv

theorem src_alloc (w : World) (zs : List Int) (t : TypeId) : Src (w.alloc (.cells (cellsOf zs).toArray t)) (some ⟨w.heap.size, 0, none⟩) zs := src_row zs [] (heap_alloc_new w _)

/-- the bytes of a slice are where they were, if its block is as it was -/
theorem Src.moved {w w' : World} {a : Option Addr} {zs : List Int} (h : Src w a zs) (hb : ∀ ad, a = some ad → w'.heap[ad.block]? = w.heap[ad.block]?) : Src w' a zs := by
  intro h0
  obtain ⟨ad, h1, h2⟩ := h h0
  refine ⟨ad, h1, fun j v hv => ?_⟩
  rw [← h2 j v hv]
  refine World.cell?_of_block ?_
  have : (ad.add j).block = ad.block := by unfold Addr.add; split <;> rfl
  rw [this]
  exact hb ad h1

theorem Src.lt {w : World} {ad : Addr} {zs : List Int} (h : Src w (some ad) zs) (h0 : 0 < zs.length) : ad.block < w.heap.size := by
  obtain ⟨ad', h1, h2⟩ := h h0
  cases h1
  have hl : 0 < (cellsOf zs).length := by rw [cellsOf_length]; omega
  have hz := List.getElem?_eq_getElem hl
  have := World.block_lt_of_cell? w _ (h2 0 _ hz)
  exact this

theorem Src.below {w w' : World} {B : Nat} {a : Option Addr} {zs : List Int} (h : Src w a zs) (hb : Below B w w') (hB : ∀ ad, a = some ad → ad.block < B) : Src w' a zs :=
  h.moved fun ad e => hb.block _ (hB ad e)

theorem Src.keeps {w w' : World} {p S F : Nat} {ad : Addr} {zs : List Int} (h : Src w (some ad) zs) (hk : Keeps p S F w w') (h1 : ad.block ≠ p) (h2 : ad.block ≠ S) (h3 : ad.block ≠ F) : Src w' (some ad) zs := by
  intro h0
  have hlt := h.lt h0
  exact (h.moved (w' := w') fun ad' e => by cases e; exact hk.block _ hlt h1 h2 h3) h0

end Go.Proofs.Ytpjfhfbjdcgbjaa
