/-
  Bytes that came in.
-/
import Derived.Test.YtojbfdlgjjghjaaDoorKKL
import Derived.Test.YtojbfdlgjjghjaaDoorKKg
import Derived.OpenShut
import Derived.ShutString
import Derived.ChangeOld
namespace Go.Proofs.YtojbfdlgjjghjaaDoor
open Go.ChangeShapes Go.WideShapes Go.RowKit
set_option linter.unusedVariables false

theorem lit_u8 {z : Int} (h : (Lit.int .u8 z).wf = true) : 0 ≤ z ∧ z ≤ 255 := by
  have h' : IntKind.u8.min ≤ z ∧ z ≤ IntKind.u8.max := by simpa [Lit.wf] using h
  have e1 : IntKind.u8.min = 0 := by decide
  have e2 : IntKind.u8.max = 255 := by decide
  omega

set_option maxRecDepth 100000 in
theorem open_bytes_in {H : Type} {enc : TypeId × Value → H} {W : World} {b b0 : Nat} {sp : Nat → Bool} {held : Bool} {v : Value} {d : DataW H} {ps : List MemPlace} (hval : Value.okWide Tryd.prog W .any b0 23 v) (hd : DataW.Trod enc Tryd.prog W b sp held 23 v d ps) :
    ∃ bs : List UInt8, K.BytesIn W v bs ∧ bs.length ≤ 9223372036854775807 := by
  obtain ⟨a0, len0, cap0, rfl⟩ := okWide_slice Tryd.underlying23 hval
  obtain ⟨fuel, hf⟩ := hd
  rcases open_ints Tryd.underlying23 Tryd.underlying5 (by kernel_rfl) hf with ⟨hcs, _⟩ | ⟨x, l, c, zs, hcs, _, hl, hm, hz, _, hcell, hwz⟩
  · simp [Value.cells] at hcs
    obtain ⟨rfl, rfl, rfl⟩ := hcs
    exact ⟨[], .inl ⟨rfl, _, _, rfl⟩, by simp⟩
  · simp [Value.cells] at hcs
    obtain ⟨rfl, rfl, rfl⟩ := hcs
    have hm' : cap0 ≤ 9223372036854775807 := by unfold maxLen at hm; omega
    have hzl : len0 ≤ zs.length := by rw [hz]; split <;> omega
    refine ⟨(zs.take len0).map fun z => UInt8.ofNat z.toNat, ?_, by simp; omega⟩
    rcases Nat.eq_zero_or_pos len0 with h0 | h0
    · subst h0
      exact .inl ⟨by simp, _, _, rfl⟩
    · have hx0 := hcell 0 (by omega)
      obtain ⟨B, o, sp2⟩ := x
      have e0 : (⟨B, o, sp2⟩ : Addr).add 0 = ⟨B, o, sp2⟩ := rfl
      rw [e0] at hx0
      obtain rfl : sp2 = none := by
        cases sp2 with
        | none => rfl
        | some q =>
          unfold World.cell? at hx0
          split at hx0
          · simp at hx0
          · cases hx0
      have hlen : ((zs.take len0).map fun z => UInt8.ofNat z.toNat).length = len0 := by simp; omega
      refine .inr ⟨B, o, cap0, by rw [hlen], fun i hi => ?_⟩
      rw [hlen] at hi
      have h1 := hcell i (by omega)
      have e9 : (⟨B, o, none⟩ : Addr).add i = ⟨B, o + i, none⟩ := by unfold Addr.add; split <;> simp_all
      rw [e9] at h1
      rw [h1]
      have hzi : zs.getD i 0 = zs[i]'(by omega) := by rw [List.getD_eq_getElem?_getD, List.getElem?_eq_getElem (by omega)]; rfl
      have hw := lit_u8 (hwz (zs[i]'(by omega)) (List.getElem_mem _))
      simp only [List.getElem_map, List.getElem_take, hzi]
      rw [UInt8.toNat_ofNat']
      congr 2
      omega

end Go.Proofs.YtojbfdlgjjghjaaDoor
