/-
  The law's own fits at records of any sizes; what the laws are told of a list of records.
-/
import Derived.Test.YtebnekkdkifgjaaDoorLaid
import Derived.Deep.SlicePairs
namespace Go.Proofs.YtebnekkdkifgjaaDoor
open Go.ChangeShapes Go.WideShapes Go.RowKit
set_option linter.unusedVariables false
set_option linter.unusedSimpArgs false

set_option maxHeartbeats 2000000 in
theorem fits_any (b off n cap : Nat) (K V : Nat → ByteArray) (w : World) (hR : RecsAt w b off K V n) (hn : n ≤ 70) :
    Calls Tryd.prog 10 #[.slice (some ⟨b, off, none⟩) n cap] w fun e w' => e = .returned (.bool (decide (okTo K V n))) ∧ Below w.heap.size w w' := by
  have HR : Hid (∀ W, Below w.heap.size w W → RecsAt W b off K V n) := fun W h => hR.below h
  clear hR
  go_enter Tryd.func10, Tryd.ntmps10
  go_wp2
  go_loopw [3, 11] (fun tn ti wr => ∃ i : Nat, i ≤ n ∧ ti = .int .i64 i ∧ tn = .int .i64 (tot K V i) ∧ Hid (okTo K V i) ∧ Below w.heap.size w wr) (fun _ t _ => n - (intOf t).toNat)
  case atStart => exact ⟨0, by omega, rfl, rfl, trivial, Below.refl _ _⟩
  case round =>
    obtain ⟨i, hi, rfl, rfl, hok, bb⟩ := hrel
    by_cases hlt : i < n
    · obtain ⟨hc0, hc1⟩ := HR.out _ bb i hlt
      have ht := okTo_tot hok.out
      have hT : tot K V (i + 1) = tot K V i + ((K i).size + (V i).size) := rfl
      have HO : Hid (okTo K V (i + 1) ↔ ((K i).size ≤ 5000 ∧ (V i).size ≤ 5000 ∧ tot K V (i + 1) ≤ 20000)) := ⟨fun h => h.2, fun h => ⟨hok.out, h⟩⟩
      have HN : Hid (okTo K V n → okTo K V (i + 1)) := fun h => okTo_le hlt h
      generalize hk : K i = k at *
      generalize hv : V i = v at *
      generalize tot K V i = T at *
      generalize hT2 : tot K V (i + 1) = T2 at *
      by_cases c1 : k.size ≤ 5000
      · by_cases c2 : v.size ≤ 5000
        · by_cases c3 : T + (k.size + v.size) ≤ 20000
          · go_wp2
            go_roundw
            case rel => exact ⟨i + 1, by omega, by simp, by rw [hT2, hT]; simp, HO.out.2 ⟨c1, c2, by omega⟩, by first | exact bb | exact bb.alloc bb.size _ | exact (bb.alloc bb.size _).drew | exact (bb.drew.alloc bb.size _) | exact ((bb.alloc bb.size _).setCell bb.size _).setCell bb.size _ | exact (((bb.alloc bb.size _).setCell bb.size _).setCell bb.size _).drew⟩
            case measure => simp [intOf]; omega
          · go_wp2
            go_ret
            have hF : ¬ okTo K V n := fun h => by have := HO.out.1 (HN.out h); omega
            exact ⟨by rw [decide_eq_false hF]; rfl, by first | exact bb | exact bb.alloc bb.size _ | exact (bb.alloc bb.size _).drew | exact (bb.drew.alloc bb.size _) | exact ((bb.alloc bb.size _).setCell bb.size _).setCell bb.size _ | exact (((bb.alloc bb.size _).setCell bb.size _).setCell bb.size _).drew⟩
        · go_wp2
          go_ret
          have hF : ¬ okTo K V n := fun h => by have := HO.out.1 (HN.out h); omega
          exact ⟨by rw [decide_eq_false hF]; rfl, by first | exact bb | exact bb.alloc bb.size _ | exact (bb.alloc bb.size _).drew | exact (bb.drew.alloc bb.size _) | exact ((bb.alloc bb.size _).setCell bb.size _).setCell bb.size _ | exact (((bb.alloc bb.size _).setCell bb.size _).setCell bb.size _).drew⟩
      · go_wp2
        go_ret
        have hF : ¬ okTo K V n := fun h => by have := HO.out.1 (HN.out h); omega
        exact ⟨by rw [decide_eq_false hF]; rfl, by first | exact bb | exact bb.alloc bb.size _ | exact (bb.alloc bb.size _).drew | exact (bb.drew.alloc bb.size _) | exact ((bb.alloc bb.size _).setCell bb.size _).setCell bb.size _ | exact (((bb.alloc bb.size _).setCell bb.size _).setCell bb.size _).drew⟩
    · obtain rfl : i = n := by omega
      go_wp2
      go_ret
      have hO := hok.out
      exact ⟨by rw [decide_eq_true hO]; rfl, bb⟩
theorem fits_much (ad : Option Addr) (n cap : Nat) (w : World) (hn : 70 < n) (hm : n ≤ 9223372036854775807) :
    Calls Tryd.prog 10 #[.slice ad n cap] w fun e w' => e = .returned (.bool false) ∧ w = w' := by
  go_enter Tryd.func10, Tryd.ntmps10
  go_wp2
  go_ret
  exact ⟨rfl, rfl⟩

/-- what the walks are told of a list of records -/
def Told (w : World) (ad : Option Addr) (n cap : Nat) (K V : Nat → ByteArray) : Prop :=
  n ≤ cap ∧ cap ≤ 9223372036854775807 ∧ (n = 0 ∨ ∃ b off, ad = some ⟨b, off, none⟩ ∧ RecsAt w b off K V n)

theorem told_of {H : Type} {enc : TypeId × Value → H} {W : World} {ad : Option Addr} {n cap : Nat} {d : DataW H} {p : List MemPlace} (h : DataW.Trod enc Tryd.prog W 0 (fun _ => true) true 22 (.slice ad n cap) d p) : ∃ K V, Told W ad n cap K V := by
  obtain ⟨fuel, hf⟩ := h
  rcases Go.Deep.open_slice_pairs Tryd.underlying22 Tryd.underlying28 (by kernel_rfl) rfl rfl (by kernel_rfl) (by kernel_rfl) hf with ⟨hcs, _⟩ | ⟨a, len, cp, m, nn, V0, V1, D0, D1, P0, P1, hcs, hb, hl, hm, hmm, hx, hcell⟩
  · simp [Value.cells] at hcs
    obtain ⟨rfl, rfl, rfl⟩ := hcs
    exact ⟨fun _ => ⟨#[]⟩, fun _ => ⟨#[]⟩, Nat.le_refl _, by omega, .inl rfl⟩
  · simp [Value.cells] at hcs
    obtain ⟨rfl, rfl, rfl⟩ := hcs
    simp at hmm
    subst hmm
    have each : ∀ i, i < m → ∃ q : ByteArray × ByteArray, V0 i = .string q.1 ∧ V1 i = .string q.2 := by
      intro i hi
      obtain ⟨_, _, t0, t1⟩ := hcell i hi
      obtain ⟨k, hk, _, _⟩ := DataW.trod_string Tryd.underlying9 t0
      obtain ⟨x, hx, _, _⟩ := DataW.trod_string Tryd.underlying9 t1
      simp at hk hx
      exact ⟨(k, x), hk, hx⟩
    obtain ⟨q, hq⟩ := Go.Deep.choose_lt each
    refine ⟨fun i => (q i).1, fun i => (q i).2, hl, by unfold maxLen at hm; omega, ?_⟩
    by_cases h0 : n = 0
    · exact .inl h0
    · obtain ⟨b, off, spot⟩ := a
      have hc := (hcell 0 (by omega)).1
      have hspot : spot = none := by simpa [Addr.add] using World.cell?_spot hc
      subst hspot
      refine .inr ⟨b, off, rfl, fun i hi => ?_⟩
      obtain ⟨e0, e1, _, _⟩ := hcell i (by omega)
      obtain ⟨f0, f1⟩ := hq i (by omega)
      rw [f0] at e0
      rw [f1] at e1
      refine ⟨?_, ?_⟩
      · by_cases i0 : i = 0
        · subst i0; simpa [Addr.add] using e0
        · have : ¬ i * 2 = 0 := by omega
          simpa [Addr.add, this] using e0
      · simpa [Addr.add, Nat.add_assoc] using e1

end Go.Proofs.YtebnekkdkifgjaaDoor
