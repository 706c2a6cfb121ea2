/-
  Contract: the laws' head (measures).
-/
import Derived.Test.YtpgiibpalmhhlaaGreatDoorMY
import Derived.Test.YtpgiibpalmhhlaaGreatDoorU2
namespace Go.Proofs.YtpgiibpalmhhlaaGreatDoor
open Go.RowKit
open Go.Lib hiding intOf
set_option linter.unusedVariables false
set_option linter.unusedSimpArgs false

theorem Rs.apart {w : World} {ad : Option Addr} {L : List Rw} {g : Nat} {C : Array Value} {t : TypeId} {fr : Nat × Nat} (h : Rs w ad L) (hg : w.heap[g]? = some (.cells C t fr)) (hC : C.size ≤ 2) : L = [] ∨ ∀ b o, ad = some ⟨b, o, none⟩ → b ≠ g := by
  rcases h with h | ⟨b, o, h1, h2, h3⟩
  · exact .inl h
  · cases L with
    | nil => exact .inl rfl
    | cons r L =>
      right
      intro b' o' e e2
      rw [h1] at e
      injection e with e
      injection e with e1 e3
      have q := h3 2 (.int .i64 r.kind) rfl
      rw [show b = g by omega, cells_of hg] at q
      have := (Array.getElem?_eq_some_iff.1 q).1
      omega

theorem Rs.setBox {w : World} {ad : Option Addr} {L : List Rw} {g k : Nat} {C : Array Value} {t : TypeId} {fr : Nat × Nat} (h : Rs w ad L) (hg : w.heap[g]? = some (.cells C t fr)) (hC : C.size ≤ 2) (v : Value) : Rs (w.setCell ⟨g, k, none⟩ v) ad L := by
  rcases h.apart hg hC with e | hne
  · exact .inl e
  · rcases h with h | ⟨b, o, h1, h2, h3⟩
    · exact .inl h
    · refine .inr ⟨b, o, h1, by simpa using h2, fun j u hu => ?_⟩
      rw [World.cell?_setCell_far _ _ _ _ (by show g ≠ b; exact fun e => hne b o h1 e.symm)]
      exact h3 j u hu

theorem Rs.setTwo {w : World} {ad : Option Addr} {L : List Rw} {g : Nat} {a b : Value} {t : TypeId} (h : Rs w ad L) (hg : w.heap[g]? = some (.cells #[a, b] t (0, 0))) (x y : Value) : Rs ((w.setCell ⟨g, 0, none⟩ x).setCell ⟨g, 1, none⟩ y) ad L := by
  have h1 := h.setBox (k := 0) hg (by simp) x
  have hg2 : (w.setCell ⟨g, 0, none⟩ x).heap[g]? = some (.cells #[x, b] t (0, 0)) := by
    rw [setCell_eq_setRow w g 0 _ t (0, 0) _ hg]
    exact setRow_heap _ _ _ _ _ _ hg
  exact h1.setBox (k := 1) hg2 (by simp) y

theorem Tm.setTwo {w : World} {v : Value} {L : List Rw} {nx : Int} {g : Nat} {a b : Value} {t : TypeId} (h : Tm w v L nx) (hg : w.heap[g]? = some (.cells #[a, b] t (0, 0))) (x y : Value) : Tm ((w.setCell ⟨g, 0, none⟩ x).setCell ⟨g, 1, none⟩ y) v L nx := by
  obtain ⟨ad, cap, h1, h2, h3, h4⟩ := h
  exact ⟨ad, cap, h1, h2.setTwo hg x y, h3, h4⟩

theorem good_a : Good [97] := ⟨by decide, by decide, by decide, by decide, by decide, by decide, by decide +kernel⟩
theorem good_d : Good [100] := ⟨by decide, by decide, by decide, by decide, by decide, by decide, by decide +kernel⟩
theorem good_bb : Good [98, 98] := ⟨by decide, by decide, by decide, by decide, by decide, by decide, by decide +kernel⟩
theorem jn_da : jn [[100], [97]] = [100, 47, 97] := by rw [jn_cons, jn_one]; rfl
theorem goods_da : ∀ p ∈ [[100], [97]], Good p := by
  intro p hp
  rcases List.mem_cons.1 hp with rfl | hp
  · exact good_d
  · rw [List.mem_singleton.1 hp]; exact good_a
theorem cp_da : Cp [100, 47, 97] := ⟨[[100], [97]], by simp, goods_da, jn_da.symm⟩
theorem cp_bb : Cp [98, 98] := ⟨[[98, 98]], by simp, fun p hp => by rw [List.mem_singleton.1 hp]; exact good_bb, by rw [jn_one]⟩
theorem up_da : upL [100, 47, 97] = [100] := by
  rw [← jn_da, up_jn _ goods_da (by simp)]
  show jn [[100]] = _
  rw [jn_one]
theorem up_d : upL [100] = [] := by
  have := up_jn [[100]] (fun p hp => by rw [List.mem_singleton.1 hp]; exact good_d) (by simp)
  rw [jn_one] at this
  exact this
theorem up_bb : upL [98, 98] = [] := by
  have := up_jn [[98, 98]] (fun p hp => by rw [List.mem_singleton.1 hp]; exact good_bb) (by simp)
  rw [jn_one] at this
  exact this

def L1 : List Rw := [⟨[100], 0, 4, 493, 0, true⟩, ⟨[100, 47, 97], 1, 1, 0, 3, false⟩]
def L2 : List Rw := [⟨[98, 98], 1, 1, 0, 3, false⟩, ⟨[100], 0, 4, 493, 0, true⟩, ⟨[100, 47, 97], 1, 1, 0, 3, false⟩]

theorem m_add : addP [] 0 [100, 47, 97] 1 0 3 false = (L1, 2, 0) := by
  have hch : chain (upL [100, 47, 97]) = [[100]] := by rw [up_da, chain_cons (by simp), up_d, chain_nil]
  have hmd : mdL [] [100, 47, 97] = [[100]] := by unfold mdL; rw [hch]; rfl
  have hst : stL [] [100, 47, 97] = [] := by unfold stL; rw [hch]; rfl
  have hcl : cls [] [100, 47, 97] = false := by unfold cls; rw [hst]
  have hwp : wpR [] 0 [100, 47, 97] = [⟨[100], 0, 4, 493, 0, true⟩] := by unfold wpR; rw [hmd]; rfl
  unfold addP
  rw [if_neg (by simp), show fd [] [100, 47, 97] = false from rfl, if_neg (by simp), hcl, if_neg (by simp), hwp, hmd]
  rfl

theorem m_link : linkP L1 2 [98, 98] [100, 47, 97] = (L2, 2, 0) := by
  have hch : chain (upL [98, 98]) = [] := by rw [up_bb, chain_nil]
  have hmd : mdL L1 [98, 98] = [] := by unfold mdL; rw [hch]; rfl
  have hst : stL L1 [98, 98] = [] := by unfold stL; rw [hch]; rfl
  have hcl : cls L1 [98, 98] = false := by unfold cls; rw [hst]
  have h1 : fd L1 [100, 47, 97] = true := by decide +kernel
  have h2 : (atR L1 [100, 47, 97]) = ⟨[100, 47, 97], 1, 1, 0, 3, false⟩ := by rfl
  have h3 : (atR L1 [98, 98]) = zr := by rfl
  unfold linkP
  rw [if_neg (by simp), h1, if_neg (by simp), h2, if_neg (by simp), h3, if_neg (by decide), hcl, if_neg (by simp), wpR_nil hmd, hmd]
  rfl

theorem m_of : (ofU L2).b = 3 ∧ (ofU L2).n = 2 ∧ (ofU L2).d = 2 ∧ (ofU L2).l = 3 := by decide +kernel

theorem m_sd1 : Sd L1 2 := by
  have := Sd.nil.add (s := [100, 47, 97]) (kd := 1) (md := 0) (sz := 3) (mk := false) (.inr cp_da) (by decide) ⟨by decide, by decide⟩
  rw [m_add] at this
  exact this

theorem m_sd2 : Sd L2 2 := by
  have := m_sd1.link (s := [98, 98]) (tt := [100, 47, 97]) (.inr cp_bb) (by decide)
  rw [m_link] at this
  exact this

end Go.Proofs.YtpgiibpalmhhlaaGreatDoor
