/-
  Contract: the laws' head (measures).
-/
import Derived.Test.YtojnniacmmcddaaDoorY4
import Derived.Test.YtojnniacmmcddaaDoorU2
namespace Go.Proofs.YtojnniacmmcddaaDoor
open Go.RowKit
open Go.Lib hiding intOf
set_option linter.unusedVariables false
set_option linter.unusedSimpArgs false

theorem Rs.apart {w : World} {ad : Option Addr} {L : List Rw} {g : Nat} {C : Array Value} {t : TypeId} {fr : Nat × Nat} (h : Rs w ad L) (hg : w.heap[g]? = some (.cells C t fr)) (hC : C.size ≤ 2) : L = [] ∨ ∀ b o, ad = some ⟨b, o, none⟩ → b ≠ g := by
  rcases h with h | ⟨b, o, h1, h2, h3⟩
  · exact .inl h
  · cases L with
    | nil => exact .inl rfl
    | cons r L =>
      right
      intro b' o' e e2
      rw [h1] at e
      injection e with e
      injection e with e1 e3
      have q := h3 2 (.int .i64 r.kind) rfl
      rw [show b = g by omega, cells_of hg] at q
      have := (Array.getElem?_eq_some_iff.1 q).1
      omega

theorem Rs.setBox {w : World} {ad : Option Addr} {L : List Rw} {g k : Nat} {C : Array Value} {t : TypeId} {fr : Nat × Nat} (h : Rs w ad L) (hg : w.heap[g]? = some (.cells C t fr)) (hC : C.size ≤ 2) (v : Value) : Rs (w.setCell ⟨g, k, none⟩ v) ad L := by
  rcases h.apart hg hC with e | hne
  · exact .inl e
  · rcases h with h | ⟨b, o, h1, h2, h3⟩
    · exact .inl h
    · refine .inr ⟨b, o, h1, by simpa using h2, fun j u hu => ?_⟩
      rw [World.cell?_setCell_far _ _ _ _ (by show g ≠ b; exact fun e => hne b o h1 e.symm)]
      exact h3 j u hu

theorem Rs.setTwo {w : World} {ad : Option Addr} {L : List Rw} {g : Nat} {a b : Value} {t : TypeId} (h : Rs w ad L) (hg : w.heap[g]? = some (.cells #[a, b] t (0, 0))) (x y : Value) : Rs ((w.setCell ⟨g, 0, none⟩ x).setCell ⟨g, 1, none⟩ y) ad L := by
  have h1 := h.setBox (k := 0) hg (by simp) x
  have hg2 : (w.setCell ⟨g, 0, none⟩ x).heap[g]? = some (.cells #[x, b] t (0, 0)) := by
    rw [setCell_eq_setRow w g 0 _ t (0, 0) _ hg]
    exact setRow_heap _ _ _ _ _ _ hg
  exact h1.setBox (k := 1) hg2 (by simp) y

theorem Tm.setTwo {w : World} {v : Value} {L : List Rw} {nx : Int} {g : Nat} {a b : Value} {t : TypeId} (h : Tm w v L nx) (hg : w.heap[g]? = some (.cells #[a, b] t (0, 0))) (x y : Value) : Tm ((w.setCell ⟨g, 0, none⟩ x).setCell ⟨g, 1, none⟩ y) v L nx := by
  obtain ⟨ad, cap, h1, h2, h3, h4⟩ := h
  exact ⟨ad, cap, h1, h2.setTwo hg x y, h3, h4⟩

theorem good_a : Good [97] := ⟨by decide, by decide, by decide, by decide, by decide, by decide, by decide +kernel⟩
theorem good_d : Good [100] := ⟨by decide, by decide, by decide, by decide, by decide, by decide, by decide +kernel⟩
theorem good_bb : Good [98, 98] := ⟨by decide, by decide, by decide, by decide, by decide, by decide, by decide +kernel⟩
theorem jn_da : jn [[100], [97]] = [100, 47, 97] := by rw [jn_cons, jn_one]; rfl
theorem goods_da : ∀ p ∈ [[100], [97]], Good p := by
  intro p hp
  rcases List.mem_cons.1 hp with rfl | hp
  · exact good_d
  · rw [List.mem_singleton.1 hp]; exact good_a
theorem cp_da : Cp [100, 47, 97] := ⟨[[100], [97]], by simp, goods_da, jn_da.symm⟩
theorem cp_bb : Cp [98, 98] := ⟨[[98, 98]], by simp, fun p hp => by rw [List.mem_singleton.1 hp]; exact good_bb, by rw [jn_one]⟩
theorem up_da : upL [100, 47, 97] = [100] := by
  rw [← jn_da, up_jn _ goods_da (by simp)]
  show jn [[100]] = _
  rw [jn_one]
theorem up_d : upL [100] = [] := by
  have := up_jn [[100]] (fun p hp => by rw [List.mem_singleton.1 hp]; exact good_d) (by simp)
  rw [jn_one] at this
  exact this
theorem up_bb : upL [98, 98] = [] := by
  have := up_jn [[98, 98]] (fun p hp => by rw [List.mem_singleton.1 hp]; exact good_bb) (by simp)
  rw [jn_one] at this
  exact this

def L1 : List Rw := [⟨[100], 0, 4, 493, 0, true⟩, ⟨[100, 47, 97], 1, 1, 0, 3, false⟩]
def L2 : List Rw := [⟨[98, 98], 1, 1, 0, 3, false⟩, ⟨[100], 0, 4, 493, 0, true⟩, ⟨[100, 47, 97], 1, 1, 0, 3, false⟩]

theorem m_add : addP [] 0 [100, 47, 97] 1 0 3 false = (L1, 2, 0) := by
  have hch : chain (upL [100, 47, 97]) = [[100]] := by rw [up_da, chain_cons (by simp), up_d, chain_nil]
  have hmd : mdL [] [100, 47, 97] = [[100]] := by unfold mdL; rw [hch]; rfl
  have hst : stL [] [100, 47, 97] = [] := by unfold stL; rw [hch]; rfl
  have hcl : cls [] [100, 47, 97] = false := by unfold cls; rw [hst]
  have hwp : wpR [] 0 [100, 47, 97] = [⟨[100], 0, 4, 493, 0, true⟩] := by unfold wpR; rw [hmd]; rfl
  unfold addP
  rw [if_neg (by simp), show fd [] [100, 47, 97] = false from rfl, if_neg (by simp), hcl, if_neg (by simp), hwp, hmd]
  rfl

theorem m_link : linkP L1 2 [98, 98] [100, 47, 97] = (L2, 2, 0) := by
  have hch : chain (upL [98, 98]) = [] := by rw [up_bb, chain_nil]
  have hmd : mdL L1 [98, 98] = [] := by unfold mdL; rw [hch]; rfl
  have hst : stL L1 [98, 98] = [] := by unfold stL; rw [hch]; rfl
  have hcl : cls L1 [98, 98] = false := by unfold cls; rw [hst]
  have h1 : fd L1 [100, 47, 97] = true := by decide +kernel
  have h2 : (atR L1 [100, 47, 97]) = ⟨[100, 47, 97], 1, 1, 0, 3, false⟩ := by rfl
  have h3 : (atR L1 [98, 98]) = zr := by rfl
  unfold linkP
  rw [if_neg (by simp), h1, if_neg (by simp), h2, if_neg (by simp), h3, if_neg (by decide), hcl, if_neg (by simp), wpR_nil hmd, hmd]
  rfl

theorem m_of : (ofU L2).b = 3 ∧ (ofU L2).n = 2 ∧ (ofU L2).d = 2 ∧ (ofU L2).l = 3 := by decide +kernel

theorem m_sd1 : Sd L1 2 := by
  have := Sd.nil.add (s := [100, 47, 97]) (kd := 1) (md := 0) (sz := 3) (mk := false) (.inr cp_da) (by decide) ⟨by decide, by decide⟩
  rw [m_add] at this
  exact this

theorem m_sd2 : Sd L2 2 := by
  have := m_sd1.link (s := [98, 98]) (tt := [100, 47, 97]) (.inr cp_bb) (by decide)
  rw [m_link] at this
  exact this

set_option maxRecDepth 20000 in
set_option maxHeartbeats 4000000 in
theorem measures_w (w : World) (hm : Ml w) : Calls Tryd.prog 18 #[] w fun e w' => e = .returned (.bool true) ∧ Below w.heap.size w w' := by
  have KA : Hid (∀ W, Calls Tryd.prog 10 #[.agg #[.slice none 0 0, .int .i64 0], .string ⟨#[100, 47, 97]⟩, .agg #[.int .i64 1, .int .i64 0, .int .i64 0, .int .i64 0, .int .i64 0, .string ⟨#[]⟩, .string ⟨#[]⟩, .string ⟨#[]⟩, .slice none 0 0, .int .i64 3, .bool false]] W fun e w' => ∃ ad cap, e = .returned (.tuple #[.agg #[.slice ad 2 cap, .int .i64 2], .int .i64 0]) ∧ Rs w' ad L1 ∧ 2 ≤ cap ∧ (ad = none → cap = 0) ∧ Below W.heap.size W w') := fun W => by
    have := add_w (.agg #[.slice none 0 0, .int .i64 0]) 0 [] [100, 47, 97] 1 0 3 false W Sd.nil ⟨none, 0, rfl, .inl rfl, Nat.le_refl _, fun _ => rfl⟩ (by simp) (by omega) (by decide) (.inr cp_da)
    rw [m_add] at this
    refine Calls.mono this ?_
    rintro e w' ⟨v', rfl, ⟨ad, cap, rfl, h1, h2, h3⟩, hb⟩
    exact ⟨ad, cap, rfl, h1, h2, h3, hb⟩
  have KB : Hid (∀ W ad cap, Rs W ad L1 → 2 ≤ cap → (ad = none → cap = 0) → Calls Tryd.prog 23 #[.agg #[.slice ad 2 cap, .int .i64 2], .string ⟨#[98, 98]⟩, .string ⟨#[100, 47, 97]⟩] W fun e w' => ∃ ad cap, e = .returned (.tuple #[.agg #[.slice ad 3 cap, .int .i64 2], .int .i64 0]) ∧ Rs w' ad L2 ∧ Below W.heap.size W w') := fun W ad cap h1 h2 h3 => by
    have := link_w (.agg #[.slice ad 2 cap, .int .i64 2]) 2 L1 [98, 98] [100, 47, 97] W m_sd1 ⟨ad, cap, rfl, h1, h2, h3⟩ (by decide) (by omega) (by decide) (by decide) (.inr cp_bb)
    rw [m_link] at this
    refine Calls.mono this ?_
    rintro e w' ⟨v', rfl, ⟨ad, cap, rfl, h1, h2, h3⟩, hb⟩
    exact ⟨ad, cap, rfl, h1, hb⟩
  have KO : Hid (∀ W ad cap, Ml W → Rs W ad L2 → Calls Tryd.prog 20 #[.agg #[.slice ad 3 cap, .int .i64 2]] W fun e w' => e = .returned (.agg #[.int .i64 3, .int .i64 2, .int .i64 2, .int .i64 3]) ∧ Below W.heap.size W w') := fun W ad cap hm h1 => by
    have := of_w ad cap 2 L2 W hm h1 (by decide) (fun r hr => by have h1 := m_sd2.ok r hr; have h2 := m_sd2.id r hr; exact ⟨by omega, by omega, h1.2⟩)
    rw [m_of.1, m_of.2.1, m_of.2.2.1, m_of.2.2.2] at this
    exact this
  have b0 : Below w.heap.size w (w.alloc (.cells #[.slice none 0 0, .int .i64 0] 26)) := below_box w _
  have q0 := heap_alloc_new w (.cells #[.slice none 0 0, .int .i64 0] 26)
  go_enter Tryd.func18, Tryd.ntmps18
  go_upto_region 2 with fail
  generalize w.alloc _ = w0 at *
  have hg0 : w.heap.size < w0.heap.size := (Array.getElem?_eq_some_iff.1 q0).1
  have c0 := cells_of q0
  go_upto_region 3 with (go_at_call 10; refine (KA.out _).mono ?_; rintro e w1 ⟨ad, cap, rfl, R1, C1, N1, b1⟩; have q1 : Hid (w1.heap[w.heap.size]? = _) := (b1.block _ hg0).trans q0; have c1 := cells_of q1.out; have f1 := froz_of q1.out)
  have q2 := two_set q1.out (.slice ad 2 cap) (.int .i64 2)
  have R2 : Hid (Rs _ ad L1) := R1.setTwo q1.out (.slice ad 2 cap) (.int .i64 2)
  have b2 : Below w.heap.size w ((w1.setCell ⟨w.heap.size, 0, none⟩ (.slice ad 2 cap)).setCell ⟨w.heap.size, 1, none⟩ (.int .i64 2)) := ((b0.trans (b1.mono (Nat.le_of_lt hg0))).setCell (by show _ ≤ w.heap.size; exact Nat.le_refl _) _).setCell (by show _ ≤ w.heap.size; exact Nat.le_refl _) _
  clear c0 c1 f1 q1 q0 R1 b0 b1
  generalize (w1.setCell _ _).setCell _ _ = w2 at *
  have hg2 : w.heap.size < w2.heap.size := (Array.getElem?_eq_some_iff.1 q2).1
  have c2 := cells_of q2
  go_upto_region 4 with (go_at_call 23; refine (KB.out _ ad cap R2.out C1 N1).mono ?_; rintro e w3 ⟨ad3, cap3, rfl, R3, b3⟩; have q3 : Hid (w3.heap[w.heap.size]? = _) := (b3.block _ hg2).trans q2; have c3 := cells_of q3.out; have f3 := froz_of q3.out)
  have q4 := two_set q3.out (.slice ad3 3 cap3) (.int .i64 2)
  have R4 : Hid (Rs _ ad3 L2) := R3.setTwo q3.out (.slice ad3 3 cap3) (.int .i64 2)
  have b4 : Below w.heap.size w ((w3.setCell ⟨w.heap.size, 0, none⟩ (.slice ad3 3 cap3)).setCell ⟨w.heap.size, 1, none⟩ (.int .i64 2)) := ((b2.trans (b3.mono (Nat.le_of_lt hg2))).setCell (by show _ ≤ w.heap.size; exact Nat.le_refl _) _).setCell (by show _ ≤ w.heap.size; exact Nat.le_refl _) _
  clear c2 c3 f3 q3 q2 R3 b2 b3 R2
  generalize (w3.setCell _ _).setCell _ _ = w4 at *
  have M4 : Hid (Ml w4) := hm.below b4
  have c4 := cells_of q4
  go_wp2_with (go_at_call 20; refine (KO.out _ ad3 cap3 M4.out R4.out).mono ?_; rintro e w5 ⟨rfl, b5⟩)
  have b6 : Below w.heap.size w w5 := b4.trans (b5.mono b4.size)
  go_ret
  exact ⟨rfl, b6.alloc b6.size _⟩

end Go.Proofs.YtojnniacmmcddaaDoor
