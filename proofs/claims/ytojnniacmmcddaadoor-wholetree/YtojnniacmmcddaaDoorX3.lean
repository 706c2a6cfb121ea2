/-
  Contract: Add, over plain rows.
-/
import Derived.Test.YtojnniacmmcddaaDoorX2
import Derived.Test.YtojnniacmmcddaaDoorW1
import Derived.Test.YtojnniacmmcddaaDoorW3
import Derived.Test.YtojnniacmmcddaaDoorW4
import Derived.Test.YtojnniacmmcddaaDoorW5
import Derived.Test.YtojnniacmmcddaaDoorW6
import Derived.Test.YtojnniacmmcddaaDoorW7
import Derived.Test.YtojnniacmmcddaaDoorW8
import Derived.Test.YtojnniacmmcddaaDoorW9
namespace Go.Proofs.YtojnniacmmcddaaDoor
open Go.RowKit
open Go.Lib hiding intOf
set_option linter.unusedVariables false
set_option linter.unusedSimpArgs false

/-- what a copy of rows is -/
def Xs (L : List Rw) (a : Option Addr) (c : Nat) (W W' : World) : Prop := (a = none ∧ c = 0 ∧ L = []) ∨ ∃ gd, a = some ⟨gd, 0, none⟩ ∧ W.heap.size ≤ gd ∧ Rs W' a L ∧ L.length ≤ c

theorem Xs.far {L : List Rw} {w : World} {k : Nat} (a : Option Addr) (c : Nat) (W W' : World) (x y : Value) (h : Xs L a c W W') (hk : w.heap.size + k < W.heap.size) : Xs L a c w ((W'.setCell ⟨w.heap.size + k, 0, none⟩ x).setCell ⟨w.heap.size + k, 1, none⟩ y) := by
  rcases h with h | ⟨gd, h1, h2, h3, h4⟩
  · exact .inl h
  · exact .inr ⟨gd, h1, by omega, h3.far h1 _ (by omega) x y, h4⟩

theorem Xs.tm {L : List Rw} {nx : Int} {a : Option Addr} {c : Nat} {W W' : World} (h : Xs L a c W W') : Tm W' (.agg #[.slice a L.length c, .int .i64 nx]) L nx := by
  rcases h with ⟨rfl, rfl, rfl⟩ | ⟨gd, h1, h2, h3, h4⟩
  · exact ⟨none, 0, rfl, .inl rfl, Nat.le_refl _, fun _ => rfl⟩
  · exact ⟨a, c, rfl, h3, h4, fun h => by rw [h1] at h; cases h⟩

theorem same_w (ad : Option Addr) (cap : Nat) (nx : Int) (L : List Rw) (w : World) (hr : Rs w ad L) (hl : L.length ≤ 1000000) :
    Calls Tryd.prog 27 #[.agg #[.slice ad L.length cap, .int .i64 nx]] w fun e w' => ∃ a c, e = .returned (.agg #[.slice a L.length c, .int .i64 nx]) ∧ Xs L a c w w' ∧ Below w.heap.size w w' := by
  cases ad with
  | none =>
    obtain rfl : L = [] := by
      rcases hr with h | ⟨b, o, e, _⟩
      · exact h
      · cases e
    refine (same_nil cap nx w).mono ?_
    rintro e w' ⟨rfl, b⟩
    exact ⟨none, 0, rfl, .inl ⟨rfl, rfl, rfl⟩, b⟩
  | some a =>
    refine (same_some a cap nx L w hr hl).mono ?_
    rintro e w' ⟨gd, c, rfl, h1, h2, h3, h4⟩
    exact ⟨some ⟨gd, 0, none⟩, c, rfl, .inr ⟨gd, rfl, h2, h1, h3⟩, h4⟩

/-- a node, as far as the laws lay one -/
def nodeV (kd md sz : Int) (mk : Bool) : Value := .agg #[.int .i64 kd, .int .i64 md, .int .i64 0, .int .i64 0, .int .i64 0, .string ⟨#[]⟩, .string ⟨#[]⟩, .string ⟨#[]⟩, .slice none 0 0, .int .i64 sz, .bool mk]

theorem add_w (v : Value) (nx : Int) (L : List Rw) (s : List UInt8) (kd md sz : Int) (mk : Bool) (w : World) (hS : Sd L nx) (hv : Tm w v L nx) (hl : L.length ≤ 900000) (hnx : nx ≤ 900000000000) (hsl : s.length ≤ 1000) (hsc : s = [] ∨ Cp s) :
    Calls Tryd.prog 10 #[v, .string (bs s), nodeV kd md sz mk] w fun e w' => ∃ v', e = .returned (.tuple #[v', .int .i64 (addP L nx s kd md sz mk).2.2]) ∧ Tm w' v' (addP L nx s kd md sz mk).1 (addP L nx s kd md sz mk).2.1 ∧ Below w.heap.size w w' := by
  obtain ⟨ad, cap, rfl, hr, hcap, hnil⟩ := hv
  have hnn := hS.nn
  have hp : ∀ r ∈ L, r.p.length ≤ 4611686018427387903 := fun r hr => by have := (hS.ok r hr).1; omega
  have hml := md_length L (s := s)
  have KS : ∀ W, Below w.heap.size w W → Calls Tryd.prog 27 #[.agg #[.slice ad L.length cap, .int .i64 nx]] W fun e w' => ∃ a c, e = .returned (.agg #[.slice a L.length c, .int .i64 nx]) ∧ Xs L a c W w' ∧ Below W.heap.size W w' := fun W hb => same_w ad cap nx L W (hr.below hb) (by omega)
  have KA : ∀ W, Below w.heap.size w W → Calls Tryd.prog 28 #[.agg #[.slice ad L.length cap, .int .i64 nx], .string (bs s)] W fun e w' => e = .returned (.tuple #[.agg (atR L s).cs.toArray, .bool (fd L s)]) ∧ Below W.heap.size W w' := fun W hb => at_w ad cap nx L s W hS.srt (hr.below hb) (by omega) hp (by omega)
  have fin : ∀ (L' : List Rw) (ny : Int) (code : Int) (w' : World) (gd c : Nat), Rs w' (some ⟨gd, 0, none⟩) L' → L'.length ≤ c → Tm w' (.agg #[.slice (some ⟨gd, 0, none⟩) L'.length c, .int .i64 ny]) L' ny := fun L' ny code w' gd c h1 h2 => ⟨_, c, rfl, h1, h2, fun h => by cases h⟩
  unfold nodeV addP
  by_cases e0 : s = []
  · rw [if_pos e0]
    subst e0
    refine (add_root ad cap L.length L.length nx kd md sz mk w (Xs L) (fun a c W W' x y h hk => h.far a c W W' x y hk) KS).mono ?_
    rintro e w' ⟨a, c, rfl, hx, hb⟩
    exact ⟨_, rfl, hx.tm, hb⟩
  · have hc : Cp s := hsc.resolve_left e0
    rw [if_neg e0]
    by_cases hf : fd L s = true
    · rw [if_pos hf]
      rw [hf] at KA
      have hthere := hS.there hf
      have KP : ∀ W, Below w.heap.size w W → Calls Tryd.prog 30 #[.agg #[.slice ad L.length cap, .int .i64 nx], .string (bs s)] W fun e w' => ∃ ad2 c2, e = .returned (.tuple #[.agg #[.slice ad2 L.length c2, .int .i64 nx], .int .i64 0]) ∧ Rs w' ad2 L ∧ L.length ≤ c2 ∧ (ad2 = none → c2 = 0) ∧ Below W.heap.size W w' := fun W hb => by
        have := wp_made ad cap nx L s W hS.srt (hr.below hb) (by omega) hcap hnil hp e0 hsl ⟨hnn, by omega⟩ hthere.2
        rw [wpR_nil hthere.1, hthere.1] at this
        have ez : nx + (([] : List (List UInt8)).length : Int) = nx := by simp
        rw [ez] at this
        exact this
      by_cases c1 : decide ((atR L s).kind = 4) ≠ decide (kd = 4)
      · rw [if_pos c1]
        by_cases c2 : (atR L s).kind = 4
        · have c3 : kd ≠ 4 := fun e => c1 (by rw [decide_eq_true c2, decide_eq_true e])
          refine (add_dirThere ad cap L.length L.length nx s kd md sz mk w (Xs L) (fun a c W W' x y h hk => h.far a c W W' x y hk) (atR L s) c2 c3 e0 KA KS).mono ?_
          rintro e w' ⟨a, c, rfl, hx, hb⟩
          exact ⟨_, rfl, hx.tm, hb⟩
        · have c3 : kd = 4 := Classical.byContradiction fun e => c1 (by rw [decide_eq_false c2, decide_eq_false e])
          refine (add_otherThere ad cap L.length L.length nx s kd md sz mk w (Xs L) (fun a c W W' x y h hk => h.far a c W W' x y hk) (atR L s) c2 c3 e0 KA KS).mono ?_
          rintro e w' ⟨a, c, rfl, hx, hb⟩
          exact ⟨_, rfl, hx.tm, hb⟩
      · rw [if_neg c1]
        have c2 : (atR L s).kind = 4 ↔ kd = 4 := by
          have : decide ((atR L s).kind = 4) = decide (kd = 4) := Classical.not_not.1 c1
          simpa using this
        by_cases c3 : kd = 4
        · rw [if_pos c3]
          refine (add_again ad cap L.length L.length nx nx s kd md sz mk w L (putL L ⟨s, (atR L s).id, kd, md, sz, mk⟩) (atR L s) (c2.2 c3) c3 e0 hnn (by omega) KA KP (fun W ad2 c2 h1 h2 h3 => put_w ad2 c2 nx L ⟨s, (atR L s).id, kd, md, sz, mk⟩ W hS.srt h1 (by omega) h2 h3 hp (by show s.length ≤ _; omega))).mono ?_
          rintro e w' ⟨gd, c, rfl, h1, h2, h3, h4⟩
          exact ⟨_, rfl, fin _ _ 0 _ _ _ h1 h3, h4⟩
        · rw [if_neg c3]
          refine (add_over ad cap L.length L.length nx nx s kd md sz mk w L (putL L ⟨s, nx, kd, md, sz, mk⟩) (atR L s) (fun e => c3 (c2.1 e)) c3 e0 hnn (by omega) KA KP (fun W ad2 c2 h1 h2 h3 => put_w ad2 c2 (nx + 1) L ⟨s, nx, kd, md, sz, mk⟩ W hS.srt h1 (by omega) h2 h3 hp (by show s.length ≤ _; omega))).mono ?_
          rintro e w' ⟨gd, c, rfl, h1, h2, h3, h4⟩
          exact ⟨_, rfl, fin _ _ 0 _ _ _ h1 h3, h4⟩
    · have hf : fd L s = false := by simpa using hf
      have ha : atR L s = zr := by unfold atR; rw [hf]; rfl
      rw [ha, hf] at KA
      rw [hf, if_neg (by simp)]
      by_cases hcl : cls L s = true
      · rw [if_pos hcl]
        refine (add_clash ad cap L.length L.length nx s kd md sz mk w (Xs L) (fun a c W W' x y h hk => h.far a c W W' x y hk) e0 KA (fun W hb => wp_clash ad cap nx L s W hS.srt (hr.below hb) (by omega) hp e0 hsl hcl) KS).mono ?_
        rintro e w' ⟨a, c, rfl, hx, hb⟩
        exact ⟨_, rfl, hx.tm, hb⟩
      · have hcl : cls L s = false := by simpa using hcl
        rw [hcl, if_neg (by simp)]
        obtain ⟨hw, hu⟩ := hS.wp hc hsl hcl
        have hp2 : ∀ r ∈ wpR L nx s, r.p.length ≤ 4611686018427387903 := fun r hr => by have := (hw.ok r hr).1; omega
        have hl2 : (wpR L nx s).length ≤ 1000000 := by rw [wpR_length]; omega
        refine (add_new ad cap L.length (wpR L nx s).length nx (nx + ((mdL L s).length : Int)) s kd md sz mk w (wpR L nx s) (putL (wpR L nx s) ⟨s, nx + ((mdL L s).length : Int), kd, md, sz, mk⟩) e0 hw.nn (by omega) KA (fun W hb => wp_made ad cap nx L s W hS.srt (hr.below hb) (by omega) hcap hnil hp e0 hsl ⟨hnn, by omega⟩ hcl) (fun W ad2 c2 h1 h2 h3 => put_w ad2 c2 (nx + ((mdL L s).length : Int) + 1) (wpR L nx s) ⟨s, nx + ((mdL L s).length : Int), kd, md, sz, mk⟩ W hw.srt h1 hl2 h2 h3 hp2 (by show s.length ≤ _; omega))).mono ?_
        rintro e w' ⟨gd, c, rfl, h1, h2, h3, h4⟩
        exact ⟨_, rfl, fin _ _ 0 _ _ _ h1 h3, h4⟩

end Go.Proofs.YtojnniacmmcddaaDoor
