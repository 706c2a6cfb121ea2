/-
  Contract: Link, over plain rows.
-/
import Derived.Test.YtojnniacmmcddaaDoorX3
import Derived.Test.YtojnniacmmcddaaDoorY0
import Derived.Test.YtojnniacmmcddaaDoorY1
import Derived.Test.YtojnniacmmcddaaDoorY2
import Derived.Test.YtojnniacmmcddaaDoorY3
namespace Go.Proofs.YtojnniacmmcddaaDoor
open Go.RowKit
open Go.Lib hiding intOf
set_option linter.unusedVariables false
set_option linter.unusedSimpArgs false

theorem link_w (v : Value) (nx : Int) (L : List Rw) (s tt : List UInt8) (w : World) (hS : Sd L nx) (hv : Tm w v L nx) (hl : L.length ≤ 900000) (hnx : nx ≤ 900000000000) (hsl : s.length ≤ 1000) (htl : tt.length ≤ 1000000) (hsc : s = [] ∨ Cp s) :
    Calls Tryd.prog 23 #[v, .string (bs s), .string (bs tt)] w fun e w' => ∃ v', e = .returned (.tuple #[v', .int .i64 (linkP L nx s tt).2.2]) ∧ Tm w' v' (linkP L nx s tt).1 (linkP L nx s tt).2.1 ∧ Below w.heap.size w w' := by
  obtain ⟨ad, cap, rfl, hr, hcap, hnil⟩ := hv
  have hnn := hS.nn
  have hp : ∀ r ∈ L, r.p.length ≤ 4611686018427387903 := fun r hr => by have := (hS.ok r hr).1; omega
  have hml := md_length L (s := s)
  have KS : ∀ W, Below w.heap.size w W → Calls Tryd.prog 27 #[.agg #[.slice ad L.length cap, .int .i64 nx]] W fun e w' => ∃ a c, e = .returned (.agg #[.slice a L.length c, .int .i64 nx]) ∧ Xs L a c W w' ∧ Below W.heap.size W w' := fun W hb => same_w ad cap nx L W (hr.below hb) (by omega)
  have KA : ∀ W, Below w.heap.size w W → Calls Tryd.prog 28 #[.agg #[.slice ad L.length cap, .int .i64 nx], .string (bs tt)] W fun e w' => e = .returned (.tuple #[.agg (atR L tt).cs.toArray, .bool (fd L tt)]) ∧ Below W.heap.size W w' := fun W hb => at_w ad cap nx L tt W hS.srt (hr.below hb) (by omega) hp (by omega)
  have KB : ∀ W, Below w.heap.size w W → Calls Tryd.prog 28 #[.agg #[.slice ad L.length cap, .int .i64 nx], .string (bs s)] W fun e w' => e = .returned (.tuple #[.agg (atR L s).cs.toArray, .bool (fd L s)]) ∧ Below W.heap.size W w' := fun W hb => at_w ad cap nx L s W hS.srt (hr.below hb) (by omega) hp (by omega)
  unfold linkP
  by_cases e0 : s = []
  · rw [if_pos e0]
    subst e0
    refine (link_root ad cap L.length L.length nx tt w (Xs L) (fun a c W W' x y h hk => h.far a c W W' x y hk) KS).mono ?_
    rintro e w' ⟨a, c, rfl, hx, hb⟩
    exact ⟨_, rfl, hx.tm, hb⟩
  · have hc : Cp s := hsc.resolve_left e0
    rw [if_neg e0]
    by_cases hf : fd L tt = false
    · rw [if_pos hf]
      have ha : atR L tt = zr := by unfold atR; rw [hf]; rfl
      rw [ha, hf] at KA
      refine (link_miss ad cap L.length L.length nx s tt w (Xs L) (fun a c W W' x y h hk => h.far a c W W' x y hk) e0 KA KS).mono ?_
      rintro e w' ⟨a, c, rfl, hx, hb⟩
      exact ⟨_, rfl, hx.tm, hb⟩
    · rw [if_neg hf]
      have hf : fd L tt = true := by simpa using hf
      rw [hf] at KA
      obtain ⟨hm, hpt⟩ := atR_mem hf
      by_cases c1 : (atR L tt).kind ≠ 1
      · rw [if_pos c1]
        refine (link_cl1 ad cap L.length L.length nx s tt w (Xs L) (fun a c W W' x y h hk => h.far a c W W' x y hk) (atR L tt) (atR L s) (fd L s) e0 c1 KA KB KS).mono ?_
        rintro e w' ⟨a, c, rfl, hx, hb⟩
        exact ⟨_, rfl, hx.tm, hb⟩
      · rw [if_neg c1]
        have c1 : (atR L tt).kind = 1 := Classical.not_not.1 c1
        by_cases c2 : (atR L s).kind = 4
        · rw [if_pos c2]
          refine (link_cl2 ad cap L.length L.length nx s tt w (Xs L) (fun a c W W' x y h hk => h.far a c W W' x y hk) (atR L tt) (atR L s) (fd L s) e0 c1 c2 KA KB KS).mono ?_
          rintro e w' ⟨a, c, rfl, hx, hb⟩
          exact ⟨_, rfl, hx.tm, hb⟩
        · rw [if_neg c2]
          by_cases hcl : cls L s = true
          · rw [if_pos hcl]
            refine (link_par ad cap L.length L.length nx s tt w (Xs L) (fun a c W W' x y h hk => h.far a c W W' x y hk) (atR L tt) (atR L s) (fd L s) e0 c1 c2 KA KB (fun W hb => wp_clash ad cap nx L s W hS.srt (hr.below hb) (by omega) hp e0 hsl hcl) KS).mono ?_
            rintro e w' ⟨a, c, rfl, hx, hb⟩
            exact ⟨_, rfl, hx.tm, hb⟩
          · have hcl : cls L s = false := by simpa using hcl
            rw [hcl, if_neg (by simp)]
            obtain ⟨hw, hu⟩ := hS.wp hc hsl hcl
            have hp2 : ∀ r ∈ wpR L nx s, r.p.length ≤ 4611686018427387903 := fun r hr => by have := (hw.ok r hr).1; omega
            have hl2 : (wpR L nx s).length ≤ 1000000 := by rw [wpR_length]; omega
            have hb0 : ∀ b o, ad = some ⟨b, o, none⟩ → b < w.heap.size := by
              intro b o e
              rcases hr with h | ⟨b', o', e', hb', _⟩
              · rw [h] at hm; cases hm
              · rw [e] at e'; injection e' with e'; injection e' with e1; omega
            refine (link_ok ad cap L.length (wpR L nx s).length nx s tt w (nx + ((mdL L s).length : Int)) (wpR L nx s) (putL (wpR L nx s) { atR L tt with p := s }) (atR L tt) (atR L s) (fd L s) e0 c1 c2 KA KB (fun W hb => ?_) (fun W ad2 c2 h1 h2 h3 => lay_w ad2 c2 (nx + ((mdL L s).length : Int)) (wpR L nx s) { atR L tt with p := s } W hw.srt h1 hl2 h2 h3 hp2 (by show s.length ≤ _; omega))).mono ?_
            · refine (wp_made' ad cap nx L s W hS.srt (hr.below hb) (by omega) hcap hnil hp e0 hsl ⟨hnn, by omega⟩ hcl).mono ?_
              rintro e w' ⟨a, c, h1, h2, h3, h4, h5, h6⟩
              exact ⟨a, c, h1, h2, h3, h4, h5, fun g k1 k2 => h6 g (fun b o e => by have := hb0 b o e; omega) k2⟩
            · rintro e w' ⟨gd, c, rfl, h1, h2, h3, h4⟩
              exact ⟨_, rfl, ⟨_, c, rfl, h1, h3, fun h => by cases h⟩, h4⟩

end Go.Proofs.YtojnniacmmcddaaDoor
