/-
  WholeTree: it is true, whatever comes in.
-/
import Derived.Test.YtojnniacmmcddaaDoorWd
import Derived.Test.YtojnniacmmcddaaDoorWi
import Derived.Test.YtojnniacmmcddaaDoorX3
import Derived.Deep.RegionWith
import Derived.Deep.CutBlock
import Derived.Deep.DeepCutAuto
namespace Go.Proofs.YtojnniacmmcddaaDoor
open Go.RowKit
open Go.Lib hiding intOf
set_option linter.unusedVariables false
set_option linter.unusedSimpArgs false

def L0 : List Rw := [⟨[98], 0, 4, 0, 0, false⟩]
theorem good_b : Good [98] := ⟨by decide, by decide, by decide, by decide, by decide, by decide, by decide +kernel⟩
theorem cp_b : Cp [98] := ⟨[[98]], by simp, fun p hp => by rw [List.mem_singleton.1 hp]; exact good_b, by rw [jn_one]⟩
theorem up_b : upL [98] = [] := by
  have := up_jn [[98]] (fun p hp => by rw [List.mem_singleton.1 hp]; exact good_b) (by simp)
  rw [jn_one] at this
  exact this
theorem add_b : addP [] 0 [98] 4 0 0 false = (L0, 1, 0) := by
  have hch : chain (upL [98]) = [] := by rw [up_b, chain_nil]
  have hmd : mdL [] [98] = [] := by unfold mdL; rw [hch]; rfl
  have hst : stL [] [98] = [] := by unfold stL; rw [hch]; rfl
  have hcl : cls [] [98] = false := by unfold cls; rw [hst]
  unfold addP
  rw [if_neg (by simp), show fd [] [98] = false from rfl, if_neg (by simp), hcl, if_neg (by simp), wpR_nil hmd, hmd]
  rfl
theorem sd_b : Sd L0 1 := by
  have := Sd.nil.add (s := [98]) (kd := 4) (md := 0) (sz := 0) (mk := false) (.inr cp_b) (by simp) (by omega)
  rw [add_b] at this
  exact this
theorem kids_b : (kids L0 []).length = 1 := by
  have : kids L0 [] = L0 := by
    unfold kids L0 sbf lsf
    simp [und_nil, up_b]
  rw [this]
  rfl

theorem Rs.apart {w : World} {ad : Option Addr} {L : List Rw} {g : Nat} {C : Array Value} {t : TypeId} {fr : Nat × Nat} (h : Rs w ad L) (hg : w.heap[g]? = some (.cells C t fr)) (hC : C.size ≤ 2) : L = [] ∨ ∀ b o, ad = some ⟨b, o, none⟩ → b ≠ g := by
  rcases h with h | ⟨b, o, h1, h2, h3⟩
  · exact .inl h
  · cases L with
    | nil => exact .inl rfl
    | cons r L =>
      right
      intro b' o' e e2
      rw [h1] at e
      injection e with e
      injection e with e1 e3
      have q := h3 2 (.int .i64 r.kind) rfl
      rw [show b = g by omega, cells_of hg] at q
      have := (Array.getElem?_eq_some_iff.1 q).1
      omega

theorem Rs.setBox {w : World} {ad : Option Addr} {L : List Rw} {g k : Nat} {C : Array Value} {t : TypeId} {fr : Nat × Nat} (h : Rs w ad L) (hg : w.heap[g]? = some (.cells C t fr)) (hC : C.size ≤ 2) (v : Value) : Rs (w.setCell ⟨g, k, none⟩ v) ad L := by
  rcases h.apart hg hC with e | hne
  · exact .inl e
  · rcases h with h | ⟨b, o, h1, h2, h3⟩
    · exact .inl h
    · refine .inr ⟨b, o, h1, by simpa using h2, fun j u hu => ?_⟩
      rw [World.cell?_setCell_far _ _ _ _ (by show g ≠ b; exact fun e => hne b o h1 e.symm)]
      exact h3 j u hu

theorem Rs.setTwo {w : World} {ad : Option Addr} {L : List Rw} {g : Nat} {a b : Value} {t : TypeId} (h : Rs w ad L) (hg : w.heap[g]? = some (.cells #[a, b] t (0, 0))) (x y : Value) : Rs ((w.setCell ⟨g, 0, none⟩ x).setCell ⟨g, 1, none⟩ y) ad L := by
  have h1 := h.setBox (k := 0) hg (by simp) x
  have hg2 : (w.setCell ⟨g, 0, none⟩ x).heap[g]? = some (.cells #[x, b] t (0, 0)) := by
    rw [setCell_eq_setRow w g 0 _ t (0, 0) _ hg]
    exact setRow_heap _ _ _ _ _ _ hg
  exact h1.setBox (k := 1) hg2 (by simp) y

theorem cln_cp {l : List UInt8} (h : err l = 0) : jn (cln l) = [] ∨ Cp (jn (cln l)) := by
  have e : cln l = parts l := by unfold cln; rw [if_pos h]
  by_cases hp : parts l = []
  · left; rw [e, hp]; rfl
  · right; rw [e]; exact ⟨parts l, hp, parts_good l h, rfl⟩

theorem cln_len (l : List UInt8) : (jn (cln l)).length ≤ l.length := by
  unfold cln
  split
  · exact jn_parts_length l
  · exact Nat.zero_le _

/-- path.Clean, its parts at an address -/
theorem clean_sl (l : List UInt8) (hl : l.length ≤ 9223372036854775807) (w : World) (hm : Ml w) :
    Calls Tryd.prog 12 #[.string (bs l)] w fun e w' => ∃ ad c, e = .returned (.tuple #[.slice ad (cln l).length c, .int .i64 (err l)]) ∧ (cln l).length ≤ c ∧ Sl w' ad (cln l) ∧ Below w.heap.size w w' := by
  refine (clean_w l hl w hm).mono fun e w' ⟨v, he, ho, hb⟩ => ?_
  obtain ⟨ad, c, rfl, hc, hm, hs⟩ := own_sl ho
  exact ⟨ad, c, he, hc, hs, hb⟩

theorem cln_count (l : List UInt8) : (cln l).length ≤ l.length + 1 := by
  by_cases h : err l = 0
  · have e : cln l = parts l := by unfold cln; rw [if_pos h]
    have h1 := jn_len_count (cln l) (fun p hp => by rw [e] at hp; exact (parts_good l h p hp).1)
    have h2 := cln_len l
    omega
  · unfold cln; rw [if_neg h]; exact Nat.zero_le _

/-- the tree in its variable -/
structure Pw (w W : World) (ad : Option Addr) (cap : Nat) (q : List Rw × Int) : Prop where
  box : W.heap[w.heap.size]? = some (.cells #[.slice ad q.1.length cap, .int .i64 q.2] 26 (0, 0))
  bel : Below w.heap.size w W
  rows : Rs W ad q.1
  hcap : q.1.length ≤ cap
  nil : ad = none → cap = 0
theorem Pw.lt {w W : World} {ad : Option Addr} {cap : Nat} {q : List Rw × Int} (h : Pw w W ad cap q) : w.heap.size < W.heap.size := (Array.getElem?_eq_some_iff.1 h.box).1
theorem Pw.next {w W W' : World} {ad : Option Addr} {cap : Nat} {q : List Rw × Int} (h : Pw w W ad cap q) (b : Below W.heap.size W W') : Pw w W' ad cap q := ⟨(b.block _ h.lt).trans h.box, h.bel.trans (b.mono h.bel.size), h.rows.below b, h.hcap, h.nil⟩
theorem Pw.drew {w W : World} {ad : Option Addr} {cap : Nat} {q : List Rw × Int} (h : Pw w W ad cap q) : Pw w W.drew ad cap q := ⟨h.box, h.bel.drew, h.rows.below ((Below.refl _ _).drew), h.hcap, h.nil⟩
theorem Pw.tm {w W : World} {ad : Option Addr} {cap : Nat} {q : List Rw × Int} (h : Pw w W ad cap q) : Tm W (.agg #[.slice ad q.1.length cap, .int .i64 q.2]) q.1 q.2 := ⟨ad, cap, rfl, h.rows, h.hcap, h.nil⟩
theorem Pw.set {w W : World} {ad ad2 : Option Addr} {cap cap2 : Nat} {q q2 : List Rw × Int} (h : Pw w W ad cap q) (hr : Rs W ad2 q2.1) (hc : q2.1.length ≤ cap2) (hn : ad2 = none → cap2 = 0) :
    Pw w ((W.setCell ⟨w.heap.size, 0, none⟩ (.slice ad2 q2.1.length cap2)).setCell ⟨w.heap.size, 1, none⟩ (.int .i64 q2.2)) ad2 cap2 q2 := by
  have e := two_set h.box (.slice ad2 q2.1.length cap2) (.int .i64 q2.2)
  have b : Below w.heap.size W ((W.setCell ⟨w.heap.size, 0, none⟩ (.slice ad2 q2.1.length cap2)).setCell ⟨w.heap.size, 1, none⟩ (.int .i64 q2.2)) := ((Below.refl _ _).setCell (by show w.heap.size ≤ w.heap.size; omega) _).setCell (by show w.heap.size ≤ w.heap.size; omega) _
  exact ⟨e, h.bel.trans b, hr.setTwo h.box _ _, hc, hn⟩

set_option maxRecDepth 100000 in
set_option maxHeartbeats 8000000 in
theorem whole_w (ad0 ad1 : Option Addr) (n0 cap0 n1 cap1 : Nat) (ks : List Int) (ns : List (List UInt8)) (w : World) (hm : Ml w) (h0 : Il w ad0 ks) (h1 : Sl w ad1 ns) (hl0 : ks.length = n0) (hl1 : ns.length = n1) (hc0 : n0 ≤ cap0) (hc1 : n1 ≤ cap1) (hb0 : cap0 ≤ 9223372036854775807) (hb1 : cap1 ≤ 9223372036854775807) (hns : ∀ x ∈ ns, x.length ≤ 9223372036854775807) :
    Calls Tryd.prog 3 #[.slice ad0 n0 cap0, .slice ad1 n1 cap1] w fun e w' => e = .returned (.bool true) ∧ Below w.heap.size w w' := by
  have HM : Hid (Ml w) := hm
  have HI : Hid (Il w ad0 ks) := h0
  have HSl : Hid (Sl w ad1 ns) := h1
  have HL0 : Hid (ks.length = n0) := hl0
  have HL1 : Hid (ns.length = n1) := hl1
  have HNs : Hid (∀ x ∈ ns, x.length ≤ 9223372036854775807) := hns
  clear hm h0 h1 hl0 hl1 hns
  have P0 : Pw w (w.alloc (.cells #[.slice none 0 0, .int .i64 0] 26)) none 0 ([], 0) := ⟨heap_alloc_new w _, below_box w _, .inl rfl, Nat.le_refl _, fun _ => rfl⟩
  generalize hPP : (fun (e : Ending) (w' : World) => e = .returned (.bool true) ∧ Below w.heap.size w w') = PP
  have HPP : Hid (∀ W, Below w.heap.size w W → PP (.returned (.bool true)) W) := fun W hb => (by subst hPP; exact ⟨rfl, hb⟩)
  clear hPP
  have KA : Hid (∀ W, Pw w W none 0 ([], 0) → Calls Tryd.prog 10 #[.agg #[.slice none 0 0, .int .i64 0], .string ⟨#[98]⟩, .agg #[.int .i64 4, .int .i64 0, .int .i64 0, .int .i64 0, .int .i64 0, .string ⟨#[]⟩, .string ⟨#[]⟩, .string ⟨#[]⟩, .slice none 0 0, .int .i64 0, .bool false]] W fun e w' => ∃ ad2 cap2, e = .returned (.tuple #[.agg #[.slice ad2 1 cap2, .int .i64 1], .int .i64 0]) ∧ Rs w' ad2 L0 ∧ 1 ≤ cap2 ∧ (ad2 = none → cap2 = 0) ∧ Below W.heap.size W w') := fun W hP => by
    have g := add_w _ 0 [] [98] 4 0 0 false W Sd.nil hP.tm (by simp) (by omega) (by simp) (.inr cp_b)
    rw [add_b] at g
    refine g.mono ?_
    rintro e w' ⟨v', rfl, ⟨ad2, cap2, rfl, h1, h2, h3⟩, hb⟩
    exact ⟨ad2, cap2, rfl, h1, h2, h3, hb⟩
  go_enter Tryd.func3, Tryd.ntmps3
  go_upto_region 2 with fail
  have hbx := below_box w (.cells #[.slice none 0 0, .int .i64 0] 26)
  generalize w.alloc _ = w0 at *
  have m0 := cells_of P0.box
  have PH : Hid (Pw w w0 none 0 ([], 0)) := P0
  clear P0 hbx
  go_upto_region 3 with (go_at_call 10; refine (KA.out _ PH.out).mono ?_; rintro e w1 ⟨ad2, cap2, rfl, R1, C1, N1, b1⟩; have P1 : Hid (Pw w w1 none 0 ([], 0)) := PH.out.next b1; have mT := cells_of P1.out.box; have fT := froz_of P1.out.box)
  have P2 : Hid (Pw w ((w1.setCell ⟨w.heap.size, 0, none⟩ (.slice ad2 1 cap2)).setCell ⟨w.heap.size, 1, none⟩ (.int .i64 1)) ad2 cap2 (L0, 1)) := P1.out.set (q2 := (L0, 1)) R1 C1 N1
  generalize (w1.setCell _ _).setCell _ _ = w2 at *
  clear KA m0 mT fT PH P1 R1 b1
  have m2 := cells_of P2.out.box
  have KL : Hid (∀ W, Pw w W ad2 cap2 (L0, 1) → Calls Tryd.prog 11 #[.agg #[.slice ad2 1 cap2, .int .i64 1], .string ⟨#[]⟩] W fun e w' => ∃ ad3 c3, e = .returned (.tuple #[.slice ad3 1 c3, .int .i64 0]) ∧ Below W.heap.size W w') := fun W hP => by
    refine (list_w ad2 cap2 1 1 L0 [] W sd_b hP.rows rfl (by omega) (.inl rfl)).mono ?_
    rintro e w' ⟨v, rfl, hO, hb⟩
    have hk := kids_b
    rcases hO.2 with ⟨e1, e2⟩ | ⟨g, c, cur, e1, _⟩
    · omega
    · exact ⟨_, c, by rw [e1, hk], hb⟩
  go_upto_region 4 with (go_at_call 11; refine (KL.out _ P2.out).mono ?_; rintro e w3 ⟨ad3, c3, rfl, b3⟩)
  have P3 : Hid (Pw w w3 ad2 cap2 (L0, 1)) := P2.out.next b3
  clear KL m2 P2 b3
  go_upto_region 8 with fail
  all_goals try (exact HPP.out _ P3.out.bel)
  rename_i e1 e2 K9 hK9
  obtain rfl : n0 = n1 := by omega
  have hn15 : n0 ≤ 15 := by omega
  clear e1 e2
  have m3 := cells_of P3.out.box
  have f3 := froz_of P3.out.box
  have P4 : Hid (Pw w ((w3.setCell ⟨w.heap.size, 0, none⟩ (.slice none 0 0)).setCell ⟨w.heap.size, 1, none⟩ (.int .i64 0)) none 0 ([], 0)) := P3.out.set (q2 := ([], 0)) (.inl rfl) (Nat.le_refl _) (fun _ => rfl)
  go_upto_region 9 with fail
  generalize (w3.setCell _ _).setCell _ _ = w4 at *
  clear m3 f3 P3
  go_wp2_with fail
  rename_i K2 hK2
  have HK : Hid (∀ (a : Act) (w : World), Code.wp Tryd.prog ((Tryd.f3.body.bind (tailAt 16)).getD .skip) (bodyPost Tryd.prog Tryd.f3 PP) a w → K2 a w) := hK2
  clear hK2
  go_loopw [65] (fun x W => ∃ (i : Nat) (ad : Option Addr) (cap : Nat) (q : List Rw × Int), x = .int .i64 (i : Int) ∧ i ≤ n0 ∧ Hid (Pw w W ad cap q) ∧ Hid (Sd q.1 q.2 ∧ q.1.length ≤ 201 * i ∧ q.2 ≤ 201 * (i : Int))) (fun x _ => n0 - (intOf x).toNat)
  case atStart => exact ⟨0, none, 0, ([], 0), rfl, Nat.zero_le _, P4, Sd.nil, by simp, by simp⟩
  case round =>
    obtain ⟨i, ad, cap, q, rfl, hi, HP, HSd⟩ := hrel
    by_cases hlt : i < n0
    · obtain ⟨s, hs⟩ : ∃ s, ns[i]? = some s := ⟨_, List.getElem?_eq_getElem (by have := HL1.out; omega)⟩
      obtain ⟨k, hk⟩ : ∃ k, ks[i]? = some k := ⟨_, List.getElem?_eq_getElem (by have := HL0.out; omega)⟩
      have hsl := HNs.out s (List.mem_of_getElem? hs)
      obtain ⟨b1, o1, rfl, hb1a, hb1b⟩ : ∃ b o, ad1 = some ⟨b, o, none⟩ ∧ b < w.heap.size ∧ w.cell? ⟨b, o + i, none⟩ = some (.string (bs s)) := by
        rcases HSl.out with h | ⟨b, o, h1, h2, h3⟩
        · rw [h] at hs; simp at hs
        · exact ⟨b, o, h1, h2, h3 i s hs⟩
      obtain ⟨b0, o0, rfl, hb0a, hb0b⟩ : ∃ b o, ad0 = some ⟨b, o, none⟩ ∧ b < w.heap.size ∧ w.cell? ⟨b, o + i, none⟩ = some (.int .i64 k) := by
        rcases HI.out with h | ⟨b, o, h1, h2, h3⟩
        · rw [h] at hk; simp at hk
        · exact ⟨b, o, h1, h2, h3 i k hk⟩
      have HK0 : Hid (∀ W, Below w.heap.size w W → W.cell? ⟨b0, o0 + i, none⟩ = some (.int .i64 k)) := fun W hb => (hb.cell (p := ⟨b0, o0 + i, none⟩) hb0a).trans hb0b
      have q1 : wr.cell? ⟨b1, o1 + i, none⟩ = some (.string (bs s)) := (HP.out.bel.cell (p := ⟨b1, o1 + i, none⟩) hb1a).trans hb1b
      have i1 : (0 : Int) ≤ (i : Int) := by omega
      have i2 : (i : Int) < (n0 : Int) := by omega
      have K1 : Hid (∀ W, Below w.heap.size w W → Calls Tryd.prog 12 #[.string (bs s)] W fun e w' => ∃ ad c, e = .returned (.tuple #[.slice ad (cln s).length c, .int .i64 (err s)]) ∧ (cln s).length ≤ c ∧ Sl w' ad (cln s) ∧ Below W.heap.size W w') := fun W hb => clean_sl s hsl W (HM.out.below hb)
      have hcl := cln_len s
      have hcp := cln_count s
      have hsz := bs_size s
      clear hs hk hb1a hb1b hb0a hb0b
      go_upto_block 1 with fail
      go_cut [] (fun wx => ∃ ad2 cap2 q2, Hid (Pw w wx ad2 cap2 q2) ∧ Hid (Sd q2.1 q2.2 ∧ q2.1.length ≤ 201 * (i + 1) ∧ q2.2 ≤ 201 * ((i + 1 : Nat) : Int)))
      case first =>
        have HSd2 : Hid (Sd q.1 q.2 ∧ q.1.length ≤ 201 * (i + 1) ∧ q.2 ≤ 201 * ((i + 1 : Nat) : Int)) := ⟨HSd.out.1, by have := HSd.out.2.1; omega, by have := HSd.out.2.2; omega⟩
        go_upto_region 13 with (go_at_call 12; refine (K1.out _ HP.out.bel).mono ?_; rintro e w5 ⟨a1, c1, rfl, hc1', S1, b5⟩)
        have P5 : Hid (Pw w w5 ad cap q) := HP.out.next b5
        have S5 : Hid (Sl w5 a1 (cln s)) := S1
        have kk := HK0.out _ P5.out.bel
        clear HP K1 q1 S1 b5
        by_cases c0 : err s = 0
        · rw [c0]
          by_cases cl : s.length > 200
          · have cli : (s.length : Int) > 200 := by omega
            go_wp2_with fail
            go_meet
            case rel => exact ⟨ad, cap, q, P5, HSd2⟩
          · have cli : ¬ (s.length : Int) > 200 := by omega
            by_cases ck : k = 1 ∨ k = 3 ∨ k = 4
            · go_cut [102] (fun s102 wx => s102 = .bool false ∧ w5 = wx)
              case first =>
                rcases ck with rfl | rfl | rfl
                all_goals (go_wp2_with fail; go_meet; exact ⟨rfl, rfl⟩)
              case rest =>
                obtain ⟨rfl, rfl⟩ := hcut
                have HC : Hid (jn (cln s) = [] ∨ Cp (jn (cln s))) := cln_cp c0
                have HJl : Hid ((jn (cln s)).length ≤ 200) := (by show _ ≤ _; omega)
                have hal := add_length (L := q.1) (nx := q.2) (s := jn (cln s)) (kd := k) (md := 0) (sz := 0) (mk := false)
                have hsa := HSd.out.1.add (s := jn (cln s)) (kd := k) (md := 0) (sz := 0) (mk := false) HC.out (by have := HJl.out; omega) (by omega)
                have KJ : Hid (∀ W, Sl W a1 (cln s) → Calls Tryd.prog 13 #[.slice a1 (cln s).length c1] W fun e w' => e = .returned (.string (bs (jn (cln s)))) ∧ Below W.heap.size W w') := fun W hs => join_w a1 c1 (cln s) W hs hc1' (by omega) (by omega)
                have KA : Hid (∀ W, Pw w W ad cap q → Calls Tryd.prog 10 #[.agg #[.slice ad q.1.length cap, .int .i64 q.2], .string (bs (jn (cln s))), .agg #[.int .i64 k, .int .i64 0, .int .i64 0, .int .i64 0, .int .i64 0, .string ⟨#[]⟩, .string ⟨#[]⟩, .string ⟨#[]⟩, .slice none 0 0, .int .i64 0, .bool false]] W fun e w' => ∃ ad2 cap2 code, e = .returned (.tuple #[.agg #[.slice ad2 (addP q.1 q.2 (jn (cln s)) k 0 0 false).1.length cap2, .int .i64 (addP q.1 q.2 (jn (cln s)) k 0 0 false).2.1], .int .i64 code]) ∧ Rs w' ad2 (addP q.1 q.2 (jn (cln s)) k 0 0 false).1 ∧ (addP q.1 q.2 (jn (cln s)) k 0 0 false).1.length ≤ cap2 ∧ (ad2 = none → cap2 = 0) ∧ Below W.heap.size W w') := fun W hP => by
                  have h2 := HSd.out.2.1
                  have h3 := HSd.out.2.2
                  refine (add_w _ q.2 q.1 (jn (cln s)) k 0 0 false W HSd.out.1 hP.tm (by omega) (by omega) (by have := HJl.out; omega) HC.out).mono ?_
                  rintro e w' ⟨v', rfl, ⟨ad2, cap2, rfl, h1, h2, h3⟩, hb⟩
                  exact ⟨ad2, cap2, _, rfl, h1, h2, h3, hb⟩
                have HSd3 : Hid (Sd (addP q.1 q.2 (jn (cln s)) k 0 0 false).1 (addP q.1 q.2 (jn (cln s)) k 0 0 false).2.1 ∧ (addP q.1 q.2 (jn (cln s)) k 0 0 false).1.length ≤ 201 * (i + 1) ∧ (addP q.1 q.2 (jn (cln s)) k 0 0 false).2.1 ≤ 201 * ((i + 1 : Nat) : Int)) := (by
                  have h2 := HSd.out.2.1
                  have h3 := HSd.out.2.2
                  have h4 := HJl.out
                  refine ⟨hsa, ?_, ?_⟩
                  · have := hal.1; omega
                  · have := hal.2; omega)
                clear hal hsa ck HSd2 HSd
                generalize addP q.1 q.2 (jn (cln s)) k 0 0 false = r at *
                generalize jn (cln s) = J at *
                go_upto_region 14 with fail
                have Q : Hid (Pw w w5.drew ad cap q) := P5.out.drew
                have S : Hid (Sl w5.drew a1 (cln s)) := S5.out.below ((Below.refl _ _).drew)
                have mT := cells_of Q.out.box
                have mB := HK0.out _ Q.out.bel
                clear kk P5 S5
                go_region_with (first
                  | (go_at_call 13; refine (KJ.out _ S.out).mono ?_; rintro e wJ ⟨rfl, bJ⟩; have Q : Hid (Pw w wJ ad cap q) := Q.out.next bJ; have mT := cells_of Q.out.box; have mB := HK0.out _ Q.out.bel)
                  | (go_at_call 10; refine (KA.out _ Q.out).mono ?_; rintro e wA ⟨ad2, cap2, code, rfl, R, C, N, bA⟩; have P : Hid (Pw w wA ad cap q) := Q.out.next bA; have mT := cells_of P.out.box; have fT := froz_of P.out.box))
                all_goals (go_wp2_with fail; go_meet; exact ⟨ad2, cap2, (r.1, r.2.1), P.out.set (q2 := (r.1, r.2.1)) R C N, HSd3⟩)
            · have ck1 : ¬ k = 1 := fun h => ck (.inl h)
              have ck3 : ¬ k = 3 := fun h => ck (.inr (.inl h))
              have ck4 : ¬ k = 4 := fun h => ck (.inr (.inr h))
              have cb1 : (k != 1) = true := by simpa using ck1
              have cb3 : (k != 3) = true := by simpa using ck3
              have cb4 : (k != 4) = true := by simpa using ck4
              clear ck
              go_wp2_with fail
              go_meet
              exact ⟨ad, cap, q, P5, HSd2⟩
        · have c0b : (err s == 0) = false := by simpa using c0
          go_wp2_with fail
          go_meet
          case rel => exact ⟨ad, cap, q, P5, HSd2⟩
      case rest =>
        obtain ⟨ad2, cap2, q2, P6, S6⟩ := hcut
        go_wp2_with fail
        go_roundw
        case rel => exact ⟨i + 1, ad2, cap2, q2, by simp, hlt, P6, S6⟩
        case measure => simp [intOf]; omega
    · go_wp2_with fail
      refine HK.out _ _ ?_
      have h2 := HSd.out.2.1
      exact tail16 w PP wr w.heap.size ad cap q.1.length q.2 q.1 _ _ _ _ _ _ _ _ _ _ _ _ _ _ _ _ _ _ _ _ _ _ _ _ _ _ _ _ _ _ _ _ _ _ _ _ _ _ _ _ _ _ _ _ _ _ _ _ _ _ _ _ _ _ _ _ _ _ _ _ _ _ _ _ _ _ _ _ _ _ _ _ _ _ _ _ _ _ _ _ _ _ _ _ _ _ _ _ _ _ _ _ _ _ _ _ _ _ _ _ _ _ _ _ _ _ _ _ _ _ _ _ _ _ _ _ _ _ _ _ _ _ _ _ _ _ _ _ _ _ _ _ _ _ _ _ _ _ _ _ _ _ _ _ _ _ _ _ _ _ _ _ _ _ _ _ _ _ _ _ _ _ _ _ _ _ _ _ _ _ _ _ _ _ _ _ _ _ _ _ _ _ _ _ _ _ _ _ _ _ _ _ _ _ _ _ _ _ _ _ _ _ _ _ _ _ _ _ _ _ _ _ _ _ _ _ _ _ _ _ _ _ _ _ _ _ _ _ _ _ _ _ _ HPP HM HP.out.bel HSd.out.1 (by omega) HP.out.hcap HP.out.rows HP.out.box rfl

theorem wholeLaw (ad0 : Option Addr) (n0 cap0 : Nat) (ks : List Int) (ad1 : Option Addr) (n1 cap1 : Nat) (ns : List (List UInt8)) (w : World) (hm : Ml w) (z0 : ks.length = n0 ∧ n0 ≤ cap0 ∧ cap0 ≤ 9223372036854775807 ∧ Il w ad0 ks)
    (z1 : ns.length = n1 ∧ n1 ≤ cap1 ∧ cap1 ≤ 9223372036854775807 ∧ Sl w ad1 ns ∧ ∀ x ∈ ns, x.length ≤ 9223372036854775807) :
    Calls Tryd.prog 3 #[.slice ad0 n0 cap0, .slice ad1 n1 cap1] w fun e w' => e = .returned (.bool true) ∧ Below w.heap.size w w' :=
  whole_w ad0 ad1 n0 cap0 n1 cap1 ks ns w hm z0.2.2.2 z1.2.2.2.1 z0.1 z1.1 z0.2.1 z1.2.1 z0.2.2.1 z1.2.2.1 z1.2.2.2.2

end Go.Proofs.YtojnniacmmcddaaDoor
