/-
  Contract: planted.
-/
import Derived.Test.YtojnniacmmcddaaDoorN0
import Derived.Deep.DeepCutAuto
import Derived.Deep.CutBlock
import Derived.Deep.RegionWith
namespace Go.Proofs.YtojnniacmmcddaaDoor
open Go.RowKit
open Go.Lib hiding intOf
set_option linter.unusedVariables false
set_option linter.unusedSimpArgs false

/-- path.Clean, its parts at an address -/
theorem clean_sl (l : List UInt8) (hl : l.length ≤ 9223372036854775807) (w : World) (hm : Ml w) :
    Calls Tryd.prog 12 #[.string (bs l)] w fun e w' => ∃ ad c, e = .returned (.tuple #[.slice ad (cln l).length c, .int .i64 (err l)]) ∧ (cln l).length ≤ c ∧ Sl w' ad (cln l) ∧ Below w.heap.size w w' := by
  refine (clean_w l hl w hm).mono fun e w' ⟨v, he, ho, hb⟩ => ?_
  obtain ⟨ad, c, rfl, hc, hm, hs⟩ := own_sl ho
  exact ⟨ad, c, he, hc, hs, hb⟩

theorem cln_count (l : List UInt8) : (cln l).length ≤ l.length + 1 := by
  by_cases h : err l = 0
  · have e : cln l = parts l := by unfold cln; rw [if_pos h]
    have h1 := jn_len_count (cln l) (fun p hp => by rw [e] at hp; exact (parts_good l h p hp).1)
    have h2 := cln_len l
    omega
  · unfold cln; rw [if_neg h]; exact Nat.zero_le _

/-- the loop's state -/
structure Pn (w W : World) (ad : Option Addr) (cap : Nat) (q : List Rw × Int) : Prop where
  two : Two w W #[.slice none 0 0, .int .i64 0] #[.slice ad q.1.length cap, .int .i64 q.2] 26 26
  rows : Rs W ad q.1
  hcap : q.1.length ≤ cap
  nil : ad = none → cap = 0
theorem Pn.next {w W W' : World} {ad : Option Addr} {cap : Nat} {q : List Rw × Int} (h : Pn w W ad cap q) (b : Below W.heap.size W W') : Pn w W' ad cap q := ⟨h.two.next b, h.rows.below b, h.hcap, h.nil⟩
theorem Pn.drew {w W : World} {ad : Option Addr} {cap : Nat} {q : List Rw × Int} (h : Pn w W ad cap q) : Pn w W.drew ad cap q := ⟨h.two.drew, h.rows.below ((Below.refl _ _).drew), h.hcap, h.nil⟩
theorem Pn.tm {w W : World} {ad : Option Addr} {cap : Nat} {q : List Rw × Int} (h : Pn w W ad cap q) : Tm W (.agg #[.slice ad q.1.length cap, .int .i64 q.2]) q.1 q.2 := ⟨ad, cap, rfl, h.rows, h.hcap, h.nil⟩
theorem Pn.set {w W : World} {ad ad2 : Option Addr} {cap cap2 : Nat} {q q2 : List Rw × Int} (h : Pn w W ad cap q) (hr : Rs W ad2 q2.1) (hc : q2.1.length ≤ cap2) (hn : ad2 = none → cap2 = 0) :
    Pn w ((W.setCell ⟨w.heap.size + 1, 0, none⟩ (.slice ad2 q2.1.length cap2)).setCell ⟨w.heap.size + 1, 1, none⟩ (.int .i64 q2.2)) ad2 cap2 q2 := by
  have e := two_set h.two.2.1 (.slice ad2 q2.1.length cap2) (.int .i64 q2.2)
  have b : Below (w.heap.size + 1) W ((W.setCell ⟨w.heap.size + 1, 0, none⟩ (.slice ad2 q2.1.length cap2)).setCell ⟨w.heap.size + 1, 1, none⟩ (.int .i64 q2.2)) := ((Below.refl _ _).setCell (by show w.heap.size + 1 ≤ w.heap.size + 1; omega) _).setCell (by show w.heap.size + 1 ≤ w.heap.size + 1; omega) _
  exact ⟨⟨(b.block _ (by omega)).trans h.two.1, e, h.two.2.2.1.trans (b.mono (by omega)), Nat.le_trans h.two.2.2.2 b.size⟩, hr.setTwo h.two.2.1 _ _, hc, hn⟩

structure Pq (w W : World) (ad : Option Addr) (cap : Nat) (q : List Rw × Int) (g : Nat) (x : Tg) (a1 : Option Addr) (a2 : Option Addr) : Prop where
  pn : Pn w W ad cap q
  box : W.heap[g]? = some (.cells #[.string (bs x.p), .string (bs x.t), .int .i64 x.k, .int .i64 x.z] 59 (0, 0))
  glt : g < W.heap.size
  far : w.heap.size + 2 ≤ g
  s1 : Sl W a1 (cln x.p)
  s2 : Sl W a2 (cln x.t)
theorem Pq.next {w W W' : World} {ad : Option Addr} {cap : Nat} {q : List Rw × Int} {g : Nat} {x : Tg} {a1 a2 : Option Addr} (h : Pq w W ad cap q g x a1 a2) (b : Below W.heap.size W W') : Pq w W' ad cap q g x a1 a2 := ⟨h.pn.next b, (b.block g h.glt).trans h.box, Nat.lt_of_lt_of_le h.glt b.size, h.far, h.s1.below b, h.s2.below b⟩
theorem Pq.drew {w W : World} {ad : Option Addr} {cap : Nat} {q : List Rw × Int} {g : Nat} {x : Tg} {a1 a2 : Option Addr} (h : Pq w W ad cap q g x a1 a2) : Pq w W.drew ad cap q g x a1 a2 := ⟨h.pn.drew, h.box, h.glt, h.far, h.s1.below ((Below.refl _ _).drew), h.s2.below ((Below.refl _ _).drew)⟩

set_option maxRecDepth 20000 in
set_option maxHeartbeats 4000000 in
theorem planted_w (ad0 : Option Addr) (cap0 : Nat) (X : List Tg) (w : World) (hm : Ml w) (hX : Ts w ad0 X) (ho : ∀ x ∈ X, x.ok) (hl : X.length ≤ 41) :
    Calls Tryd.prog 19 #[.slice ad0 X.length cap0] w fun e w' => ∃ v, e = .returned v ∧ Tm w' v (plantL X).1 (plantL X).2 ∧ Below w.heap.size w w' := by
  have HM : Hid (Ml w) := hm
  have HX : Hid (Ts w ad0 X) := hX
  have HO : Hid (∀ x ∈ X, x.ok) := ho
  have H0 := Two.mk0 w #[.slice none 0 0, .int .i64 0] #[.slice none 0 0, .int .i64 0] 26 26
  have P0 : Pn w ((w.alloc (.cells #[.slice none 0 0, .int .i64 0] 26)).alloc (.cells #[.slice none 0 0, .int .i64 0] 26)) none 0 (plantL (X.take 0)) := ⟨H0, .inl rfl, Nat.le_refl _, fun _ => rfl⟩
  clear hm hX ho H0
  generalize hn : X.length = n at *
  have HN : Hid (X.length = n) := hn
  clear hn
  go_enter Tryd.func19, Tryd.ntmps19
  go_wp2_with fail
  generalize (w.alloc _).alloc _ = w0 at *
  go_loopw [12] (fun x12 wr => ∃ (i : Nat) (ad : Option Addr) (cap : Nat), x12 = .int .i64 (i : Int) ∧ i ≤ n ∧ Hid (Pn w wr ad cap (plantL (X.take i)))) (fun x12 _ => n - (intOf x12).toNat)
  case atStart => exact ⟨0, none, 0, rfl, Nat.zero_le _, P0⟩
  case round =>
    obtain ⟨i, ad, cap, rfl, hi, HP⟩ := hrel
    by_cases hlt : i < n
    · obtain ⟨x, hx⟩ : ∃ x, X[i]? = some x := ⟨_, List.getElem?_eq_getElem (by have := HN.out; omega)⟩
      have hok := HO.out x (List.mem_of_getElem? hx)
      have HU : Hid (plantL (X.take (i + 1)) = pStep (plantL (X.take i)) x) := plantL_succ X i x hx
      have hsd := plantL_sd (X.take i)
      have HSd : Hid (Sd (plantL (X.take i)).1 (plantL (X.take i)).2 ∧ (plantL (X.take i)).1.length ≤ 900000 ∧ (plantL (X.take i)).2 ≤ 900000000000) := ⟨hsd.1, by have := hsd.2.1; rw [List.length_take] at this; omega, by have := hsd.2.2; rw [List.length_take] at this; omega⟩
      obtain ⟨b, o, rfl, hb1, hb2⟩ : ∃ b o, ad0 = some ⟨b, o, none⟩ ∧ b < w.heap.size ∧ w.rangeAt b (o + i * 4) x.cs := by
        rcases HX.out with h | ⟨b, o, h1, h2, h3⟩
        · rw [h] at hx; simp at hx
        · exact ⟨b, o, h1, h2, h3 i x hx⟩
      have hR := range_below hb2 HP.out.two.2.2.1 hb1
      have x0 : wr.cell? ⟨b, o + i * 4, none⟩ = some (.string (bs x.p)) := hR 0 _ rfl
      have x1 : wr.cell? ⟨b, o + i * 4 + 1, none⟩ = some (.string (bs x.t)) := hR 1 _ rfl
      have x2 : wr.cell? ⟨b, o + i * 4 + 2, none⟩ = some (.int .i64 x.k) := hR 2 _ rfl
      have x3 : wr.cell? ⟨b, o + i * 4 + 3, none⟩ = some (.int .i64 x.z) := hR 3 _ rfl
      have h1 : (0 : Int) ≤ (i : Int) := by omega
      have h2 : (i : Int) < (n : Int) := by omega
      clear hR hb2 hsd hx
      generalize plantL (X.take i) = q at *
      have hcl := cln_len x.p
      have K1 : Hid (∀ W, Below w.heap.size w W → Calls Tryd.prog 12 #[.string (bs x.p)] W fun e w' => ∃ ad c, e = .returned (.tuple #[.slice ad (cln x.p).length c, .int .i64 (err x.p)]) ∧ (cln x.p).length ≤ c ∧ Sl w' ad (cln x.p) ∧ Below W.heap.size W w') := fun W hb => clean_sl x.p hok.1 W (HM.out.below hb)
      have K2 : Hid (∀ W, Below w.heap.size w W → Calls Tryd.prog 12 #[.string (bs x.t)] W fun e w' => ∃ ad c, e = .returned (.tuple #[.slice ad (cln x.t).length c, .int .i64 (err x.t)]) ∧ (cln x.t).length ≤ c ∧ Sl w' ad (cln x.t) ∧ Below W.heap.size W w') := fun W hb => clean_sl x.t hok.2.1 W (HM.out.below hb)
      go_upto_block 1 with fail
      go_cut [] (fun wx => ∃ ad2 cap2, Hid (Pn w wx ad2 cap2 (pStep q x)))
      case first =>
        go_upto_region 5 with fail
        have HB : Hid (Below wr.heap.size wr (wr.alloc (.cells #[.string (bs x.p), .string (bs x.t), .int .i64 x.k, .int .i64 x.z] 59))) := below_box wr _
        have hbox := heap_alloc_new wr (.cells #[.string (bs x.p), .string (bs x.t), .int .i64 x.k, .int .i64 x.z] 59)
        have hsz := size_box wr (.cells #[.string (bs x.p), .string (bs x.t), .int .i64 x.k, .int .i64 x.z] 59)
        generalize wr.alloc _ = w1 at *
        have P1 : Hid (Pn w w1 ad cap q) := HP.out.next HB.out
        have m1 := cells_of hbox
        have lt1 := HP.out.two.2.2.2
        clear x0 x1 x2 x3
        go_upto_region 6 with (go_at_call 12; refine (K1.out _ P1.out.two.2.2.1).mono ?_; rintro e w2 ⟨a1, c1, rfl, hc1, S1, b2⟩)
        have hbox2 := (b2.block _ (by omega)).trans hbox
        have P2 : Hid (Pn w w2 ad cap q) := P1.out.next b2
        have S1' : Hid (Sl w2 a1 (cln x.p)) := S1
        have hsz2 := b2.size
        have m2 := cells_of hbox2
        clear m1 S1 hbox b2
        go_upto_block 2 with (go_at_call 12; refine (K2.out _ P2.out.two.2.2.1).mono ?_; rintro e w3 ⟨a2, c2, rfl, hc2, S2, b3⟩)
        have Q3 : Hid (Pq w w3 ad cap q wr.heap.size x a1 a2) := ⟨P2.out.next b3, (b3.block _ (by omega)).trans hbox2, by have := b3.size; omega, by omega, S1'.out.below b3, S2⟩
        clear K1 K2 P1 P2 S1' S2 b3 m2 hbox2 HB hsz hsz2
        have m0 := cells_of Q3.out.box
        have hbe : (x.t).isEmpty = decide (x.t = []) := by cases x.t <;> rfl
        have htl := bs_toList x.t
        by_cases c0 : err x.p = 0
        · by_cases c1' : x.z < 0
          · rw [c0]
            have HE : Hid (pStep q x = q) := (by show _ = _; unfold pStep; rw [if_pos (.inr (.inl c1'))])
            go_wp2_with fail
            go_meet
            case rel => exact ⟨ad, cap, by show Pn _ _ _ _ _; rw [HE.out]; exact Q3.out.pn⟩
          · by_cases c2' : x.z > 1048576
            · rw [c0]
              have HE : Hid (pStep q x = q) := (by show _ = _; unfold pStep; rw [if_pos (.inr (.inr (.inl c2')))])
              go_wp2_with fail
              go_meet
              case rel => exact ⟨ad, cap, by show Pn _ _ _ _ _; rw [HE.out]; exact Q3.out.pn⟩
            · by_cases c3' : x.p.length > 300
              · have c3i : (x.p.length : Int) > 300 := by omega
                have hsz3 : (bs x.p).size = x.p.length := bs_size _
                rw [c0]
                have HE : Hid (pStep q x = q) := (by show _ = _; unfold pStep; rw [if_pos (.inr (.inr (.inr c3')))])
                go_wp2_with fail
                go_meet
                case rel => exact ⟨ad, cap, by show Pn _ _ _ _ _; rw [HE.out]; exact Q3.out.pn⟩
              · have c3i : ¬ (x.p.length : Int) > 300 := by omega
                have hp0 : ¬ (err x.p ≠ 0 ∨ x.z < 0 ∨ x.z > 1048576 ∨ x.p.length > 300) := by omega
                have hsz3 : (bs x.p).size = x.p.length := bs_size _
                have hcp := cln_count x.p
                have KJ : Hid (∀ W, Sl W a1 (cln x.p) → Calls Tryd.prog 13 #[.slice a1 (cln x.p).length c1] W fun e w' => e = .returned (.string (bs (jn (cln x.p)))) ∧ Below W.heap.size W w') := fun W hs => join_w a1 c1 (cln x.p) W hs hc1 (by omega) (by omega)
                by_cases ct : x.t = []
                · by_cases ck : x.k = 1
                  · have HE : Hid (pStep q x = ((addP q.1 q.2 (jn (cln x.p)) 1 0 x.z false).1, (addP q.1 q.2 (jn (cln x.p)) 1 0 x.z false).2.1)) := (by show _ = _; unfold pStep; rw [if_neg hp0, if_neg (fun h => h ct), if_pos ck])
                    have KA : Hid (∀ W, Pn w W ad cap q → Calls Tryd.prog 10 #[.agg #[.slice ad q.1.length cap, .int .i64 q.2], .string (bs (jn (cln x.p))), .agg #[.int .i64 1, .int .i64 0, .int .i64 0, .int .i64 0, .int .i64 0, .string ⟨#[]⟩, .string ⟨#[]⟩, .string ⟨#[]⟩, .slice none 0 0, .int .i64 x.z, .bool false]] W fun e w' => ∃ ad2 cap2 code, e = .returned (.tuple #[.agg #[.slice ad2 (addP q.1 q.2 (jn (cln x.p)) 1 0 x.z false).1.length cap2, .int .i64 (addP q.1 q.2 (jn (cln x.p)) 1 0 x.z false).2.1], .int .i64 code]) ∧ Rs w' ad2 (addP q.1 q.2 (jn (cln x.p)) 1 0 x.z false).1 ∧ (addP q.1 q.2 (jn (cln x.p)) 1 0 x.z false).1.length ≤ cap2 ∧ (ad2 = none → cap2 = 0) ∧ Below W.heap.size W w') := fun W hP => by
                      refine (add_w _ q.2 q.1 (jn (cln x.p)) 1 0 x.z false W HSd.out.1 hP.tm HSd.out.2.1 HSd.out.2.2 (by omega) (cln_cp c0)).mono ?_
                      rintro e w' ⟨v', rfl, ⟨ad2, cap2, rfl, h1, h2, h3⟩, hb⟩
                      exact ⟨ad2, cap2, _, rfl, h1, h2, h3, hb⟩
                    rw [ct] at htl m0 ⊢
                    rw [ck] at m0 ⊢
                    rw [c0]
                    generalize addP q.1 q.2 (jn (cln x.p)) 1 0 x.z false = r at *
                    clear hbe hp0 HSd HU
                    go_upto_region 12 with fail
                    have Q : Hid (Pq w w3.drew ad cap q wr.heap.size x a1 a2) := Q3.out.drew
                    have mT := cells_of Q.out.pn.two.2.1
                    have mB := cells_of Q.out.box
                    rw [ck] at mB
                    clear m0 Q3 htl hsz3 c3i
                    go_region_with (first
                      | (go_at_call 13; refine (KJ.out _ Q.out.s1).mono ?_; rintro e wJ ⟨rfl, bJ⟩; have Q : Hid (Pq w wJ _ _ _ _ _ _ _) := Q.out.next bJ; have mT := cells_of Q.out.pn.two.2.1; have mB := cells_of Q.out.box; rw [ck] at mB)
                      | (go_at_call 10; refine (KA.out _ Q.out.pn).mono ?_; rintro e wA ⟨ad2, cap2, code, rfl, R, C, N, bA⟩; have P : Hid (Pn w wA _ _ _) := Q.out.pn.next bA; have mT := cells_of P.out.two.2.1; have fT := froz_of P.out.two.2.1))
                    all_goals (go_wp2_with fail; go_meet; exact ⟨ad2, cap2, by show Pn _ _ _ _ _; rw [HE.out]; exact P.out.set (q2 := (r.1, r.2.1)) R C N⟩)
                  · have hk1 : (x.k == 1) = false := by simpa using ck
                    by_cases ck34 : x.k = 3 ∨ x.k = 4
                    · have HE : Hid (pStep q x = ((addP q.1 q.2 (jn (cln x.p)) x.k 0 0 false).1, (addP q.1 q.2 (jn (cln x.p)) x.k 0 0 false).2.1)) := (by show _ = _; unfold pStep; rw [if_neg hp0, if_neg (fun h => h ct), if_neg ck, if_pos ck34])
                      have KA : Hid (∀ W, Pn w W ad cap q → Calls Tryd.prog 10 #[.agg #[.slice ad q.1.length cap, .int .i64 q.2], .string (bs (jn (cln x.p))), .agg #[.int .i64 x.k, .int .i64 0, .int .i64 0, .int .i64 0, .int .i64 0, .string ⟨#[]⟩, .string ⟨#[]⟩, .string ⟨#[]⟩, .slice none 0 0, .int .i64 0, .bool false]] W fun e w' => ∃ ad2 cap2 code, e = .returned (.tuple #[.agg #[.slice ad2 (addP q.1 q.2 (jn (cln x.p)) x.k 0 0 false).1.length cap2, .int .i64 (addP q.1 q.2 (jn (cln x.p)) x.k 0 0 false).2.1], .int .i64 code]) ∧ Rs w' ad2 (addP q.1 q.2 (jn (cln x.p)) x.k 0 0 false).1 ∧ (addP q.1 q.2 (jn (cln x.p)) x.k 0 0 false).1.length ≤ cap2 ∧ (ad2 = none → cap2 = 0) ∧ Below W.heap.size W w') := fun W hP => by
                        refine (add_w _ q.2 q.1 (jn (cln x.p)) x.k 0 0 false W HSd.out.1 hP.tm HSd.out.2.1 HSd.out.2.2 (by omega) (cln_cp c0)).mono ?_
                        rintro e w' ⟨v', rfl, ⟨ad2, cap2, rfl, h1, h2, h3⟩, hb⟩
                        exact ⟨ad2, cap2, _, rfl, h1, h2, h3, hb⟩
                      rw [ct] at htl m0 ⊢
                      rw [c0]
                      generalize addP q.1 q.2 (jn (cln x.p)) x.k 0 0 false = r at *
                      clear hbe hp0 HSd HU
                      go_upto_region 13 with fail
                      go_cut [83] (fun s83 wx => s83 = .bool true ∧ w3 = wx)
                      case first =>
                        by_cases ck3 : x.k = 3
                        · rw [ck3] at m0
                          clear KA HE KJ
                          go_wp2_with fail
                          go_meet
                          case rel => exact ⟨rfl, rfl⟩
                        · have ck4 : x.k = 4 := ck34.resolve_left ck3
                          rw [ck4] at m0
                          clear KA HE KJ
                          go_wp2_with fail
                          go_meet
                          case rel => exact ⟨rfl, rfl⟩
                      case rest =>
                        obtain ⟨rfl, rfl⟩ := hcut
                        clear ck34
                        go_upto_region 14 with fail
                        have Q : Hid (Pq w w3.drew ad cap q wr.heap.size x a1 a2) := Q3.out.drew
                        have mT := cells_of Q.out.pn.two.2.1
                        have mB := cells_of Q.out.box
                        clear m0 Q3 htl hsz3 c3i
                        go_region_with (first
                          | (go_at_call 13; refine (KJ.out _ Q.out.s1).mono ?_; rintro e wJ ⟨rfl, bJ⟩; have Q : Hid (Pq w wJ _ _ _ _ _ _ _) := Q.out.next bJ; have mT := cells_of Q.out.pn.two.2.1; have mB := cells_of Q.out.box)
                          | (go_at_call 10; refine (KA.out _ Q.out.pn).mono ?_; rintro e wA ⟨ad2, cap2, code, rfl, R, C, N, bA⟩; have P : Hid (Pn w wA _ _ _) := Q.out.pn.next bA; have mT := cells_of P.out.two.2.1; have fT := froz_of P.out.two.2.1))
                        all_goals (go_wp2_with fail; go_meet; exact ⟨ad2, cap2, by show Pn _ _ _ _ _; rw [HE.out]; exact P.out.set (q2 := (r.1, r.2.1)) R C N⟩)
                    · have hk3 : (x.k == 3) = false := by simpa using (fun h => ck34 (.inl h) : ¬ x.k = 3)
                      have hk4 : (x.k == 4) = false := by simpa using (fun h => ck34 (.inr h) : ¬ x.k = 4)
                      rw [ct] at htl m0 ⊢
                      rw [c0]
                      have HE : Hid (pStep q x = q) := (by show _ = _; unfold pStep; rw [if_neg hp0, if_neg (fun h => h ct), if_neg ck, if_neg ck34])
                      go_wp2_with fail
                      go_meet
                      case rel => exact ⟨ad, cap, by show Pn _ _ _ _ _; rw [HE.out]; exact Q3.out.pn⟩
                · by_cases ce : err x.t = 0
                  · have HE : Hid (pStep q x = ((linkP q.1 q.2 (jn (cln x.p)) (jn (cln x.t))).1, (linkP q.1 q.2 (jn (cln x.p)) (jn (cln x.t))).2.1)) := (by show _ = _; unfold pStep; rw [if_neg hp0, if_pos ct, if_pos ce])
                    have hct := cln_len x.t
                    have htl4 := err_len ce
                    have hcc := cln_count x.t
                    have KJ3 : Hid (∀ W a ps c, Sl W a ps → ps.length ≤ c → (ps.length ≤ 140737488355328 ∧ (jn ps).length ≤ 140737488355328) → Calls Tryd.prog 13 #[.slice a ps.length c] W fun e w' => e = .returned (.string (bs (jn ps))) ∧ Below W.heap.size W w') := fun W a ps c h1 h2 h3 => join_w a c ps W h1 h2 h3.1 h3.2
                    have hj1 : Hid ((cln x.p).length ≤ 140737488355328 ∧ (jn (cln x.p)).length ≤ 140737488355328) := ⟨by omega, by omega⟩
                    have hj2 : Hid ((cln x.t).length ≤ 140737488355328 ∧ (jn (cln x.t)).length ≤ 140737488355328) := ⟨by omega, by omega⟩
                    have KA : Hid (∀ W, Pn w W ad cap q → Calls Tryd.prog 23 #[.agg #[.slice ad q.1.length cap, .int .i64 q.2], .string (bs (jn (cln x.p))), .string (bs (jn (cln x.t)))] W fun e w' => ∃ ad2 cap2 code, e = .returned (.tuple #[.agg #[.slice ad2 (linkP q.1 q.2 (jn (cln x.p)) (jn (cln x.t))).1.length cap2, .int .i64 (linkP q.1 q.2 (jn (cln x.p)) (jn (cln x.t))).2.1], .int .i64 code]) ∧ Rs w' ad2 (linkP q.1 q.2 (jn (cln x.p)) (jn (cln x.t))).1 ∧ (linkP q.1 q.2 (jn (cln x.p)) (jn (cln x.t))).1.length ≤ cap2 ∧ (ad2 = none → cap2 = 0) ∧ Below W.heap.size W w') := fun W hP => by
                      refine (link_w _ q.2 q.1 (jn (cln x.p)) (jn (cln x.t)) W HSd.out.1 hP.tm HSd.out.2.1 HSd.out.2.2 (by omega) (by omega) (cln_cp c0)).mono ?_
                      rintro e w' ⟨v', rfl, ⟨ad2, cap2, rfl, h1, h2, h3⟩, hb⟩
                      exact ⟨ad2, cap2, _, rfl, h1, h2, h3, hb⟩
                    rw [decide_eq_false ct] at hbe
                    rw [c0, ce]
                    generalize linkP q.1 q.2 (jn (cln x.p)) (jn (cln x.t)) = r at *
                    clear hp0 HSd HU hct htl4 hcc
                    go_upto_region 9 with fail
                    have Q : Hid (Pq w w3.drew ad cap q wr.heap.size x a1 a2) := Q3.out.drew
                    have mT := cells_of Q.out.pn.two.2.1
                    clear m0 Q3 htl hsz3 c3i hbe
                    clear KJ
                    go_region_with (first
                      | (go_at_call 13; refine (KJ3.out _ _ _ _ (by first | exact Q.out.s1 | exact Q.out.s2) (by first | exact hc1 | exact hc2) (by first | exact hj1.out | exact hj2.out)).mono ?_; rintro e wJ ⟨rfl, bJ⟩; have Q : Hid (Pq w wJ _ _ _ _ _ _ _) := Q.out.next bJ; have mT := cells_of Q.out.pn.two.2.1)
                      | (go_at_call 23; refine (KA.out _ Q.out.pn).mono ?_; rintro e wA ⟨ad2, cap2, code, rfl, R, C, N, bA⟩; have P : Hid (Pn w wA _ _ _) := Q.out.pn.next bA; have mT := cells_of P.out.two.2.1; have fT := froz_of P.out.two.2.1))
                    all_goals (go_wp2_with fail; go_meet; exact ⟨ad2, cap2, by show Pn _ _ _ _ _; rw [HE.out]; exact P.out.set (q2 := (r.1, r.2.1)) R C N⟩)
                  · rw [decide_eq_false ct] at hbe
                    rw [c0]
                    have HE : Hid (pStep q x = q) := (by show _ = _; unfold pStep; rw [if_neg hp0, if_pos ct, if_neg ce])
                    go_wp2_with fail
                    go_meet
                    case rel => exact ⟨ad, cap, by show Pn _ _ _ _ _; rw [HE.out]; exact Q3.out.pn⟩
        · have HE : Hid (pStep q x = q) := (by show _ = _; unfold pStep; rw [if_pos (.inl c0)])
          go_wp2_with fail
          go_meet
          case rel => exact ⟨ad, cap, by show Pn _ _ _ _ _; rw [HE.out]; exact Q3.out.pn⟩
      case rest =>
        obtain ⟨ad2, cap2, HP2⟩ := hcut
        clear x0 x1 x2 x3
        go_wp2_with fail
        go_roundw
        case rel => exact ⟨i + 1, ad2, cap2, by simp, hlt, by show Pn _ _ _ _ _; rw [HU.out]; exact HP2.out⟩
        case measure => simp [intOf]; omega
    · obtain rfl : i = n := by omega
      have HT : Hid (X.take i = X) := (by show _ = _; rw [← HN.out, List.take_length])
      rw [HT.out] at HP
      have m1 := cells_of HP.out.two.1
      have m2 := cells_of HP.out.two.2.1
      have f1 := froz_of HP.out.two.1
      go_wp2_with fail
      have e2 := two_set HP.out.two.1 (.slice ad (plantL X).1.length cap) (.int .i64 (plantL X).2)
      have R2 := HP.out.rows.setTwo HP.out.two.1 (.slice ad (plantL X).1.length cap) (.int .i64 (plantL X).2)
      have b2 : Below w.heap.size w ((wr.setCell ⟨w.heap.size, 0, none⟩ (.slice ad (plantL X).1.length cap)).setCell ⟨w.heap.size, 1, none⟩ (.int .i64 (plantL X).2)) := (HP.out.two.2.2.1.setCell (by show _ ≤ w.heap.size; omega) _).setCell (by show _ ≤ w.heap.size; omega) _
      exact bodyPost_ret (results_cell_row rfl _ _ w.heap.size 26 _ (0, 0) _ rfl e2 Tryd.underlying26 rfl (by kernel_rfl)) rfl ⟨_, rfl, ⟨ad, cap, rfl, R2, HP.out.hcap, HP.out.nil⟩, b2⟩

end Go.Proofs.YtojnniacmmcddaaDoor
