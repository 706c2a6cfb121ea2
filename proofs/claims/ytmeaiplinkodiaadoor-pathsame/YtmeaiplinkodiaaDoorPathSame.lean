/-
  The card of the law PathSame holds: it returns true for every input, the variables of the library that it lists being as the program text lays them.
-/
import Derived.Test.YtmeaiplinkodiaaDoorLaid
import Derived.Test.YtmeaiplinkodiaaDoorCards
import Derived.Test.YtmeaiplinkodiaaDoorTie
import Derived.Test.YtmeaiplinkodiaaDoorApp
import Derived.Deep.DeepCutAuto
namespace Go.Proofs.YtmeaiplinkodiaaDoor.pathSame
open Go.ChangeShapes Go.WideShapes Go.RowKit
set_option linter.unusedVariables false
set_option linter.unusedSimpArgs false

theorem own_sl2 {w : World} {B : Nat} {v : Value} {n : Nat} {ps : List (List UInt8)} (h : w.ownsRow B 9 1 v n (strs ps)) : ∃ ad c, v = .slice ad ps.length c ∧ ps.length ≤ c ∧ c ≤ 9223372036854775807 ∧ Sl w ad ps ∧ ((ad = none ∧ ps.length = 0 ∧ c = 0) ∨ ∃ g, ad = some ⟨g, 0, none⟩) := by
  obtain ⟨ad, c, rfl, h1, h2, h3⟩ := own_sl h
  refine ⟨ad, c, rfl, h1, h2, h3, ?_⟩
  rcases h.2 with ⟨hv, h0⟩ | ⟨g, cap, cur, hv, _⟩
  · injection hv with e1 e2 e3
    exact .inl ⟨e1, e2, e3⟩
  · injection hv with e1 e2 e3
    exact .inr ⟨g, e1⟩

theorem clean_sl2 (l : List UInt8) (hl : l.length ≤ 9223372036854775807) (w : World) (hm : Ml w) :
    Calls Tryd.prog 10 #[.string (bs l)] w fun e w' => ∃ ad c, e = .returned (.tuple #[.slice ad (cln l).length c, .int .i64 (err l)]) ∧ (cln l).length ≤ c ∧ c ≤ 9223372036854775807 ∧ Hid (Sl w' ad (cln l)) ∧ Hid ((ad = none ∧ (cln l).length = 0 ∧ c = 0) ∨ ∃ g, ad = some ⟨g, 0, none⟩) ∧ Below w.heap.size w w' := by
  refine (clean_w l hl w hm).mono fun e w' ⟨v, he, ho, hb⟩ => ?_
  obtain ⟨ad, c, rfl, hc, hm, hs, hd⟩ := own_sl2 ho
  exact ⟨ad, c, he, hc, hm, hs, hid hd, hb⟩

theorem own_end {w : World} {B : Nat} {v : Value} {n N a : Nat} {ps : List (List UInt8)} {m : List UInt8} (hN : ps.length = N) (ha : a ≤ N) (h : w.ownsRow B 9 1 v n (strs ([] ++ ps.take a ++ [m] ++ ps.drop a))) : ∃ ad c, v = .slice ad (N + 1) c ∧ N + 1 ≤ c ∧ c ≤ 9223372036854775807 ∧ Hid (Sl w ad (ps.take a ++ [m] ++ ps.drop a)) := by
  obtain ⟨ad, c, rfl, h1, h2, h3⟩ := own_sl h
  have e : ([] ++ ps.take a ++ [m] ++ ps.drop a).length = N + 1 := by simp; omega
  rw [e] at h1
  exact ⟨ad, c, by rw [e], h1, h2, by simpa using hid h3⟩

theorem same_self (ps : List (List UInt8)) (hn : ps.length ≤ 100000) (W : World) (ad1 ad2 : Option Addr) (c1 c2 : Nat) (h1 : Sl W ad1 ps) (h2 : Sl W ad2 ps) (hc1 : ps.length ≤ c1) (hc2 : ps.length ≤ c2) :
    Calls Tryd.prog 12 #[.slice ad1 ps.length c1, .slice ad2 ps.length c2] W fun e w' => e = .returned (.bool true) ∧ Below W.heap.size W w' := by
  have := same_w ad1 ad2 c1 c2 ps ps W h1 h2 hc1 hc2 (by omega) (by omega)
  rwa [show smB ps ps = true from decide_eq_true rfl] at this

theorem jn_bound (k : Nat) : ∀ (ps : List (List UInt8)), (∀ p ∈ ps, p.length ≤ k) → (jn ps).length ≤ ps.length * (k + 1)
  | [], _ => by simp [jn_nil]
  | [p], h => by rw [jn_one]; have := h p (by simp); simp; omega
  | p :: q :: r, h => by
    have ih := jn_bound k (q :: r) fun x hx => h x (List.mem_cons_of_mem _ hx)
    have h1 := h p (by simp)
    rw [jn_cons, List.length_append, List.length_cons]
    have e : (p :: q :: r).length * (k + 1) = (q :: r).length * (k + 1) + (k + 1) := by rw [List.length_cons, Nat.add_mul, Nat.one_mul]
    omega

theorem first_byte (T : List UInt8) (hT : T ≠ []) : ∃ h : 0 < (bs T).size, ((((bs T)[0]'h).toNat : Nat) : Int) ≠ 47 → T.head? ≠ some 47 := by
  cases T with
  | nil => exact absurd rfl hT
  | cons x t =>
    refine ⟨by rw [bs_size]; simp, fun h e => h ?_⟩
    simp at e
    subst e
    rfl

set_option maxHeartbeats 4000000 in
theorem walk_dot (l : List UInt8) (a : Nat) (w : World) (hm : Ml w) (h0 : err l = 0) (h1 : l.length ≤ 3000) (ha : a ≤ (cln l).length) :
    Calls Tryd.prog 7 #[.string (bs l), .int .i64 a, .bool true] w fun e w' => e = .returned (.bool true) ∧ Below w.heap.size w w' := by
  have q0 := cleans_w w hm
  have hg : ∀ p ∈ cln l, Good p := by unfold cln; rw [if_pos h0]; exact parts_good l h0
  have KQ1 : Hid (∀ W, Below w.heap.size w W → Calls Tryd.prog 10 #[.string (bs l)] W fun e w' => ∃ ad c, e = .returned (.tuple #[.slice ad (cln l).length c, .int .i64 0]) ∧ (cln l).length ≤ c ∧ c ≤ 9223372036854775807 ∧ Hid (Sl w' ad (cln l)) ∧ Hid ((ad = none ∧ (cln l).length = 0 ∧ c = 0) ∨ ∃ g, ad = some ⟨g, 0, none⟩) ∧ Below W.heap.size W w') := fun W hb => by
    have := clean_sl2 l (by omega) W (hm.below hb)
    rwa [h0] at this
  have z1 := bs_size l
  have hjl : (jn (cln l)).length ≤ 3000 := by unfold cln; rw [if_pos h0]; have := jn_parts_length l; omega
  have hcl : 2 * (cln l).length ≤ (jn (cln l)).length + 1 := jn_len_count _ fun p hp => (hg p hp).1
  have hN : (cln l).length ≤ 2000 := by omega
  clear h0 hcl hjl
  generalize cln l = ps at *
  have hRlen : (ps.take a ++ [([46] : List UInt8)] ++ ps.drop a).length = ps.length + 1 := by simp; omega
  have hRj : (jn (ps.take a ++ [([46] : List UInt8)] ++ ps.drop a)).length ≤ 512256 := by
    have := jn_bound 255 (ps.take a ++ [([46] : List UInt8)] ++ ps.drop a) (fun p hp => by
      simp only [List.mem_append, List.mem_singleton] at hp
      rcases hp with (h | h) | h
      · exact (hg p (List.mem_of_mem_take h)).2.2.2.1
      · subst h; decide
      · exact (hg p (List.mem_of_mem_drop h)).2.2.2.1)
    rw [hRlen] at this
    omega
  have KJ : Hid (∀ W ad c, Sl W ad (ps.take a ++ [[46]] ++ ps.drop a) → ps.length + 1 ≤ c → Calls Tryd.prog 15 #[.slice ad (ps.length + 1) c] W fun e w' => e = .returned (.string (bs (jn (ps.take a ++ [[46]] ++ ps.drop a)))) ∧ Below W.heap.size W w') := hid (fun W ad c hs hc => by
    have := join_w ad c _ W hs (by rw [hRlen]; exact hc) (by rw [hRlen]; omega) (by omega)
    rwa [hRlen] at this)
  have k1 := put_slash ps a [46]
  have hTne : jn (ps.take a ++ [([46] : List UInt8)] ++ ps.drop a ++ [[]]) ≠ [] := by
    rw [jn_append (ps.take a ++ [([46] : List UInt8)] ++ ps.drop a) [[]] (by simp) (by simp)]
    simp
  obtain ⟨hX0, hX1⟩ := first_byte _ hTne
  have HX1 := hid hX1
  have KC2 : Hid ((jn (ps.take a ++ [([46] : List UInt8)] ++ ps.drop a ++ [[]])).head? ≠ some 47 → (bs (jn (ps.take a ++ [([46] : List UInt8)] ++ ps.drop a ++ [[]]))).size ≤ 4000 → ∀ W, Below w.heap.size w W → Calls Tryd.prog 10 #[.string (bs (jn (ps.take a ++ [[46]] ++ ps.drop a ++ [[]])))] W fun e w' => ∃ ad c, e = .returned (.tuple #[.slice ad ps.length c, .int .i64 0]) ∧ ps.length ≤ c ∧ c ≤ 9223372036854775807 ∧ Hid (Sl w' ad ps) ∧ Below W.heap.size W w') := hid (fun hh hl W hb => by
    rw [bs_size] at hl
    obtain ⟨e1, e2⟩ := put_path ps hg a [46] (by simp) hl hh
    have := clean_sl (jn (ps.take a ++ [([46] : List UInt8)] ++ ps.drop a ++ [[]])) (by omega) W (hm.below hb)
    rwa [e1, e2] at this)
  have KS : Hid (∀ W ad1 ad2 c1 c2, Sl W ad1 ps → Sl W ad2 ps → ps.length ≤ c1 → ps.length ≤ c2 → Calls Tryd.prog 12 #[.slice ad1 ps.length c1, .slice ad2 ps.length c2] W fun e w' => e = .returned (.bool true) ∧ Below W.heap.size W w') := fun W ad1 ad2 c1 c2 a b c d => same_self ps (by omega) W ad1 ad2 c1 c2 a b c d
  have y1 : (bs (jn (ps.take a ++ [([46] : List UInt8)] ++ ps.drop a))).size ≤ 512256 := by rw [bs_size]; exact hRj
  have y2 : (bs (jn (ps.take a ++ [([46] : List UInt8)] ++ ps.drop a ++ [[]]))).size ≤ 512257 := by rw [← k1, ByteArray.size_append]; exact Nat.add_le_add_right y1 1
  clear hRlen hRj hTne hX1 hm hg
  generalize bs (jn (ps.take a ++ [([46] : List UInt8)] ++ ps.drop a ++ [[]])) = X at *
  generalize ((jn (ps.take a ++ [([46] : List UInt8)] ++ ps.drop a ++ [[]])).head? ≠ some 47) = HH at *
  generalize bs (jn (ps.take a ++ [([46] : List UInt8)] ++ ps.drop a)) = J at *
  generalize hNN : ps.length = N at *
  have HN : Hid (ps.length = N) := hNN
  clear hNN
  go_enter Tryd.func7, Tryd.ntmps7
  go_upto_region 9 with (first
    | (go_at_call 10; refine (KQ1.out _ b00).mono ?_; rintro e w1 ⟨ad1, c1, rfl, hc1, hm1, hs1, hd1, b1⟩; have b01 := b00.trans (b1.mono b00.size))
    | (go_at_call 9; refine q0.mono ?_; rintro e w0 ⟨rfl, b00⟩))
  clear q0 KQ1
  go_cut [10] (fun t10 wx => ∃ ad c, t10 = .slice ad (N + 1) c ∧ N + 1 ≤ c ∧ c ≤ 9223372036854775807 ∧ Hid (Sl wx ad (ps.take a ++ [[46]] ++ ps.drop a)) ∧ Below w1.heap.size w1 wx)
  case first =>
    clear KJ KC2 KS
    have hT : Hid (Sl w1 ad1 (ps.take a)) := hid (hs1.out.taken a)
    have HLt : Hid ((ps.take a).length = a) := hid (by rw [List.length_take, HN.out]; omega)
    have HLd : Hid ((ps.drop a).length = N - a) := hid (by rw [List.length_drop, HN.out])
    have HB2 : Hid (∀ w2, ((w1.drew.alloc (.cells #[] 9)).alloc (.cells #[.string ⟨#[46]⟩] 9)).grownBy w2 (some w1.heap.size) → Sl w2 (some ⟨w1.heap.size + 1, 0, none⟩) [[46]]) := hid (fun w2 g2 => sl_kept (sl_one _ _ (by simp) [46]) g2 (by simp))
    have HB3 : Hid (∀ w2, ((w1.drew.alloc (.cells #[.string ⟨#[46]⟩] 9)).alloc (.cells #[] 9)).grownBy w2 (some (w1.heap.size + 1)) → Sl w2 (some ⟨w1.heap.size, 0, none⟩) [[46]]) := hid (fun w2 g2 => sl_kept ((sl_one _ _ (by simp) [46]).below ((Below.refl _ _).alloc (by simp) _)) g2 (by simp))
    rcases hd1.out with ⟨had, hN0, hc0⟩ | ⟨g, rfl⟩
    · have ha0 : a = 0 := by omega
      subst had hN0 hc0 ha0
      have hD : Hid (Sl w1 none (ps.drop 0)) := hid (by rw [List.drop_zero]; exact hs1.out)
      go_region_law (first
        | (refine step_app rfl (.tmp 39) (.tmp 42) rfl (.slice (some ⟨w1.heap.size, 0, none⟩) 0 0) rfl _ _ _ rfl w1.heap.size w1 0 [] (ps.take 0) HLt.out (by first | exact own_fresh _ _ _ (by simp) (by simp) | exact (own_fresh _ _ _ (by simp) (by simp)).alloc _) (hT.out.below (by first | exact ((Below.refl _ _).drew).alloc (by simp) _ | exact (((Below.refl _ _).drew).alloc (by simp) _).alloc (by simp) _)) (by first | exact ((Below.refl _ _).drew).alloc (by simp) _ | exact (((Below.refl _ _).drew).alloc (by simp) _).alloc (by simp) _) (Nat.le_refl _) (by omega) ?_; intro v2 w2 o2 g2 b2)
        | (refine step_app rfl (.tmp 39) (.tmp 42) rfl (.slice (some ⟨w1.heap.size + 1, 0, none⟩) 0 0) rfl _ _ _ rfl w1.heap.size w1 0 [] (ps.take 0) HLt.out (own_fresh _ _ _ (by simp) (by simp)) (hT.out.below ((((Below.refl _ _).drew).alloc (by simp) _).alloc (by simp) _)) ((((Below.refl _ _).drew).alloc (by simp) _).alloc (by simp) _) (Nat.le_refl _) (by omega) ?_; intro v2 w2 o2 g2 b2)
        | (refine step_app rfl (.tmp 43) (.tmp 45) rfl _ rfl _ _ _ rfl w1.heap.size w1 (0 + 0) ([] ++ ps.take 0) [[46]] rfl (by first | exact o2 | exact o2.alloc _) (by first | exact sl_one w2 _ (by simp) [46] | exact HB2.out w2 g2 | exact HB3.out w2 g2) (by first | exact b2 | exact b2.alloc b2.size _) (Nat.le_refl _) (by omega) ?_; intro v3 w3 o3 g3 b3)
        | (refine step_app rfl (.tmp 46) (.tmp 49) rfl _ rfl _ _ _ rfl w1.heap.size w1 (0 + 0 + 1) ([] ++ ps.take 0 ++ [[46]]) (ps.drop 0) HLd.out o3 (by first | exact hD.out.below b3 | (have hD' := hD.out.below b3; simpa using hD')) b3 (Nat.le_refl _) (by omega) ?_; intro v4 w4 o4 g4 b4))
      all_goals
        go_wp2_with fail
        go_meet
        obtain ⟨ad4, c4, rfl, hc4, hm4, hs4⟩ := own_end HN.out (Nat.le_refl 0) o4
        exact ⟨ad4, c4, rfl, hc4, hm4, hs4, b4⟩
    · have hD : Hid (Sl w1 (if c1 = a then some ⟨g, 0, none⟩ else some ⟨g, a, none⟩) (ps.drop a)) := hid (by
        by_cases e : c1 = a
        · exact .inl (List.drop_of_length_le (by rw [HN.out]; omega))
        · rw [if_neg e]
          have := hs1.out.drop a
          rwa [Nat.zero_add] at this)
      have c3 : a ≤ c1 := by omega
      go_region_law (first
        | (refine step_app rfl (.tmp 39) (.tmp 42) rfl (.slice (some ⟨w1.heap.size, 0, none⟩) 0 0) rfl _ _ _ rfl w1.heap.size w1 0 [] (ps.take a) HLt.out (by first | exact own_fresh _ _ _ (by simp) (by simp) | exact (own_fresh _ _ _ (by simp) (by simp)).alloc _) (hT.out.below (by first | exact ((Below.refl _ _).drew).alloc (by simp) _ | exact (((Below.refl _ _).drew).alloc (by simp) _).alloc (by simp) _)) (by first | exact ((Below.refl _ _).drew).alloc (by simp) _ | exact (((Below.refl _ _).drew).alloc (by simp) _).alloc (by simp) _) (Nat.le_refl _) (by omega) ?_; intro v2 w2 o2 g2 b2)
        | (refine step_app rfl (.tmp 39) (.tmp 42) rfl (.slice (some ⟨w1.heap.size + 1, 0, none⟩) 0 0) rfl _ _ _ rfl w1.heap.size w1 0 [] (ps.take a) HLt.out (own_fresh _ _ _ (by simp) (by simp)) (hT.out.below ((((Below.refl _ _).drew).alloc (by simp) _).alloc (by simp) _)) ((((Below.refl _ _).drew).alloc (by simp) _).alloc (by simp) _) (Nat.le_refl _) (by omega) ?_; intro v2 w2 o2 g2 b2)
        | (refine step_app rfl (.tmp 43) (.tmp 45) rfl _ rfl _ _ _ rfl w1.heap.size w1 (0 + a) ([] ++ ps.take a) [[46]] rfl (by first | exact o2 | exact o2.alloc _) (by first | exact sl_one w2 _ (by simp) [46] | exact HB2.out w2 g2 | exact HB3.out w2 g2) (by first | exact b2 | exact b2.alloc b2.size _) (Nat.le_refl _) (by omega) ?_; intro v3 w3 o3 g3 b3)
        | (refine step_app rfl (.tmp 46) (.tmp 49) rfl _ rfl _ _ _ rfl w1.heap.size w1 (0 + a + 1) ([] ++ ps.take a ++ [[46]]) (ps.drop a) HLd.out o3 (by first | exact hD.out.below b3 | (have hD' := hD.out.below b3; simpa using hD')) b3 (Nat.le_refl _) (by omega) ?_; intro v4 w4 o4 g4 b4))
      all_goals
        generalize (if c1 = a then (some ⟨g, 0, none⟩ : Option Addr) else some ⟨g, a, none⟩) = adx
        go_wp2_with fail
        go_meet
        obtain ⟨ad4, c4, rfl, hc4, hm4, hs4⟩ := own_end HN.out ha o4
        exact ⟨ad4, c4, rfl, hc4, hm4, hs4, b4⟩
  case rest =>
    obtain ⟨ad4, c4, rfl, hc4, hm4, hs4, b4⟩ := hcut
    have b04 := b01.trans (b4.mono b01.size)
    have hs1' : Hid (Sl wc ad1 ps) := hid (hs1.out.below b4)
    clear hs1 hd1
    by_cases d1 : (((X[0]'hX0).toNat : Nat) : Int) = 47
    · clear HX1 KC2
      generalize hy : X[0]'hX0 = y at *
      go_wp2_with (first
        | (go_at_call 15; refine (KJ.out _ _ _ hs4.out hc4).mono ?_; rintro e w5 ⟨rfl, b5⟩; have b05 := b04.trans (b5.mono b04.size)))
      go_ret
      exact ⟨rfl, b05⟩
    · have hh := HX1.out d1
      clear HX1
      generalize hy : X[0]'hX0 = y at *
      have d1b := beq_eq_false_iff_ne.2 d1
      by_cases d2 : X.size ≤ 4000
      · have KC3 := hid (KC2.out hh d2)
        clear KC2
        go_wp2_with (first
          | (go_at_call 12; refine (KS.out _ _ _ _ _ ((hs1'.out.below b5).below b6) hs6.out hc1 hc6).mono ?_; rintro e w7 ⟨rfl, b7⟩; have b07 := b06.trans (b7.mono b06.size))
          | (go_at_call 10; refine (KC3.out _ b05).mono ?_; rintro e w6 ⟨ad6, c6, rfl, hc6, hm6, hs6, bb6⟩; have b6 := bb6; have b06 := b05.trans (b6.mono b05.size))
          | (go_at_call 15; refine (KJ.out _ _ _ hs4.out hc4).mono ?_; rintro e w5 ⟨rfl, b5⟩; have b05 := b04.trans (b5.mono b04.size)))
        go_ret
        exact ⟨rfl, b07⟩
      · clear KC2
        go_wp2_with (first
          | (go_at_call 15; refine (KJ.out _ _ _ hs4.out hc4).mono ?_; rintro e w5 ⟨rfl, b5⟩; have b05 := b04.trans (b5.mono b04.size)))
        go_ret
        exact ⟨rfl, b05⟩

set_option maxHeartbeats 4000000 in
theorem walk_no (l : List UInt8) (a : Nat) (w : World) (hm : Ml w) (h0 : err l = 0) (h1 : l.length ≤ 3000) (ha : a ≤ (cln l).length) :
    Calls Tryd.prog 7 #[.string (bs l), .int .i64 a, .bool false] w fun e w' => e = .returned (.bool true) ∧ Below w.heap.size w w' := by
  have q0 := cleans_w w hm
  have hg : ∀ p ∈ cln l, Good p := by unfold cln; rw [if_pos h0]; exact parts_good l h0
  have KQ1 : Hid (∀ W, Below w.heap.size w W → Calls Tryd.prog 10 #[.string (bs l)] W fun e w' => ∃ ad c, e = .returned (.tuple #[.slice ad (cln l).length c, .int .i64 0]) ∧ (cln l).length ≤ c ∧ c ≤ 9223372036854775807 ∧ Hid (Sl w' ad (cln l)) ∧ Hid ((ad = none ∧ (cln l).length = 0 ∧ c = 0) ∨ ∃ g, ad = some ⟨g, 0, none⟩) ∧ Below W.heap.size W w') := fun W hb => by
    have := clean_sl2 l (by omega) W (hm.below hb)
    rwa [h0] at this
  have z1 := bs_size l
  have hjl : (jn (cln l)).length ≤ 3000 := by unfold cln; rw [if_pos h0]; have := jn_parts_length l; omega
  have hcl : 2 * (cln l).length ≤ (jn (cln l)).length + 1 := jn_len_count _ fun p hp => (hg p hp).1
  have hN : (cln l).length ≤ 2000 := by omega
  clear h0 hcl hjl
  generalize cln l = ps at *
  have hRlen : (ps.take a ++ [([] : List UInt8)] ++ ps.drop a).length = ps.length + 1 := by simp; omega
  have hRj : (jn (ps.take a ++ [([] : List UInt8)] ++ ps.drop a)).length ≤ 512256 := by
    have := jn_bound 255 (ps.take a ++ [([] : List UInt8)] ++ ps.drop a) (fun p hp => by
      simp only [List.mem_append, List.mem_singleton] at hp
      rcases hp with (h | h) | h
      · exact (hg p (List.mem_of_mem_take h)).2.2.2.1
      · subst h; decide
      · exact (hg p (List.mem_of_mem_drop h)).2.2.2.1)
    rw [hRlen] at this
    omega
  have KJ : Hid (∀ W ad c, Sl W ad (ps.take a ++ [[]] ++ ps.drop a) → ps.length + 1 ≤ c → Calls Tryd.prog 15 #[.slice ad (ps.length + 1) c] W fun e w' => e = .returned (.string (bs (jn (ps.take a ++ [[]] ++ ps.drop a)))) ∧ Below W.heap.size W w') := hid (fun W ad c hs hc => by
    have := join_w ad c _ W hs (by rw [hRlen]; exact hc) (by rw [hRlen]; omega) (by omega)
    rwa [hRlen] at this)
  have k1 := put_slash ps a []
  have hTne : jn (ps.take a ++ [([] : List UInt8)] ++ ps.drop a ++ [[]]) ≠ [] := by
    rw [jn_append (ps.take a ++ [([] : List UInt8)] ++ ps.drop a) [[]] (by simp) (by simp)]
    simp
  obtain ⟨hX0, hX1⟩ := first_byte _ hTne
  have HX1 := hid hX1
  have KC2 : Hid ((jn (ps.take a ++ [([] : List UInt8)] ++ ps.drop a ++ [[]])).head? ≠ some 47 → (bs (jn (ps.take a ++ [([] : List UInt8)] ++ ps.drop a ++ [[]]))).size ≤ 4000 → ∀ W, Below w.heap.size w W → Calls Tryd.prog 10 #[.string (bs (jn (ps.take a ++ [[]] ++ ps.drop a ++ [[]])))] W fun e w' => ∃ ad c, e = .returned (.tuple #[.slice ad ps.length c, .int .i64 0]) ∧ ps.length ≤ c ∧ c ≤ 9223372036854775807 ∧ Hid (Sl w' ad ps) ∧ Below W.heap.size W w') := hid (fun hh hl W hb => by
    rw [bs_size] at hl
    obtain ⟨e1, e2⟩ := put_path ps hg a [] (by simp) hl hh
    have := clean_sl (jn (ps.take a ++ [([] : List UInt8)] ++ ps.drop a ++ [[]])) (by omega) W (hm.below hb)
    rwa [e1, e2] at this)
  have KS : Hid (∀ W ad1 ad2 c1 c2, Sl W ad1 ps → Sl W ad2 ps → ps.length ≤ c1 → ps.length ≤ c2 → Calls Tryd.prog 12 #[.slice ad1 ps.length c1, .slice ad2 ps.length c2] W fun e w' => e = .returned (.bool true) ∧ Below W.heap.size W w') := fun W ad1 ad2 c1 c2 a b c d => same_self ps (by omega) W ad1 ad2 c1 c2 a b c d
  have y1 : (bs (jn (ps.take a ++ [([] : List UInt8)] ++ ps.drop a))).size ≤ 512256 := by rw [bs_size]; exact hRj
  have y2 : (bs (jn (ps.take a ++ [([] : List UInt8)] ++ ps.drop a ++ [[]]))).size ≤ 512257 := by rw [← k1, ByteArray.size_append]; exact Nat.add_le_add_right y1 1
  clear hRlen hRj hTne hX1 hm hg
  generalize bs (jn (ps.take a ++ [([] : List UInt8)] ++ ps.drop a ++ [[]])) = X at *
  generalize ((jn (ps.take a ++ [([] : List UInt8)] ++ ps.drop a ++ [[]])).head? ≠ some 47) = HH at *
  generalize bs (jn (ps.take a ++ [([] : List UInt8)] ++ ps.drop a)) = J at *
  generalize hNN : ps.length = N at *
  have HN : Hid (ps.length = N) := hNN
  clear hNN
  go_enter Tryd.func7, Tryd.ntmps7
  go_upto_region 9 with (first
    | (go_at_call 10; refine (KQ1.out _ b00).mono ?_; rintro e w1 ⟨ad1, c1, rfl, hc1, hm1, hs1, hd1, b1⟩; have b01 := b00.trans (b1.mono b00.size))
    | (go_at_call 9; refine q0.mono ?_; rintro e w0 ⟨rfl, b00⟩))
  clear q0 KQ1
  go_cut [10] (fun t10 wx => ∃ ad c, t10 = .slice ad (N + 1) c ∧ N + 1 ≤ c ∧ c ≤ 9223372036854775807 ∧ Hid (Sl wx ad (ps.take a ++ [[]] ++ ps.drop a)) ∧ Below w1.heap.size w1 wx)
  case first =>
    clear KJ KC2 KS
    have hT : Hid (Sl w1 ad1 (ps.take a)) := hid (hs1.out.taken a)
    have HLt : Hid ((ps.take a).length = a) := hid (by rw [List.length_take, HN.out]; omega)
    have HLd : Hid ((ps.drop a).length = N - a) := hid (by rw [List.length_drop, HN.out])
    have HB2 : Hid (∀ w2, ((w1.drew.alloc (.cells #[] 9)).alloc (.cells #[.string ⟨#[]⟩] 9)).grownBy w2 (some w1.heap.size) → Sl w2 (some ⟨w1.heap.size + 1, 0, none⟩) [[]]) := hid (fun w2 g2 => sl_kept (sl_one _ _ (by simp) []) g2 (by simp))
    have HB3 : Hid (∀ w2, ((w1.drew.alloc (.cells #[.string ⟨#[]⟩] 9)).alloc (.cells #[] 9)).grownBy w2 (some (w1.heap.size + 1)) → Sl w2 (some ⟨w1.heap.size, 0, none⟩) [[]]) := hid (fun w2 g2 => sl_kept ((sl_one _ _ (by simp) []).below ((Below.refl _ _).alloc (by simp) _)) g2 (by simp))
    rcases hd1.out with ⟨had, hN0, hc0⟩ | ⟨g, rfl⟩
    · have ha0 : a = 0 := by omega
      subst had hN0 hc0 ha0
      have hD : Hid (Sl w1 none (ps.drop 0)) := hid (by rw [List.drop_zero]; exact hs1.out)
      go_region_law (first
        | (refine step_app rfl (.tmp 39) (.tmp 42) rfl (.slice (some ⟨w1.heap.size, 0, none⟩) 0 0) rfl _ _ _ rfl w1.heap.size w1 0 [] (ps.take 0) HLt.out (by first | exact own_fresh _ _ _ (by simp) (by simp) | exact (own_fresh _ _ _ (by simp) (by simp)).alloc _) (hT.out.below (by first | exact ((Below.refl _ _).drew).alloc (by simp) _ | exact (((Below.refl _ _).drew).alloc (by simp) _).alloc (by simp) _)) (by first | exact ((Below.refl _ _).drew).alloc (by simp) _ | exact (((Below.refl _ _).drew).alloc (by simp) _).alloc (by simp) _) (Nat.le_refl _) (by omega) ?_; intro v2 w2 o2 g2 b2)
        | (refine step_app rfl (.tmp 39) (.tmp 42) rfl (.slice (some ⟨w1.heap.size + 1, 0, none⟩) 0 0) rfl _ _ _ rfl w1.heap.size w1 0 [] (ps.take 0) HLt.out (own_fresh _ _ _ (by simp) (by simp)) (hT.out.below ((((Below.refl _ _).drew).alloc (by simp) _).alloc (by simp) _)) ((((Below.refl _ _).drew).alloc (by simp) _).alloc (by simp) _) (Nat.le_refl _) (by omega) ?_; intro v2 w2 o2 g2 b2)
        | (refine step_app rfl (.tmp 43) (.tmp 45) rfl _ rfl _ _ _ rfl w1.heap.size w1 (0 + 0) ([] ++ ps.take 0) [[]] rfl (by first | exact o2 | exact o2.alloc _) (by first | exact sl_one w2 _ (by simp) [] | exact HB2.out w2 g2 | exact HB3.out w2 g2) (by first | exact b2 | exact b2.alloc b2.size _) (Nat.le_refl _) (by omega) ?_; intro v3 w3 o3 g3 b3)
        | (refine step_app rfl (.tmp 46) (.tmp 49) rfl _ rfl _ _ _ rfl w1.heap.size w1 (0 + 0 + 1) ([] ++ ps.take 0 ++ [[]]) (ps.drop 0) HLd.out o3 (by first | exact hD.out.below b3 | (have hD' := hD.out.below b3; simpa using hD')) b3 (Nat.le_refl _) (by omega) ?_; intro v4 w4 o4 g4 b4))
      all_goals
        go_wp2_with fail
        go_meet
        obtain ⟨ad4, c4, rfl, hc4, hm4, hs4⟩ := own_end HN.out (Nat.le_refl 0) o4
        exact ⟨ad4, c4, rfl, hc4, hm4, hs4, b4⟩
    · have hD : Hid (Sl w1 (if c1 = a then some ⟨g, 0, none⟩ else some ⟨g, a, none⟩) (ps.drop a)) := hid (by
        by_cases e : c1 = a
        · exact .inl (List.drop_of_length_le (by rw [HN.out]; omega))
        · rw [if_neg e]
          have := hs1.out.drop a
          rwa [Nat.zero_add] at this)
      have c3 : a ≤ c1 := by omega
      go_region_law (first
        | (refine step_app rfl (.tmp 39) (.tmp 42) rfl (.slice (some ⟨w1.heap.size, 0, none⟩) 0 0) rfl _ _ _ rfl w1.heap.size w1 0 [] (ps.take a) HLt.out (by first | exact own_fresh _ _ _ (by simp) (by simp) | exact (own_fresh _ _ _ (by simp) (by simp)).alloc _) (hT.out.below (by first | exact ((Below.refl _ _).drew).alloc (by simp) _ | exact (((Below.refl _ _).drew).alloc (by simp) _).alloc (by simp) _)) (by first | exact ((Below.refl _ _).drew).alloc (by simp) _ | exact (((Below.refl _ _).drew).alloc (by simp) _).alloc (by simp) _) (Nat.le_refl _) (by omega) ?_; intro v2 w2 o2 g2 b2)
        | (refine step_app rfl (.tmp 39) (.tmp 42) rfl (.slice (some ⟨w1.heap.size + 1, 0, none⟩) 0 0) rfl _ _ _ rfl w1.heap.size w1 0 [] (ps.take a) HLt.out (own_fresh _ _ _ (by simp) (by simp)) (hT.out.below ((((Below.refl _ _).drew).alloc (by simp) _).alloc (by simp) _)) ((((Below.refl _ _).drew).alloc (by simp) _).alloc (by simp) _) (Nat.le_refl _) (by omega) ?_; intro v2 w2 o2 g2 b2)
        | (refine step_app rfl (.tmp 43) (.tmp 45) rfl _ rfl _ _ _ rfl w1.heap.size w1 (0 + a) ([] ++ ps.take a) [[]] rfl (by first | exact o2 | exact o2.alloc _) (by first | exact sl_one w2 _ (by simp) [] | exact HB2.out w2 g2 | exact HB3.out w2 g2) (by first | exact b2 | exact b2.alloc b2.size _) (Nat.le_refl _) (by omega) ?_; intro v3 w3 o3 g3 b3)
        | (refine step_app rfl (.tmp 46) (.tmp 49) rfl _ rfl _ _ _ rfl w1.heap.size w1 (0 + a + 1) ([] ++ ps.take a ++ [[]]) (ps.drop a) HLd.out o3 (by first | exact hD.out.below b3 | (have hD' := hD.out.below b3; simpa using hD')) b3 (Nat.le_refl _) (by omega) ?_; intro v4 w4 o4 g4 b4))
      all_goals
        generalize (if c1 = a then (some ⟨g, 0, none⟩ : Option Addr) else some ⟨g, a, none⟩) = adx
        go_wp2_with fail
        go_meet
        obtain ⟨ad4, c4, rfl, hc4, hm4, hs4⟩ := own_end HN.out ha o4
        exact ⟨ad4, c4, rfl, hc4, hm4, hs4, b4⟩
  case rest =>
    obtain ⟨ad4, c4, rfl, hc4, hm4, hs4, b4⟩ := hcut
    have b04 := b01.trans (b4.mono b01.size)
    have hs1' : Hid (Sl wc ad1 ps) := hid (hs1.out.below b4)
    clear hs1 hd1
    by_cases d1 : (((X[0]'hX0).toNat : Nat) : Int) = 47
    · clear HX1 KC2
      generalize hy : X[0]'hX0 = y at *
      go_wp2_with (first
        | (go_at_call 15; refine (KJ.out _ _ _ hs4.out hc4).mono ?_; rintro e w5 ⟨rfl, b5⟩; have b05 := b04.trans (b5.mono b04.size)))
      go_ret
      exact ⟨rfl, b05⟩
    · have hh := HX1.out d1
      clear HX1
      generalize hy : X[0]'hX0 = y at *
      have d1b := beq_eq_false_iff_ne.2 d1
      by_cases d2 : X.size ≤ 4000
      · have KC3 := hid (KC2.out hh d2)
        clear KC2
        go_wp2_with (first
          | (go_at_call 12; refine (KS.out _ _ _ _ _ ((hs1'.out.below b5).below b6) hs6.out hc1 hc6).mono ?_; rintro e w7 ⟨rfl, b7⟩; have b07 := b06.trans (b7.mono b06.size))
          | (go_at_call 10; refine (KC3.out _ b05).mono ?_; rintro e w6 ⟨ad6, c6, rfl, hc6, hm6, hs6, bb6⟩; have b6 := bb6; have b06 := b05.trans (b6.mono b05.size))
          | (go_at_call 15; refine (KJ.out _ _ _ hs4.out hc4).mono ?_; rintro e w5 ⟨rfl, b5⟩; have b05 := b04.trans (b5.mono b04.size)))
        go_ret
        exact ⟨rfl, b07⟩
      · clear KC2
        go_wp2_with (first
          | (go_at_call 15; refine (KJ.out _ _ _ hs4.out hc4).mono ?_; rintro e w5 ⟨rfl, b5⟩; have b05 := b04.trans (b5.mono b04.size)))
        go_ret
        exact ⟨rfl, b05⟩

set_option maxHeartbeats 2000000 in
theorem walk_out (l : List UInt8) (at0 : Int) (d : Bool) (w : World) (hm : Ml w) (hl : l.length ≤ 9223372036854775807) (h : err l ≠ 0 ∨ at0 < 0 ∨ ((cln l).length : Int) < at0 ∨ 3000 < l.length) :
    Calls Tryd.prog 7 #[.string (bs l), .int .i64 at0, .bool d] w fun e w' => e = .returned (.bool true) ∧ Below w.heap.size w w' := by
  have q0 := cleans_w w hm
  have KQ1 : Hid (∀ W, Below w.heap.size w W → Calls Tryd.prog 10 #[.string (bs l)] W fun e w' => ∃ ad c, e = .returned (.tuple #[.slice ad (cln l).length c, .int .i64 (err l)]) ∧ (cln l).length ≤ c ∧ c ≤ 9223372036854775807 ∧ Hid (Sl w' ad (cln l)) ∧ Below W.heap.size W w') := fun W hb => clean_sl l (by omega) W (hm.below hb)
  have z1 := bs_size l
  have HN2 : Hid ((cln l).length ≤ l.length + 1) := hid (by
    unfold cln
    split
    · have h1 : (parts l).length ≤ (spl l).length := List.length_filter_le _ _
      have h2 := spl_len_le l
      omega
    · simp)
  clear hm
  generalize (cln l).length = N at *
  generalize err l = z at *
  generalize cln l = ps at *
  by_cases c0 : z = 0
  · subst c0
    by_cases c1 : at0 < 0
    · clear h
      go_enter Tryd.func7, Tryd.ntmps7
      go_wp2_with (first
        | (go_at_call 10; refine (KQ1.out _ b00).mono ?_; rintro e w1 ⟨ad1, c1, rfl, hc1, hm1, hs1, b1⟩; have b01 := b00.trans (b1.mono b00.size))
        | (go_at_call 9; refine q0.mono ?_; rintro e w0 ⟨rfl, b00⟩))
      go_ret
      exact ⟨rfl, b01⟩
    · by_cases c2 : (N : Int) < at0
      · clear h
        go_enter Tryd.func7, Tryd.ntmps7
        go_wp2_with (first
          | (go_at_call 10; refine (KQ1.out _ b00).mono ?_; rintro e w1 ⟨ad1, c1, rfl, hc1, hm1, hs1, b1⟩; have b01 := b00.trans (b1.mono b00.size))
          | (go_at_call 9; refine q0.mono ?_; rintro e w0 ⟨rfl, b00⟩))
        go_ret
        exact ⟨rfl, b01⟩
      · have c3 : 3000 < l.length := by omega
        clear h
        go_enter Tryd.func7, Tryd.ntmps7
        go_wp2_with (first
          | (go_at_call 10; refine (KQ1.out _ b00).mono ?_; rintro e w1 ⟨ad1, c1, rfl, hc1, hm1, hs1, b1⟩; have b01 := b00.trans (b1.mono b00.size))
          | (go_at_call 9; refine q0.mono ?_; rintro e w0 ⟨rfl, b00⟩))
        go_ret
        exact ⟨rfl, b01⟩
  · clear h
    go_enter Tryd.func7, Tryd.ntmps7
    go_wp2_with (first
      | (go_at_call 10; refine (KQ1.out _ b00).mono ?_; rintro e w1 ⟨ad1, c1, rfl, hc1, hm1, hs1, b1⟩; have b01 := b00.trans (b1.mono b00.size))
      | (go_at_call 9; refine q0.mono ?_; rintro e w0 ⟨rfl, b00⟩))
    go_ret
    exact ⟨rfl, b01⟩

theorem walk (s : ByteArray) (at0 : Int) (d : Bool) (w : World) (hm : Ml w) (hs : s.size ≤ maxLen) :
    Calls Tryd.prog 7 #[.string s, .int .i64 at0, .bool d] w fun e w' => e = .returned (.bool true) ∧ Below w.heap.size w w' := by
  rw [bs_of s] at hs ⊢
  rw [bs_size] at hs
  unfold maxLen at hs
  generalize s.data.toList = l at *
  by_cases h : err l ≠ 0 ∨ at0 < 0 ∨ ((cln l).length : Int) < at0 ∨ 3000 < l.length
  · exact walk_out l at0 d w hm hs h
  · obtain ⟨a, rfl⟩ : ∃ a : Nat, at0 = a := ⟨at0.toNat, by omega⟩
    cases d with
    | true => exact walk_dot l a w hm (by omega) (by omega) (by omega)
    | false => exact walk_no l a w hm (by omega) (by omega) (by omega)

set_option maxRecDepth 100000 in
theorem lifted (os : Os) (started : os.Started) (H : Type) (enc : TypeId × Value → H) :
    ReturnsInHanded {} Tryd.checked os 7 .any (fun w args => (Rows.pathSameSpec.pre enc Tryd.prog Tryd.f7 [] false w args ∧ laidMetH Tryd.prog two w) ∧ sizedMet enc Tryd.prog Tryd.f7 (OpenSpec.ofChange Rows.pathSameSpec) false w args)
      (Rows.pathSameSpec.post enc Tryd.prog Tryd.f7 false true false false) := by
  refine handed_shaped (C := Tryd.checked) (X := fun w _ => laidMetH Tryd.prog two w) (fun _ _ _ hh h => h.of_heap hh) own started (by kernel_rfl) Tryd.func7
    (ChangeSpec.witness_at (enc := enc) (C := Tryd.checked) (os := os) (X := fun w _ => laidMetH Tryd.prog two w) false
      (start os)
      #[.string ⟨#[]⟩, .int .i64 0, .bool false] 8 rfl (by kernel_rfl) (by kernel_rfl) (by kernel_rfl) (by kernel_rfl) (by kernel_rfl) (laidMet_of_run' 8 (by kernel_rfl) (by kernel_rfl))) ?_
  intro W base args ds gs before hval0 hW hsz hsh
  have hval : ∀ (j : Nat) t v, Tryd.f7.params[j]? = some t → args[j]? = some v → Value.okWide Tryd.prog W .any base t v := hval0
  have hW' := hW
  obtain ⟨p, q, hA0, hV0, rfl, hfz, hnd⟩ := hW
  have hA : DataW.TrodAll enc Tryd.prog W 0 (fun _ => true) true Tryd.f7.params.toList args.toList ds p := hA0
  have hV : DataW.TrodVars enc Tryd.prog W (fun _ => true) [] gs q := hV0
  rw [Tryd.params7] at hA hval
  obtain ⟨v0, vs0, d0, ds0, p0, q0, hargs, rfl, rfl, h0, r0⟩ := trodAll_cons hA
  obtain ⟨v1, vs1, d1, ds1, p1, q1, rfl, rfl, rfl, h1, r1⟩ := trodAll_cons r0
  obtain ⟨v2, vs2, d2, ds2, p2, q2, rfl, rfl, rfl, h2, r2⟩ := trodAll_cons r1
  obtain ⟨rfl, rfl, rfl⟩ := trodAll_nil r2
  obtain rfl : args = #[v0, v1, v2] := by cases args; simp_all
  obtain ⟨rfl, rfl⟩ : gs = [] ∧ q = [] := by
    cases gs with
    | nil => exact ⟨rfl, hV⟩
    | cons g r => exact absurd hV (by intro h; cases h)
  obtain ⟨s0, rfl, rfl, rfl, m0⟩ := Go.ChangeMaps.open_string Tryd.underlying9 (hval 0 9 v0 rfl rfl) h0
  obtain ⟨a1, rfl, rfl, rfl, w1⟩ := open_int Tryd.underlying3 (hval 1 3 v1 rfl rfl) h1
  obtain ⟨b2, rfl, rfl, rfl⟩ := open_bool Tryd.underlying4 (hval 2 4 v2 rfl rfl) h2
  clear hA0 hval0
  refine (walk s0 a1 b2 W (shaped hsh) m0).mono fun e W' ⟨he, st⟩ => ?_
  subst he
  exact ⟨_, rfl, _, _, _, [], _, [], hW', trodAll_mk1 (shut_bool Tryd.underlying4 _), (trodAll_cons_mk (Go.ChangeMaps.shut_string Tryd.underlying9 m0) (trodAll_cons_mk (shut_int Tryd.underlying3 w1) (trodAll_cons_mk (shut_bool Tryd.underlying4 b2) trodAll_mk0))), rfl, st.frame _, fun h => by cases h⟩

theorem over : Rows.PathSameSaid :=
  OpenClaim.holds_of_wide 7 Tryd.f7 rfl rfl rfl rfl rfl rfl rfl ⟨rfl, rfl, rfl, rfl, rfl⟩ rfl rfl rfl rfl rfl (by kernel_rfl) Tryd.func7 (by kernel_rfl)
    (of_decide_eq_true (by kernel_rfl)) (by unfold Func.isWrapper; rw [if_neg (of_decide_eq_false (by kernel_rfl))]; exact ⟨rfl, rfl⟩)
    (fun os started H enc _ => lifted os started H enc)

theorem carded : Rows.PathSameCardSaid :=
  Claim7.holds_tied_plain_at .later [] _ _ _ _
    over (fun _ h => by cases h) (by kernel_rfl) (fun _ h => by cases h) pathSame_row_tie rfl ⟨rfl, rfl⟩ (by kernel_rfl) rfl
    (fun f fn hf hfn => by
      obtain rfl : f = 7 := Option.some.inj ((show Tryd.prog.funcNamed Tryd.f7.name = some 7 by kernel_rfl).symm.trans hf) |>.symm
      obtain rfl : fn = Tryd.f7 := (Option.some.inj (Tryd.func7.symm.trans hfn)).symm
      refine ⟨by kernel_rfl, fun j t ht => ?_⟩
      have hall : ∀ t ∈ Tryd.f7.params, Tryd.prog.wantsStandIn t = false := by
        rw [Tryd.params7]
        intro t ht
        simp at ht
        rcases ht with rfl | rfl | rfl <;> kernel_rfl
      exact hall t (Array.mem_of_getElem? ht))
    (by kernel_rfl)

end Go.Proofs.YtmeaiplinkodiaaDoor.pathSame
namespace Go.Proofs.YtmeaiplinkodiaaDoor
theorem pathSame_holds : Rows.PathSameCardSaid := pathSame.carded
#print axioms pathSame_holds
end Go.Proofs.YtmeaiplinkodiaaDoor
