/-
  merge.find: the order of parts is that of paths; contracts: cmp.Compare and slices.Compare of texts, split, find.
-/
import Derived.Test.YtpgiibpalmhhlaaGreatDoorMT
import Derived.Test.YtpgiibpalmhhlaaGreatDoorM0
import Derived.Test.YtpgiibpalmhhlaaGreatDoorRef2
namespace Go.Proofs.YtpgiibpalmhhlaaGreatDoor
open Go.RowKit
open Go.Lib hiding intOf
set_option linter.unusedVariables false
set_option linter.unusedSimpArgs false

/-- bytes in their order -/
def cB : List UInt8 → List UInt8 → Int
  | [], [] => 0
  | [], _ :: _ => -1
  | _ :: _, [] => 1
  | a :: x, b :: y => if a = b then cB x y else if a.toNat < b.toNat then -1 else 1
/-- parts in their order -/
def cP : List (List UInt8) → List (List UInt8) → Int
  | [], [] => 0
  | [], _ :: _ => -1
  | _ :: _, [] => 1
  | p :: ps, q :: qs => if cB p q = 0 then cP ps qs else cB p q

theorem cB_cons (c : UInt8) (x y : List UInt8) : cB (c :: x) (c :: y) = cB x y := by rw [cB, if_pos rfl]
theorem cP_cmp : ∀ a b : List UInt8, cP (spl a) (spl b) = cmpL a b
  | [], [] => rfl
  | [], d :: b => by
    by_cases h : d = 47
    · subst h
      obtain ⟨q, s, e⟩ := List.exists_cons_of_ne_nil (spl_ne b)
      rw [spl_slash, spl_nil, e]; rfl
    · obtain ⟨q, s, e1, e2⟩ := spl_other d b h
      rw [e2, spl_nil]; rfl
  | c :: a, [] => by
    by_cases h : c = 47
    · subst h
      obtain ⟨q, s, e⟩ := List.exists_cons_of_ne_nil (spl_ne a)
      rw [spl_slash, spl_nil, e]; rfl
    · obtain ⟨q, s, e1, e2⟩ := spl_other c a h
      rw [e2, spl_nil]; rfl
  | c :: a, d :: b => by
    have ih := cP_cmp a b
    by_cases h1 : c = 47
    · subst h1
      by_cases h2 : d = 47
      · subst h2
        rw [spl_slash, spl_slash, cmpL, if_pos rfl, ← ih]; rfl
      · obtain ⟨q, s, e1, e2⟩ := spl_other d b h2
        rw [spl_slash, e2, cmpL, if_neg (fun e => h2 e.symm)]
        have : rk 47 < rk d := by
          have := rk_low d
          have h3 : ¬ rk d ≤ -1 := fun h => h2 (rk_low' d h)
          have : rk 47 = -1 := rfl
          omega
        rw [ci_lt _ _ this]; rfl
    · obtain ⟨p, r, f1, f2⟩ := spl_other c a h1
      by_cases h2 : d = 47
      · subst h2
        rw [spl_slash, f2, cmpL, if_neg h1]
        have : rk 47 < rk c := by
          have := rk_low c
          have h3 : ¬ rk c ≤ -1 := fun h => h1 (rk_low' c h)
          have : rk 47 = -1 := rfl
          omega
        rw [ci_gt _ _ this]; rfl
      · obtain ⟨q, s, e1, e2⟩ := spl_other d b h2
        rw [f2, e2]
        by_cases h : c = d
        · subst h
          rw [cmpL, if_pos rfl, ← ih, f1, e1, cP, cP, cB_cons]
        · rw [cmpL, if_neg h, cP]
          have k1 : rk c = c.toNat := by unfold rk; rw [if_neg h1]
          have k2 : rk d = d.toNat := by unfold rk; rw [if_neg h2]
          by_cases hlt : c.toNat < d.toNat
          · have : cB (c :: p) (d :: q) = -1 := by rw [cB, if_neg h, if_pos hlt]
            rw [this, ci_lt _ _ (by omega)]; rfl
          · have hne : c.toNat ≠ d.toNat := fun e => h (UInt8.toNat_inj.1 e)
            have : cB (c :: p) (d :: q) = 1 := by rw [cB, if_neg h, if_neg hlt]
            rw [this, ci_gt _ _ (by omega)]; rfl

theorem bl_cB : ∀ x y : List UInt8, Op.bytesLess x y = decide (cB x y = -1)
  | [], [] => rfl
  | [], _ :: _ => rfl
  | _ :: _, [] => rfl
  | a :: x, b :: y => by
    rw [Op.bytesLess, bl_cB x y, cB]
    by_cases h : a = b
    · subst h; simp
    · rw [if_neg h]
      have : (a == b) = false := beq_eq_false_iff_ne.2 h
      rw [this, Bool.false_and, Bool.or_false]
      by_cases hlt : a.toNat < b.toNat
      · rw [if_pos hlt, decide_eq_true (UInt8.lt_iff_toNat_lt.2 hlt)]; rfl
      · rw [if_neg hlt, decide_eq_false (fun q => hlt (UInt8.lt_iff_toNat_lt.1 q))]; rfl
theorem cB_swap : ∀ x y : List UInt8, cB y x = - cB x y
  | [], [] => rfl
  | [], _ :: _ => rfl
  | _ :: _, [] => rfl
  | a :: x, b :: y => by
    rw [cB, cB]
    by_cases h : a = b
    · subst h; rw [if_pos rfl, if_pos rfl]; exact cB_swap x y
    · rw [if_neg h, if_neg (fun e => h e.symm)]
      have hne : a.toNat ≠ b.toNat := fun e => h (UInt8.toNat_inj.1 e)
      by_cases hlt : a.toNat < b.toNat
      · rw [if_pos hlt, if_neg (by omega)]; rfl
      · rw [if_neg hlt, if_pos (by omega)]
theorem cB_zero : ∀ x y : List UInt8, cB x y = 0 ↔ x = y
  | [], [] => by simp [cB]
  | [], _ :: _ => by simp [cB]
  | _ :: _, [] => by simp [cB]
  | a :: x, b :: y => by
    rw [cB]
    by_cases h : a = b
    · subst h; rw [if_pos rfl, cB_zero x y]; simp
    · rw [if_neg h]
      constructor
      · split <;> intro h2 <;> omega
      · intro h2; injection h2 with h2 _; exact absurd h2 h
theorem cB_three : ∀ x y : List UInt8, cB x y = 0 ∨ cB x y = -1 ∨ cB x y = 1
  | [], [] => .inl rfl
  | [], _ :: _ => .inr (.inl rfl)
  | _ :: _, [] => .inr (.inr rfl)
  | a :: x, b :: y => by
    rw [cB]
    split
    · exact cB_three x y
    · split
      · exact .inr (.inl rfl)
      · exact .inr (.inr rfl)

set_option maxHeartbeats 1000000 in
theorem nan_w (s : ByteArray) (w : World) : Calls Tryz.prog 93 #[.string s] w fun e w' => e = .returned (.bool false) ∧ w' = w := by
  go_enter Tryz.func93, Tryz.ntmps93
  go_wp2_with fail
  go_ret
  exact ⟨by simp, rfl⟩

set_option maxHeartbeats 1000000 in
theorem cmpS_w (x y : List UInt8) (w : World) : Calls Tryz.prog 71 #[.string (bs x), .string (bs y)] w fun e w' => e = .returned (.int .i64 (cB x y)) ∧ w' = w := by
  have KN := nan_w
  have e1 : Op.bytesLess (bs x).toList (bs y).toList = decide (cB x y = -1) := by rw [bs_toList, bs_toList, bl_cB]
  have e2 : (!(Op.bytesLess (bs x).toList (bs y).toList || (bs x).toList == (bs y).toList)) = decide (cB x y = 1) := by
    rw [e1, bs_toList, bs_toList]
    have h0 := cB_zero x y
    rcases cB_three x y with h | h | h
    · have : x = y := h0.1 h
      subst this; simp [h]
    · rw [h]; rfl
    · have : ¬ x = y := fun e => by have := h0.2 e; omega
      rw [h]
      have : (x == y) = false := by simpa using this
      rw [this]; rfl
  have hg : ∀ w, (binOp .gtr 9 (.string (bs x)) (.string (bs y))).run Tryz.prog w = .ok (.bool (decide (cB x y = 1))) w := fun w => by
    rw [← e2]; simp [binOp, Op.stringOp]
  clear e2
  have h3 := cB_three x y
  generalize bs x = X at *
  generalize bs y = Y at *
  generalize cB x y = z at *
  rcases h3 with rfl | rfl | rfl
  · rw [decide_eq_false (by omega)] at e1
    rw [decide_eq_false (by omega : ¬ (0 : Int) = 1)] at hg
    go_enter Tryz.func71, Tryz.ntmps71
    go_wp2_with (go_at_call 93; refine (KN _ _).mono ?_; rintro e w1 ⟨rfl, hw⟩; rw [hw])
    go_ret
    exact ⟨rfl, rfl⟩
  · rw [decide_eq_true rfl] at e1
    rw [decide_eq_false (by omega : ¬ (-1 : Int) = 1)] at hg
    go_enter Tryz.func71, Tryz.ntmps71
    go_wp2_with (go_at_call 93; refine (KN _ _).mono ?_; rintro e w1 ⟨rfl, hw⟩; rw [hw])
    go_ret
    exact ⟨rfl, rfl⟩
  · rw [decide_eq_false (by omega)] at e1
    rw [decide_eq_true (rfl : (1 : Int) = 1)] at hg
    go_enter Tryz.func71, Tryz.ntmps71
    go_wp2_with (go_at_call 93; refine (KN _ _).mono ?_; rintro e w1 ⟨rfl, hw⟩; rw [hw])
    go_ret
    exact ⟨rfl, rfl⟩

theorem Sl.at {w : World} {ad : Option Addr} {ps : List (List UInt8)} (h : Sl w ad ps) (i : Nat) (x : List UInt8) (hx : ps[i]? = some x) : ∃ b o, ad = some ⟨b, o, none⟩ ∧ w.cell? ⟨b, o + i, none⟩ = some (.string (bs x)) := by
  rcases h with h | ⟨b, o, h1, h2, h3⟩
  · rw [h] at hx; simp at hx
  · exact ⟨b, o, h1, h3 i x hx⟩

set_option maxRecDepth 20000 in
set_option maxHeartbeats 2000000 in
theorem cmpP_w (a1 a2 : Option Addr) (c1 c2 : Nat) (ps qs : List (List UInt8)) (w : World) (h1 : Sl w a1 ps) (h2 : Sl w a2 qs) (l1 : ps.length ≤ 2000000) (l2 : qs.length ≤ 2000000) :
    Calls Tryz.prog 54 #[.slice a1 ps.length c1, .slice a2 qs.length c2] w fun e w' => e = .returned (.int .i64 (cP ps qs)) ∧ w' = w := by
  have KC : Hid (∀ x y W, Calls Tryz.prog 71 #[.string (bs x), .string (bs y)] W fun e w' => e = .returned (.int .i64 (cB x y)) ∧ w' = W) := cmpS_w
  have H1 : Hid (Sl w a1 ps) := h1
  have H2 : Hid (Sl w a2 qs) := h2
  clear h1 h2
  generalize hN : ps.length = N at *
  generalize hM : qs.length = M at *
  have HN : Hid (ps.length = N) := hN
  have HM : Hid (qs.length = M) := hM
  clear hN hM
  go_enter Tryz.func54, Tryz.ntmps54
  go_wp2_with fail
  go_loopw [11] (fun x11 wr => ∃ i : Nat, x11 = .int .i64 (i : Int) ∧ i ≤ N ∧ i ≤ M ∧ Hid (cP ps qs = cP (ps.drop i) (qs.drop i)) ∧ Hid (wr = w)) (fun x11 _ => N - (intOf x11).toNat)
  case atStart => exact ⟨0, rfl, by omega, by omega, rfl, rfl⟩
  case round =>
    obtain ⟨i, rfl, hi, hj, H, hw⟩ := hrel
    have hw := hw.out
    subst hw
    by_cases hlt : i < N
    · have l1' : i < ps.length := by rw [HN.out]; exact hlt
      obtain ⟨x, hx⟩ : ∃ x, ps[i]? = some x := ⟨ps[i], List.getElem?_eq_getElem _⟩
      obtain ⟨b1, o1, rfl, k1⟩ := H1.out.at i x hx
      have i1 : (0 : Int) ≤ (i : Int) := by omega
      have i2 : (i : Int) < (N : Int) := by omega
      by_cases hlt2 : i < M
      · have l2' : i < qs.length := by rw [HM.out]; exact hlt2
        obtain ⟨y, hy⟩ : ∃ y, qs[i]? = some y := ⟨qs[i], List.getElem?_eq_getElem _⟩
        obtain ⟨b2, o2, rfl, k2⟩ := H2.out.at i y hy
        have i3 : ¬ (M : Int) ≤ (i : Int) := by omega
        have i4 : (i : Int) < (M : Int) := by omega
        have hd : cP (ps.drop i) (qs.drop i) = if cB x y = 0 then cP (ps.drop (i + 1)) (qs.drop (i + 1)) else cB x y := by
          rw [List.drop_eq_getElem_cons l1', List.drop_eq_getElem_cons l2', cP]
          rw [List.getElem?_eq_getElem l1'] at hx
          rw [List.getElem?_eq_getElem l2'] at hy
          rw [Option.some.inj hx, Option.some.inj hy]
        have KC2 : Hid (∀ W, Calls Tryz.prog 71 #[.string (bs x), .string (bs y)] W fun e w' => e = .returned (.int .i64 (cB x y)) ∧ w' = W) := KC.out x y
        by_cases e : cB x y = 0
        · rw [if_pos e] at hd
          have H3 : Hid (cP ps qs = cP (ps.drop (i + 1)) (qs.drop (i + 1))) := hid (H.out.trans hd)
          rw [e] at KC2
          clear hx hy hd H e l1' l2'
          go_wp2_with (go_at_call 71; refine (KC2.out _).mono ?_; rintro e w1 ⟨rfl, hw⟩; rw [hw])
          go_roundw
          case rel => exact ⟨i + 1, by simp, by omega, by omega, H3, by first | exact hid trivial | exact hid rfl⟩
          case measure => simp [intOf]; omega
        · rw [if_neg e] at hd
          have H3 : Hid (cP ps qs = cB x y) := hid (H.out.trans hd)
          have c5 : (cB x y != 0) = true := by simpa using e
          generalize cB x y = z at *
          clear hx hy hd H l1' l2'
          go_wp2_with (go_at_call 71; refine (KC2.out _).mono ?_; rintro e w1 ⟨rfl, hw⟩; rw [hw])
          go_ret
          exact ⟨by rw [H3.out]; rfl, rfl⟩
      · have i3 : (M : Int) ≤ (i : Int) := by omega
        have H3 : Hid (cP ps qs = 1) := hid (by
          rw [H.out, List.drop_eq_getElem_cons l1', (List.drop_of_length_le (by rw [HM.out]; omega) : qs.drop i = [])]; rfl)
        clear H l1' hx
        go_wp2_with fail
        go_ret
        exact ⟨by rw [H3.out]; rfl, rfl⟩
    · obtain rfl : i = N := by omega
      by_cases hlt2 : i < M
      · have i4 : (i : Int) < (M : Int) := by omega
        have H3 : Hid (cP ps qs = -1) := hid (by
          rw [H.out, (List.drop_of_length_le (by rw [HN.out]; omega) : ps.drop i = []), List.drop_eq_getElem_cons (by rw [HM.out]; exact hlt2)]; rfl)
        clear H
        go_wp2_with fail
        go_ret
        exact ⟨by rw [H3.out]; rfl, rfl⟩
      · have H3 : Hid (cP ps qs = 0) := hid (by
          rw [H.out, (List.drop_of_length_le (by rw [HN.out]; omega) : ps.drop i = []), (List.drop_of_length_le (by rw [HM.out]; omega) : qs.drop i = [])]; rfl)
        have i4 : ¬ (i : Int) < (M : Int) := by omega
        clear H
        go_wp2_with fail
        go_ret
        exact ⟨by rw [H3.out]; rfl, rfl⟩

set_option maxHeartbeats 1000000 in
theorem msplit_w (l : List UInt8) (hl : l.length < 4294967281) (w : World) (hm : Ml w) :
    Calls Tryz.prog 51 #[.string (bs l)] w fun e w' => ∃ ad, e = .returned (.slice ad (spl l).length (spl l).length) ∧ Sl w' ad (spl l) ∧ Below w.heap.size w w' := by
  have q : Calls Tryz.prog 46 #[.string (bs l), .string ⟨#[47]⟩] w fun e w' => e = .returned (.slice (some ⟨w.heap.size, 0, none⟩) (spl l).length (spl l).length) ∧ Hid (w' = w.alloc (.cells (strs (spl l)).toArray 9)) := split_w l hl w hm
  go_enter Tryz.func51, Tryz.ntmps51
  go_wp2_with (go_at_call 46; refine q.mono ?_; rintro e w1 ⟨rfl, h1⟩)
  have h2 := h1.out
  subst h2
  go_ret
  exact ⟨_, rfl, split_sl w _, below_box _ _⟩

set_option maxHeartbeats 1000000 in
theorem key2_w (r : Rw) (s : List UInt8) (sa : Option Addr) (sc : Nat) (w : World) (hsa : Sl w sa (spl s)) (hsc : (spl s).length ≤ sc) (hm : Ml w) (h1 : r.p.length ≤ 1000000) (h2 : s.length ≤ 1000000) :
    Calls Tryz.prog 53 #[.agg r.cs.toArray, .slice sa (spl s).length sc] w fun e w' => e = .returned (.int .i64 (cmpL r.p s)) ∧ Below w.heap.size w w' := by
  have KS : Hid (∀ W, Below w.heap.size w W → Calls Tryz.prog 51 #[.string (bs r.p)] W fun e w' => ∃ ad, e = .returned (.slice ad (spl r.p).length (spl r.p).length) ∧ Sl w' ad (spl r.p) ∧ Below W.heap.size W w') := fun W hb => msplit_w r.p (by omega) W (hm.below hb)
  have g1 := spl_len_le r.p
  have g2 := spl_len_le s
  have KC : Hid (∀ W a c, Sl W a (spl r.p) → Sl W sa (spl s) → Calls Tryz.prog 54 #[.slice a (spl r.p).length c, .slice sa (spl s).length sc] W fun e w' => e = .returned (.int .i64 (cmpL r.p s)) ∧ w' = W) := fun W a c h1 h2 => by
    rw [← cP_cmp]
    exact cmpP_w a sa c sc _ _ W h1 h2 (by omega) (by omega)
  have HS : Hid (Sl w sa (spl s)) := hsa
  have hB : Below w.heap.size w (w.alloc (.cells r.cs.toArray 43)) := below_box w _
  have hcs : Hid (r.cs.toArray = #[.string (bs r.p), .int .i64 r.id, .int .i64 r.kind, .int .i64 r.mode, .int .i64 0, .int .i64 0, .int .i64 0, .string ⟨#[]⟩, .string ⟨#[]⟩, .string ⟨#[]⟩, .slice none 0 0, .int .i64 r.size, .bool r.made]) := rfl
  clear hsa hm
  rw [hcs.out] at hB ⊢
  generalize cmpL r.p s = z at *
  generalize spl r.p = P at *
  generalize spl s = Q at *
  generalize bs r.p = p at *
  go_enter Tryz.func53, Tryz.ntmps53
  go_wp2_with (first
    | (go_at_call 54; refine (KC.out _ _ _ S1 (HS.out.below bA)).mono ?_; rintro e w2 ⟨rfl, hw2⟩; rw [hw2])
    | (go_at_call 51; refine (KS.out _ hB).mono ?_; rintro e w1 ⟨ad, rfl, S1, b1⟩; have bA := hB.trans (b1.mono hB.size)))
  go_ret
  exact ⟨rfl, bA⟩

set_option maxRecDepth 20000 in
set_option maxHeartbeats 1000000 in
theorem search2_w (ad : Option Addr) (cap : Nat) (L : List Rw) (s : List UInt8) (w : World) (sa : Option Addr) (sc : Nat) (hsa : Sl w sa (spl s)) (hsc : (spl s).length ≤ sc) (hm : Ml w) (hs : Srt L) (hr : Rs w ad L) (hl : L.length ≤ 1000000) (hp : ∀ r ∈ L, r.p.length ≤ 1000000) (hsl : s.length ≤ 1000000) :
    Calls Tryz.prog 52 #[.slice ad L.length cap, .slice sa (spl s).length sc, .func (.func 53) #[] #[]] w fun e w' => e = .returned (.tuple #[.int .i64 (ix L s : Int), .bool (fd L s)]) ∧ Below w.heap.size w w' := by
  have KK : Hid (∀ (W : World) (i : Nat) (r : Rw), L[i]? = some r → Below w.heap.size w W → Calls Tryz.prog 53 #[.agg r.cs.toArray, .slice sa (spl s).length sc] W fun e w' => e = .returned (.int .i64 (cmpL r.p s)) ∧ Below W.heap.size W w') := fun W i r hi hb => key2_w r s sa sc W (hsa.below hb) hsc (hm.below hb) (hp r (List.mem_of_getElem? hi)) hsl
  have KI : Hid (∀ (i : Nat) (r : Rw), L[i]? = some r → (cmpL r.p s < 0 ↔ i < ix L s)) := fun i r hi => ix_iff L s hs i r hi
  have HF : Hid (fd L s = match L[ix L s]? with | some r => decide (cmpL r.p s = 0) | none => false) := rfl
  have hix := ix_le L s
  have HR : Hid (Rs w ad L) := hr
  clear hs hp hsl hr hsa hsc hm
  generalize (spl s).length = sn at *
  generalize ix L s = X at *
  generalize fd L s = F at *
  generalize hLn : L.length = n at *
  have HL : Hid (L.length = n) := hLn
  clear hLn
  go_enter Tryz.func52, Tryz.ntmps52
  go_wp2_with fail
  go_loopw [9, 10] (fun x y wr => ∃ (i j : Nat), x = .int .i64 (i : Int) ∧ y = .int .i64 (j : Int) ∧ i ≤ X ∧ X ≤ j ∧ j ≤ n ∧ Below w.heap.size w wr) (fun x y _ => (intOf y).toNat - (intOf x).toNat)
  case atStart => exact ⟨0, n, rfl, rfl, by omega, hix, Nat.le_refl _, Below.refl _ _⟩
  case round =>
    obtain ⟨i, j, rfl, rfl, hi, hj, hjn, bb⟩ := hrel
    by_cases hij : i < j
    · have e1 : wrap64 ((i : Int) + (j : Int)) = (i : Int) + (j : Int) := by unfold wrap64; omega
      have e2 : IntKind.u64.wrap ((i : Int) + (j : Int)) = (i : Int) + (j : Int) := by rw [IntKind.wrap_u64]; omega
      go_upto_region 5 with fail
      obtain ⟨h, hh⟩ : ∃ h : Nat, ((i : Int) + (j : Int)) / 2 = (h : Int) := ⟨(i + j) / 2, by omega⟩
      have hlo : i ≤ h ∧ h < j := by omega
      rw [hh]
      clear hh e1 e2
      obtain ⟨r, hr⟩ : ∃ r, L[h]? = some r := ⟨_, List.getElem?_eq_getElem (by have := HL.out; omega)⟩
      obtain ⟨b, o, rfl, hb1, hb2⟩ := (HR.out.below bb).at hr
      have HB : Hid (wr.rangeAt b (o + h * 13) r.cs) := hb2
      have hq := KI.out h r hr
      have KK1 : Hid (∀ W, Below w.heap.size w W → Calls Tryz.prog 53 #[.agg r.cs.toArray, .slice sa sn sc] W fun e w' => e = .returned (.int .i64 (cmpL r.p s)) ∧ Below W.heap.size W w') := fun W hb => KK.out W h r hr hb
      have h1 : (0 : Int) ≤ (h : Int) := by omega
      have h2 : (h : Int) < (n : Int) := by omega
      have hcs : Hid (r.cs.length = 13) := rfl
      clear hb2 hr
      generalize cmpL r.p s = z at *
      generalize r.cs = C at *
      have w1 : wrap64 ((h : Int) + 1) = (h : Int) + 1 := by unfold wrap64; omega
      by_cases hz : z < 0
      · have hX := hq.1 hz
        clear hq
        go_wp2_with (first
          | (refine wpList_load_mid rfl 43 _ rfl b (o + h * 13) rfl C _ HB.out Tryz.underlying43 rfl (by rw [hcs.out]; kernel_rfl) ?_)
          | (go_at_call 53; refine (KK1.out _ bb).mono ?_; rintro e w2 ⟨rfl, b2⟩))
        go_roundw
        case rel => exact ⟨h + 1, j, by simp, rfl, by omega, hj, hjn, bb.trans (b2.mono bb.size)⟩
        case measure => simp [intOf]; omega
      · have hX : ¬ h < X := fun q => hz (hq.2 q)
        clear hq
        go_wp2_with (first
          | (refine wpList_load_mid rfl 43 _ rfl b (o + h * 13) rfl C _ HB.out Tryz.underlying43 rfl (by rw [hcs.out]; kernel_rfl) ?_)
          | (go_at_call 53; refine (KK1.out _ bb).mono ?_; rintro e w2 ⟨rfl, b2⟩))
        go_roundw
        case rel => exact ⟨i, h, rfl, rfl, hi, by omega, by omega, bb.trans (b2.mono bb.size)⟩
        case measure => simp [intOf]; omega
    · obtain rfl : i = X := by omega
      by_cases hn : i < n
      · obtain ⟨r, hr⟩ : ∃ r, L[i]? = some r := ⟨_, List.getElem?_eq_getElem (by have := HL.out; omega)⟩
        obtain ⟨b, o, rfl, hb1, hb2⟩ := (HR.out.below bb).at hr
        have HB : Hid (wr.rangeAt b (o + i * 13) r.cs) := hb2
        have KK1 : Hid (∀ W, Below w.heap.size w W → Calls Tryz.prog 53 #[.agg r.cs.toArray, .slice sa sn sc] W fun e w' => e = .returned (.int .i64 (cmpL r.p s)) ∧ Below W.heap.size W w') := fun W hb => KK.out W i r hr hb
        have h1 : (0 : Int) ≤ (i : Int) := by omega
        have h2 : (i : Int) < (n : Int) := by omega
        have HF2 : Hid (F = decide (cmpL r.p s = 0)) := (by show _ = _; rw [HF.out, hr])
        have c0 : wr.cell? ⟨b, o + i * 13, none⟩ = some (.string (bs r.p)) := hb2 0 _ rfl
        have c1 : wr.cell? ⟨b, o + i * 13 + 1, none⟩ = some (.int .i64 r.id) := hb2 1 _ rfl
        have c2 : wr.cell? ⟨b, o + i * 13 + 2, none⟩ = some (.int .i64 r.kind) := hb2 2 _ rfl
        have c3 : wr.cell? ⟨b, o + i * 13 + 3, none⟩ = some (.int .i64 r.mode) := hb2 3 _ rfl
        have c4 : wr.cell? ⟨b, o + i * 13 + 4, none⟩ = some (.int .i64 0) := hb2 4 _ rfl
        have c5 : wr.cell? ⟨b, o + i * 13 + 5, none⟩ = some (.int .i64 0) := hb2 5 _ rfl
        have c6 : wr.cell? ⟨b, o + i * 13 + 6, none⟩ = some (.int .i64 0) := hb2 6 _ rfl
        have c7 : wr.cell? ⟨b, o + i * 13 + 7, none⟩ = some (.string ⟨#[]⟩) := hb2 7 _ rfl
        have c8 : wr.cell? ⟨b, o + i * 13 + 8, none⟩ = some (.string ⟨#[]⟩) := hb2 8 _ rfl
        have c9 : wr.cell? ⟨b, o + i * 13 + 9, none⟩ = some (.string ⟨#[]⟩) := hb2 9 _ rfl
        have c10 : wr.cell? ⟨b, o + i * 13 + 10, none⟩ = some (.slice none 0 0) := hb2 10 _ rfl
        have c11 : wr.cell? ⟨b, o + i * 13 + 11, none⟩ = some (.int .i64 r.size) := hb2 11 _ rfl
        have c12 : wr.cell? ⟨b, o + i * 13 + 12, none⟩ = some (.bool r.made) := hb2 12 _ rfl
        unfold Rw.cs at KK1
        clear hb2 hr HF HB
        generalize cmpL r.p s = z at *
        generalize bs r.p = rp at *
        go_wp2_with (go_at_call 53; refine (KK1.out _ bb).mono ?_; rintro e w2 ⟨rfl, b2⟩)
        go_ret2
        exact ⟨by rw [HF2.out]; rfl, bb.trans (b2.mono bb.size)⟩
      · have HF2 : Hid (F = false) := (by show _ = _; rw [HF.out, List.getElem?_eq_none (by have := HL.out; omega)])
        go_wp2_with fail
        go_ret2
        exact ⟨by rw [HF2.out]; rfl, bb⟩

set_option maxHeartbeats 1000000 in
theorem mfind_w (ad : Option Addr) (cap : Nat) (L : List Rw) (s : List UInt8) (w : World) (hm : Ml w) (hs : Srt L) (hr : Rs w ad L) (hl : L.length ≤ 1000000) (hp : ∀ r ∈ L, r.p.length ≤ 1000000) (hsl : s.length ≤ 1000000) :
    Calls Tryz.prog 28 #[.slice ad L.length cap, .string (bs s)] w fun e w' => e = .returned (.tuple #[.int .i64 (ix L s : Int), .bool (fd L s)]) ∧ Below w.heap.size w w' := by
  have KS : Hid (Calls Tryz.prog 51 #[.string (bs s)] w fun e w' => ∃ ad, e = .returned (.slice ad (spl s).length (spl s).length) ∧ Sl w' ad (spl s) ∧ Below w.heap.size w w') := msplit_w s (by omega) w hm
  have KQ : Hid (∀ W sa, Below w.heap.size w W → Sl W sa (spl s) → Calls Tryz.prog 52 #[.slice ad L.length cap, .slice sa (spl s).length (spl s).length, .func (.func 53) #[] #[]] W fun e w' => e = .returned (.tuple #[.int .i64 (ix L s : Int), .bool (fd L s)]) ∧ Below W.heap.size W w') := fun W sa hb h => search2_w ad cap L s W sa _ h (Nat.le_refl _) (hm.below hb) hs (hr.below hb) hl hp hsl
  clear hs hr hl hp hsl hm
  go_enter Tryz.func28, Tryz.ntmps28
  go_wp2_with (first
    | (go_at_call 52; refine (KQ.out _ _ b1 S1).mono ?_; rintro e w2 ⟨rfl, b2⟩)
    | (go_at_call 51; refine KS.out.mono ?_; rintro e w1 ⟨sa, rfl, S1, b1⟩))
  go_ret2
  exact ⟨rfl, b1.trans (b2.mono b1.size)⟩

end Go.Proofs.YtpgiibpalmhhlaaGreatDoor
