/-
  The law UsageOf, its walk.
-/
import Derived.Test.YtojnniacmmcddaaDoorFns
import Derived.Test.YtojnniacmmcddaaDoorG0
import Derived.Test.YtojnniacmmcddaaDoorX0
import Derived.Deep.DeepCutAuto
import Derived.Deep.CutBlock
import Derived.Test.YtojnniacmmcddaaDoorN1
namespace Go.Proofs.YtojnniacmmcddaaDoor
open Go.RowKit
open Go.Lib hiding intOf
set_option linter.unusedVariables false
set_option linter.unusedSimpArgs false

/-- bytes put ahead of the first piece -/
def hd1 (p : List UInt8) : List (List UInt8) → List (List UInt8)
  | [] => [p]
  | x :: r => (p ++ x) :: r

theorem hd1_nil (l : List UInt8) : hd1 [] (spl l) = spl l := by
  cases h : spl l with
  | nil => exact absurd h (spl_ne l)
  | cons x r => rfl
theorem hd1_other (p : List UInt8) (c : UInt8) (l : List UInt8) (h : c ≠ 47) : hd1 p (spl (c :: l)) = hd1 (p ++ [c]) (spl l) := by
  obtain ⟨x, r, h1, h2⟩ := spl_other c l h
  rw [h2, h1]
  simp [hd1]
theorem hd1_slash (p l : List UInt8) : hd1 p (spl (47 :: l)) = p :: spl l := by rw [spl_slash]; simp [hd1]
theorem hd1_end (p : List UInt8) : hd1 p (spl []) = [p] := by simp [hd1, spl]

theorem ext_one (l : List UInt8) (i : Nat) (hi : i < l.length) : (bs l).extract i (i + 1) = bs [l[i]] := by
  rw [bs_of ((bs l).extract i (i + 1)), Lib.extract_data, bs_data]
  congr 1
  rw [show i + 1 - i = 1 by omega, List.drop_eq_getElem_cons hi]
  rfl

set_option maxRecDepth 20000 in
set_option maxHeartbeats 4000000 in
theorem rsplit_own (l : List UInt8) (hl : l.length ≤ 5000) (w : World) :
    Calls Tryd.prog 21 #[.string (bs l)] w fun e w' => ∃ v, e = .returned v ∧ w'.ownsRow w.heap.size 9 1 v (parts l).length (strs (parts l)) ∧ Below w.heap.size w w' := by
  have hz := bs_size l
  have HZ : Hid ((bs l).size = l.length) := hz
  have HP : Hid (parts l = (spl l).filter keep) := rfl
  have HX : Hid (∀ (i : Nat) (h : i < l.length), (bs l).extract i (i + 1) = bs [l[i]]) := fun i h => ext_one l i h
  have HG : Hid (∀ (i : Nat) (h : i < l.length) (h' : i < (bs l).size), (bs l)[i]'h' = l[i]'h) := fun i h h' => rfl
  have hS : (bs l).size ≤ 5000 := by omega
  obtain ⟨i0, hi0, hz0, hz1, hz2⟩ := info_parts_str
  clear hz
  generalize hSS : bs l = S at *
  clear hSS
  go_enter Tryd.func21, Tryd.ntmps21
  go_wp2_with fail
  go_loopg [3, 4, 5] (S.size + 1) (fun g t3 t4 t5 wr => ∃ (i : Nat) (out : List (List UInt8)) (p : List UInt8), i + g = S.size + 1 ∧ t5 = .int .i64 i ∧ t4 = .string (bs p) ∧ p.length ≤ i ∧ out.length ≤ i ∧ wr.ownsRow w.heap.size 9 1 t3 out.length (strs out) ∧ Below w.heap.size w wr ∧ Hid (if i ≤ l.length then parts l = out ++ (hd1 p (spl (l.drop i))).filter keep else parts l = out))
  case atStart => exact ⟨0, [], [], by omega, rfl, rfl, by simp, by simp, World.ownsRow_nil _ _ _ _, Below.refl _ _, hid (by rw [if_pos (Nat.zero_le _), HP.out]; rw [List.drop_zero, hd1_nil]; rfl)⟩
  case round =>
    obtain ⟨i, out, p, hig, rfl, rfl, hpl, hol, hown, bb, HD⟩ := hrel
    obtain ⟨av, cv, rfl, hcv, hcm⟩ := own_slice hown
    have HO : Hid (wr.ownsRow w.heap.size 9 1 (.slice av out.length cv) out.length (strs out)) := hown
    clear hown
    have hmax := hcm
    unfold maxLen at hmax
    have tp := bs_toList p
    have zp : (bs p).size ≤ 5000 + i := by rw [bs_size]; omega
    by_cases hle : i ≤ S.size
    · have hD := HD.out
      rw [if_pos (by rw [← HZ.out]; exact hle)] at hD
      have step : ∀ (q : List UInt8) (rest : List (List UInt8)), True := fun _ _ => trivial
      by_cases hlt : i < S.size
      · have hL : i < l.length := by rw [← HZ.out]; exact hlt
        obtain ⟨x, hx⟩ : ∃ x : UInt8, S[i]'hlt = x := ⟨_, rfl⟩
        have hxl : l[i] = x := by rw [← HG.out i hL hlt, hx]
        have hdr : l.drop i = x :: l.drop (i + 1) := by rw [← hxl]; exact List.drop_eq_getElem_cons hL
        rw [hdr] at hD
        by_cases h47 : x = 47
        · subst h47
          rw [hd1_slash] at hD
          have e0 : ((((47 : UInt8).toNat : Nat) : Int) == 47) = true := by decide
          by_cases k : keep p = true
          · have kk : p ≠ [] ∧ p ≠ [46] := by simpa [keep] using k
            have hE : p.isEmpty = false := by simpa using kk.1
            have hDt : (p == [46]) = false := by simpa using kk.2
            rw [List.filter_cons_of_pos k] at hD
            have HD2 : Hid (if i + 1 ≤ l.length then parts l = (out ++ [p]) ++ (hd1 [] (spl (l.drop (i + 1)))).filter keep else parts l = out ++ [p]) := hid (by rw [if_pos (by omega), hd1_nil, hD]; simp)
            clear hD hdr hxl HD kk k
            go_wp2_with (at_builtin; refine wpList_append_own _ rfl _ _ 23 rfl w.heap.size 9 i0 (.string ⟨#[]⟩) 1 16 Tryd.underlying23 hi0 hz0 hz1 hz2 rfl (by decide) _ _ _ rfl (HO.out.alloc _) ⟨wr.heap.size, 0, none⟩ 1 1 [.string (bs p)] rfl rfl ?c1 ?c2 ?c3 ?c4 ?c5 ?_)
            case c1 => exact one_cell _ _ _
            case c2 => intro u hu; simp at hu; subst hu; rfl
            case c3 => unfold maxLen; omega
            case c4 => omega
            case c5 => have := bb.size; simp; omega
            · intro v' w5 hown' hgrow hh
              have bb5 : Below w.heap.size w w5 := (bb.alloc bb.size _).grown hgrow (by have := bb.size; simp; omega) fun k hk => (HO.out.lt k hk).1
              have hO : w5.ownsRow w.heap.size 9 1 v' (out ++ [p]).length (strs (out ++ [p])) := by
                rw [← strs_snoc, List.length_append]
                exact hown'
              clear hown' hgrow hh HO
              go_wp2_with fail
              go_roundg (S.size - i)
              case rel => exact ⟨i + 1, out ++ [p], [], by omega, by simp, rfl, by simp, by simp; omega, hO, bb5, HD2⟩
              case measure => omega
          · rw [List.filter_cons_of_neg k] at hD
            have HD2 : Hid (if i + 1 ≤ l.length then parts l = out ++ (hd1 [] (spl (l.drop (i + 1)))).filter keep else parts l = out) := hid (by rw [if_pos (by omega), hd1_nil, hD])
            by_cases e1 : p = []
            · have hE : p.isEmpty = true := by rw [e1]; rfl
              clear hD hdr hxl HD k e1
              go_wp2_with fail
              go_roundg (S.size - i)
              case rel => exact ⟨i + 1, out, [], by omega, by simp, rfl, by simp, by omega, HO.out, bb, HD2⟩
              case measure => omega
            · have hE : p.isEmpty = false := by simpa using e1
              have hDt : (p == [46]) = true := by
                by_cases e2 : p = [46]
                · simpa using e2
                · exact absurd (by simp [keep, e1, e2]) k
              clear hD hdr hxl HD k e1
              go_wp2_with fail
              go_roundg (S.size - i)
              case rel => exact ⟨i + 1, out, [], by omega, by simp, rfl, by simp, by omega, HO.out, bb, HD2⟩
              case measure => omega
        · rw [hd1_other _ _ _ h47] at hD
          have HD2 : Hid (if i + 1 ≤ l.length then parts l = out ++ (hd1 (p ++ [x]) (spl (l.drop (i + 1)))).filter keep else parts l = out) := hid (by rw [if_pos (by omega), hD])
          have e0 : (((x.toNat : Nat) : Int) == 47) = false := beq_eq_false_iff_ne.2 fun e => h47 (UInt8.toNat_inj.1 (show x.toNat = 47 by omega))
          have hex : S.extract i (i + 1) = bs [x] := by rw [HX.out i hL, hxl]
          have hcat : bs p ++ bs [x] = bs (p ++ [x]) := bs_app _ _
          have z1 : (bs [x]).size = 1 := rfl
          have j1 : (0 : Int) ≤ (i : Int) + 1 := by omega
          have j2 : (i : Int) + 1 ≤ (S.size : Int) := by omega
          have j3 : (i : Int) ≤ (i : Int) + 1 := by omega
          have j4 : (i : Int) ≤ (S.size : Int) := by omega
          clear hD hdr hxl HD h47
          go_wp2_with fail
          go_roundg (S.size - i)
          case rel => exact ⟨i + 1, out, p ++ [x], by omega, by simp, rfl, by simp; omega, by omega, HO.out, bb, HD2⟩
          case measure => omega
      · have hin : i = S.size := by omega
        have hdr : l.drop i = [] := List.drop_of_length_le (by rw [← HZ.out]; omega)
        rw [hdr, hd1_end] at hD
        by_cases k : keep p = true
        · have kk : p ≠ [] ∧ p ≠ [46] := by simpa [keep] using k
          have hE : p.isEmpty = false := by simpa using kk.1
          have hDt : (p == [46]) = false := by simpa using kk.2
          rw [List.filter_cons_of_pos k, List.filter_nil] at hD
          have HD2 : Hid (if i + 1 ≤ l.length then parts l = (out ++ [p]) ++ (hd1 [] (spl (l.drop (i + 1)))).filter keep else parts l = out ++ [p]) := hid (by rw [if_neg (by rw [← HZ.out]; omega), hD])
          clear hD hdr HD kk k hin
          go_wp2_with (at_builtin; refine wpList_append_own _ rfl _ _ 23 rfl w.heap.size 9 i0 (.string ⟨#[]⟩) 1 16 Tryd.underlying23 hi0 hz0 hz1 hz2 rfl (by decide) _ _ _ rfl (HO.out.alloc _) ⟨wr.heap.size, 0, none⟩ 1 1 [.string (bs p)] rfl rfl ?c1 ?c2 ?c3 ?c4 ?c5 ?_)
          case c1 => exact one_cell _ _ _
          case c2 => intro u hu; simp at hu; subst hu; rfl
          case c3 => unfold maxLen; omega
          case c4 => omega
          case c5 => have := bb.size; simp; omega
          · intro v' w5 hown' hgrow hh
            have bb5 : Below w.heap.size w w5 := (bb.alloc bb.size _).grown hgrow (by have := bb.size; simp; omega) fun k hk => (HO.out.lt k hk).1
            have hO : w5.ownsRow w.heap.size 9 1 v' (out ++ [p]).length (strs (out ++ [p])) := by
              rw [← strs_snoc, List.length_append]
              exact hown'
            clear hown' hgrow hh HO
            go_wp2_with fail
            go_roundg (S.size - i)
            case rel => exact ⟨i + 1, out ++ [p], [], by omega, by simp, rfl, by simp, by simp; omega, hO, bb5, HD2⟩
            case measure => omega
        · rw [List.filter_cons_of_neg k, List.filter_nil, List.append_nil] at hD
          have HD2 : Hid (if i + 1 ≤ l.length then parts l = out ++ (hd1 [] (spl (l.drop (i + 1)))).filter keep else parts l = out) := hid (by rw [if_neg (by rw [← HZ.out]; omega), hD])
          by_cases e1 : p = []
          · have hE : p.isEmpty = true := by rw [e1]; rfl
            clear hD hdr HD k e1 hin
            go_wp2_with fail
            go_roundg (S.size - i)
            case rel => exact ⟨i + 1, out, [], by omega, by simp, rfl, by simp, by omega, HO.out, bb, HD2⟩
            case measure => omega
          · have hE : p.isEmpty = false := by simpa using e1
            have hDt : (p == [46]) = true := by
              by_cases e2 : p = [46]
              · simpa using e2
              · exact absurd (by simp [keep, e1, e2]) k
            clear hD hdr HD k e1 hin
            go_wp2_with fail
            go_roundg (S.size - i)
            case rel => exact ⟨i + 1, out, [], by omega, by simp, rfl, by simp, by omega, HO.out, bb, HD2⟩
            case measure => omega
    · have hD := HD.out
      rw [if_neg (by rw [← HZ.out]; exact hle)] at hD
      have HF : Hid (parts l = out) := hD
      clear hD HD
      go_wp2_with fail
      go_ret
      rw [HF.out]
      exact ⟨_, rfl, HO.out, bb⟩

theorem rsplit_w (l : List UInt8) (hl : l.length ≤ 5000) (w : World) :
    Calls Tryd.prog 21 #[.string (bs l)] w fun e w' => ∃ ad c, e = .returned (.slice ad (parts l).length c) ∧ (parts l).length ≤ c ∧ c ≤ 9223372036854775807 ∧ Hid (Sl w' ad (parts l)) ∧ Below w.heap.size w w' := by
  refine (rsplit_own l hl w).mono fun e w' ⟨v, he, ho, hb⟩ => ?_
  obtain ⟨ad, c, rfl, hc, hm, hs⟩ := own_sl ho
  exact ⟨ad, c, he, hc, hm, hs, hb⟩

end Go.Proofs.YtojnniacmmcddaaDoor
namespace Go.Proofs.YtojnniacmmcddaaDoor
open Go.RowKit
open Go.Lib hiding intOf
set_option linter.unusedVariables false
set_option linter.unusedSimpArgs false

theorem i3' : ∃ i, Tryd.prog.info? 3 = some i ∧ i.size = 1 ∧ i.bytes = 8 ∧ ∃ z, i.zero = some z ∧ z.cells.size = 1 := by
  have a : (Tryd.prog.info? 3).map (fun i => (i.size, i.bytes)) = some (1, 8) := by kernel_rfl
  have b : ((Tryd.prog.info? 3).bind (fun i => i.zero)).map (fun z => z.cells.size) = some 1 := by kernel_rfl
  cases h : Tryd.prog.info? 3 with
  | none => rw [h] at a; simp at a
  | some i =>
    rw [h] at a b
    simp at a b
    cases hz : i.zero with
    | none => rw [hz] at b; simp at b
    | some z => rw [hz] at b; simp at b; exact ⟨i, rfl, a.1, a.2, z, hz, b⟩

/-- numbers of one's own -/
def nums (ks : List Int) : List Value := ks.map fun k => .int .i64 k
def On (w : World) (B : Nat) (v : Value) (ks : List Int) : Prop := w.ownsRow B 3 1 v ks.length (nums ks)
theorem On.below {W W' : World} {B : Nat} {v : Value} {L : List Int} (h : On W B v L) (b : Below W.heap.size W W') : On W' B v L := by
  refine ⟨h.1, ?_⟩
  rcases h.2 with ⟨e1, e2⟩ | ⟨g, cap, cur, e1, e2, e3, e4, e5, e6, e7⟩
  · exact .inl ⟨e1, e2⟩
  · exact .inr ⟨g, cap, cur, e1, e2, by rw [b.block g (Array.getElem?_eq_some_iff.1 e3).1]; exact e3, e4, e5, e6, e7⟩
theorem On.form {W : World} {B : Nat} {v : Value} {ks : List Int} (h : On W B v ks) : ∃ ad c, v = .slice ad ks.length c ∧ ∀ (j : Nat) (k : Int), ks[j]? = some k → ∃ g, ad = some ⟨g, 0, none⟩ ∧ W.cell? ⟨g, j, none⟩ = some (.int .i64 k) := by
  rcases h.2 with ⟨e1, e2⟩ | ⟨g, cap, cur, e1, e2, e3, e4, e5, e6, e7⟩
  · have : ks = [] := List.length_eq_zero_iff.1 e2
    subst this
    exact ⟨none, 0, e1, fun j k hj => by simp at hj⟩
  · refine ⟨some ⟨g, 0, none⟩, cap, e1, fun j k hj => ⟨g, rfl, ?_⟩⟩
    have hv : (nums ks)[j]? = some (.int .i64 k) := by unfold nums; rw [List.getElem?_map, hj]; rfl
    unfold World.cell?
    simp only [e3]
    rw [← e7, List.getElem?_take] at hv
    split at hv
    · simpa using hv
    · cases hv

/-- append of one number, which was built just ahead -/
theorem wpList_num1 {W' : World} {ops : Array Oper} {rest : List Oper} {o : Oper} {a : Act} {Q : Exit → Act → World → Prop} (hgd : o.guard = none) (s x : Operand)
    (ho : o.op = .call { callee := .builtin .append, args := #[s, x], argTypes := #[22, 22] })
    (W : World) (B : Nat) (v : Value) (ks : List Int) (k : Int) (hW : W' = W.alloc (.cells #[.int .i64 k] 3)) (hs : a.eval s = v) (hown : On W B v ks) (hB : B ≤ W.heap.size) (hx : a.eval x = .slice (some ⟨W.heap.size, 0, none⟩) 1 1) (hl : ks.length ≤ 1000000)
    (h : ∀ v' w', On w' B v' (ks ++ [k]) → Below B W w' → (∀ m, m < W.heap.size → v.ownBlock ≠ some m → w'.heap[m]? = W.heap[m]?) → wpList Tryd.prog ops Q rest (a.put o.dst v') w') : wpList Tryd.prog ops Q (o :: rest) a W' := by
  subst hW
  obtain ⟨i0, hi0, hi1, hi2, z, hz, hzs⟩ := i3'
  have bA : Below W.heap.size W (W.alloc (.cells #[.int .i64 k] 3)) := below_box W _
  have hown2 : (W.alloc (.cells #[.int .i64 k] 3)).ownsRow B 3 1 v ks.length (nums ks) := World.ownsRow.alloc hown _
  refine wpList_append_own _ hgd s x 22 ho B 3 i0 z 1 8 Tryd.underlying22 hi0 hz hi1 hi2 hzs (by decide) _ _ _ hs hown2 ⟨W.heap.size, 0, none⟩ 1 1 [.int .i64 k] hx rfl ?_ (fun v hv => by rw [List.mem_singleton.1 hv]; rfl) ?_ ?_ ?_ ?_
  · intro q u hu
    rw [Addr.add_mid, Nat.zero_add, World.cell?_alloc_new]
    simpa using hu
  · unfold maxLen; omega
  · omega
  · rw [size_box]; omega
  · intro v' w3 hown' hgrow hh
    have b3 : Below B W w3 := (bA.mono hB).grown hgrow (by rw [size_box]; omega) (fun k hk => by
      rcases hown.2 with ⟨e1, _⟩ | ⟨g', cp, cur, e1, e2, _⟩
      · subst e1; simp [Value.ownBlock] at hk
      · subst e1; simp [Value.ownBlock] at hk; omega)
    refine h v' w3 ?_ b3 (fun m hm hne => ?_)
    · unfold On nums
      rw [List.map_append, List.length_append]
      exact hown'
    · rw [hgrow.block m (by rw [size_box]; omega) (fun e => hne e.symm)]
      exact bA.block m hm

theorem ofU_len (L : List Rw) : (ofU L).S.length = (ofU L).n := by
  suffices H : ∀ (L : List Rw) (u : Us), u.S.length = u.n → (L.foldl stepU u).S.length = (L.foldl stepU u).n from H L ⟨0, 0, 0, 0, []⟩ rfl
  intro L
  induction L with
  | nil => intro u h; exact h
  | cons r L ih =>
    intro u h
    rw [List.foldl_cons]
    apply ih
    unfold stepU
    split
    · exact h
    · split
      · exact h
      · show (r.id :: u.S).length = u.n + 1
        rw [List.length_cons, h]

set_option maxRecDepth 20000 in
set_option maxHeartbeats 4000000 in
theorem ofLaw_w (ad0 : Option Addr) (cap0 : Nat) (X : List Tg) (w : World) (hm : Ml w) (hX : Ts w ad0 X)
    (KPl : Hid (X.length ≤ 41 → ∀ W, Below w.heap.size w W → Calls Tryd.prog 19 #[.slice ad0 X.length cap0] W fun e w' => ∃ v, e = .returned v ∧ Tm w' v (plantL X).1 (plantL X).2 ∧ Below W.heap.size W w')) :
    Calls Tryd.prog 4 #[.slice ad0 X.length cap0] w fun e w' => e = .returned (.bool true) ∧ Below w.heap.size w w' := by
  have KM : Hid (∀ W, Below w.heap.size w W → Calls Tryd.prog 18 #[] W fun e w' => e = .returned (.bool true) ∧ Below W.heap.size W w') := fun W hb => measures_w W (hm.below hb)
  have HM : Hid (Ml w) := hm
  clear hm hX
  by_cases hl : X.length ≤ 40
  · obtain ⟨hSd, hlen, hnx⟩ := plantL_sd X
    have KP : Hid (∀ W, Below w.heap.size w W → Calls Tryd.prog 19 #[.slice ad0 X.length cap0] W fun e w' => ∃ v, e = .returned v ∧ Tm w' v (plantL X).1 (plantL X).2 ∧ Below W.heap.size W w') := KPl.out (by omega)
    have HS : Hid (Sd (plantL X).1 (plantL X).2) := hSd
    have hL1 : (plantL X).1.length ≤ 100000 := by omega
    have hN1 : (plantL X).2 ≤ 900000000 := by omega
    have hl2 : ¬ (X.length : Int) > 40 := by omega
    clear KPl hSd hlen hnx hl
    generalize X.length = nX at *
    generalize (plantL X).1 = L at *
    generalize (plantL X).2 = nx at *
    have HO : Hid (∀ r ∈ L, Okr r) := HS.out.okr (by omega)
    have KO : Hid (∀ W ad cap, Ml W → Rs W ad L → Calls Tryd.prog 20 #[.agg #[.slice ad L.length cap, .int .i64 nx]] W fun e w' => e = .returned (.agg #[.int .i64 ((ofU L).b : Int), .int .i64 ((ofU L).n : Int), .int .i64 ((ofU L).d : Int), .int .i64 ((ofU L).l : Int)]) ∧ Below W.heap.size W w') := fun W ad cap hm h1 => of_w ad cap nx L W hm h1 (by omega) HO.out
    go_enter Tryd.func4, Tryd.ntmps4
    go_upto_region 5 with (go_at_call 18; refine (KM.out _ (Below.refl _ _)).mono ?_; rintro e w1 ⟨rfl, k1⟩)
    go_upto_region 6 with (go_at_call 19; refine (KP.out _ k1).mono ?_; rintro e w2 ⟨v, rfl, ⟨ad, cap, rfl, R2, C2, N2⟩, k2⟩)
    have hb3 := below_box w2 (.cells #[.slice ad L.length cap, .int .i64 nx] 26)
    have hq3 := heap_alloc_new w2 (.cells #[.slice ad L.length cap, .int .i64 nx] 26)
    have hs3 := size_box w2 (.cells #[.slice ad L.length cap, .int .i64 nx] 26)
    generalize w2.alloc _ = w3 at *
    have B3 : Hid (Below w.heap.size w w3) := (k1.trans (k2.mono k1.size)).trans (hb3.mono (by have := k1.size; have := k2.size; omega))
    have R3 : Hid (Rs w3 ad L) := R2.below hb3
    have M3 : Hid (Ml w3) := HM.out.below B3.out
    have m3 := cells_of hq3
    clear hb3 k1 k2 R2 KM KP
    go_upto_region 7 with (go_at_call 20; refine (KO.out _ ad cap M3.out R3.out).mono ?_; rintro e w4 ⟨rfl, k4⟩)
    have hb5 := below_box w4 (.cells #[.int .i64 ((ofU L).b : Int), .int .i64 ((ofU L).n : Int), .int .i64 ((ofU L).d : Int), .int .i64 ((ofU L).l : Int)] 54)
    have hq5 := heap_alloc_new w4 (.cells #[.int .i64 ((ofU L).b : Int), .int .i64 ((ofU L).n : Int), .int .i64 ((ofU L).d : Int), .int .i64 ((ofU L).l : Int)] 54)
    have hs5 := size_box w4 (.cells #[.int .i64 ((ofU L).b : Int), .int .i64 ((ofU L).n : Int), .int .i64 ((ofU L).d : Int), .int .i64 ((ofU L).l : Int)] 54)
    generalize w4.alloc _ = w5 at *
    have k5 : Below w3.heap.size w3 w5 := k4.trans (hb5.mono k4.size)
    have B5 : Hid (Below w.heap.size w w5) := B3.out.trans (k5.mono B3.out.size)
    have R5 : Hid (Rs w5 ad L) := R3.out.below k5
    have Q3 : Hid (w5.heap[w2.heap.size]? = some (.cells #[.slice ad L.length cap, .int .i64 nx] 26 (0, 0))) := (k5.block _ (by omega)).trans hq3
    have Q5 : Hid (w5.heap[w4.heap.size]? = some (.cells #[.int .i64 ((ofU L).b : Int), .int .i64 ((ofU L).n : Int), .int .i64 ((ofU L).d : Int), .int .i64 ((ofU L).l : Int)] 54 (0, 0))) := hq5
    have hlt2 : w2.heap.size < w5.heap.size := by have := k5.size; omega
    have hlt4 : w4.heap.size < w5.heap.size := by omega
    have m3 := cells_of Q3.out
    have HN : Hid (∀ i, L[i]? = none ↔ L.length ≤ i) := fun i => List.getElem?_eq_none_iff
    clear k4 hb5 hq5 hs5 hs3 B3 R3 M3 hq3 KO k5
    generalize hn : L.length = n at *
    have HLn : Hid (L.length = n) := hn
    clear hn
    go_wp2_with fail
    clear m3
    go_loopw [5, 6, 7, 8, 26] (fun x5 x6 x7 x8 x26 wr => ∃ (i : Nat), x26 = .int .i64 (i : Int) ∧ i ≤ n ∧ x6 = .int .i64 ((ofU (L.take i)).b : Int) ∧ x7 = .int .i64 ((ofU (L.take i)).d : Int) ∧ x8 = .int .i64 ((ofU (L.take i)).l : Int) ∧ Hid (On wr w5.heap.size x5 (ofU (L.take i)).S.reverse) ∧ Hid (Below w5.heap.size w5 wr)) (fun _ _ _ _ x26 _ => n - (intOf x26).toNat)
    case atStart => exact ⟨0, rfl, Nat.zero_le _, rfl, rfl, rfl, ⟨rfl, .inl ⟨rfl, rfl⟩⟩, Below.refl _ _⟩
    case round =>
      obtain ⟨i, rfl, hi, rfl, rfl, rfl, HOn, Bw⟩ := hrel
      by_cases hlt : i < n
      · obtain ⟨r, hr⟩ : ∃ r, L[i]? = some r := ⟨_, List.getElem?_eq_getElem (by have := HLn.out; omega)⟩
        have hrm := List.mem_of_getElem? hr
        have hok := HO.out r hrm
        have hcp := HS.out.cp r hrm
        have hsm := ofU_small (L.take i) (fun q hq => HO.out q (List.mem_of_mem_take hq))
        have hlen1 : (L.take i).length ≤ 1000000 := by rw [List.length_take]; omega
        have HU : Hid (ofU (L.take (i + 1)) = stepU (ofU (L.take i)) r) := ofU_succ L i r hr
        have hul := ofU_len (L.take i)
        have hrl := (HS.out.ok r hrm).1
        have KS : Hid (∀ W, Calls Tryd.prog 21 #[.string (bs r.p)] W fun e w' => ∃ ad c, e = .returned (.slice ad (parts r.p).length c) ∧ (parts r.p).length ≤ c ∧ c ≤ 9223372036854775807 ∧ Hid (Sl w' ad (parts r.p)) ∧ Below W.heap.size W w') := fun W => rsplit_w r.p (by omega) W
        have hprt := hcp.prt
        have hne := hcp.ne
        obtain ⟨b, o, rfl, hb1, hb2⟩ := R5.out.at hr
        have hRg := range_below hb2 Bw.out hb1
        generalize ofU (L.take i) = u at *
        have HB : Hid (wr.rangeAt b (o + i * 13) [.string (bs r.p), .int .i64 r.id, .int .i64 r.kind, .int .i64 r.mode, .int .i64 0, .int .i64 0, .int .i64 0, .string ⟨#[]⟩, .string ⟨#[]⟩, .string ⟨#[]⟩, .slice none 0 0, .int .i64 r.size, .bool r.made]) := hRg
        have hsi : Hid ((Tryd.prog.info? 40).map (·.size) = some ([.string (bs r.p), .int .i64 r.id, .int .i64 r.kind, .int .i64 r.mode, .int .i64 0, .int .i64 0, .int .i64 0, .string ⟨#[]⟩, .string ⟨#[]⟩, .string ⟨#[]⟩, .slice none 0 0, .int .i64 r.size, .bool r.made] : List Value).length) := (by show _ = _; kernel_rfl)
        have i1 : (0 : Int) ≤ (i : Int) := by omega
        have i2 : (i : Int) < (n : Int) := by omega
        clear hRg hb2 hrm hr
        go_upto_region 12 with (refine wpList_load_mid rfl 40 _ rfl b (o + i * 13) rfl [.string (bs r.p), .int .i64 r.id, .int .i64 r.kind, .int .i64 r.mode, .int .i64 0, .int .i64 0, .int .i64 0, .string ⟨#[]⟩, .string ⟨#[]⟩, .string ⟨#[]⟩, .slice none 0 0, .int .i64 r.size, .bool r.made] _ HB.out Tryd.underlying40 rfl hsi.out ?_)
        have hk6 := below_box wr (.cells #[.string (bs r.p), .int .i64 r.id, .int .i64 r.kind, .int .i64 r.mode, .int .i64 0, .int .i64 0, .int .i64 0, .string ⟨#[]⟩, .string ⟨#[]⟩, .string ⟨#[]⟩, .slice none 0 0, .int .i64 r.size, .bool r.made] 40)
        have hq6 := heap_alloc_new wr (.cells #[.string (bs r.p), .int .i64 r.id, .int .i64 r.kind, .int .i64 r.mode, .int .i64 0, .int .i64 0, .int .i64 0, .string ⟨#[]⟩, .string ⟨#[]⟩, .string ⟨#[]⟩, .slice none 0 0, .int .i64 r.size, .bool r.made] 40)
        have hs6 := size_box wr (.cells #[.string (bs r.p), .int .i64 r.id, .int .i64 r.kind, .int .i64 r.mode, .int .i64 0, .int .i64 0, .int .i64 0, .string ⟨#[]⟩, .string ⟨#[]⟩, .string ⟨#[]⟩, .slice none 0 0, .int .i64 r.size, .bool r.made] 40)
        generalize wr.alloc _ = w6 at *
        have B6 : Hid (Below w5.heap.size w5 w6) := Bw.out.trans (hk6.mono Bw.out.size)
        have O6 : Hid (On w6 w5.heap.size u5 u.S.reverse) := HOn.out.below hk6
        have m6 := cells_of hq6
        have hwr := Bw.out.size
        clear hk6 HOn Bw HB hsi
        go_upto_region 15 with (go_at_call 21; refine (KS.out _).mono ?_; rintro e w7 ⟨ad7, c7, rfl, hc7, hc7m, S7, k7⟩; have q7 : Hid (w7.heap[wr.heap.size]? = _) := (k7.block _ (by omega)).trans hq6; have m7 := cells_of q7.out)
        have B7 : Hid (Below w5.heap.size w5 w7) := B6.out.trans (k7.mono B6.out.size)
        have O7 : Hid (On w7 w5.heap.size u5 u.S.reverse) := O6.out.below k7
        have hwr7 : wr.heap.size < w7.heap.size := by have := k7.size; omega
        clear m6 B6 O6 k7 hq6 S7 KS hs6
        rw [← hprt]
        obtain ⟨ad5, c5, rfl, hF⟩ := O7.out.form
        have HF : Hid (∀ (j : Nat) (k : Int), u.S.reverse[j]? = some k → ∃ g, ad5 = some ⟨g, 0, none⟩ ∧ w7.cell? ⟨g, j, none⟩ = some (.int .i64 k)) := hF
        have hkl : u.S.reverse.length = u.n := by rw [List.length_reverse]; exact hul
        have hd1 : max (u.d : Int) ((prt r.p).length : Int) = ((max u.d (prt r.p).length : Nat) : Int) := by omega
        have hd2 : max (u.l : Int) (r.p.length : Int) = ((max u.l r.p.length : Nat) : Int) := by omega
        clear hF
        have HU1 : Hid (r.id ∈ u.S → ofU (L.take (i + 1)) = ⟨u.b, u.n, max u.d (prt r.p).length, max u.l r.p.length, u.S⟩) := (by
          intro h
          rw [HU.out]; unfold stepU; rw [if_neg hne, if_pos h])
        have HU2 : Hid (r.id ∉ u.S → ofU (L.take (i + 1)) = ⟨u.b + bytesN r, u.n + 1, max u.d (prt r.p).length, max u.l r.p.length, r.id :: u.S⟩) := (by
          intro h
          rw [HU.out]; unfold stepU; rw [if_neg hne, if_neg h])
        have hmr : Hid (r.id ∈ u.S.reverse ↔ r.id ∈ u.S) := List.mem_reverse
        have hrc : Hid (u.S.reverse ++ [r.id] = (r.id :: u.S).reverse) := (by show _ = _; rw [List.reverse_cons])
        have hun : u.n ≤ 1000000 := by have := hsm.2.1; omega
        have hub : u.b ≤ 1048576000000 := by have := hsm.1; omega
        have hrs := hok.size
        rw [bs_size, hd1, hd2, hkl]
        clear HU hsm hul hprt hd1 hd2 hcp hok hrl hne
        generalize max u.d (prt r.p).length = D at *
        generalize max u.l r.p.length = Z at *
        have HKL : Hid (u.S.reverse.length = u.n) := hkl
        clear hkl
        generalize hks : u.S.reverse = ks at *
        have HKe : Hid (u.S.reverse = ks) := hks
        clear hks
        go_wp2_with fail
        go_loopw [11, 43] (fun x11 x43 wq => ∃ j : Nat, x43 = .int .i64 (j : Int) ∧ j ≤ u.n ∧ x11 = .bool (decide (r.id ∈ ks.take j)) ∧ w7 = wq) (fun _ x43 _ => u.n - (intOf x43).toNat)
        case atStart => exact ⟨0, rfl, Nat.zero_le _, rfl, rfl⟩
        case round =>
          obtain ⟨j, rfl, hj, rfl, rfl⟩ := hrel
          by_cases hjl : j < u.n
          · obtain ⟨k, hk⟩ : ∃ k, ks[j]? = some k := ⟨_, List.getElem?_eq_getElem (by rw [HKL.out]; exact hjl)⟩
            obtain ⟨g, rfl, hcell⟩ := HF.out j k hk
            have hT : ks.take (j + 1) = ks.take j ++ [k] := by rw [List.take_add_one, hk]; rfl
            have j1 : (0 : Int) ≤ (j : Int) := by omega
            have j2 : (j : Int) < (u.n : Int) := by omega
            by_cases hin : r.id ∈ ks.take j
            · have HE : Hid (decide (r.id ∈ ks.take (j + 1)) = true) := decide_eq_true (by rw [hT]; exact List.mem_append.2 (.inl hin))
              rw [decide_eq_true hin]
              clear hT hk hin
              go_wp2_with fail
              go_roundw
              case rel => exact ⟨j + 1, by simp, hjl, by rw [HE.out], trivial⟩
              case measure => simp [intOf]; omega
            · rw [decide_eq_false hin]
              by_cases he : k = r.id
              · have HE : Hid (decide (r.id ∈ ks.take (j + 1)) = true) := decide_eq_true (by rw [hT]; exact List.mem_append.2 (.inr (by simp [he])))
                have he2 : (k == r.id) = true := by simpa using he
                clear hT hk hin
                go_wp2_with fail
                go_roundw
                case rel => exact ⟨j + 1, by simp, hjl, by rw [HE.out], trivial⟩
                case measure => simp [intOf]; omega
              · have HE : Hid (decide (r.id ∈ ks.take (j + 1)) = false) := decide_eq_false (by rw [hT]; intro h; rcases List.mem_append.1 h with h | h; exact hin h; exact he (List.mem_singleton.1 h).symm)
                have he2 : (k == r.id) = false := by simpa using he
                clear hT hk hin
                go_wp2_with fail
                go_roundw
                case rel => exact ⟨j + 1, by simp, hjl, by rw [HE.out], trivial⟩
                case measure => simp [intOf]; omega
          · obtain rfl : j = u.n := by omega
            have e : ks.take u.n = ks := List.take_of_length_le (by rw [HKL.out]; exact Nat.le_refl _)
            rw [e]
            clear e
            by_cases hin : r.id ∈ ks
            · rw [decide_eq_true hin]
              have HU3 : Hid (ofU (L.take (i + 1)) = ⟨u.b, u.n, D, Z, u.S⟩) := HU1.out (hmr.out.1 hin)
              clear HU1 HU2 hin
              go_wp2_with fail
              go_roundw
              case rel =>
                refine ⟨i + 1, by simp, hlt, by rw [HU3.out], by rw [HU3.out], by rw [HU3.out], ?_, B7⟩
                show On _ _ _ _
                rw [HU3.out, HKe.out, ← HKL.out]
                exact O7.out
              case measure => simp [intOf]; omega
            · rw [decide_eq_false hin]
              have HU3 : Hid (ofU (L.take (i + 1)) = ⟨u.b + bytesN r, u.n + 1, D, Z, r.id :: u.S⟩) := HU2.out (fun h => hin (hmr.out.2 h))
              have hB7 : Hid (w5.heap.size ≤ w7.heap.size) := B7.out.size
              have hl7 : Hid (ks.length ≤ 1000000) := (by show _ ≤ _; rw [HKL.out]; exact hun)
              have hne7 : Hid ((Value.slice ad5 u.n c5).ownBlock ≠ some wr.heap.size) := (by
                intro e
                rcases O7.out.2 with ⟨e1, _⟩ | ⟨g, cp, cur, e1, e2, e3, _⟩
                · rw [← HKL.out, e1] at e; simp [Value.ownBlock] at e
                · rw [← HKL.out, e1] at e
                  simp [Value.ownBlock] at e
                  rw [e, q7.out] at e3
                  injection e3 with e3
                  injection e3 with _ e4
                  cases e4)
              have O7' : Hid (On w7 w5.heap.size (.slice ad5 u.n c5) ks) := (by show On _ _ _ _; rw [← HKL.out]; exact O7.out)
              clear HU1 HU2 hin HF O7 hmr
              by_cases hkd : r.kind = 1
              · have hby : bytesN r = r.size.toNat := by unfold bytesN; rw [if_pos hkd]
                have hsz : ((u.b + bytesN r : Nat) : Int) = (u.b : Int) + r.size := by rw [hby]; omega
                have hk1 : (r.kind == 1) = true := by simpa using hkd
                clear hby hkd
                go_wp2_with (at_builtin; refine wpList_num1 rfl _ _ rfl w7 w5.heap.size _ ks r.id rfl rfl O7'.out hB7.out rfl hl7.out ?_; intro v8 w8 O8 b8 K8; have m8 := cells_of ((K8 _ hwr7 hne7.out).trans q7.out))
                go_roundw
                case rel =>
                  refine ⟨i + 1, by simp, hlt, by rw [HU3.out]; show _ = Value.int .i64 ((u.b + bytesN r : Nat) : Int); rw [hsz], by rw [HU3.out], by rw [HU3.out], ?_, B7.out.trans b8⟩
                  show On _ _ _ _
                  rw [HU3.out, ← hrc.out]
                  exact O8
                case measure => simp [intOf]; omega
              · have hby : bytesN r = 0 := by unfold bytesN; rw [if_neg hkd]
                have hk1 : (r.kind == 1) = false := by simpa using hkd
                clear hkd
                go_wp2_with (at_builtin; refine wpList_num1 rfl _ _ rfl w7 w5.heap.size _ ks r.id rfl rfl O7'.out hB7.out rfl hl7.out ?_; intro v8 w8 O8 b8 K8; have m8 := cells_of ((K8 _ hwr7 hne7.out).trans q7.out))
                go_roundw
                case rel =>
                  refine ⟨i + 1, by simp, hlt, by rw [HU3.out]; show _ = Value.int .i64 ((u.b + bytesN r : Nat) : Int); rw [hby, Nat.add_zero], by rw [HU3.out], by rw [HU3.out], ?_, B7.out.trans b8⟩
                  show On _ _ _ _
                  rw [HU3.out, ← hrc.out]
                  exact O8
                case measure => simp [intOf]; omega
      · obtain rfl : i = n := by omega
        have e : L.take i = L := List.take_of_length_le (by rw [HLn.out]; exact Nat.le_refl _)
        rw [e] at HOn ⊢
        obtain ⟨ad5, c5, rfl, _⟩ := HOn.out.form
        have m5 := cells_of ((Bw.out.block _ hlt4).trans Q5.out)
        have hl3 : (ofU L).S.reverse.length = (ofU L).n := by rw [List.length_reverse, ofU_len]
        rw [hl3]
        clear e
        go_wp2_with fail
        go_ret
        exact ⟨rfl, B5.out.trans (Bw.out.mono B5.out.size)⟩
  · have hl2 : (X.length : Int) > 40 := by omega
    generalize X.length = nX at *
    clear KPl
    go_enter Tryd.func4, Tryd.ntmps4
    go_wp2_with (go_at_call 18; refine (KM.out _ (Below.refl _ _)).mono ?_; rintro e w1 ⟨rfl, k1⟩)
    go_ret
    exact ⟨rfl, k1⟩

theorem ofLaw (ad0 : Option Addr) (n cap0 : Nat) (X : List Tg) (w : World) (hm : Ml w) (z : X.length = n ∧ n ≤ cap0 ∧ cap0 ≤ 9223372036854775807 ∧ Ts w ad0 X ∧ (∀ x ∈ X, Tg.ok x) ∧ (ad0 = none → cap0 = 0)) :
    Calls Tryd.prog 4 #[.slice ad0 n cap0] w fun e w' => e = .returned (.bool true) ∧ Below w.heap.size w w' := by
  obtain ⟨rfl, _, _, hT, ho, _⟩ := z
  exact ofLaw_w ad0 cap0 X w hm hT (fun hl W hb => planted_w ad0 cap0 X W (hm.below hb) (hT.below hb) ho hl)

end Go.Proofs.YtojnniacmmcddaaDoor
