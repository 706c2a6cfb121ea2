/-
  Contracts: path.Sound, strings.Split, path.Clean.
-/
import Derived.Test.YtpgiibpalmhhlaaGreatDoorChk
import Derived.Laws.AppendOwn
import Derived.OwnWalk
namespace Go.Proofs.YtpgiibpalmhhlaaGreatDoor
open Go.RowKit Go.Lib
set_option linter.unusedVariables false
set_option linter.unusedSimpArgs false

theorem hid {p : Prop} (h : p) : Hid p := h

/-- bytes as a string -/
def bs (l : List UInt8) : ByteArray := ⟨l.toArray⟩

theorem bs_data (l : List UInt8) : (bs l).data.toList = l := by simp [bs]
theorem bs_toList (l : List UInt8) : (bs l).toList = l := by rw [Lib.toList_data, bs_data]
theorem bs_size (l : List UInt8) : (bs l).size = l.length := by rw [Lib.size_eq, bs_data]
theorem bs_of (s : ByteArray) : s = bs s.data.toList := by cases s with | mk d => simp [bs]
theorem bs_inj {a b : List UInt8} (h : bs a = bs b) : a = b := by have := congrArg (fun x => x.data.toList) h; simpa [bs] using this

theorem bs_app (a b : List UInt8) : bs a ++ bs b = bs (a ++ b) := by
  have e : (bs a ++ bs b).data.toList = (bs (a ++ b)).data.toList := by
    rw [ByteArray.data_append, Array.toList_append, bs_data, bs_data, bs_data]
  rw [bs_of (bs a ++ bs b), e, ← bs_of]

/-- strings in a row -/
def strs (ps : List (List UInt8)) : List Value := ps.map fun x => .string (bs x)

theorem strs_length (ps : List (List UInt8)) : (strs ps).length = ps.length := by simp [strs]
theorem strs_snoc (ps : List (List UInt8)) (x : List UInt8) : strs ps ++ [.string (bs x)] = strs (ps ++ [x]) := by simp [strs]
theorem strs_get (ps : List (List UInt8)) (i : Nat) (x : List UInt8) (h : ps[i]? = some x) : (strs ps)[i]? = some (.string (bs x)) := by simp [strs, h]

/-- the library's variable holds a number -/
def Ml (w : World) : Prop := ∃ m, w.cell? ⟨0, 0, none⟩ = some (.int .i64 m)

theorem Ml.below {w w' : World} (h : Ml w) (hb : Below w.heap.size w w') : Ml w' := by
  obtain ⟨m, hm⟩ := h
  exact ⟨m, (hb.cell (World.block_lt_of_cell? _ _ hm)).trans hm⟩
theorem Ml.alloc {w : World} (h : Ml w) (o : Obj) : Ml (w.alloc o) := h.below ((Below.refl _ _).alloc (Nat.le_refl _) _)

theorem slash_prefix (l : List UInt8) (W : World) : Calls Tryz.prog 64 #[.string (bs l), .string ⟨#[47]⟩] W fun e w' => e = .returned (.bool (decide (l.head? = some 47))) ∧ w' = W := by
  have := Tryz.strings_HasPrefix (bs l) ⟨#[47]⟩ W
  have e : Lib.hasPrefix (bs l).data.toList (⟨#[47]⟩ : ByteArray).data.toList = decide (l.head? = some 47) := by
    rw [bs_data]
    unfold Lib.hasPrefix
    cases l with
    | nil => simp
    | cons c t => simp [List.isPrefixOf, Bool.beq_eq_decide_eq, eq_comm]
  rwa [e] at this

set_option maxHeartbeats 1000000 in
theorem sound_w (l : List UInt8) (hl : l.length ≤ 9223372036854775807) (w : World) :
    Calls Tryz.prog 45 #[.string (bs l)] w fun e w' => e = .returned (.int .i64 (snd0 l)) ∧ Below w.heap.size w w' := by
  have ht := bs_toList l
  have hz := bs_size l
  have qp := fun W => slash_prefix l W
  by_cases c1 : l = []
  · have hE : l.isEmpty = true := by rw [c1]; rfl
    have HF : Hid (snd0 l = 100) := hid (by unfold snd0; rw [if_pos c1])
    clear c1
    go_enter Tryz.func45, Tryz.ntmps45
    go_wp2_with fail
    go_ret
    exact ⟨by rw [HF.out]; rfl, Below.refl _ _⟩
  · have hE : l.isEmpty = false := by simpa using c1
    by_cases c2 : 4000 < l.length
    · have HF : Hid (snd0 l = 2) := hid (by unfold snd0; rw [if_neg c1, if_pos c2])
      clear c1
      go_enter Tryz.func45, Tryz.ntmps45
      go_wp2_with fail
      go_ret
      exact ⟨by rw [HF.out]; rfl, Below.refl _ _⟩
    · have qc := fun W => check_w (bs l) (by omega) W
      rw [bs_data] at qc
      have HF : Hid (snd0 l = if chk l ≠ 0 then chk l else if l.head? = some 47 then 103 else 0) := by
        refine hid ?_
        unfold snd0 chk
        rw [if_neg c1, if_neg c2]
        by_cases c3 : 0 ∈ l
        · simp [c3]
        · by_cases c4 : validD l = false
          · simp [c3, c4]
          · simp [c3, c4]
      clear c1
      by_cases c3 : chk l = 0
      · rw [c3] at qc
        by_cases c4 : l.head? = some 47
        · rw [decide_eq_true c4] at qp
          have HF : Hid (snd0 l = 103) := hid (by rw [HF.out, c3, if_neg (by simp), if_pos c4])
          clear c3 c4
          go_enter Tryz.func45, Tryz.ntmps45
          go_wp2_with (first | (go_at_call 63; refine (qc _).mono ?_; rintro e w1 ⟨rfl, b1⟩) | (go_at_call 64; refine (qp _).mono ?_; rintro e w' ⟨rfl, hw⟩; rw [hw]))
          go_ret
          exact ⟨by rw [HF.out]; rfl, b1⟩
        · rw [decide_eq_false c4] at qp
          have HF : Hid (snd0 l = 0) := hid (by rw [HF.out, c3, if_neg (by simp), if_neg c4])
          clear c3 c4
          go_enter Tryz.func45, Tryz.ntmps45
          go_wp2_with (first | (go_at_call 63; refine (qc _).mono ?_; rintro e w1 ⟨rfl, b1⟩) | (go_at_call 64; refine (qp _).mono ?_; rintro e w' ⟨rfl, hw⟩; rw [hw]))
          go_ret
          exact ⟨by rw [HF.out]; rfl, b1⟩
      · have HF : Hid (snd0 l = chk l) := hid (by rw [HF.out, if_pos c3])
        generalize chk l = z at *
        go_enter Tryz.func45, Tryz.ntmps45
        go_wp2_with (first | (go_at_call 63; refine (qc _).mono ?_; rintro e w1 ⟨rfl, b1⟩) | (go_at_call 64; refine (qp _).mono ?_; rintro e w' ⟨rfl, hw⟩; rw [hw]))
        go_ret
        exact ⟨by rw [HF.out]; rfl, b1⟩

/-- strings.Split at a slash -/
theorem split_w (l : List UInt8) (hl : l.length < 4294967281) (w : World) (hm : Ml w) :
    Calls Tryz.prog 46 #[.string (bs l), .string ⟨#[47]⟩] w fun e w' => e = .returned (.slice (some ⟨w.heap.size, 0, none⟩) (spl l).length (spl l).length) ∧ w' = w.alloc (.cells (strs (spl l)).toArray 9) := by
  obtain ⟨m, hm⟩ := hm
  have q := Tryz.strings_Split (bs l) ⟨#[47]⟩ m w (by rw [bs_size]; exact hl) hm (by decide)
  have h2 : (Lib.splitB ⟨#[47]⟩ 0 (Lib.countB (bs l) ⟨#[47]⟩) (bs l)).map (·.data.toList) = spl l := by
    rw [Lib.splitB_data, bs_data]
    show splitK [47] 0 (Lib.countB (bs l) ⟨#[47]⟩) l = _
    rw [← splitK_spl]
    have : Lib.countB (bs l) ⟨#[47]⟩ = count l [47] := by unfold Lib.countB; rw [bs_data]
    rw [this]
  have h1 : (Lib.splitB ⟨#[47]⟩ 0 (Lib.countB (bs l) ⟨#[47]⟩) (bs l)).map Value.string = strs (spl l) := by
    rw [← h2]
    unfold strs
    rw [List.map_map]
    apply List.map_congr_left
    intro x _
    exact congrArg Value.string (bs_of x)
  have h3 := Lib.splitB_all ⟨#[47]⟩ (by decide) 0 _ (bs l) rfl
  have h4 : (spl l).length = Lib.countB (bs l) ⟨#[47]⟩ + 1 := by rw [← h2, List.length_map, h3]
  rw [← h4, h1] at q
  exact q

/-- the parts that Clean answers -/
def cln (l : List UInt8) : List (List UInt8) := if err l = 0 then parts l else []

theorem info_str : (Tryz.prog.info? 9).map (fun i => (i.zero, i.size, i.bytes)) = some (some (.string ⟨#[]⟩), 1, 16) := by kernel_rfl

theorem own_below {e size B : Nat} {w w' : World} {v : Value} {n : Nat} {xs : List Value} (h : w.ownsRow B e size v n xs) (hb : Below w.heap.size w w') : w'.ownsRow B e size v n xs :=
  h.kept (row := none) ⟨hb.os, hb.tape, hb.output, hb.size, fun k hk _ => hb.block k hk⟩ (by cases v.ownBlock <;> simp)

theorem own_slice {e size B : Nat} {w : World} {v : Value} {n : Nat} {xs : List Value} (h : w.ownsRow B e size v n xs) : ∃ ad cap, v = .slice ad n cap ∧ n ≤ cap ∧ cap ≤ maxLen := by
  rcases h.2 with ⟨hv, h0⟩ | ⟨g, cap, cur, hv, _, _, hc, hm, _⟩
  · subst h0; exact ⟨none, 0, hv, Nat.le_refl _, by decide⟩
  · exact ⟨_, cap, hv, hc, hm⟩

theorem own_mono {e size B B' : Nat} {w : World} {v : Value} {n : Nat} {xs : List Value} (h : w.ownsRow B e size v n xs) (hB : B' ≤ B) : w.ownsRow B' e size v n xs := by
  refine ⟨h.1, ?_⟩
  rcases h.2 with h0 | ⟨g, cap, cur, hv, hb, r⟩
  · exact .inl h0
  · exact .inr ⟨g, cap, cur, hv, Nat.le_trans hB hb, r⟩

theorem one_cell (w : World) (x : Value) (t : TypeId) : ∀ j u, ([x] : List Value)[j]? = some u → (w.alloc (.cells #[x] t)).cell? ((⟨w.heap.size, 0, none⟩ : Addr).add j) = some u := by
  intro j u h
  match j, h with
  | 0, h => cases h; simp [Addr.add]
  | j + 1, h => simp at h

theorem split_cell (w W : World) (t : TypeId) (ps : List (List UInt8)) (hb : Below (w.alloc (.cells (strs ps).toArray t)).heap.size (w.alloc (.cells (strs ps).toArray t)) W) (i : Nat) (x : List UInt8) (h : ps[i]? = some x) :
    W.cell? ⟨w.heap.size, i, none⟩ = some (.string (bs x)) := by
  have hlt : w.heap.size < (w.alloc (.cells (strs ps).toArray t)).heap.size := by simp
  refine (hb.cell (p := ⟨w.heap.size, i, none⟩) hlt).trans ?_
  simp [strs_get ps i x h]

theorem info_parts_str : ∃ i, Tryz.prog.info? 9 = some i ∧ i.zero = some (.string ⟨#[]⟩) ∧ i.size = 1 ∧ i.bytes = 16 := info_parts info_str

theorem badOf_step (S : List (List UInt8)) (i : Nat) (x : List UInt8) (h : S[i]? = some x) : S.drop i = x :: S.drop (i + 1) := by
  obtain ⟨hi, rfl⟩ := List.getElem?_eq_some_iff.1 h
  exact List.drop_eq_getElem_cons hi

theorem err_of (l : List UInt8) (h : snd0 l = 0) : err l = badOf (spl l) := by unfold err; rw [h]; simp

theorem cln_bad (l : List UInt8) (h : err l ≠ 0) : cln l = [] := by unfold cln; rw [if_neg h]

theorem own_none (w : World) (B : Nat) : w.ownsRow B 9 1 (.slice none 0 0) ([] : List (List UInt8)).length (strs []) := World.ownsRow_nil _ _ _ _

theorem spl_len_le : ∀ l : List UInt8, (spl l).length ≤ l.length + 1
  | [] => by simp [spl]
  | c :: l => by
    have ih := spl_len_le l
    by_cases e : c = 47
    · subst e; rw [spl_slash]; simp; omega
    · obtain ⟨x, r, h1, h2⟩ := spl_other c l e
      rw [h2]; rw [h1] at ih; simp at ih ⊢; omega

set_option maxRecDepth 20000 in
set_option maxHeartbeats 4000000 in
theorem clean_ok (l : List UInt8) (h0 : snd0 l = 0) (w : World) (hm : Ml w) :
    Calls Tryz.prog 23 #[.string (bs l)] w fun e w' => ∃ v, e = .returned (.tuple #[v, .int .i64 (err l)]) ∧ w'.ownsRow w.heap.size 9 1 v (cln l).length (strs (cln l)) ∧ Below w.heap.size w w' := by
  have hl : l.length ≤ 4000 := ((snd_zero l).1 h0).2.1
  have qs := sound_w l (by omega) w
  rw [h0] at qs
  have HE : Hid (err l = badOf (spl l)) := err_of l h0
  have HQ : Hid (∀ W, Below w.heap.size w W → Calls Tryz.prog 46 #[.string (bs l), .string ⟨#[47]⟩] W fun e w' => e = .returned (.slice (some ⟨W.heap.size, 0, none⟩) (spl l).length (spl l).length) ∧ Hid (w' = W.alloc (.cells (strs (spl l)).toArray 9))) := fun W hb => split_w l (by omega) W (hm.below hb)
  have HP : Hid (parts l = (spl l).filter keep) := rfl
  obtain ⟨i0, hi, hz0, hz1, hz2⟩ := info_parts_str
  have hSl := spl_len_le l
  clear h0 hm
  generalize hS : spl l = S at *
  generalize hN : S.length = N at *
  have HN : Hid (S.length = N) := hN
  clear hS hN
  go_enter Tryz.func23, Tryz.ntmps23
  go_wp2_with (first | (go_at_call 45; refine qs.mono ?_; rintro e w1 ⟨rfl, b1⟩) | (go_at_call 46; refine (HQ.out _ b1).mono ?_; rintro e w2 ⟨rfl, HW2⟩))
  have hw2 := HW2.out
  clear HW2
  have HB2 : Hid (∀ W, Below w2.heap.size w2 W → ∀ i x, S[i]? = some x → W.cell? ⟨w1.heap.size, i, none⟩ = some (.string (bs x))) := by
    refine hid ?_
    intro W hb i x h
    subst hw2
    exact split_cell w1 W _ S hb i x h
  have b2 : Below w.heap.size w w2 := by subst hw2; exact b1.alloc b1.size _
  have hs2 : w.heap.size ≤ w2.heap.size := b2.size
  clear hw2 HQ qs
  go_loopw [5, 16] (fun t5 t16 wr => ∃ (i : Nat) (acc : List (List UInt8)), i ≤ N ∧ acc.length ≤ i ∧ t16 = .int .i64 i ∧ wr.ownsRow w2.heap.size 9 1 t5 acc.length (strs acc) ∧ Below w2.heap.size w2 wr ∧ Hid (badOf S = badOf (S.drop i) ∧ S.filter keep = acc ++ (S.drop i).filter keep))
    (fun _ t _ => N - (RowKit.intOf t).toNat)
  case atStart => exact ⟨0, [], Nat.zero_le _, Nat.le_refl _, rfl, World.ownsRow_nil _ _ _ _, Below.refl _ _, by simp, by simp⟩
  case round =>
    obtain ⟨i, acc, hiN, hai, rfl, hown, bb, HD⟩ := hrel
    have bw : Below w.heap.size w wr := b2.trans (bb.mono hs2)
    by_cases hlt : i < N
    · obtain ⟨x, hx⟩ : ∃ x, S[i]? = some x := ⟨S[i]'(by rw [HN.out]; exact hlt), List.getElem?_eq_getElem _⟩
      have hc := HB2.out wr bb i x hx
      obtain ⟨hd1, hd2⟩ := HD.out
      have hst := badOf_step S i x hx
      rw [hst] at hd1 hd2
      have ht := bs_toList x
      have hz := bs_size x
      obtain ⟨av, cv, rfl, hcv, hcm⟩ := own_slice hown
      have HO : Hid (wr.ownsRow w2.heap.size 9 1 (.slice av acc.length cv) acc.length (strs acc)) := hown
      clear hown hst hx HD
      by_cases k : keep x = true
      · have kk : x ≠ [] ∧ x ≠ [46] := by simpa [keep] using k
        have hE : x.isEmpty = false := by simpa using kk.1
        have hD : (x == [46]) = false := by simpa using kk.2
        rw [badOf, if_neg (by simp [k])] at hd1
        rw [List.filter_cons_of_pos k] at hd2
        clear kk k
        by_cases d : x = [46, 46]
        · have hDD : (x == [46, 46]) = true := by simpa using d
          rw [if_pos d] at hd1
          have HF : Hid (err l = 104) := hid (by rw [HE.out, hd1])
          clear d hd1 hd2
          go_wp2_with fail
          go_ret2
          rw [cln_bad l (by rw [HF.out]; decide), HF.out]
          exact ⟨_, rfl, World.ownsRow_nil _ _ _ _, bw⟩
        · have hDD : (x == [46, 46]) = false := by simpa using d
          rw [if_neg d] at hd1
          by_cases g : 255 < x.length
          · rw [if_pos g] at hd1
            have HF : Hid (err l = 2) := hid (by rw [HE.out, hd1])
            clear d hd1 hd2
            go_wp2_with fail
            go_ret2
            rw [cln_bad l (by rw [HF.out]; decide), HF.out]
            exact ⟨_, rfl, World.ownsRow_nil _ _ _ _, bw⟩
          · rw [if_neg g] at hd1
            have HD2 : Hid (badOf S = badOf (S.drop (i + 1)) ∧ S.filter keep = (acc ++ [x]) ++ (S.drop (i + 1)).filter keep) := ⟨hd1, by rw [hd2]; simp⟩
            have hmax := hcm
            unfold maxLen at hmax
            clear d hd1 hd2
            go_wp2_with (at_builtin; refine wpList_append_own _ rfl _ _ 64 rfl w2.heap.size 9 i0 (.string ⟨#[]⟩) 1 16 Tryz.underlying64 hi hz0 hz1 hz2 rfl (by decide) _ _ _ rfl (HO.out.alloc _) ⟨wr.heap.size, 0, none⟩ 1 1 [.string (bs x)] rfl rfl ?c1 ?c2 ?c3 ?c4 ?c5 ?_)
            case c1 => exact one_cell _ _ _
            case c2 => intro u hu; simp at hu; subst hu; rfl
            case c3 => unfold maxLen; omega
            case c4 => omega
            case c5 => have := bb.size; simp; omega
            · intro v' w5 hown' hgrow hh
              have bb5 : Below w2.heap.size w2 w5 := (bb.alloc bb.size _).grown hgrow (by have := bb.size; simp; omega) fun k hk => (HO.out.lt k hk).1
              have hO : w5.ownsRow w2.heap.size 9 1 v' (acc ++ [x]).length (strs (acc ++ [x])) := by
                rw [← strs_snoc, List.length_append]
                exact hown'
              clear hown' hgrow hh HO
              go_wp2
              go_roundw
              case rel => exact ⟨i + 1, acc ++ [x], by omega, by simp; omega, by simp, hO, bb5, HD2⟩
              case measure => simp [RowKit.intOf]; omega
      · have k' : keep x = false := by simpa using k
        rw [badOf, if_pos k'] at hd1
        rw [List.filter_cons_of_neg k] at hd2
        have HD2 : Hid (badOf S = badOf (S.drop (i + 1)) ∧ S.filter keep = acc ++ (S.drop (i + 1)).filter keep) := ⟨hd1, hd2⟩
        have hO : wr.ownsRow w2.heap.size 9 1 (.slice av acc.length cv) acc.length (strs acc) := HO.out
        clear hd1 hd2 k
        by_cases e0 : x = []
        · have hE : x.isEmpty = true := by rw [e0]; rfl
          clear k' e0
          have HO2 : Hid (wr.ownsRow w2.heap.size 9 1 (.slice av acc.length cv) acc.length (strs acc)) := hO
          clear hO
          go_wp2_with fail
          go_roundw
          case rel => exact ⟨i + 1, acc, by omega, by omega, by simp, HO2.out, bb, HD2⟩
          case measure => simp [RowKit.intOf]; omega
        · have hE : x.isEmpty = false := by simpa using e0
          have hD : (x == [46]) = true := by
            by_cases e1 : x = [46]
            · simpa using e1
            · simp [keep, e0, e1] at k'
          clear k' e0
          have HO2 : Hid (wr.ownsRow w2.heap.size 9 1 (.slice av acc.length cv) acc.length (strs acc)) := hO
          clear hO
          go_wp2_with fail
          go_roundw
          case rel => exact ⟨i + 1, acc, by omega, by omega, by simp, HO2.out, bb, HD2⟩
          case measure => simp [RowKit.intOf]; omega
    · obtain rfl : i = N := by omega
      obtain ⟨hd1, hd2⟩ := HD.out
      rw [List.drop_of_length_le (by rw [HN.out]; exact Nat.le_refl _)] at hd1 hd2
      simp [badOf] at hd1 hd2
      have HF : Hid (err l = 0) := hid (by rw [HE.out, hd1])
      have HC : Hid (cln l = acc) := hid (by unfold cln; rw [if_pos HF.out, HP.out, hd2])
      clear hd1 hd2 HD
      obtain ⟨av, cv, rfl, hcv, hcm⟩ := own_slice hown
      have HO : Hid (wr.ownsRow w2.heap.size 9 1 (.slice av acc.length cv) acc.length (strs acc)) := hown
      clear hown
      go_wp2_with fail
      go_ret2
      rw [HC.out, HF.out]
      exact ⟨_, rfl, own_mono HO.out hs2, bw⟩

theorem clean_no (l : List UInt8) (hl : l.length ≤ 9223372036854775807) (h0 : snd0 l ≠ 0) (w : World) :
    Calls Tryz.prog 23 #[.string (bs l)] w fun e w' => ∃ v, e = .returned (.tuple #[v, .int .i64 (err l)]) ∧ w'.ownsRow w.heap.size 9 1 v (cln l).length (strs (cln l)) ∧ Below w.heap.size w w' := by
  have qs := sound_w l hl w
  have HF : Hid (err l = snd0 l) := hid (by unfold err; rw [if_pos h0])
  have HC : Hid (cln l = []) := cln_bad l (by rw [HF.out]; exact h0)
  generalize snd0 l = z at *
  go_enter Tryz.func23, Tryz.ntmps23
  go_wp2_with (go_at_call 45; refine qs.mono ?_; rintro e w1 ⟨rfl, b1⟩)
  go_ret2
  rw [HC.out, HF.out]
  exact ⟨_, rfl, World.ownsRow_nil _ _ _ _, b1⟩

theorem clean_w (l : List UInt8) (hl : l.length ≤ 9223372036854775807) (w : World) (hm : Ml w) :
    Calls Tryz.prog 23 #[.string (bs l)] w fun e w' => ∃ v, e = .returned (.tuple #[v, .int .i64 (err l)]) ∧ w'.ownsRow w.heap.size 9 1 v (cln l).length (strs (cln l)) ∧ Below w.heap.size w w' := by
  by_cases h : snd0 l = 0
  · exact clean_ok l h w hm
  · exact clean_no l hl h w

end Go.Proofs.YtpgiibpalmhhlaaGreatDoor
