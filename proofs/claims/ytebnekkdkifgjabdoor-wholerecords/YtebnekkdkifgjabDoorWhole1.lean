/-
  The walk of WholeRecords.
-/
import Derived.Test.YtebnekkdkifgjabDoorWhole0
import Derived.Maps.RangeWalk
namespace Go.Proofs.YtebnekkdkifgjabDoor
open Go.RowKit
set_option linter.unusedVariables false
set_option linter.unusedSimpArgs false

def kA : ByteArray := ⟨#[97]⟩
def v1 : ByteArray := ⟨#[49]⟩

theorem plen5 : plen 5 = 6 := by
  unfold plen
  have h5 : Lib.nDigits 5 = 1 := Lib.nDigits_small (by decide)
  have h6 : Lib.nDigits 6 = 1 := Lib.nDigits_small (by decide)
  simp [h5, h6]
theorem rec_a1 : encR [(kA, v1)] = [54, 32, 97, 61, 49, 10] := by
  have : recB kA v1 = [54, 32, 97, 61, 49, 10] := by
    unfold recB
    rw [bodyS_size, show kA.size + v1.size + 3 = 5 from rfl, plen5, itoa_nat, Lib.decDigits, dif_pos (by decide)]
    decide +kernel
  simp [encR, this]

theorem ok_a1 : AllOk [(kA, v1)] := by
  intro r hr
  simp at hr
  subst hr
  decide +kernel

/-- the law's head: a record is written -/
theorem enc_a1 (w : World) (ht : Vs (w.alloc (.cells #[.string ⟨#[97]⟩, .string ⟨#[49]⟩] 29))) :
    Calls Tryd.prog 5 #[.slice (some ⟨w.heap.size, 0, none⟩) 1 1] (w.alloc (.cells #[.string ⟨#[97]⟩, .string ⟨#[49]⟩] 29)) fun e w' => (∃ v, e = .returned (.tuple #[v, .int .i64 0]) ∧ (convert 24 9 v).run Tryd.prog w' = .ok (.string ⟨#[54, 32, 97, 61, 49, 10]⟩) w') ∧ Below w.heap.size w w' := by
  have hl := World.ownsRow_lit (base := w.heap.size) (e := 29) (size := 2) w #[.string ⟨#[97]⟩, .string ⟨#[49]⟩] 1 (Nat.le_refl _) (by decide) rfl
  have q := enc_own (rs := [(kA, v1)]) hl (by decide) (by intro r hr; simp at hr; subst hr; exact ⟨by decide, by decide⟩) ht
  have b0 : Below w.heap.size w (w.alloc (.cells #[.string ⟨#[97]⟩, .string ⟨#[49]⟩] 29)) := (Below.refl _ _).alloc (Nat.le_refl _) _
  refine q.mono fun e w' ⟨⟨x, z, he, hz, ho⟩, hb⟩ => ⟨⟨x, ?_, ?_⟩, b0.trans (hb.mono b0.size)⟩
  · rw [he, hz.2 ok_a1]
  · have := conv_own (ho ok_a1)
    rw [rec_a1] at this
    exact this

theorem make31 (w : World) : (Instr.makeMap 31 none).run Tryd.prog w = .ok (.map (some w.heap.size)) (w.alloc (.map #[] 0)) := rfl

theorem last_true (a : Int) : tk a = true ∨ cl a ≤ 1 := by
  have h := cl_range a
  by_cases c : 2 ≤ cl a
  · left
    unfold tk
    rw [decide_eq_true c]
    rfl
  · right; omega

set_option maxRecDepth 20000 in
set_option maxHeartbeats 2000000 in
theorem walk_len (ad0 ad1 : Option Addr) (n0 cap0 n1 cap1 : Nat) (a : Int) (w : World) (ht : Vs w) (hc : ¬ n0 = n1 ∨ 20 < n0) (h0 : n0 ≤ 9223372036854775807) (h1 : n1 ≤ 9223372036854775807) :
    Calls Tryd.prog 3 #[.slice ad0 n0 cap0, .slice ad1 n1 cap1, .int .u8 a] w fun e w' => e = .returned (.bool true) ∧ Below w.heap.size w w' := by
  have qc := class_w 120 w
  rw [show cl 120 = 2 from rfl] at qc
  have b0 : Below w.heap.size w (w.alloc (.cells #[.string ⟨#[97]⟩, .string ⟨#[49]⟩] 29)) := (Below.refl _ _).alloc (Nat.le_refl _) _
  have qe := enc_a1 w (ht.below b0)
  by_cases c : n0 = n1
  · subst c
    have c2 : 20 < n0 := by omega
    clear hc ht
    go_enter Tryd.func3, Tryd.ntmps3
    go_wp2_with (first | (go_at_call 4; refine qc.mono ?_; rintro e w' ⟨rfl, rfl⟩) | (go_at_call 5; refine qe.mono ?_; rintro e w1 ⟨⟨v, rfl, hv⟩, b1⟩))
    go_ret
    exact ⟨rfl, b1⟩
  · have c' : ¬ (n0 : Int) = (n1 : Int) := by omega
    clear hc ht
    go_enter Tryd.func3, Tryd.ntmps3
    go_wp2_with (first | (go_at_call 4; refine qc.mono ?_; rintro e w' ⟨rfl, rfl⟩) | (go_at_call 5; refine qe.mono ?_; rintro e w1 ⟨⟨v, rfl, hv⟩, b1⟩))
    go_ret
    exact ⟨rfl, b1⟩

theorem grown_below {w w' : World} (h : Below w.heap.size w w') : w.grownBy w' none := ⟨h.os, h.tape, h.output, h.size, fun k hk _ => h.block k hk⟩

set_option maxRecDepth 20000 in
set_option maxHeartbeats 8000000 in
theorem walk_in (ad0 ad1 : Option Addr) (p0 o0 p1 o1 n cap0 cap1 : Nat) (HA : Hid (0 < n → ad0 = some ⟨p0, o0, none⟩ ∧ ad1 = some ⟨p1, o1, none⟩)) (K V : Nat → ByteArray) (a : Int) (w : World) (ht : Vs w) (hn : n ≤ 20) (h0 : StrsAt w p0 o0 K n) (h1 : StrsAt w p1 o1 V n) :
    Calls Tryd.prog 3 #[.slice ad0 n cap0, .slice ad1 n cap1, .int .u8 a] w fun e w' => e = .returned (.bool true) ∧ Below w.heap.size w w' := by
  have qc := class_w 120 w
  rw [show cl 120 = 2 from rfl] at qc
  have ba : Below w.heap.size w (w.alloc (.cells #[.string ⟨#[97]⟩, .string ⟨#[49]⟩] 29)) := (Below.refl _ _).alloc (Nat.le_refl _) _
  have qe := enc_a1 w (ht.below ba)
  have HV : Hid (∀ W, Below w.heap.size w W → Vs W) := fun W h => ht.below h
  have HK : Hid (∀ W, Below w.heap.size w W → StrsAt W p0 o0 K n) := fun W h => h0.below h
  have HW : Hid (∀ W, Below w.heap.size w W → StrsAt W p1 o1 V n) := fun W h => h1.below h
  obtain ⟨i0, hi, hz0, hz1, hz2⟩ := info_parts info28c
  have mk := make31
  clear ht h0 h1 ba
  go_enter Tryd.func3, Tryd.ntmps3
  go_wp2_with (first | (go_at_call 4; refine qc.mono ?_; rintro e w' ⟨rfl, rfl⟩) | (go_at_call 5; refine qe.mono ?_; rintro e w1 ⟨⟨v, rfl, hv⟩, b1⟩))
  have hm1 := World.ownsMap_made (H := Unit) w1 Tryd.prog 9 (plainElem Tryd.prog 9)
  have b2 : Below w.heap.size w (w1.alloc (.map #[] 0)) := b1.alloc b1.size _
  have s2 : w1.heap.size + 1 ≤ (w1.alloc (.map #[] 0)).heap.size := by simp
  have hg : w.heap.size ≤ w1.heap.size := b1.size
  clear qc qe hv
  generalize w1.alloc (.map #[] 0) = w2 at *
  generalize w1.heap.size = gm at *
  go_loopw [9, 54] (fun tl t wr => ∃ (i : Nat) (rs : List Rec) (D : DataW Unit), i ≤ n ∧ t = .int .i64 i ∧ rs.length ≤ i ∧ wr.ownsRow (gm + 1) 29 2 tl rs.length (recCells rs) ∧ wr.ownsMap Tryd.prog 9 (plainElem Tryd.prog 9) gm i D ∧ Below w.heap.size w wr ∧ gm + 1 ≤ wr.heap.size ∧ Hid (∀ r ∈ rs, Good r) ∧ Hid (MapOk D rs)) (fun _ t _ => n - (intOf t).toNat)
  case atStart => exact ⟨0, [], .map [], Nat.zero_le _, rfl, Nat.le_refl _, World.ownsRow_nil _ _ _ _, hm1, b2, s2, (fun r hr => by cases hr), mapOk_nil⟩
  case round =>
    obtain ⟨i, rs, D, hi', rfl, hri, hown, hmap, bb, hs, HG, HM⟩ := hrel
    have HO : Hid (wr.ownsRow (gm + 1) 29 2 u9 rs.length (recCells rs)) := hown
    have HP : Hid (wr.ownsMap Tryd.prog 9 (plainElem Tryd.prog 9) gm i D) := hmap
    clear hown hmap hm1
    by_cases hlt : i < n
    · obtain ⟨rfl, rfl⟩ := HA.out (by omega)
      have hk := HK.out _ bb i hlt
      have hw := HW.out _ bb i hlt
      have HWi : Hid (∀ W, Below w.heap.size w W → W.cell? ⟨p1, o1 + i, none⟩ = some (.string (V i))) := fun W hW => HW.out W hW i hlt
      generalize K i = k at *
      generalize V i = v at *
      have hw2 : (wr.alloc (.cells #[.string k, .string v] 29)).cell? ⟨p1, o1 + i, none⟩ = some (.string v) := HWi.out _ (bb.alloc bb.size _)
      by_cases c1 : 500 < k.size
      · go_wp2
        go_ret
        exact ⟨rfl, by first | exact bb.alloc bb.size _ | exact ((bb.alloc bb.size _).setCell bb.size _).setCell bb.size _⟩
      · by_cases c2 : 500 < v.size
        · go_wp2
          go_ret
          exact ⟨rfl, by first | exact bb.alloc bb.size _ | exact ((bb.alloc bb.size _).setCell bb.size _).setCell bb.size _⟩
        · have qk := fun W => check_any k v (by omega) (by omega) W
          by_cases c3 : chk k v = 0
          · have HGd : Hid (Good (k, v)) := ⟨c3, by show k.size ≤ 100000; omega, by show v.size ≤ 100000; omega⟩
            rw [c3] at qk
            clear c3
            go_wp2_with (first | (go_at_call 6; refine (qk _).mono ?_; rintro e w4 ⟨rfl, b4⟩; obtain ⟨g0, g1, b5⟩ := alloc2 _ _ _ _ b4) | (at_builtin; refine wpList_append_own _ rfl _ _ 30 rfl (gm + 1) 29 i0 (.agg #[.string ⟨#[]⟩, .string ⟨#[]⟩]) 2 32 Tryd.underlying30 hi hz0 hz1 hz2 rfl (by decide) _ _ _ rfl ((own_below HO.out b5).alloc _) ⟨w4.heap.size, 0, none⟩ 1 1 [.string k, .string v] rfl rfl ?c1 ?c2 ?c3 ?c4 ?c5 ?_))
            case c1 => exact two_cells _ _ _
            case c2 => intro u hu; simp at hu; rcases hu with rfl | rfl <;> rfl
            case c3 => unfold maxLen; omega
            case c4 => omega
            case c5 => have := b5.size; simp; omega
            · intro v' w5 hown' hgrow hh
              have bb4 : Below w.heap.size w w4 := bb.trans (b5.mono bb.size)
              have own4 := own_below HO.out b5
              have bb5 : Below w.heap.size w w5 := (bb4.alloc bb4.size _).grown hgrow (by have := bb4.size; simp; omega) fun q hq => by have := (own4.lt q hq).1; omega
              have hO : w5.ownsRow (gm + 1) 29 2 v' (rs ++ [(k, v)]).length (recCells (rs ++ [(k, v)])) := by
                rw [← recCells_snoc, List.length_append]
                exact hown'
              have m4 : w4.ownsMap Tryd.prog 9 (plainElem Tryd.prog 9) gm i D := HP.out.kept (grown_below b5) (by simp)
              have m5 : w5.ownsMap Tryd.prog 9 (plainElem Tryd.prog 9) gm i D := (m4.alloc _).kept hgrow (fun e => by have := (own4.lt gm e.symm).1; omega)
              have hw5 := HWi.out w5 bb5
              have hs5 : gm + 1 ≤ w5.heap.size := by have := m5.lt; omega
              have hmaps := m5.isMap
              have HO5 : Hid (w5.ownsRow (gm + 1) 29 2 v' (rs ++ [(k, v)]).length (recCells (rs ++ [(k, v)]))) := hO
              have M5 : Hid (w5.ownsMap Tryd.prog 9 (plainElem Tryd.prog 9) gm i D) := m5
              clear hown' hgrow hh HO HP own4 m4 m5 hO
              go_wp2_with (at_mapUpdate; refine wpList_mapUpdate_own _ rfl _ _ _ 31 rfl 9 9 key9 Tryd.underlying31 _ gm i D rfl M5.out ?d1 _ _ (.string k.data.toList) rfl rfl (keyOf9 k (by unfold maxLen; omega)) (.lit (.string v.data.toList)) [] (elem9 v (by unfold maxLen; omega)) ?_)
              case d1 => unfold maxLen; omega
              · intro w6 m6 g6
                have bb6 : Below w.heap.size w w6 := bb5.grown g6 bb5.size fun q hq => by cases hq; omega
                have O6 : w6.ownsRow (gm + 1) 29 2 v' (rs ++ [(k, v)]).length (recCells (rs ++ [(k, v)])) := HO5.out.kept g6 (by
                  cases hq : v'.ownBlock with
                  | none => exact .inl rfl
                  | some q =>
                    right
                    intro e
                    have := (HO5.out.lt q hq).1
                    cases e
                    omega)
                have hs6 : gm + 1 ≤ w6.heap.size := by have := m6.lt; omega
                clear HO5 M5 g6
                go_wp2
                go_roundw
                case rel =>
                  refine ⟨i + 1, rs ++ [(k, v)], D.put (.string k.data.toList) (.lit (.string v.data.toList)), by omega, by simp, by simp; omega, O6, m6, bb6, hs6, ?_, HM.out.put hmaps k v (by omega)⟩
                  intro r hr
                  rcases List.mem_append.1 hr with h | h
                  · exact HG.out r h
                  · simp at h; subst h; exact HGd.out
                case measure => simp [intOf]; omega
          · generalize chk k v = z at *
            go_wp2_with (go_at_call 6; refine (qk _).mono ?_; rintro e w4 ⟨rfl, b4⟩; obtain ⟨g0, g1, b5⟩ := alloc2 _ _ _ _ b4)
            go_roundw
            case rel => exact ⟨i + 1, rs, D, by omega, by simp, by omega, own_below HO.out b5, (HP.out.kept (grown_below b5) (by simp)).mono (by omega), bb.trans (b5.mono bb.size), by have := b5.size; omega, HG.out, HM.out⟩
            case measure => simp [intOf]; omega
    · obtain rfl : i = n := by omega
      have hok : AllOk rs := fun r hr => (HG.out r hr).1
      have hsz : ∀ r ∈ rs, r.1.size ≤ 100000 ∧ r.2.size ≤ 100000 := fun r hr => (HG.out r hr).2
      have qe := enc_own HO.out (by omega) hsz (HV.out _ bb)
      have hdec := dec_back rs HG.out (by omega)
      have HD : Hid (dec (encR rs).length [] (encR rs) = (rs, 0)) := hdec
      have hEl : Hid ((encR rs).length ≤ 400000 * rs.length) := by
        show _ ≤ _
        have h := encL_len (kOf rs) (vOf rs) rs.length (fun j hj => by
          have hm : rs.getD j (⟨#[]⟩, ⟨#[]⟩) ∈ rs := by
            rw [List.getD, List.getElem?_eq_getElem hj]
            exact List.getElem_mem hj
          exact hsz _ hm)
        rwa [encL_recs, recs_of] at h
      clear hdec hsz
      go_wp2_with fail
      refine qe.mono ?_
      rintro e w4 ⟨⟨v4, z4, rfl, hz4, ho4⟩, b4⟩
      obtain rfl : z4 = 0 := hz4.2 hok
      have o4 := ho4 hok
      have bb4 : Below w.heap.size w w4 := bb.trans (b4.mono bb.size)
      have qd := dec_own o4 (by have := hEl.out; omega) (HV.out _ bb4)
      rw [HD.out] at qd
      clear hz4 ho4 qe o4 HD hEl hok
      go_wp2_with fail
      refine qd.mono ?_
      rintro e w5 ⟨v5, rfl, o5, b5⟩
      have bb5 : Below w.heap.size w w5 := bb4.trans (b5.mono bb4.size)
      have b45 : Below wr.heap.size wr w5 := b4.trans (b5.mono b4.size)
      have m5 : w5.ownsMap Tryd.prog 9 (plainElem Tryd.prog 9) gm i D := HP.out.kept (grown_below b45) (by simp)
      obtain ⟨ad9, cap9, rfl, _, _⟩ := own_slice HO.out
      have O5 : Hid (w5.ownsRow w4.heap.size 29 2 v5 rs.length (recCells rs)) := o5
      obtain ⟨ad5, cap5, rfl, _, _⟩ := own_slice o5
      have M5 : Hid (w5.ownsMap Tryd.prog 9 (plainElem Tryd.prog 9) gm i D) := m5
      clear o5 m5 HO HP qd
      go_wp2_with (at_range; refine wpList_range_own _ rfl _ 31 rfl 9 9 key9 Tryd.underlying31 _ gm i D rfl M5.out ?_)
      intro w6 r6 g6 s6
      have b56 : Below w5.heap.size w5 w6 := (Below.refl _ _).grown g6 (Nat.le_refl _) (fun k hk => by cases hk)
      have hr0 : Hid (w5.heap.size = w5.heap.size) := rfl
      have R6 : Hid (w6.ranges Tryd.prog 9 (plainElem (H := Unit) Tryd.prog 9) gm w5.heap.size i D (Maps.has D) (Maps.size D)) := r6
      have HO5 : Hid (∀ W, Below w5.heap.size w5 W → W.ownsRow w4.heap.size 29 2 (.slice ad5 rs.length cap5) rs.length (recCells rs)) := fun W hb => own_below O5.out hb
      have HB5 : Hid (∀ W, Below w5.heap.size w5 W → Below w.heap.size w W) := fun W hb => bb5.trans (hb.mono bb5.size)
      clear r6 g6 s6 O5 M5 hr0
      go_wp2_with fail
      go_loopw [18] (fun _ wz => ∃ (left : Lit → Bool) (cnt : Nat), wz.ranges Tryd.prog 9 (plainElem (H := Unit) Tryd.prog 9) gm w5.heap.size i D left cnt ∧ Below w5.heap.size w5 wz ∧ Hid (∀ kl, left kl = true → Maps.has D kl = true)) (fun _ wz => wz.rangeLeft gm w5.heap.size)
      case atStart => exact ⟨_, _, R6.out, b56, fun kl h => h⟩
      case round =>
        obtain ⟨left, cnt, hr, bz, hle⟩ := hrel
        have HRz : Hid (wr.ranges Tryd.prog 9 (plainElem (H := Unit) Tryd.prog 9) gm w5.heap.size i D left cnt) := hr
        have HCnt : Hid (wr.rangeLeft gm w5.heap.size = cnt) := hr.left_eq
        clear hr R6 b56
        go_wp2_with (at_next; refine wpList_next_ranges _ rfl _ rfl 9 key9 (plainElem Tryd.prog 9) Value.string Value.string (fun key kl h => keyOf9_inv h) (fun v y h => by obtain ⟨s, rfl, _⟩ := plainElem_string_inv Tryd.underlying9 h; exact ⟨s, rfl⟩) gm w5.heap.size i D left cnt rfl HRz.out ?hd ?hm)
        case hd =>
          intro h0 hl
          have bbz := HB5.out _ bz
          have qt := takes_w a
          have qs := class_w a
          rcases last_true a with hta | hca
          · simp only [hta] at qt
            go_wp2_with (first | (go_at_call 10; refine (qt _).mono ?_; rintro e w' ⟨rfl, rfl⟩))
            go_ret
            exact ⟨by first | rfl | simp, bbz⟩
          · generalize tk a = tt at *
            generalize cl a = cc at *
            cases tt with
            | true =>
              go_wp2_with (first | (go_at_call 10; refine (qt _).mono ?_; rintro e w' ⟨rfl, rfl⟩))
              go_ret
              exact ⟨by first | rfl | simp, bbz⟩
            | false =>
              go_wp2_with (first | (go_at_call 10; refine (qt _).mono ?_; rintro e w' ⟨rfl, rfl⟩) | (go_at_call 4; refine (qs _).mono ?_; rintro e w' ⟨rfl, rfl⟩))
              go_ret
              exact ⟨by first | rfl | simp [hca], bbz⟩
        case hm =>
          intro x c kl y1 y2 w7 cnt' hkey hlk hv hat hrg hlt' hgr hsz hen
          obtain rfl := keyOf9_lit hkey
          obtain ⟨c', hc', hy, hcs⟩ := plainElem_string_inv Tryd.underlying9 hv
          cases hc'
          cases hy
          obtain ⟨kk, vv, e1, e2, e3, e4⟩ := HM.out _ (hle.out _ hlk)
          obtain rfl := data_inj e1
          have e5 : c = vv := by
            have q1 := hat .nil
            rw [e4] at q1
            have q2 : vv.data.toList = c.data.toList := by simpa using q1
            exact (data_inj q2).symm
          subst e5
          have b57 : Below w5.heap.size w5 w7 := bz.grown hgr bz.size (fun k hk => by cases hk; exact Nat.le_refl _)
          have HR7 : Hid (w7.ranges Tryd.prog 9 (plainElem (H := Unit) Tryd.prog 9) gm w5.heap.size i D (fun z => left z && !z.sameKey (.string kk.data.toList)) cnt') := hrg
          have qg := get_own (HO5.out w7 b57) (by omega) kk c e2
          have qn := fun W hv => number_p c (by omega) W hv
          generalize nz c = nn at *
          generalize ne c = ee at *
          clear hrg hgr hv hat hkey e1 e2 e4 hlk
          go_wp2_with (first | (go_at_call 8; refine qg.mono ?_; rintro e w' ⟨rfl, rfl⟩))
          refine (qn w7 (HV.out _ (HB5.out _ b57))).mono ?_
          rintro e w8 ⟨rfl, b8⟩
          have b58 : Below w5.heap.size w5 w8 := b57.trans (b8.mono b57.size)
          go_wp2_with fail
          refine (qn w8 (HV.out _ (HB5.out _ b58))).mono ?_
          rintro e w9 ⟨rfl, b9⟩
          have b59 : Below w5.heap.size w5 w9 := b58.trans (b9.mono b58.size)
          have r9 := (HR7.out.kept (grown_below b8) (by simp) (by simp)).kept (grown_below b9) (by simp) (by simp)
          have hl9 := r9.left_eq
          have HM9 : Hid (w9.rangeLeft gm w5.heap.size < wr.rangeLeft gm w5.heap.size) := by
            show _ < _
            rw [hl9, HCnt.out]
            exact hlt'
          clear hl9
          go_wp2
          go_roundw
          case rel => exact ⟨_, cnt', r9, b59, fun kl h => hle.out kl (by simp at h; exact h.1)⟩
          case measure => exact HM9.out

/-- what the walk is told of a list of strings -/
def ToldS (w : World) (ad : Option Addr) (n cap : Nat) (S : Nat → ByteArray) : Prop :=
  n ≤ cap ∧ cap ≤ 9223372036854775807 ∧ (n = 0 ∨ ∃ b off, ad = some ⟨b, off, none⟩ ∧ StrsAt w b off S n)

theorem walk (ad0 : Option Addr) (n0 cap0 : Nat) (K : Nat → ByteArray) (ad1 : Option Addr) (n1 cap1 : Nat) (V : Nat → ByteArray) (a : Int) (w : World) (ht : Vs w) (h0 : ToldS w ad0 n0 cap0 K) (h1 : ToldS w ad1 n1 cap1 V) :
    Calls Tryd.prog 3 #[.slice ad0 n0 cap0, .slice ad1 n1 cap1, .int .u8 a] w fun e w' => e = .returned (.bool true) ∧ Below w.heap.size w w' := by
  obtain ⟨a1, a2, a3⟩ := h0
  obtain ⟨c1, c2, c3⟩ := h1
  by_cases hc : ¬ n0 = n1 ∨ 20 < n0
  · exact walk_len ad0 ad1 n0 cap0 n1 cap1 a w ht hc (by omega) (by omega)
  · obtain rfl : n0 = n1 := by omega
    by_cases hz : n0 = 0
    · subst hz
      exact walk_in ad0 ad1 0 0 0 0 0 cap0 cap1 (fun h => absurd h (by omega)) K V a w ht (by omega) (fun i hi => absurd hi (by omega)) (fun i hi => absurd hi (by omega))
    · rcases a3 with h | ⟨p0, o0, rfl, s0⟩
      · exact absurd h hz
      · rcases c3 with h | ⟨p1, o1, rfl, s1⟩
        · exact absurd h hz
        · exact walk_in _ _ p0 o0 p1 o1 n0 cap0 cap1 (fun _ => ⟨rfl, rfl⟩) K V a w ht (by omega) s0 s1

end Go.Proofs.YtebnekkdkifgjabDoor
