/-
  Contract: extent.Append.
-/
import Derived.Test.YtpjfhfbjdcgbjabAppErr
import Derived.Laws.ResultCell
namespace Go.Proofs.Ytpjfhfbjdcgbjab
open Go.RowKit
set_option linter.unusedVariables false
set_option linter.unusedSimpArgs false


theorem lowAt_block {a : Option Addr} {cap c : Nat} {P : Nat → Prop} (h : ∀ ad, a = some ad → P ad.block) : ∀ ad, lowAt a cap c = some ad → P ad.block := by
  intro ad e
  unfold lowAt at e
  split at e
  · exact h ad e
  · cases a with
    | none => cases e
    | some x =>
      simp at e
      subst e
      have := h x rfl
      unfold Addr.add
      split <;> exact this

def slen : Value → Nat
  | .slice _ n _ => n
  | _ => 0

theorem Src.keepsO {w w' : World} {p S F : Nat} {a : Option Addr} {zs : List Int} (h : Src w a zs) (hk : Keeps p S F w w') (hap : 0 < zs.length → ∀ ad, a = some ad → ad.block ≠ p ∧ ad.block ≠ S ∧ ad.block ≠ F) : Src w' a zs := by
  intro h0
  obtain ⟨ad, rfl, _⟩ := h h0
  obtain ⟨h1, h2, h3⟩ := hap h0 ad rfl
  exact (h.keeps hk h1 h2 h3) h0

set_option maxRecDepth 100000 in
set_option maxHeartbeats 16000000 in
theorem append_ok {w : World} {p S F : Nat} {ss : List Slot} {fr : List Nat} (h : Ar w p S F ss fr) (a : Option Addr) (cap : Nat) (ids : List Int) (sz : Nat) (hn : Hid (ids.length = need sz)) (hI : Hid (Ids w a ids)) (hnil : Hid (a = none → cap = 0)) (ab : Option Addr) (b : List Int) (capb : Nat) (hbc : b.length ≤ capb) (hcb : capb ≤ 9223372036854775807)
    (hsrc : Hid (Src w ab b)) (hap : Hid (0 < b.length → ∀ ad, ab = some ad → ad.block ≠ p ∧ ad.block ≠ S ∧ ad.block ≠ F)) (hc : Hid (canCode ss fr ids sz b.length = 0)) :
    Calls Try.prog 12 #[.pointer (some ⟨p, 0, none⟩), .agg #[.slice a ids.length cap, .int .i64 (sz : Int)], .slice ab b.length capb] w fun e w' => ∃ (a' : Option Addr) (c' : Nat) (ss1 : List Slot) (fr1 : List Nat) (ids1 : List Int) (ss2 : List Slot) (b2 : List Int) (ids3 : List Int) (ss3 : List Slot) (fr3 : List Nat),
      OwnStep ss fr ids sz ss1 fr1 ids1 ∧ OpenStep ss1 ids1 sz b ss2 b2 ∧ putAll (need b2.length) ss2 fr1 ids1 b2 = (ss3, fr3, ids3) ∧
      e = .returned (.tuple #[.agg #[.slice a' ids3.length c', .int .i64 ((sz : Int) + (b.length : Int))], .int .i64 0]) ∧ Own w' w.heap.size (.slice a' ids3.length c') ids3 ∧ Ar w' p S F ss3 fr3 ∧ Keeps p S F w w' := by
  obtain ⟨hz1, hz2, hz3⟩ := can_zero hc.out
  have hzz2 : Hid _ := hz2
  have hzz3 : Hid _ := hz3
  clear hz2 hz3
  have hl : ids.length ≤ 1048576 := by have := hn.out; unfold need at this; omega
  obtain ⟨hp, hS, hF⟩ := h.lt
  have hh : Hid _ := h
  have qc : ∀ W, Below w.heap.size w W → Calls Try.prog 17 #[.slice a ids.length cap] W fun e w' => ∃ a' c', e = .returned (.slice a' ids.length c') ∧ Own w' W.heap.size (.slice a' ids.length c') ids ∧ Below W.heap.size W w' := fun W h => (clone_w a cap ids W (hI.out.grow h) hl hnil.out).mono fun e w' ⟨v, he, ho, hb⟩ => by obtain ⟨a', c', rfl, _⟩ := ho.form; exact ⟨a', c', he, ho, hb⟩
  clear h
  go_enter Try.func12, Try.ntmps12
  go_upto_region 1 with fail
  go_cut [8] (fun s8 wx => ∃ g8 a' c', s8 = .pointer (some ⟨g8, 0, none⟩) ∧ Mid w wx p S F w.heap.size (w.heap.size + 1) g8 (.slice a ids.length cap) (sz : Int) (.slice a' ids.length c') ids (sz : Int) ∧ Below w.heap.size w wx)
  case first =>
    go_region_with (go_at_call 17; refine (qc _ (by first | exact belA _ _ _ | exact belB _ _ _ _)).mono ?_; rintro e w1 ⟨a', c', rfl, ho, hb⟩; first | (have jj := boxB rfl rfl hb; obtain ⟨j1, j2, j3, j4, j5, j6, j7, j8⟩ := jj) | (have jj := boxA rfl hb; obtain ⟨j1, j2, j3, j4, j5⟩ := jj))
    all_goals go_wp2_with fail
    all_goals go_meet
    all_goals first | exact ⟨_, a', c', rfl, midA hb ho, belC hb⟩ | exact ⟨_, a', c', rfl, midB hb ho, belD hb⟩
  case rest =>
    obtain ⟨g8, a', c', rfl, M, B⟩ := hcut
    have k0 := M.b0
    have k1 := M.b1
    have q := can_w (hh.out.grow B) a cap ids sz b.length (by omega) hn.out (hI.out.grow B) (by omega)
    rw [hc.out] at q
    clear qc
    go_wp2_with fail
    refine q.mono ?_
    rintro e w2 ⟨rfl, b2⟩
    clear q k0 k1
    have M := M.next hp hS hF (keeps_below b2)
    have B := B.trans (b2.mono B.size)
    have k0 := M.b0
    have k1 := M.b1
    have q := shared_w (hh.out.grow B) a cap ids sz (by omega) hn.out (hI.out.grow B)
    clear b2
    go_wp2_with fail
    refine q.mono ?_
    rintro e w3 ⟨rfl, b3⟩
    clear q k0 k1
    have M := M.next hp hS hF (keeps_below b3)
    have B := B.trans (b3.mono B.size)
    have A3 := hh.out.grow B
    clear b3
    go_upto_if 32 with fail
    go_cut [] (fun wx => ∃ ss1 fr1 ids1 a1 c1, OwnStep ss fr ids sz ss1 fr1 ids1 ∧ Ar wx p S F ss1 fr1 ∧ (need (sz + b.length) : Int) - (ids.length : Int) ≤ (fr1.length : Int) ∧ Mid w wx p S F w.heap.size (w.heap.size + 1) g8 (.slice a ids.length cap) (sz : Int) (.slice a1 ids.length c1) ids1 (sz : Int))
    case first =>
      cases hsh : isShared ss ids sz with
      | false =>
        have HR : Hid _ := M
        have room : (need (sz + b.length) : Int) - (ids.length : Int) ≤ (fr.length : Int) := by have := hzz2.out; rw [hsh] at this; simpa using this
        clear M
        go_wp2_with fail
        go_meet
        exact ⟨ss, fr, ids, a', c', .inl ⟨hsh, rfl, rfl, rfl⟩, A3, room, HR.out⟩
      | true =>
        have hs2 := hsh
        simp only [isShared, Bool.and_eq_true, decide_eq_true_eq] at hs2
        obtain ⟨m, hm, _⟩ := open_len hn.out hs2.1
        have hne : lastHolds ss ids ≠ 0 := by omega
        obtain ⟨i, s, e, hi, he⟩ := of_held ss _ hne
        have hmi := last_get ids m hm
        rw [e] at hmi
        have room : (need (sz + b.length) : Int) - (ids.length : Int) + 1 ≤ (fr.length : Int) := by have := hzz2.out; rw [hsh] at this; simpa using this
        have hfr : fr ≠ [] := by
          intro e; rw [e] at room; have := hn.out; unfold need at *; simp at room; omega
        obtain ⟨l, j, rfl⟩ : ∃ l j, fr = l ++ [j] := ⟨fr.dropLast, fr.getLast hfr, (List.dropLast_concat_getLast hfr).symm⟩
        obtain ⟨g, cur, rfl, hgw, hg, hcu⟩ : ∃ (g : Nat) (cur : List Value), a' = some ⟨g, 0, none⟩ ∧ w.heap.size ≤ g ∧ w3.heap[g]? = some (.cells cur.toArray 3 (0, 0)) ∧ cur[m]? = some (.int .i64 (i : Int)) := by
          rcases M.own.2 with ⟨e1, e2⟩ | ⟨g, cp, cur, e1, e2, e3, e4, e5, e6, e7⟩
          · omega
          · simp at e1
            refine ⟨g, cur.toList, e1.1, e2, by simpa using e3, ?_⟩
            have : (cur.toList.take (ids.length * 1))[m]? = (numCells ids)[m]? := by rw [e7]
            rw [Nat.mul_one, List.getElem?_take, if_pos (by omega)] at this
            rw [this]
            simp [numCells, hmi]
        have hq : s.holds = (s.holds - 2) + 2 := by unfold lastHolds at hs2 hne; omega
        have q := own_last A3 g c' m cur hg i hcu s hi (s.holds - 2) hq sz (by omega) (by have := hn.out; unfold need at this; omega) (by omega) (by omega) (by omega)
        have o0 := M.o0
        have o1 := M.o1
        rw [hm] at o0
        have HM : Hid _ := M
        have Hg : Hid _ := hg
        have Hn : Hid _ := hm
        have Hq : Hid _ := hq
        clear M hg hcu A3 hm hq he e
        go_wp2_with fail
        refine q.mono ?_
        rintro e w4 ⟨rfl, A4, G4, K4⟩
        clear q
        have M4 := Mid.own4 (by rw [← Hn.out]; exact HM.out) hp hS hF cur Hg.out (j : Int) Hn.out G4 K4
        rw [← Hn.out] at M4
        have room' : (need (sz + b.length) : Int) - (ids.length : Int) ≤ (l.length : Int) := by simp at room; omega
        clear G4 K4 o0 o1 HM Hg
        go_wp2_with fail
        go_meet
        exact ⟨_, l, _, _, c', .inr ⟨hsh, l, j, i, s, s.holds - 2, m, rfl, Hn.out, hmi, hi, Hq.out, rfl, rfl, rfl⟩, A4, room', M4⟩
    case rest =>
      obtain ⟨ss1, fr1, ids1, a1, c1, hOwn, A, room, M1⟩ := hcut
      have hOS : Hid _ := hOwn
      clear hOwn M A3
      have k0 := M1.b0
      have k1 := M1.b1
      have q := open_w a ids.length cap sz wc (by omega)
      go_wp2_with fail
      refine q.mono ?_
      rintro e w4 ⟨rfl, b4⟩
      clear q k0 k1
      have M1 := M1.next hp hS hF (keeps_below b4)
      have A := A.grow b4
      clear b4
      go_upto_if 37 with fail
      go_cut [2] (fun s2 wx => ∃ ss2 b2 ab2 cap2, OpenStep ss1 ids1 sz b ss2 b2 ∧ s2 = .slice ab2 b2.length cap2 ∧ b2.length ≤ cap2 ∧ cap2 ≤ capb ∧ b2.length ≤ b.length ∧ Src w ab2 b2 ∧ (0 < b2.length → ∀ ad, ab2 = some ad → ad.block ≠ p ∧ ad.block ≠ S ∧ ad.block ≠ F) ∧ Ar wx p S F ss2 fr1 ∧ need b2.length ≤ fr1.length ∧ Mid w wx p S F w.heap.size (w.heap.size + 1) g8 (.slice a ids.length cap) (sz : Int) (.slice a1 ids.length c1) ids1 ((sz : Int) + ((b.length - b2.length : Nat) : Int)))
      case first =>
        have HS := hsrc.out
        cases ho : isOpen sz with
        | false =>
          have HR : Hid _ := M1
          have rm : need b.length ≤ fr1.length := by
            have h1 := hn.out
            simp only [isOpen, decide_eq_false_iff_not] at ho
            unfold need at *; omega
          clear M1
          go_wp2_with fail
          go_meet
          exact ⟨ss1, b, ab, capb, .inl ⟨ho, rfl, rfl⟩, rfl, hbc, Nat.le_refl _, Nat.le_refl _, HS, hap.out, A, rm, by rw [Nat.sub_self]; simpa using HR.out⟩
        | true =>
          obtain ⟨i, m, s, hm1, hmi, hsi, hh1⟩ := own_held hOS.out hh.out.good ho (hzz3.out ho) hn.out
          have hlen1 := own_len hOS.out
          have hu0 : 0 < sz % 64 := by simpa [isOpen] using ho
          obtain ⟨g, cur, rfl, hgw, hg, hcu⟩ : ∃ (g : Nat) (cur : List Value), a1 = some ⟨g, 0, none⟩ ∧ w.heap.size ≤ g ∧ w4.heap[g]? = some (.cells cur.toArray 3 (0, 0)) ∧ cur[m]? = some (.int .i64 (i : Int)) := by
            rcases M1.own.2 with ⟨e1, e2⟩ | ⟨g, cp, cur, e1, e2, e3, e4, e5, e6, e7⟩
            · omega
            · simp at e1
              refine ⟨g, cur.toList, e1.1, e2, by simpa using e3, ?_⟩
              have : (cur.toList.take (ids1.length * 1))[m]? = (numCells ids1)[m]? := by rw [e7]
              rw [Nat.mul_one, List.getElem?_take, if_pos (by omega)] at this
              rw [this]
              simp [numCells, hmi]
          obtain ⟨u, hu⟩ : ∃ u : Nat, sz % 64 = u := ⟨_, rfl⟩
          have em : (sz : Int) % 64 = (u : Int) := by omega
          obtain ⟨n, hnn⟩ : ∃ n : Nat, min b.length (64 - u) = n := ⟨_, rfl⟩
          have hmin : min (b.length : Int) (64 - (u : Int)) = (n : Int) := by omega
          have hn1 : n ≤ b.length := by omega
          have hn2 : u + n ≤ 64 := by omega
          have htl : (b.take n).length = n := by rw [List.length_take]; omega
          have hw := write_yes A.drew i s hsi hh1 u ab (b.take n) capb (by omega) ((src_high (HS.keepsO M1.kp hap.out) n).moved (w' := w4.drew) fun _ _ => rfl)
          rw [htl] at hw
          have k1 := M1.b1
          have o0 := M1.o0
          have o1 := M1.o1
          have kg : w4.cell? ⟨g, m, none⟩ = some (.int .i64 (i : Int)) := by simp only [World.cell?, hg]; simpa using hcu
          rw [← hlen1, hm1] at o0
          have c1' : (0 : Int) ≤ (m : Int) := by omega
          have c2' : (m : Int) < (m : Int) + 1 := by omega
          have c3' : IntKind.i64.wrap ((m : Int) + 1 - 1) = m := by rw [IntKind.wrap_i64]; have := hn.out; unfold need at this; omega
          have c4' : IntKind.i64.wrap (m : Int) = m := by rw [IntKind.wrap_i64]; have := hn.out; unfold need at this; omega
          have r1 := fun W => run_high W ab b.length capb n (by omega)
          have r2 := fun W => run_low W ab b.length capb n hn1
          have HM : Hid _ := M1
          have HG : Hid _ := hg
          have HSI : Hid _ := hsi
          have HMI : Hid _ := hmi
          have HO : Hid _ := ho
          have HN1 : Hid _ := hm1
          have HL1 : Hid _ := hlen1
          have HMIN : Hid _ := hnn
          have HU : Hid _ := hu
          have HRM : Hid _ := room
          clear M1 hg hcu hsi hmi ho hm1 hlen1 hnn hu room htl
          have hcells : ∀ W, Keeps p S F w4 W → W.cell? ⟨g8, 0, none⟩ = some (.slice (some ⟨g, 0, none⟩) (m + 1) c1) ∧ W.cell? ⟨g, m, none⟩ = some (.int .i64 (i : Int)) := fun W hk => by
            have l1 := World.block_lt_of_cell? w4 _ o0
            have l2 := World.block_lt_of_cell? w4 _ kg
            have hg8 := HM.out.hg
            exact ⟨(World.cell?_of_block (a := ⟨g8, 0, none⟩) (hk.block _ l1 (by show g8 ≠ p; omega) (by show g8 ≠ S; omega) (by show g8 ≠ F; omega))).trans o0, (World.cell?_of_block (a := ⟨g, m, none⟩) (hk.block _ l2 (by show g ≠ p; omega) (by show g ≠ S; omega) (by show g ≠ F; omega))).trans kg⟩
          have HC : Hid _ := hcells
          clear hcells
          go_wp2_with fail
          · have hx : (64 : Int) - (u : Int) = (n : Int) := by omega
            rw [hx]
            go_region_held3 (fun W => Keeps p S F w4 W ∧ W.cell? ⟨g8, 0, none⟩ = some (.slice (some ⟨g, 0, none⟩) (m + 1) c1) ∧ W.cell? ⟨g, m, none⟩ = some (.int .i64 (i : Int))) (first | exact ⟨(Keeps.refl p S F w4).drew, o0, kg⟩ | assumption | go_keep) (first | (go_at_call 22; refine hw.mono ?_; rintro e w5 ⟨rfl, A5, K5⟩; have hk5 : Keeps p S F w4 w5 := (Keeps.refl p S F w4).drew.trans K5; have hs5 := And.intro hk5 (HC.out _ hk5)))
            clear hs5
            rename_i hHeld
            clear hHeld
            have M5 := HM.out.next hp hS hF hk5
            have o1 := M5.o1
            have fo := M5.fo 1
            have M6 := M5.setSize ((sz : Int) + (n : Int))
            have HS6 := src_low hsrc.out capb n hbc
            have hg8 := HM.out.hg
            have A6 := A5.moved (w' := w5.setCell ⟨g8, 1, none⟩ (.int .i64 ((sz : Int) + (n : Int)))) (Below.heap_setCell _ _ _ _ (by show p ≠ g8; omega)) (Below.heap_setCell _ _ _ _ (by show S ≠ g8; omega)) (Below.heap_setCell _ _ _ _ (by show F ≠ g8; omega))
            have HM6 : Hid _ := M6
            have HA6 : Hid _ := A6
            have HSS : Hid _ := HS6
            clear M5 M6 A5 A6 K5 hk5 HS6 hw HC k1 o0 kg HM
            go_wp2_with fail
            go_meet
            have rmm : need (b.drop n).length ≤ fr1.length := by
              rw [List.length_drop]
              have h1 := hn.out
              have h2 := HRM.out
              have h3 := HU.out
              have h4 := HMIN.out
              unfold need at *; omega
            have esz : ((b.length - (b.drop n).length : Nat) : Int) = (n : Int) := by rw [List.length_drop]; omega
            exact ⟨_, b.drop n, lowAt ab capb n, capb - n, .inr ⟨HO.out, i, m, s, HN1.out, HMI.out, HSI.out, hh1, by rw [HU.out, HMIN.out], by rw [HU.out, HMIN.out]⟩, by simp [List.length_drop], by rw [List.length_drop]; omega, by omega, by rw [List.length_drop]; omega, HSS.out, (fun h0 => lowAt_block (P := fun k => k ≠ p ∧ k ≠ S ∧ k ≠ F) (hap.out (by rw [List.length_drop] at h0; omega))), HA6.out, rmm, by rw [esz]; exact HM6.out⟩
          · obtain rfl : n = b.length := by omega
            go_region_held3 (fun W => Keeps p S F w4 W ∧ W.cell? ⟨g8, 0, none⟩ = some (.slice (some ⟨g, 0, none⟩) (m + 1) c1) ∧ W.cell? ⟨g, m, none⟩ = some (.int .i64 (i : Int))) (first | exact ⟨(Keeps.refl p S F w4).drew, o0, kg⟩ | assumption | go_keep) (first | (go_at_call 22; refine hw.mono ?_; rintro e w5 ⟨rfl, A5, K5⟩; have hk5 : Keeps p S F w4 w5 := (Keeps.refl p S F w4).drew.trans K5; have hs5 := And.intro hk5 (HC.out _ hk5)))
            clear hs5
            rename_i hHeld
            clear hHeld
            have M5 := HM.out.next hp hS hF hk5
            have o1 := M5.o1
            have fo := M5.fo 1
            have M6 := M5.setSize ((sz : Int) + (b.length : Int))
            have HS6 := src_low hsrc.out capb b.length hbc
            have hg8 := HM.out.hg
            have A6 := A5.moved (w' := w5.setCell ⟨g8, 1, none⟩ (.int .i64 ((sz : Int) + (b.length : Int)))) (Below.heap_setCell _ _ _ _ (by show p ≠ g8; omega)) (Below.heap_setCell _ _ _ _ (by show S ≠ g8; omega)) (Below.heap_setCell _ _ _ _ (by show F ≠ g8; omega))
            have HM6 : Hid _ := M6
            have HA6 : Hid _ := A6
            have HSS : Hid _ := HS6
            clear M5 M6 A5 A6 K5 hk5 HS6 hw HC k1 o0 kg HM
            go_wp2_with fail
            go_meet
            have rmm : need (b.drop b.length).length ≤ fr1.length := by
              rw [List.length_drop]
              have h1 := hn.out
              have h2 := HRM.out
              have h3 := HU.out
              have h4 := HMIN.out
              unfold need at *; omega
            have esz : ((b.length - (b.drop b.length).length : Nat) : Int) = (b.length : Int) := by rw [List.length_drop]; omega
            exact ⟨_, b.drop b.length, lowAt ab capb b.length, capb - b.length, .inr ⟨HO.out, i, m, s, HN1.out, HMI.out, HSI.out, hh1, by rw [HU.out, HMIN.out], by rw [HU.out, HMIN.out]⟩, by simp [List.length_drop], by rw [List.length_drop]; omega, by omega, by rw [List.length_drop]; omega, HSS.out, (fun h0 => lowAt_block (P := fun k => k ≠ p ∧ k ≠ S ∧ k ≠ F) (hap.out (by rw [List.length_drop] at h0; omega))), HA6.out, rmm, by rw [esz]; exact HM6.out⟩
      case rest =>
        obtain ⟨ss2, b2, ab2, cap2, hOp, rfl, hb2c, hc2, hbl, HS, hap2, A2, rm, M2⟩ := hcut
        have hOP : Hid _ := hOp
        have hlen1 := own_len hOS.out
        have hfr1 : fr1.length ≤ 16384 := by have := A2.good.le; have := A2.good.small; omega
        have hid1 : ids1.length ≤ 16384 := by have := hn.out; unfold need at this; omega
        have M2 : Mid w wc p S F w.heap.size (w.heap.size + 1) g8 (.slice a ids.length cap) (sz : Int) (.slice a1 ids1.length c1) ids1 ((sz : Int) + ((b.length - b2.length : Nat) : Int)) := by rw [hlen1]; exact M2
        clear hOp A M1
        obtain ⟨i0, hi0, hi1, hi2, hi3⟩ := i3
        go_wp2_with fail
        go_loopw [2] (fun s2 wr => ∃ (m : Nat) (ss' : List Slot) (fr' : List Nat) (ids' : List Int) (b' : List Int) (ab' : Option Addr) (cap' : Nat) (a' : Option Addr) (c' : Nat), s2 = .slice ab' b'.length cap' ∧ Hid (m = need b'.length) ∧ m ≤ fr'.length ∧ b'.length ≤ cap' ∧ cap' ≤ capb ∧ b'.length ≤ b.length ∧ Hid (Src w ab' b') ∧ Hid (0 < b'.length → ∀ ad, ab' = some ad → ad.block ≠ p ∧ ad.block ≠ S ∧ ad.block ≠ F) ∧ Ar wr p S F ss' fr' ∧ Hid (putAll (need b2.length) ss2 fr1 ids1 b2 = putAll m ss' fr' ids' b') ∧ ids'.length + m ≤ 32768 ∧ Mid w wr p S F w.heap.size (w.heap.size + 1) g8 (.slice a ids.length cap) (sz : Int) (.slice a' ids'.length c') ids' ((sz : Int) + ((b.length - b'.length : Nat) : Int))) (fun s2 _ => slen s2)
        case atStart => exact ⟨need b2.length, ss2, fr1, ids1, b2, ab2, cap2, a1, c1, rfl, rfl, rm, hb2c, hc2, hbl, HS, hap2, A2, rfl, by omega, M2⟩
        case round =>
          clear A2 M2 HS hap2
          obtain ⟨m, ss', fr', ids', b', ab', cap', a', c', rfl, hm, hmf, hbc', hcc', hbb', HS', hap', A', HP, hidb, M'⟩ := hrel
          by_cases hz : b'.length = 0
          · have o0 := M'.o0
            have o1 := M'.o1
            obtain ⟨x, y, hxy⟩ := M'.res
            have r0 : wr.cell? ⟨w.heap.size + 1, 0, none⟩ = some x := by simp [World.cell?, hxy]
            have r1 : wr.cell? ⟨w.heap.size + 1, 1, none⟩ = some y := by simp [World.cell?, hxy]
            have f0 := M'.fr 0
            have f1 := M'.fr 1
            have Ow2 : ∀ u t, Own ((wr.setCell ⟨w.heap.size + 1, 0, none⟩ u).setCell ⟨w.heap.size + 1, 1, none⟩ t) w.heap.size (.slice a' ids'.length c') ids' := fun u t => M'.own.moved fun g h1 h3 ht => by
              have hne : g ≠ w.heap.size + 1 := by rintro rfl; have := ht _ _ _ hxy; cases this
              rw [Below.heap_setCell _ _ _ _ hne, Below.heap_setCell _ _ _ _ hne]
            have K3 : ∀ u t, Keeps p S F w ((wr.setCell ⟨w.heap.size + 1, 0, none⟩ u).setCell ⟨w.heap.size + 1, 1, none⟩ t) := fun u t => keeps_new (keeps_new M'.kp (by show w.heap.size ≤ w.heap.size + 1; omega) _) (by show w.heap.size ≤ w.heap.size + 1; omega) _
            have A3 : ∀ u t, Ar ((wr.setCell ⟨w.heap.size + 1, 0, none⟩ u).setCell ⟨w.heap.size + 1, 1, none⟩ t) p S F ss' fr' := fun u t => by
              refine A'.moved ?_ ?_ ?_
              · rw [Below.heap_setCell _ _ _ _ (by show p ≠ w.heap.size + 1; omega), Below.heap_setCell _ _ _ _ (by show p ≠ w.heap.size + 1; omega)]
              · rw [Below.heap_setCell _ _ _ _ (by show S ≠ w.heap.size + 1; omega), Below.heap_setCell _ _ _ _ (by show S ≠ w.heap.size + 1; omega)]
              · rw [Below.heap_setCell _ _ _ _ (by show F ≠ w.heap.size + 1; omega), Below.heap_setCell _ _ _ _ (by show F ≠ w.heap.size + 1; omega)]
            have hld : ∀ u t, ((wr.setCell ⟨w.heap.size + 1, 0, none⟩ u).setCell ⟨w.heap.size + 1, 1, none⟩ t).heap[w.heap.size + 1]? = some (.cells #[u, t] 35 (0, 0)) := fun u t => by
              rw [setCell_eq_setRow wr _ 0 _ _ _ _ hxy, setCell_eq_setRow _ _ 1 _ _ _ _ (setRow_heap _ _ _ _ _ _ hxy), setRow_heap _ _ _ _ _ _ (setRow_heap _ _ _ _ _ _ hxy)]; simp
            have hP : putAll (need b2.length) ss2 fr1 ids1 b2 = (ss', fr', ids') := by
              have e0 : m = 0 := by have := hm.out; unfold need at this; omega
              rw [HP.out, e0]; rfl
            have hsz : (sz : Int) + ((b.length - b'.length : Nat) : Int) = (sz : Int) + (b.length : Int) := by omega
            rw [hsz] at o1
            have HPP : Hid _ := hP
            rw [hz]
            clear M' hxy A' hP hsz HP HS' hap' hm
            go_wp2
            exact bodyPost_ret (by rw [results_cell_tmp rfl]; simp [asAddr, run_loadVar_row _ _ _ 35 _ _ _ (hld _ _) Try.underlying35 rfl (by kernel_rfl)]) rfl ⟨a', c', ss1, fr1, ids1, ss2, b2, ids', ss', fr', hOS.out, hOP.out, HPP.out, rfl, Ow2 _ _, A3 _ _, K3 _ _⟩
          · have hm1 : 0 < m := by have := hm.out; unfold need at this; omega
            obtain ⟨k, rfl⟩ : ∃ k, m = k + 1 := ⟨m - 1, by omega⟩
            have hne : fr' ≠ [] := by rintro rfl; simp at hmf
            obtain ⟨l, j, rfl⟩ : ∃ l j, fr' = l ++ [j] := ⟨fr'.dropLast, fr'.getLast hne, (List.dropLast_concat_getLast hne).symm⟩
            have HP2 : Hid (putAll (need b2.length) ss2 fr1 ids1 b2 = putAll k (ss'.set j ⟨splice (zeros 64) 0 (b'.take 64), 1⟩) l (ids' ++ [(j : Int)]) (b'.drop 64)) := by
              show _ = _
              rw [HP.out, putAll]
              simp
            have hjl : j < ss'.length := A'.good.lt (by simp)
            have q1 := take_yes l j A'
            have hpos : 0 < (b'.length : Int) := by omega
            clear HP
            go_wp2_with fail
            · refine q1.mono ?_
              rintro e w5 ⟨rfl, A5, K5⟩
              clear q1
              have hnl : 64 ≤ b'.length := by omega
              have et : b'.take 64 = b'.take 64 := rfl
              have ed : b'.drop 64 = b'.drop 64 := rfl
              rw [et, ed] at HP2
              have hne2 : 0 < 64 := by omega
              have hn64 : 64 ≤ 64 := by omega
              have hkm : Hid (k = need (b'.drop 64).length) := by
                have h1 := hm.out
                show _ = _
                rw [← ed, List.length_drop]
                unfold need at *; omega
              clear et ed
              have M5 := M'.next hp hS hF K5
              have HS5 := (HS'.out).keepsO M5.kp hap'.out
              have r1 := fun W => run_high W ab' b'.length cap' 64 (by omega)
              have r2 := fun W => run_low W ab' b'.length cap' 64 hnl
              have htl : (b'.take 64).length = 64 := by rw [List.length_take]; omega
              have q2 := write_yes A5 j ⟨zeros 64, 1⟩ (by rw [set_get, if_pos ⟨rfl, hjl⟩]) (by simp) 0 ab' (b'.take 64) cap' (by omega) (src_high HS5 64)
              rw [htl, List.set_set] at q2
              have HM' : Hid _ := M5
              clear M' A' A5 K5 HS5 M5 htl
              go_wp2_with fail
              refine q2.mono ?_
              rintro e w6 ⟨rfl, A6, K6⟩
              clear q2
              have M6 := HM'.out.next hp hS hF K6
              have M7 := M6.next hp hS hF (keeps_below (below_box w6 (.cells #[.int .i64 (j : Int)] 3)))
              have o0 := M6.o0
              have hown : (w6.alloc (.cells #[.int .i64 (j : Int)] 3)).ownsRow w.heap.size 3 1 (.slice a' ids'.length c') ids'.length (numCells ids') := M7.own
              have hsz6 := M6.kp.size
              have HM7 : Hid _ := M7
              have HA6 : Hid _ := A6
              clear HM' K6 M6 M7 A6
              go_wp2_with (at_builtin; refine wpList_append_own _ rfl _ _ 33 rfl w.heap.size 3 i0 (.int .i64 0) 1 8 Try.underlying33 hi0 hi3 hi1 hi2 rfl (by decide) _ _ _ rfl hown ⟨w6.heap.size, 0, none⟩ 1 1 [.int .i64 (j : Int)] rfl rfl ?d1 ?d2 ?d3 ?d4 ?d5 ?_)
              case d1 =>
                intro q u hu
                cases q with
                | zero => simp at hu; subst hu; simp [Addr.add, World.cell?_alloc_new]
                | succ q => simp at hu
              case d2 => intro u hu; simp at hu; subst hu; rfl
              case d3 => unfold maxLen; omega
              case d4 => omega
              case d5 => simp; omega
              intro v' w8 hown' hgrow hh
              obtain ⟨g', cp, rfl⟩ : ∃ g' cp, v' = .slice (some ⟨g', 0, none⟩) (ids'.length + 1) cp := by
                rcases hown'.2 with ⟨_, e2⟩ | ⟨g', cp, cur, e1, _⟩
                · omega
                · exact ⟨g', cp, e1⟩
              have O8 : Own w8 w.heap.size (.slice (some ⟨g', 0, none⟩) (ids'.length + 1) cp) (ids' ++ [(j : Int)]) := by
                have := hown'
                unfold Own
                rw [List.length_append]
                simpa [numCells] using this
              have M8 := HM7.out.setIds _ _ w8 O8 hgrow
              have c8 := HM7.out.outAt w8 hgrow
              have x0 : w8.cell? ⟨g8, 0, none⟩ = some (.slice a' ids'.length c') := by simp [World.cell?, c8]
              have xf : w8.frozen? ⟨g8, 0, none⟩ = false := by simp [World.frozen?, c8]
              have hst := run_store33 w8 g8 0 _ (some ⟨g', 0, none⟩) (ids'.length + 1) cp x0 xf
              have low8 : ∀ q, q < w.heap.size → w8.heap[q]? = w6.heap[q]? := fun q hq => (HM7.out.lowAtBlock w8 hgrow q hq).trans (Below.heap_alloc _ _ _ (by omega))
              have o1 := M8.o1
              have fo := M8.fo 1
              have M9 := M8.setSize ((sz : Int) + ((b.length - b'.length : Nat) : Int) + 64)
              have hg8 := HM7.out.hg
              have A9 := HA6.out.moved (w' := ((w8.setCell ⟨g8, 0, none⟩ (.slice (some ⟨g', 0, none⟩) (ids'.length + 1) cp)).setCell ⟨g8, 1, none⟩ (.int .i64 ((sz : Int) + ((b.length - b'.length : Nat) : Int) + 64))))
                (by rw [Below.heap_setCell _ _ _ _ (by show p ≠ g8; omega), Below.heap_setCell _ _ _ _ (by show p ≠ g8; omega)]; exact low8 p hp)
                (by rw [Below.heap_setCell _ _ _ _ (by show S ≠ g8; omega), Below.heap_setCell _ _ _ _ (by show S ≠ g8; omega)]; exact low8 S hS)
                (by rw [Below.heap_setCell _ _ _ _ (by show F ≠ g8; omega), Below.heap_setCell _ _ _ _ (by show F ≠ g8; omega)]; exact low8 F hF)
              have esz : (sz : Int) + ((b.length - b'.length : Nat) : Int) + 64 = (sz : Int) + ((b.length - (b'.drop 64).length : Nat) : Int) := by rw [List.length_drop]; omega
              have eM : Hid (ids'.length + 1 = (ids' ++ [(j : Int)]).length) := by simp [Hid]
              have HM9 : Hid _ := M9
              have HA9 : Hid _ := A9
              have HE : Hid _ := esz
              clear hown hown' hgrow hh O8 M8 c8 low8 HM7 HA6 M9 A9 esz
              go_wp2
              go_roundw
              case rel => exact ⟨k, _, l, ids' ++ [(j : Int)], b'.drop 64, lowAt ab' cap' 64, cap' - 64, _, cp, by first | (simp [List.length_drop]; done) | (rw [List.length_drop]; unfold lowAt; rw [if_neg (by omega)]; rfl) | (rw [List.length_drop]; unfold lowAt; rw [if_neg (by omega)]; congr 1), hkm, by simp at hmf; omega, by rw [List.length_drop]; omega, by omega, by rw [List.length_drop]; omega, src_low HS'.out cap' 64 hbc', (fun h0 => lowAt_block (P := fun k => k ≠ p ∧ k ≠ S ∧ k ≠ F) (hap'.out (by rw [List.length_drop] at h0; omega))), HA9.out, HP2, by simp; omega, by rw [← HE.out, ← eM.out]; exact HM9.out⟩
              case measure => simp [slen]; omega
            · refine q1.mono ?_
              rintro e w5 ⟨rfl, A5, K5⟩
              clear q1
              have hnl : b'.length ≤ b'.length := Nat.le_refl _
              have et : b'.take 64 = b'.take b'.length := by rw [List.take_of_length_le (by omega), List.take_of_length_le (by omega)]
              have ed : b'.drop 64 = b'.drop b'.length := by rw [List.drop_of_length_le (by omega), List.drop_of_length_le (by omega)]
              rw [et, ed] at HP2
              have hne2 : 0 < b'.length := by omega
              have hn64 : b'.length ≤ 64 := by omega
              have hkm : Hid (k = need (b'.drop b'.length).length) := by
                have h1 := hm.out
                show _ = _
                rw [← ed, List.length_drop]
                unfold need at *; omega
              clear et ed
              have M5 := M'.next hp hS hF K5
              have HS5 := (HS'.out).keepsO M5.kp hap'.out
              have r1 := fun W => run_high W ab' b'.length cap' b'.length (by omega)
              have r2 := fun W => run_low W ab' b'.length cap' b'.length hnl
              have htl : (b'.take b'.length).length = b'.length := by rw [List.length_take]; omega
              have q2 := write_yes A5 j ⟨zeros 64, 1⟩ (by rw [set_get, if_pos ⟨rfl, hjl⟩]) (by simp) 0 ab' (b'.take b'.length) cap' (by omega) (src_high HS5 b'.length)
              rw [htl, List.set_set] at q2
              have HM' : Hid _ := M5
              clear M' A' A5 K5 HS5 M5 htl
              go_wp2_with fail
              refine q2.mono ?_
              rintro e w6 ⟨rfl, A6, K6⟩
              clear q2
              have M6 := HM'.out.next hp hS hF K6
              have M7 := M6.next hp hS hF (keeps_below (below_box w6 (.cells #[.int .i64 (j : Int)] 3)))
              have o0 := M6.o0
              have hown : (w6.alloc (.cells #[.int .i64 (j : Int)] 3)).ownsRow w.heap.size 3 1 (.slice a' ids'.length c') ids'.length (numCells ids') := M7.own
              have hsz6 := M6.kp.size
              have HM7 : Hid _ := M7
              have HA6 : Hid _ := A6
              clear HM' K6 M6 M7 A6
              go_wp2_with (at_builtin; refine wpList_append_own _ rfl _ _ 33 rfl w.heap.size 3 i0 (.int .i64 0) 1 8 Try.underlying33 hi0 hi3 hi1 hi2 rfl (by decide) _ _ _ rfl hown ⟨w6.heap.size, 0, none⟩ 1 1 [.int .i64 (j : Int)] rfl rfl ?d1 ?d2 ?d3 ?d4 ?d5 ?_)
              case d1 =>
                intro q u hu
                cases q with
                | zero => simp at hu; subst hu; simp [Addr.add, World.cell?_alloc_new]
                | succ q => simp at hu
              case d2 => intro u hu; simp at hu; subst hu; rfl
              case d3 => unfold maxLen; omega
              case d4 => omega
              case d5 => simp; omega
              intro v' w8 hown' hgrow hh
              obtain ⟨g', cp, rfl⟩ : ∃ g' cp, v' = .slice (some ⟨g', 0, none⟩) (ids'.length + 1) cp := by
                rcases hown'.2 with ⟨_, e2⟩ | ⟨g', cp, cur, e1, _⟩
                · omega
                · exact ⟨g', cp, e1⟩
              have O8 : Own w8 w.heap.size (.slice (some ⟨g', 0, none⟩) (ids'.length + 1) cp) (ids' ++ [(j : Int)]) := by
                have := hown'
                unfold Own
                rw [List.length_append]
                simpa [numCells] using this
              have M8 := HM7.out.setIds _ _ w8 O8 hgrow
              have c8 := HM7.out.outAt w8 hgrow
              have x0 : w8.cell? ⟨g8, 0, none⟩ = some (.slice a' ids'.length c') := by simp [World.cell?, c8]
              have xf : w8.frozen? ⟨g8, 0, none⟩ = false := by simp [World.frozen?, c8]
              have hst := run_store33 w8 g8 0 _ (some ⟨g', 0, none⟩) (ids'.length + 1) cp x0 xf
              have low8 : ∀ q, q < w.heap.size → w8.heap[q]? = w6.heap[q]? := fun q hq => (HM7.out.lowAtBlock w8 hgrow q hq).trans (Below.heap_alloc _ _ _ (by omega))
              have o1 := M8.o1
              have fo := M8.fo 1
              have M9 := M8.setSize ((sz : Int) + ((b.length - b'.length : Nat) : Int) + (b'.length : Int))
              have hg8 := HM7.out.hg
              have A9 := HA6.out.moved (w' := ((w8.setCell ⟨g8, 0, none⟩ (.slice (some ⟨g', 0, none⟩) (ids'.length + 1) cp)).setCell ⟨g8, 1, none⟩ (.int .i64 ((sz : Int) + ((b.length - b'.length : Nat) : Int) + (b'.length : Int)))))
                (by rw [Below.heap_setCell _ _ _ _ (by show p ≠ g8; omega), Below.heap_setCell _ _ _ _ (by show p ≠ g8; omega)]; exact low8 p hp)
                (by rw [Below.heap_setCell _ _ _ _ (by show S ≠ g8; omega), Below.heap_setCell _ _ _ _ (by show S ≠ g8; omega)]; exact low8 S hS)
                (by rw [Below.heap_setCell _ _ _ _ (by show F ≠ g8; omega), Below.heap_setCell _ _ _ _ (by show F ≠ g8; omega)]; exact low8 F hF)
              have esz : (sz : Int) + ((b.length - b'.length : Nat) : Int) + (b'.length : Int) = (sz : Int) + ((b.length - (b'.drop b'.length).length : Nat) : Int) := by rw [List.length_drop]; omega
              have eM : Hid (ids'.length + 1 = (ids' ++ [(j : Int)]).length) := by simp [Hid]
              have HM9 : Hid _ := M9
              have HA9 : Hid _ := A9
              have HE : Hid _ := esz
              clear hown hown' hgrow hh O8 M8 c8 low8 HM7 HA6 M9 A9 esz
              go_wp2
              go_roundw
              case rel => exact ⟨k, _, l, ids' ++ [(j : Int)], b'.drop b'.length, lowAt ab' cap' b'.length, cap' - b'.length, _, cp, by first | (simp [List.length_drop]; done) | (rw [List.length_drop]; unfold lowAt; rw [if_neg (by omega)]; rfl) | (rw [List.length_drop]; unfold lowAt; rw [if_neg (by omega)]; congr 1), hkm, by simp at hmf; omega, by rw [List.length_drop]; omega, by omega, by rw [List.length_drop]; omega, src_low HS'.out cap' b'.length hbc', (fun h0 => lowAt_block (P := fun k => k ≠ p ∧ k ≠ S ∧ k ≠ F) (hap'.out (by rw [List.length_drop] at h0; omega))), HA9.out, HP2, by simp; omega, by rw [← HE.out, ← eM.out]; exact HM9.out⟩
              case measure => simp [slen]; omega

end Go.Proofs.Ytpjfhfbjdcgbjab
