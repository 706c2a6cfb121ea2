/-
  The walk of PushStays.
-/
import Derived.Test.YtnmmaedngdibeaaGreatDoorRt
namespace Go.Proofs.YtnmmaedngdibeaaGreatDoor
open Go.RowKit
set_option linter.unusedVariables false
set_option linter.unusedSimpArgs false

/-- bytes as a text, whatever numbers they are -/
def sB (zs : List Int) : ByteArray := zs.foldl (fun r n => r.push (UInt8.ofNat n.toNat)) ByteArray.empty
theorem conv_any {w : World} {v : Value} {zs : List Int} (h : RIn .u8 w v zs) : (convert 22 9 v).run Tryz.prog w = .ok (.string (sB zs)) w := by
  rcases h with ⟨rfl, rfl⟩ | ⟨ad, c, rfl, _, _, h4⟩
  · rw [run_convert_bytes_string w 22 9 5 _ _ _ Tryz.underlying22 Tryz.underlying5 Tryz.underlying9]
    show _ = Result.ok (Value.string ByteArray.empty) w
    simp [Conv.bytesToString]
  · rw [run_convert_bytes_string w 22 9 5 _ _ _ Tryz.underlying22 Tryz.underlying5 Tryz.underlying9]
    have hl := run_loadCells_list (P := Tryz.prog) (w := w) ad (zs.map fun z => Value.int .u8 z) h4
    rw [List.length_map] at hl
    exact run_bytesToString (P := Tryz.prog) w ad zs.length c zs hl
theorem own_piece {W : World} {a : Option Addr} {c : Nat} {zs : List Int} (o : W.ownsRow 0 5 1 (.slice a zs.length c) zs.length (zs.map fun z => Value.int .u8 z)) (P : Nat → Prop) (hP : ∀ k, (Value.slice a zs.length c).ownBlock = some k → P k) :
    zs.length = 0 ∨ ∃ B o, a = some ⟨B, o, none⟩ ∧ B < W.heap.size ∧ Bs W B o zs ∧ zs.length ≤ c ∧ c ≤ 9223372036854775807 ∧ P B := by
  rcases id o.2 with ⟨e1, e2⟩ | ⟨G, cap, cur, e1, e2, e3, e4, e5, e6, e7⟩
  · exact .inl e2
  · cases e1
    refine .inr ⟨G, 0, rfl, lt_of_heap e3, fun j u hj => ?_, e4, by unfold maxLen at e5; exact e5, hP G rfl⟩
    rw [cells_map] at hj
    exact World.ownsRow.cells o (g := G) rfl j u hj
theorem feed_stop : ∀ (f : Nat) (s : PsR) (b : List Int), s.pt = 4 → Pu.feed fns0 f s b = (s, [])
  | 0, s, b, h => by simp [Pu.feed]
  | f + 1, s, b, h => by unfold Pu.feed; rw [if_pos (.inr h)]
theorem rin_piece {w : World} {ad : Option Addr} {c : Nat} {zs : List Int} (h : RIn .u8 w (.slice ad zs.length c) zs) (P : Nat → Prop) (hP : ∀ B, B < w.heap.size → P B) :
    zs.length = 0 ∨ ∃ B o, ad = some ⟨B, o, none⟩ ∧ B < w.heap.size ∧ Bs w B o zs ∧ zs.length ≤ c ∧ c ≤ 9223372036854775807 ∧ P B := by
  by_cases hz : zs = []
  · exact .inl (by rw [hz]; rfl)
  · obtain ⟨B, o, c', e, h2, h3, h4, h5⟩ := h.some hz
    cases e
    exact .inr ⟨B, o, rfl, h4, fun j u hj => by rw [add_at]; rw [cells_map] at hj; exact h5 j u hj, h2, h3, hP B h4⟩
/-- an error's kind and place -/
theorem code_err (er : Option (Int × Int)) (w : World) (hL : F.Laid w) : Calls Tryz.prog 18 #[errV er] w fun ev w' => ev = .returned (.int .i64 (match er with | none => 0 | some p => p.1)) ∧ Below w.heap.size w w' := by
  cases er with
  | none => exact F.code_any none 0 w hL
  | some p => exact F.code_any (some [p.2]) p.1 w hL
theorem place_err (er : Option (Int × Int)) (w : World) (hL : F.Laid w) : Calls Tryz.prog 19 #[errV er] w fun ev w' => ev = .returned (.int .i64 (match er with | none => -1 | some p => p.2)) ∧ Below w.heap.size w w' := by
  cases er with
  | none => exact F.place_any none 0 w hL
  | some p => exact F.place_any (some [p.2]) p.1 w hL

set_option maxRecDepth 100000 in
set_option maxHeartbeats 16000000 in
theorem stays_w (w : World) (vb vm : Value) (zs ms : List Int) (hb : RIn .u8 w vb zs) (hm : RIn .u8 w vm ms) (hA : H.AllB zs) (hA2 : H.AllB ms) (hL : Lb w) (hF : F.Laid w) :
    Calls Tryz.prog 5 #[vb, vm] w fun e w' => e = .returned (.bool true) ∧ Below w.heap.size w w' := by
  obtain ⟨PP, hPP⟩ : ∃ PP : Ending → World → Prop, PP = fun e w' => e = .returned (.bool true) ∧ Below w.heap.size w w' := ⟨_, rfl⟩
  rw [← hPP]
  have HP : Hid (∀ W, Below w.heap.size w W → PP (.returned (.bool true)) W) := fun W b => by rw [hPP]; exact ⟨rfl, b⟩
  clear hPP
  have q0 := reads_w w hL
  obtain ⟨ad0, c0, rfl⟩ := hb.sl
  obtain ⟨ad1, c1, rfl⟩ := hm.sl
  by_cases l0 : (20000 : Int) < (zs.length : Int)
  · clear hb hm hA hA2 hL hF
    go_enter Tryz.func5, Tryz.ntmps5
    go_wp2_with (go_at_call 10; refine q0.mono ?_; rintro e w1 ⟨rfl, b1⟩)
    exact HP.out _ b1
  by_cases l1 : (2000 : Int) < (ms.length : Int)
  · clear hb hm hA hA2 hL hF
    go_enter Tryz.func5, Tryz.ntmps5
    go_wp2_with (go_at_call 10; refine q0.mono ?_; rintro e w1 ⟨rfl, b1⟩)
    exact HP.out _ b1
  have HRB : Hid (∀ W, Below w.heap.size w W → RIn .u8 W (.slice ad0 zs.length c0) zs) := fun W b => hb.below b
  have HRM : Hid (∀ W, Below w.heap.size w W → RIn .u8 W (.slice ad1 ms.length c1) ms) := fun W b => hm.below b
  have HLB : Hid (∀ W, Below w.heap.size w W → Lb W) := fun W b => hL.below b
  have HLF : Hid (∀ W, Below w.heap.size w W → F.Laid W) := fun W b => hF.below b
  have HRW : Hid (RIn .u8 w (.slice ad1 ms.length c1) ms) := hm
  have h14 := hL.sz
  have HA : Hid (H.AllB zs) := hA
  have HA2 : Hid (H.AllB ms) := hA2
  clear hb hm hA hA2 hL hF
  go_enter Tryz.func5, Tryz.ntmps5
  go_upto_region 5 with (go_at_call 10; refine q0.mono ?_; rintro e w1 ⟨rfl, b1⟩)
  go_upto_region 6 with (go_at_call 13; refine (new_w w1).mono ?_; rintro e w2 ⟨rfl, pm2, b2, s2⟩)
  have hs1 := b1.size
  have HB2 : Hid (Below w.heap.size w w2) := b1.trans (b2.mono hs1)
  generalize w1.heap.size = g at *
  have HPM2 : Hid _ := pm2
  have E0 : Hid ((w2.alloc (.cells #[] 5)).ownsRow 0 5 1 (.slice (some ⟨w2.heap.size, 0, none⟩) 0 0) ([] : List Int).length (([] : List Int).map fun z => Value.int .u8 z)) := empty_own w2 5 .u8
  have bE : Below w2.heap.size w2 (w2.alloc (.cells #[] 5)) := (Below.refl _ w2).alloc (Nat.le_refl _) _
  have HBE : Hid _ := bE
  have HR1 : Hid (RIn .u8 (w2.alloc (.cells #[] 5)) (.slice ad0 zs.length c0) zs) := HRB.out _ (HB2.out.trans (bE.mono HB2.out.size))
  have HS2 : Hid (w2.heap.size = g + 1) := s2
  clear bE pm2 b2 b1 s2
  go_upto_region 7 with (at_builtin; refine wpList_append_u8s rfl _ _ rfl (xs := []) (ks := zs) _ rfl E0.out _ rfl HR1.out (by simp; omega) w2.heap.size (by simp) (fun k hk => by have hk' : some w2.heap.size = some k := hk; cases hk'; omega) ?_; intro v3 w3 o3 b3 n3; obtain ⟨a3, c3, rfl, _⟩ := own_sl o3; have HO3 : Hid (w3.ownsRow 0 5 1 (.slice a3 zs.length c3) zs.length (zs.map fun z => Value.int .u8 z)) := o3; have HB23 : Hid (Below w2.heap.size w2 w3) := HBE.out.trans b3; have HN3 : Hid (∀ k, (Value.slice a3 zs.length c3).ownBlock = some k → w2.heap.size ≤ k) := n3; clear o3 b3 n3)
  have HB3 : Hid (Below w.heap.size w w3) := HB2.out.trans (HB23.out.mono HB2.out.size)
  have pm3 := HPM2.out.grow HB23.out
  have hg3 : g < w2.heap.size := by have := HS2.out; omega
  have hmi : ∀ k, Mine g (.slice none 0 0) (.slice none 0 0) (.slice none 0 0) k → k = g := fun k hk => by
    rcases hk with h | h | h | h
    · exact h
    all_goals cases h
  have hmin : ∀ k, (Value.slice a3 zs.length c3).ownBlock = some k → ¬ Mine g (.slice none 0 0) (.slice none 0 0) (.slice none 0 0) k := fun k hk hm => by
    have := HN3.out k hk
    have := hmi k hm
    omega
  have qf := feedp_w pm3 (rok_new fall0) (.inl (by show (512 : Nat) ≠ 0; omega)) (HLB.out w3 HB3.out) (fun k hk => by have := hmi k hk; omega) a3 c3 zs.length zs rfl HA.out (own_piece HO3.out _ hmin) (by omega) (by show 0 + zs.length ≤ _; omega)
  have HFA : Hid _ := feed_all fall0 zs.length (Pu.new fns0) zs (.inl (by show (512 : Nat) ≠ 0; omega)) (rok_new fall0) HA.out
  have HFO : Hid _ := feed_over zs
  have HFD : Hid (∀ (b : List Int) (p : Nat), (.dat b p : EvE) ∈ (Pu.feed fns0 zs.length (Pu.new fns0) zs).2 → b.length ≤ 1000000) := fun b p h => by have := (feed_dat _ _ _ HA.out h).2; omega
  generalize Pu.feed fns0 zs.length (Pu.new fns0) zs = R at *
  have HQF : Hid _ := qf
  clear qf pm3 hmin E0 HBE HR1 HPM2
  go_upto_region 8 with (go_at_call 14; refine Calls.mono HQF.out ?_; rintro e w4 ⟨v4, L, rfl, hO, hmE⟩)
  obtain ⟨kv, gv, lv, on⟩ := hO.on
  obtain ⟨ta, tc, rfl, _, _, _⟩ := own_sl on.evs
  have HON : Hid (On w3 w4 g (.slice none 0 0) (.slice none 0 0) (.slice none 0 0) kv gv lv R.1 (.slice ta L.length tc) L) := on
  have HME : Hid (L.map (·.1) = R.2) := hmE
  have hLl : L.length ≤ 100000 := by
    have h1 := HFA.out.1
    have h2 : L.length = R.2.length := by rw [← hmE, List.length_map]
    have h3 : (zs.length : Int) ≤ 20000 := by omega
    omega
  have h34 := on.mv.size
  have hmine3 : ∀ k, (Value.slice a3 zs.length c3).ownBlock = some k → k < w3.heap.size ∧ w2.heap.size ≤ k ∧ k ≠ g := fun k hk => ⟨(own_lt HO3.out hk).1, HN3.out k hk, by have := HN3.out k hk; omega⟩
  have HM3 : Hid _ := hmine3
  have hO4 : w4.ownsRow 0 5 1 (.slice a3 zs.length c3) zs.length ((xorL zs 0).map fun z => Value.int .u8 z) := by
    rw [xorL_zero]
    exact own_moved HO3.out fun k hk => on.mv.block k (hmine3 k hk).1 (fun hm => (hmine3 k hk).2.2 (hmi k hm))
  have HO4 : Hid _ := hO4
  have HMV0 : Hid (Mv (fun k => (Value.slice a3 zs.length c3).ownBlock = some k) w4 w4) := Mv.refl _ _
  have HMI : Hid (∀ k, Mine g kv gv lv k → k = g ∨ w3.heap.size ≤ k) := fun k hk => by
    rcases on.mine k hk with h | h
    · exact .inl (hmi k h)
    · exact .inr h
  have HB4 : Hid (Below w.heap.size w w4) := HB3.out.trans (on.mv.below HB3.out.size (fun k hk => by have := hmi k hk; omega))
  have HG : Hid (w.heap.size ≤ g ∧ g < w2.heap.size ∧ w2.heap.size ≤ w3.heap.size) := ⟨hs1, hg3, HB23.out.size⟩
  clear hO on hmE hO4 hmine3 hmi HQF HO3 HB23 HB2 HS2 hg3 hs1
  go_wp2_with fail
  go_loopg [35] zs.length (fun gk t35 W => ∃ (Wn : World) (i : Nat), Wn = W ∧ i ≤ zs.length ∧ zs.length - i ≤ gk ∧ t35 = .int .i64 (i : Int) ∧ Hid (W.ownsRow 0 5 1 (.slice a3 zs.length c3) zs.length ((xorL zs i).map fun z => Value.int .u8 z)) ∧ Hid (Mv (fun k => (Value.slice a3 zs.length c3).ownBlock = some k) w4 W))
  case atStart => exact ⟨_, 0, rfl, Nat.zero_le _, by omega, rfl, HO4, HMV0⟩
  case round =>
    obtain ⟨w5, i, rfl, hi0, hgk, rfl, hO, hMv⟩ := hrel
    clear HO4 HMV0
    by_cases hlt : i < zs.length
    · have hlt1 : (i : Int) < (zs.length : Int) := by omega
      obtain ⟨G, rfl, hG, hcell, hfz⟩ := own_at hO.out hlt
      have HT : Hid _ := own_turn hO.out hlt
      have HMT : Hid (Mv (fun k => (Value.slice (some ⟨G, 0, none⟩) zs.length c3).ownBlock = some k) w4 (w5.setCell ⟨G, i, none⟩ (.int .u8 (fx zs[i])))) := by
        have m := hMv.out
        refine ⟨m.os, m.tape, m.output, by simpa [World.setCell] using m.size, fun k hk hn => ?_⟩
        have hkG : k ≠ G := fun e => hn (by rw [e]; rfl)
        rw [← m.block k hk hn]
        simp [World.setCell, Array.getElem?_modify, Ne.symm hkG]
      unfold fx at HT HMT
      generalize zs[i] = zi at *
      clear HP hO hMv HRB HRM HLB HLF HFA HFO HFD HON HME HMI HB4 HB3 HN3 HM3
      go_wp2_with fail
      go_roundg (zs.length - (i + 1))
      case rel => exact ⟨_, i + 1, rfl, by omega, Nat.le_refl _, by simp, HT, HMT⟩
      case measure => omega
    · have hie : i = zs.length := by omega
      subst hie
      obtain ⟨D, hDD⟩ : ∃ D : Nat → Prop, D = fun k => w3.heap.size ≤ k ∧ ¬ Mine g kv gv lv k ∧ (Value.slice ta L.length tc).ownBlock ≠ some k := ⟨_, rfl⟩
      have hvb : ∀ k, (Value.slice ta L.length tc).ownBlock = some k → k < w4.heap.size ∧ w3.heap.size ≤ k ∧ ¬ Mine g kv gv lv k := fun k hk => ⟨(own_lt HON.out.evs hk).1, (HON.out.blk k hk).1, (HON.out.blk k hk).2⟩
      have hw5 : ∀ k, k < w4.heap.size → w3.heap.size ≤ k → w5.heap[k]? = w4.heap[k]? := fun k hk hk3 => hMv.out.block k hk (fun e => by have := (HM3.out k e).1; omega)
      have hE5 : EvS w5 (.slice ta L.length tc) L := own_moved HON.out.evs fun k hk => hw5 k (hvb k hk).1 (hvb k hk).2.1
      have hDk4 : Dk w4 D L := Dk.start HON.out.evs HON.out.dat (fun b p h => HFD.out b p (by rw [← HME.out]; exact h)) (fun G h1 h2 h3 h4 => by rw [hDD]; exact ⟨h1, h3, h4⟩)
      have hpm5 : Pm w5 g R.1 kv gv lv := HON.out.pm.moved fun k hk => by
        rcases HMI.out k hk with h | h
        · subst h
          exact hMv.out.block k (HON.out.pm.mine hk) (fun e => (HM3.out k e).2.2 rfl)
        · exact hw5 k (HON.out.pm.mine hk) h
      have hDk5 : Dk w5 D L := fun x hx => by
        obtain ⟨ad, n, c, e1, e2, e3⟩ := hDk4 x hx
        refine ⟨ad, n, c, e1, e2, e3.imp id fun ⟨G, cs, ty, g1, g2, g3, g4⟩ => ⟨G, cs, ty, g1, g2, (hw5 G (lt_of_heap g3) ?_).trans g3, g4⟩⟩
        rw [hDD] at g2
        exact g2.1
      have HM5 : Hid (Mv D w5 w5) := Mv.refl _ _
      have HD5 : Hid (Dk w5 D L) := hDk5
      have HE5 : Hid (EvS w5 (.slice ta L.length tc) L) := hE5
      have HPM5 : Hid _ := hpm5
      have HO5 : Hid _ := hO.out
      have HDD : Hid (∀ k, D k → w3.heap.size ≤ k ∧ ¬ Mine g kv gv lv k ∧ (Value.slice ta L.length tc).ownBlock ≠ some k) := fun k hk => by rw [hDD] at hk; exact hk
      have HB5 : Hid (Below w.heap.size w w5) := HB4.out.trans (hMv.out.below HB4.out.size (fun k hk => by have := (HM3.out k hk).2.1; have := HG.out; omega))
      have h35 : w3.heap.size ≤ w5.heap.size := by have := hMv.out.size; omega
      have HSZ : Hid (w3.heap.size ≤ w5.heap.size) := h35
      clear hDD hE5 hDk4 hDk5 hpm5 hw5 hvb hMv hO HON HB4 HB3
      go_wp2_with fail
      go_loopg [47] L.length (fun gk t47 W => ∃ (Wn : World) (i : Nat), Wn = W ∧ i ≤ L.length ∧ L.length - i ≤ gk ∧ t47 = .int .i64 (i : Int) ∧ Hid (Mv D w5 W) ∧ Hid (Dk W D L))
      case atStart => exact ⟨_, 0, rfl, Nat.zero_le _, by omega, rfl, HM5, HD5⟩
      case round =>
        obtain ⟨W, i, rfl, hi0, hgk, rfl, hM, hDk⟩ := hrel
        clear HM5 HD5
        by_cases hlt : i < L.length
        · have hlt1 : (i : Int) < (L.length : Int) := by omega
          have hE := HE5.out
          rcases id hE.2 with ⟨e1, e2⟩ | ⟨GE, cap, cur, e1, e2, e3, e4, e5, e6, e7⟩
          · omega
          cases e1
          have hGD : ¬ D GE := fun h => (HDD.out GE h).2.2 rfl
          clear e2 e3 e4 e5 e6 e7 HP HRB HRM HLB HLF HFA HFO HFD HME HB5 HPM5 HO5 HDD HMI
          refine wp_seq_k (fun KA hKA => ?_)
          have HKA : Hid _ := hKA
          clear hKA
          go_wp2_with fail
          refine HKA.out _ _ ?_
          clear HKA KA
          refine wp_seq_k (fun KB hKB => ?_)
          have HKB : Hid _ := hKB
          clear hKB
          go_wp2_with fail
          refine HKB.out _ _ ?_
          clear HKB KB
          refine wp_seq_k (fun KC hKC => ?_)
          have HKC : Hid _ := hKC
          clear hKC
          refine inner_w w5 W D L GE tc i hlt (by omega) hE hGD hM.out hDk.out _ _ _ _ _ _ _ _ _ _ _ _ _ _ _ _ _ _ _ _ _ _ _ _ _ _ _ _ _ _ _ _ _ _ _ _ _ _ _ _ _ _ _ _ _ _ _ _ _ _ _ _ _ _ _ _ _ _ _ _ _ _ _ _ _ _ _ _ _ _ _ _ _ _ _ _ _ _ _ _ _ _ _ _ _ _ _ _ _ _ _ _ _ _ _ _ _ _ _ _ _ _ _ _ _ _ _ _ _ _ _ _ _ _ _ _ _ _ _ _ _ _ _ _ _ _ _ _ _ _ ?_
          intro r9 r10 r49 r50 r51 r52 r53 r54 r55 r56 r57 r58 r59 r60 r61 r62 r63 r64 r65 r66 r67 r68 r69 W2 hM2 hD2
          show KC _ _
          have HM2 : Hid _ := hM2
          have HD2 : Hid _ := hD2
          clear hM2 hD2 hM hDk hE
          refine HKC.out _ _ ?_
          clear HKC KC
          go_wp2_with fail
          go_roundg (L.length - (i + 1))
          case rel => exact ⟨_, i + 1, rfl, by omega, Nat.le_refl _, by simp, HM2, HD2⟩
          case measure => omega
        · have hie : i = L.length := by omega
          subst hie
          have hpm6 : Pm W g R.1 kv gv lv := HPM5.out.moved fun k hk => hM.out.block k (HPM5.out.mine hk) (fun h => (HDD.out k h).2.1 hk)
          have hO6 : W.ownsRow 0 5 1 (.slice a3 zs.length c3) zs.length ((zs.map fx).map fun z => Value.int .u8 z) := by
            have := own_moved HO5.out fun k hk => hM.out.block k (own_lt HO5.out hk).1 (fun h => by have := (HDD.out k h).1; have := (HM3.out k hk).1; omega)
            rw [xorL_all] at this
            exact this
          have hE6 : EvS W (.slice ta L.length tc) L := own_moved HE5.out fun k hk => hM.out.block k (own_lt HE5.out hk).1 (fun h => (HDD.out k h).2.2 hk)
          have hB6 : Below w.heap.size w W := HB5.out.trans (hM.out.below HB5.out.size (fun k hk => by have := (HDD.out k hk).1; have := HG.out; omega))
          have hlm : (zs.map fx).length = zs.length := List.length_map _
          have hR6 : RIn .u8 W (.slice a3 zs.length c3) (zs.map fx) := own_rin (e := 5) (by rw [hlm]; exact hO6)
          have HCM : Hid (∀ W', Below W.heap.size W W' → (convert 22 9 (.slice a3 zs.length c3)).run Tryz.prog W' = .ok (.string (sB (zs.map fx))) W') := fun W' b => conv_any (hR6.below b)
          have HFL : Hid (∀ W', Below W.heap.size W W' → Calls Tryz.prog 15 #[.slice ad0 zs.length c0] W' fun e w' => ∃ a c, e = .returned (.slice a zs.length c) ∧ RIn .u8 w' (.slice a zs.length c) (zs.map fx) ∧ Below W'.heap.size W' w') := fun W' b => flip_w W' _ zs (HRB.out W' (hB6.trans (b.mono hB6.size))) (by omega)
          have HAT : Hid (∀ W', Below W.heap.size W W' → Calls Tryz.prog 16 #[.pointer (some ⟨g, 0, none⟩)] W' fun e w' => e = .returned (.int .i64 (R.1.rd : Int)) ∧ w' = W') := fun W' b => at_w (hpm6.grow b)
          have hrd : ¬ (zs.length : Int) < (R.1.rd : Int) := by have h1 := HFA.out.2.1; have h2 : (Pu.new fns0 : PsR).rd = 0 := rfl; omega
          have HMG : Hid (∀ k, Mine g kv gv lv k → w.heap.size ≤ k) := fun k hk => by
            have hh := HG.out
            rcases HMI.out k hk with h | h <;> omega
          have hcm := HCM.out
          have HPM6 : Hid (Pm W g R.1 kv gv lv) := hpm6
          have HE6 : Hid (EvS W (.slice ta L.length tc) L) := hE6
          have HB6 : Hid (Below w.heap.size w W) := hB6
          have HSX : Hid (∀ (w9 : World) (a9 : Option Addr) (c9 : Nat), RIn .u8 w9 (.slice a9 zs.length c9) (zs.map fx) → (convert 22 9 (.slice a9 zs.length c9)).run Tryz.prog w9 = .ok (.string (sB (zs.map fx))) w9) := fun w9 a9 c9 r => conv_any r
          generalize sB (zs.map fx) = sx at *
          have hb0 : Below W.heap.size W W.drew := ⟨rfl, rfl, rfl, Nat.le_refl _, fun _ _ => rfl⟩
          clear hpm6 hO6 hE6 hB6 hR6 hlm hM hDk HO5 HPM5 HE5 HB5 HRB HDD HMI
          go_upto_region 22 with fail
          refine wp_region_held_drew (S := (fun W' : World => Below W.heap.size W W')) (by kernel_rfl) hb0 (fun hHeld => ?_)
          refine wpAnyH_take (i := 0) (oi := { dst := some 71, op := Op.move (Operand.tmp 6), type := 22, pos := "law.go:164", after := #[], guard := none }) (v := ?_) rfl (by kernel_rfl) (by kernel_rfl) (by kernel_rfl) (fun _ _ _ h => h) (Or.inl ⟨by rfl, ?_⟩) (by assumption) ?_
          rotate_left 1
          · (intro W hSw; go_simp; try with_reducible rfl)
          (try simp only [Act.put, List.setIfInBounds_toArray, List.set_cons_zero, List.set_cons_succ])
          refine wpAnyH_take (i := 1) (oi := { dst := some 72, op := Op.convert 22 9 (Operand.tmp 71), type := 9, pos := "law.go:164", after := #[{ on := 0, ground := Ground.data }], guard := none }) (v := ?_) rfl (by kernel_rfl) (by kernel_rfl) (by kernel_rfl) (fun _ _ _ h => h) (Or.inl ⟨by rfl, ?_⟩) (by assumption) ?_
          rotate_left 1
          · (intro W hSw; go_simp; try with_reducible rfl)
          (try simp only [Act.put, List.setIfInBounds_toArray, List.set_cons_zero, List.set_cons_succ])
          refine wpAnyH_take (i := 2) (oi := { dst := some 73, op := Op.move (Operand.tmp 0), type := 22, pos := "law.go:164", after := #[], guard := none }) (v := ?_) rfl (by kernel_rfl) (by kernel_rfl) (by kernel_rfl) (fun _ _ _ h => h) (Or.inl ⟨by rfl, ?_⟩) (by assumption) ?_
          rotate_left 1
          · (intro W hSw; go_simp; try with_reducible rfl)
          (try simp only [Act.put, List.setIfInBounds_toArray, List.set_cons_zero, List.set_cons_succ])
          refine wpAnyH_ready (rs := [3]) (by kernel_rfl) (by simp) ?_
          refine AllReadyH.cons (o := { dst := some 74, op := Op.call { callee := Callee.value (Operand.func 15), args := #[Operand.tmp 73], argTypes := #[22] }, type := 22, pos := "law.go:164", after := #[{ on := 2, ground := Ground.data }], guard := none }) rfl (fun K hK => ?_) AllReadyH.nil
          · go_simp
            refine (HFL.out _ (by assumption)).mono ?_
            rintro ev w9 ⟨a9, c9, rfl, r9, b9⟩
            have hb9 : Below W.heap.size W w9 := hb0.trans (b9.mono hb0.size)
            have hc9 : (convert 22 9 (.slice a9 zs.length c9)).run Tryz.prog w9 = .ok (.string sx) w9 := HSX.out _ _ _ r9
            refine hK.out _ _ hb9 (fun hHeld => ?_)
            clear hK K
            (try simp only [Act.put, List.setIfInBounds_toArray, List.set_cons_zero, List.set_cons_succ])
            refine wpAnyH_ready (rs := [4]) (by kernel_rfl) (by simp) ?_
            refine AllReadyH.cons (o := { dst := some 75, op := Op.convert 22 9 (Operand.tmp 74), type := 9, pos := "law.go:164", after := #[{ on := 3, ground := Ground.data }], guard := none }) rfl (fun K hK => ?_) AllReadyH.nil
            · go_simp
              refine hK.out _ _ hb9 (fun hHeld => ?_)
              clear hK K
              (try simp only [Act.put, List.setIfInBounds_toArray, List.set_cons_zero, List.set_cons_succ])
              refine wpAnyH_take (i := 5) (oi := { dst := some 76, op := Op.binOp BinOp.neq 9 (Operand.tmp 72) (Operand.tmp 75) 9, type := 4, pos := "law.go:164", after := #[{ on := 1, ground := Ground.data }, { on := 4, ground := Ground.data }], guard := none }) (v := ?_) rfl (by kernel_rfl) (by kernel_rfl) (by kernel_rfl) (fun _ _ _ h => h) (Or.inl ⟨by rfl, ?_⟩) (by assumption) ?_
              rotate_left 1
              · (intro W hSw; go_simp; try with_reducible rfl)
              (try simp only [Act.put, List.setIfInBounds_toArray, List.set_cons_zero, List.set_cons_succ])
              refine wpAnyH_take (i := 6) (oi := { dst := some 77, op := Op.move (Operand.tmp 76), type := 4, pos := "law.go:164", after := #[{ on := 5, ground := Ground.data }, { on := 3, ground := Ground.chain }], guard := none }) (v := ?_) rfl (by kernel_rfl) (by kernel_rfl) (by kernel_rfl) (fun _ _ _ h => h) (Or.inl ⟨by rfl, ?_⟩) (by assumption) ?_
              rotate_left 1
              · (intro W hSw; go_simp; try with_reducible rfl)
              (try simp only [Act.put, List.setIfInBounds_toArray, List.set_cons_zero, List.set_cons_succ])
              refine wpAnyH_take (i := 7) (oi := { dst := some 78, op := Op.move (Operand.tmp 5), type := 37, pos := "law.go:164", after := #[{ on := 6, ground := Ground.guard }], guard := some (6, false) }) (v := ?_) rfl (by kernel_rfl) (by kernel_rfl) (by kernel_rfl) (fun _ _ _ h => h) (Or.inl ⟨by rfl, ?_⟩) (by assumption) ?_
              rotate_left 1
              · (intro W hSw; go_simp; try with_reducible rfl)
              (try simp only [Act.put, List.setIfInBounds_toArray, List.set_cons_zero, List.set_cons_succ])
              refine wpAnyH_take (i := 9) (oi := { dst := some 80, op := Op.move (Operand.tmp 0), type := 22, pos := "law.go:164", after := #[{ on := 6, ground := Ground.guard }], guard := some (6, false) }) (v := ?_) rfl (by kernel_rfl) (by kernel_rfl) (by kernel_rfl) (fun _ _ _ h => h) (Or.inl ⟨by rfl, ?_⟩) (by assumption) ?_
              rotate_left 1
              · (intro W hSw; go_simp; try with_reducible rfl)
              (try simp only [Act.put, List.setIfInBounds_toArray, List.set_cons_zero, List.set_cons_succ])
              refine wpAnyH_take (i := 10) (oi := { dst := some 81, op := Op.call { callee := Callee.builtin Builtin.len, args := #[Operand.tmp 80], argTypes := #[22] }, type := 3, pos := "law.go:164", after := #[{ on := 9, ground := Ground.data }, { on := 6, ground := Ground.guard }], guard := some (6, false) }) (v := ?_) rfl (by kernel_rfl) (by kernel_rfl) (by kernel_rfl) (fun _ _ _ h => h) (Or.inl ⟨by rfl, ?_⟩) (by assumption) ?_
              rotate_left 1
              · (intro W hSw; go_simp; try with_reducible rfl)
              (try simp only [Act.put, List.setIfInBounds_toArray, List.set_cons_zero, List.set_cons_succ])
              refine wpAnyH_ready (rs := [8]) (by kernel_rfl) (by simp) ?_
              refine AllReadyH.cons (o := { dst := some 79, op := Op.call { callee := Callee.value (Operand.func 16), args := #[Operand.tmp 78], argTypes := #[37] }, type := 3, pos := "law.go:164", after := #[{ on := 7, ground := Ground.data }, { on := 6, ground := Ground.chain }, { on := 6, ground := Ground.guard }], guard := some (6, false) }) rfl (fun K hK => ?_) AllReadyH.nil
              · go_simp
                refine (HAT.out _ hb9).mono ?_
                rintro ev wA ⟨rfl, hwA⟩
                have hwA2 : w9 = wA := hwA.symm
                subst hwA2
                refine hK.out _ _ hb9 (fun hHeld => ?_)
                clear hK K
                (try simp only [Act.put, List.setIfInBounds_toArray, List.set_cons_zero, List.set_cons_succ])
                refine wpAnyH_take (i := 11) (oi := { dst := some 82, op := Op.binOp BinOp.gtr 3 (Operand.tmp 79) (Operand.tmp 81) 3, type := 4, pos := "law.go:164", after := #[{ on := 8, ground := Ground.data }, { on := 10, ground := Ground.data }, { on := 6, ground := Ground.guard }], guard := some (6, false) }) (v := ?_) rfl (by kernel_rfl) (by kernel_rfl) (by kernel_rfl) (fun _ _ _ h => h) (Or.inl ⟨by rfl, ?_⟩) (by assumption) ?_
                rotate_left 1
                · (intro W hSw; go_simp; try with_reducible rfl)
                (try simp only [Act.put, List.setIfInBounds_toArray, List.set_cons_zero, List.set_cons_succ])
                refine wpAnyH_take (i := 12) (oi := { dst := some 83, op := Op.pick (Operand.tmp 77) (Operand.const (Value.bool true)) (Operand.tmp 82), type := 4, pos := "law.go:164", after := #[{ on := 6, ground := Ground.data }, { on := 11, ground := Ground.data }], guard := none }) (v := ?_) rfl (by kernel_rfl) (by kernel_rfl) (by kernel_rfl) (fun _ _ _ h => h) (Or.inl ⟨by rfl, ?_⟩) (by assumption) ?_
                rotate_left 1
                · (intro W hSw; go_simp; try with_reducible rfl)
                (try simp only [Act.put, List.setIfInBounds_toArray, List.set_cons_zero, List.set_cons_succ])
                refine wpAnyH_done (by kernel_rfl) ?_ _
                go_upto_region 24 with fail
                have hs9 := hb9.size
                have HPM9 : Hid (Pm w9 g R.1 kv gv lv) := HPM6.out.grow hb9
                have HB9 : Hid (Below w.heap.size w w9) := HB6.out.trans (hb9.mono HB6.out.size)
                have HE9 : Hid (EvS w9 (.slice ta L.length tc) L) := own_moved HE6.out fun k hk => hb9.block k (own_lt HE6.out hk).1
                have hpz : ms.length = 0 ∨ ∃ B o, ad1 = some ⟨B, o, none⟩ ∧ B < w9.heap.size ∧ Bs w9 B o ms ∧ ms.length ≤ c1 ∧ c1 ≤ 9223372036854775807 ∧ ¬ Mine g kv gv lv B := (rin_piece HRW.out (fun B => B < w.heap.size) (fun B h => h)).imp id fun ⟨B, o, e1, e2, e3, e4, e5, e6⟩ => ⟨B, o, e1, Nat.lt_of_lt_of_le e2 HB9.out.size, e3.moved (HB9.out.block B e2), e4, e5, fun hm => by have := HMG.out B hm; omega⟩
                have qm := feedp_w HPM9.out HFA.out.2.2.1 HFA.out.2.2.2 (HLB.out w9 HB9.out) (fun k hk => by have := HMG.out k hk; omega) ad1 c1 ms.length ms rfl HA2.out hpz (by omega) (by have := HFA.out.2.1; have h2 : (Pu.new fns0 : PsR).rd = 0 := rfl; omega)
                have HQM : Hid _ := qm
                have HEN9 : Hid _ := end_w HPM9.out
                have HAT9 : Hid _ := at_w HPM9.out
                have HFIN : Hid (∀ w10, Mv (Mine g kv gv lv) w9 w10 → Below w.heap.size w w10) := fun w10 m => HB9.out.trans (m.below HB9.out.size HMG.out)
                clear qm hpz HFL HAT HSX HCM hcm hc9 hb0 HE6 HPM6 HB6 hb9 r9 b9
                by_cases hl0 : L.length = 0
                · clear HE9 HFO
                  go_wp2_with (first | (go_at_call 17; refine Calls.mono HEN9.out ?_; rintro e wE ⟨rfl, hwE⟩; have hwE2 : w9 = wE := hwE.symm; subst hwE2) | (go_at_call 16; refine Calls.mono HAT9.out ?_; rintro e wE ⟨rfl, hwE⟩; have hwE2 : w9 = wE := hwE.symm; subst hwE2) | (go_at_call 14; refine Calls.mono HQM.out ?_; rintro e w10 ⟨v10, L2, rfl, hO2, hmE2⟩; obtain ⟨kv2, gv2, lv2, on2⟩ := hO2.on; obtain ⟨tb, td, rfl, _, _, _⟩ := own_sl on2.evs; have HON2 : Hid (On w9 w10 g kv gv lv kv2 gv2 lv2 (Pu.feed fns0 ms.length R.1 ms).1 (.slice tb L2.length td) L2) := on2; have HME2 : Hid (L2.map (·.1) = (Pu.feed fns0 ms.length R.1 ms).2) := hmE2; clear hO2 on2 hmE2))
                  exact HP.out _ (HFIN.out _ HON2.out.mv)
                · obtain ⟨m, hm⟩ : ∃ m, L.length = m + 1 := ⟨L.length - 1, by omega⟩
                  obtain ⟨kn, hk1, hk2⟩ := ev_kind (L[m]'(by omega))
                  rcases id HE9.out.2 with ⟨e1, e2⟩ | ⟨GE, cap, cur, e1, e2, e3, e4, e5, e6, e7⟩
                  · omega
                  cases e1
                  have hcell : w9.cell? ⟨GE, m * 14, none⟩ = some (.int .i64 kn) := by
                    have := World.ownsRow.cells HE9.out (g := GE) rfl (m * 14 + 0) (.int .i64 kn) (ev_at L m (by omega) 0 _ hk1)
                    rw [add_at, Nat.zero_add] at this
                    exact this
                  have hsiE := sizeEv
                  have hm1 : m ≤ 100000 := by omega
                  have hlast : R.2 = (L.take m).map (·.1) ++ [(L[m]'(by omega)).1] := by
                    rw [← HME.out]
                    have h1 : L = L.take m ++ [L[m]'(by omega)] := by
                      conv => lhs; rw [← List.take_append_drop m L]
                      rw [List.drop_eq_getElem_cons (by omega), List.drop_eq_nil_of_le (by omega)]
                    conv => lhs; rw [h1]
                    rw [List.map_append]
                    rfl
                  have h4k : ¬ kn < 4 → R.1.pt = 4 := fun hk => HFO.out _ _ hlast (by
                    cases ho : overB (L[m]'(by omega)).1 with
                    | true => rfl
                    | false => exact absurd (hk2 ho) hk)
                  clear hlast hk1 hk2 e2 e3 e4 e5 e6 e7 HE9 HFO hl0
                  rw [hm]
                  have HH4 : Hid _ := h4k
                  have HHM : Hid _ := hm
                  clear h4k hm
                  by_cases hk4 : kn < 4
                  · have hk5 : ¬ (4 : Int) ≤ kn := by omega
                    clear HH4
                    go_wp2_with (first | (go_at_call 17; refine Calls.mono HEN9.out ?_; rintro e wE ⟨rfl, hwE⟩; have hwE2 : w9 = wE := hwE.symm; subst hwE2) | (go_at_call 16; refine Calls.mono HAT9.out ?_; rintro e wE ⟨rfl, hwE⟩; have hwE2 : w9 = wE := hwE.symm; subst hwE2) | (go_at_call 14; refine Calls.mono HQM.out ?_; rintro e w10 ⟨v10, L2, rfl, hO2, hmE2⟩; obtain ⟨kv2, gv2, lv2, on2⟩ := hO2.on; obtain ⟨tb, td, rfl, _, _, _⟩ := own_sl on2.evs; have HON2 : Hid (On w9 w10 g kv gv lv kv2 gv2 lv2 (Pu.feed fns0 ms.length R.1 ms).1 (.slice tb L2.length td) L2) := on2; have HME2 : Hid (L2.map (·.1) = (Pu.feed fns0 ms.length R.1 ms).2) := hmE2; clear hO2 on2 hmE2))
                    exact HP.out _ (HFIN.out _ HON2.out.mv)
                  · have h4 := HH4.out hk4
                    have hev : endV R.1 = errV R.1.er := if_pos h4
                    have hfs := feed_stop ms.length R.1 ms h4
                    rw [hev] at HEN9
                    rw [hfs] at HQM
                    have hk4' : (4 : Int) ≤ kn := by omega
                    clear HH4 hk4 hev
                    go_upto_region 29 with (first | (go_at_call 17; refine Calls.mono HEN9.out ?_; rintro e wE ⟨rfl, hwE⟩; have hwE2 : w9 = wE := hwE.symm; subst hwE2) | (go_at_call 16; refine Calls.mono HAT9.out ?_; rintro e wE ⟨rfl, hwE⟩; have hwE2 : w9 = wE := hwE.symm; subst hwE2) | (go_at_call 14; refine Calls.mono HQM.out ?_; rintro e w10 ⟨v10, L2, rfl, hO2, hmE2⟩; obtain ⟨kv2, gv2, lv2, on2⟩ := hO2.on; obtain ⟨tb, td, rfl, _, _, _⟩ := own_sl on2.evs))
                    have hL2 : L2 = [] := by
                      have : (L2.map (·.1)).length = 0 := by rw [hmE2]; rfl
                      rw [List.length_map] at this
                      exact List.eq_nil_of_length_eq_zero this
                    subst hL2
                    have HB10 : Hid (Below w.heap.size w w10) := HFIN.out _ on2.mv
                    have HEN10 : Hid _ := end_w on2.pm
                    rw [show endV R.1 = errV R.1.er from if_pos h4] at HEN10
                    have HAT10 : Hid (∀ W', Below w10.heap.size w10 W' → Calls Tryz.prog 16 #[.pointer (some ⟨g, 0, none⟩)] W' fun e w' => e = .returned (.int .i64 (R.1.rd : Int)) ∧ w' = W') := fun W' b => at_w (on2.pm.grow b)
                    obtain ⟨cv, HCO⟩ : ∃ cv : Int, Hid (∀ W', Below w10.heap.size w10 W' → Calls Tryz.prog 18 #[errV R.1.er] W' fun ev w' => ev = .returned (.int .i64 cv) ∧ Below W'.heap.size W' w') := ⟨_, fun W' b => code_err R.1.er W' (HLF.out W' (HB10.out.trans (b.mono HB10.out.size)))⟩
                    obtain ⟨pv, HPL⟩ : ∃ pv : Int, Hid (∀ W', Below w10.heap.size w10 W' → Calls Tryz.prog 19 #[errV R.1.er] W' fun ev w' => ev = .returned (.int .i64 pv) ∧ Below W'.heap.size W' w') := ⟨_, fun W' b => place_err R.1.er W' (HLF.out W' (HB10.out.trans (b.mono HB10.out.size)))⟩
                    have HTR : Hid (∀ W' W'', Below w10.heap.size w10 W' → Below W'.heap.size W' W'' → Below w10.heap.size w10 W'') := fun W' W'' a b => a.trans (b.mono a.size)
                    have hbA : Below w10.heap.size w10 w10 := Below.refl _ _
                    generalize errV R.1.er = eV at *
                    clear hO2 on2 hmE2 HQM HEN9 HAT9 hfs h4
                    go_wp2_with (first
                      | (go_at_call 17; refine Calls.mono HEN10.out ?_; rintro e wE ⟨rfl, hwE⟩; have hwE2 : w10 = wE := hwE.symm; subst hwE2)
                      | (go_at_call 18; refine Calls.mono (HCO.out _ (by assumption)) ?_; rintro e wx ⟨rfl, bx⟩; have hbx := HTR.out _ _ (by assumption) bx)
                      | (go_at_call 19; refine Calls.mono (HPL.out _ (by assumption)) ?_; rintro e wx ⟨rfl, bx⟩; have hbx := HTR.out _ _ (by assumption) bx)
                      | (go_at_call 16; refine Calls.mono (HAT10.out _ (by assumption)) ?_; rintro e wE ⟨rfl, hwE⟩; rw [hwE]; clear hwE))
                    exact HP.out _ (HB10.out.trans (Below.mono (by assumption) HB10.out.size))
end Go.Proofs.YtnmmaedngdibeaaGreatDoor
