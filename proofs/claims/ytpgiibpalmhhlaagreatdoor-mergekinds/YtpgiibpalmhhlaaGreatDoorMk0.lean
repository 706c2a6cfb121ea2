/-
  The law's walk: MergeKinds.
-/
import Derived.Test.YtpgiibpalmhhlaaGreatDoorMp1
namespace Go.Proofs.YtpgiibpalmhhlaaGreatDoor
open Go.RowKit
open Go.Lib hiding intOf
set_option linter.unusedVariables false
set_option linter.unusedSimpArgs false

set_option maxRecDepth 20000 in
set_option maxHeartbeats 8000000 in
theorem kinds_law (ad0 ad1 : Option Addr) (n0 n1 cap0 cap1 : Nat) (X0 X1 : List Tg) (w : World) (hm : Ml w) (z0 : X0.length = n0 ∧ n0 ≤ cap0 ∧ cap0 ≤ 9223372036854775807 ∧ Ts w ad0 X0 ∧ (∀ x ∈ X0, Tg.ok x) ∧ (ad0 = none → cap0 = 0)) (z1 : X1.length = n1 ∧ n1 ≤ cap1 ∧ cap1 ≤ 9223372036854775807 ∧ Ts w ad1 X1 ∧ (∀ x ∈ X1, Tg.ok x) ∧ (ad1 = none → cap1 = 0)) :
    Calls Tryz.prog 8 #[.slice ad0 n0 cap0, .slice ad1 n1 cap1] w fun e w' => e = .returned (.bool true) ∧ Below w.heap.size w w' := by
  obtain ⟨e0, l0, m0, t0, o0, _⟩ := z0
  obtain ⟨e1, l1, m1, t1, o1, _⟩ := z1
  have KL : Hid (∀ W, Below w.heap.size w W → Calls Tryz.prog 9 #[] W fun e w' => e = .returned (.bool true) ∧ Below W.heap.size W w') := fun W hb => lays_w W (hm.below hb)
  have KP : Hid (∀ W (more : Int) ad n cap X, Below w.heap.size w W → 0 ≤ more ∧ more ≤ 10000 → X.length = n → n ≤ 30 → Ts w ad X → (∀ x ∈ X, Tg.ok x) → Calls Tryz.prog 10 #[.slice ad n cap, .int .i64 more] W fun e w' => ∃ a c L nl nx d dc dl dm, e = .returned (.tuple #[.agg #[.slice a nl c, .int .i64 nx], .agg #[.slice d dl dc, .int .i64 dm]]) ∧ L.length = nl ∧ Rs w' a L ∧ nl ≤ c ∧ (a = none → c = 0) ∧ Pd L nx ∧ Below W.heap.size W w') := fun W more ad n cap X hb hmo hn h30 hT hO => by
    subst hn
    refine (planted_w ad cap more X W (hm.below hb) (hT.below hb) hO (by omega) hmo).mono ?_
    rintro e w' ⟨v, u, rfl, ⟨a, c, rfl, h1, h2, h3⟩, ⟨d, dc, rfl, _⟩, hbb⟩
    exact ⟨a, c, _, _, _, d, dc, _, _, rfl, rfl, h1, h2, h3, pd_of more X h30, hbb⟩
  have HM : Hid (Ml w) := hm
  have T0 : Hid (Ts w ad0 X0) := t0
  have T1 : Hid (Ts w ad1 X1) := t1
  have O0 : Hid (∀ x ∈ X0, Tg.ok x) := o0
  have O1 : Hid (∀ x ∈ X1, Tg.ok x) := o1
  have E0 : Hid (X0.length = n0) := e0
  have E1 : Hid (X1.length = n1) := e1
  clear hm t0 t1 o0 o1 e0 e1
  go_enter Tryz.func8, Tryz.ntmps8
  have b0 := Below.refl w.heap.size w
  by_cases c0 : n0 ≤ 30
  · by_cases c1 : n1 ≤ 30
    · have c0' : ¬ (n0 : Int) > 30 := by omega
      have c1' : ¬ (n1 : Int) > 30 := by omega
      go_upto_region 5 with (go_at_call 9; refine (KL.out _ b0).mono ?_; rintro e wl ⟨rfl, bl⟩)
      go_upto_region 6 with (go_at_call 10; refine (KP.out _ 0 ad0 n0 cap0 X0 bl (by omega) E0.out c0 T0.out O0.out).mono ?_; rintro e wa ⟨aa, ca, LA, lA, nA, dA, cdA, ldA, mA, rfl, EA, RA, CA, NA, PA, ba⟩)
      have HA := Two.mk0 wa #[.slice aa lA ca, .int .i64 nA] #[.slice dA ldA cdA, .int .i64 mA] 26 29
      have bA : Below w.heap.size w ((wa.alloc (.cells #[.slice aa lA ca, .int .i64 nA] 26)).alloc (.cells #[.slice dA ldA cdA, .int .i64 mA] 29)) := (bl.trans (ba.mono bl.size)).trans (HA.2.2.1.mono (Nat.le_trans bl.size ba.size))
      generalize (wa.alloc _).alloc _ = w1 at *
      go_upto_region 7 with (go_at_call 10; refine (KP.out _ 5000 ad1 n1 cap1 X1 bA (by omega) E1.out c1 T1.out O1.out).mono ?_; rintro e wb ⟨ab, cb, LB, lB, nB, dB, cdB, ldB, mB, rfl, EB, RB, CB, NB, PB, bb⟩)
      have HB := Two.mk0 wb #[.slice ab lB cb, .int .i64 nB] #[.slice dB ldB cdB, .int .i64 mB] 26 29
      have HK : Hid (Kn w _ wa.heap.size wb.heap.size _ _ aa ab LA LB) := Kn.mk0 bl RA ba HA bb RB HB
      clear HA HB bA bb ba bl RA RB b0 KL KP T0 T1 O0 O1 E0 E1
      generalize (wb.alloc _).alloc _ = w2 at *
      generalize wa.heap.size = gA at *
      generalize wb.heap.size = gB at *
      have KG : Hid (∀ W a s, Rs W a LA → s.length ≤ 1000 → Calls Tryz.prog 20 #[.agg #[.slice a lA ca, .int .i64 nA], .string (bs s)] W fun e w' => e = .returned (.tuple #[.agg #[.string (bs (atR LA s).p), .int .i64 (atR LA s).id, .int .i64 (atR LA s).kind, .int .i64 (atR LA s).mode, .int .i64 0, .int .i64 0, .int .i64 0, .string ⟨#[]⟩, .string ⟨#[]⟩, .string ⟨#[]⟩, .slice none 0 0, .int .i64 (atR LA s).size, .bool (atR LA s).made], .bool (fd LA s)]) ∧ Below W.heap.size W w') := fun W a s r hs => by
        have := get_w a ca nA LA s W PA.sd.srt r (by have := PA.len; omega) (fun r hr => by have := (PA.sd.ok r hr).1; omega) (by omega)
        rw [EA] at this
        exact this
      have KO : Hid (∀ W, Kn w W gA gB #[.slice aa lA ca, .int .i64 nA] #[.slice ab lB cb, .int .i64 nB] aa ab LA LB → Calls Tryz.prog 11 #[.agg #[.slice aa lA ca, .int .i64 nA], .agg #[.slice ab lB cb, .int .i64 nB]] W fun e w' => ∃ a c X l n code, e = .returned (.tuple #[.agg #[.slice a l c, .int .i64 n], .int .i64 code]) ∧ X.length = l ∧ l ≤ 18060 ∧ Rs w' a X ∧ ((code = 130 ∧ LB.any (clsh LA) = true) ∨ (code = 0 ∧ LB.any (clsh LA) = false)) ∧ (∀ q ∈ X, q.p.length ≤ 1000 ∧ (fd LA q.p = true → decide ((atR LA q.p).kind = 4) = decide (q.kind = 4))) ∧ Below W.heap.size W w') := fun W h => by
        have := over_l PA PB aa ab ca cb W (HM.out.below h.bel) h.ra h.rb (by rw [EA]; exact CA) NA
        rw [EA, EB] at this
        refine Calls.mono this ?_
        rintro e w' ⟨a, c, X, rfl, hX, h1, _, _, hb⟩
        obtain ⟨k1, k2⟩ := over_kinds PA PB
        exact ⟨a, c, X, _, _, _, rfl, rfl, by rw [hX]; have := overP_len LA LB nA nB; have h2 := PA.len; have h3 := PB.len; omega, h1, k1, by rw [hX]; exact k2, hb⟩
      have HPB : Hid (∀ r ∈ LB, r.p.length ≤ 1000) := fun r hr => (PB.sd.ok r hr).1
      have HEB : Hid (LB.length = lB) := EB
      have lBb : lB ≤ 9030 := by have := PB.len; omega
      have lAb : lA ≤ 9030 := by have := PA.len; omega
      clear PA PB EA EB NA CA NB CB HM
      have xb := cells_of HK.out.bb
      go_upto_block 0 with fail
      go_cut [9] (fun x9 wx => x9 = .bool (LB.any (clsh LA)) ∧ Hid (Kn w wx gA gB #[.slice aa lA ca, .int .i64 nA] #[.slice ab lB cb, .int .i64 nB] aa ab LA LB))
      case first =>
        clear xb
        go_wp2_with fail
        go_loopw [9, 43] (fun x9 x43 wr => ∃ i : Nat, x9 = .bool ((LB.take i).any (clsh LA)) ∧ x43 = .int .i64 (i : Int) ∧ i ≤ lB ∧ Hid (Kn w wr gA gB #[.slice aa lA ca, .int .i64 nA] #[.slice ab lB cb, .int .i64 nB] aa ab LA LB)) (fun _ x43 _ => lB - (intOf x43).toNat)
        case atStart => exact ⟨0, rfl, rfl, Nat.zero_le _, HK⟩
        case round =>
          obtain ⟨i, rfl, rfl, hi, HR⟩ := hrel
          clear HK
          by_cases hlt : i < lB
          · obtain ⟨r, hr⟩ : ∃ r, LB[i]? = some r := ⟨_, List.getElem?_eq_getElem (by have := HEB.out; omega)⟩
            have hrp := HPB.out r (List.mem_of_getElem? hr)
            have HU : Hid ((LB.take (i + 1)).any (clsh LA) = ((LB.take i).any (clsh LA) || clsh LA r)) := any_succ _ _ _ _ hr
            obtain ⟨b, o, rfl, hb1, hb2⟩ := HR.out.rb.at hr
            have x0 : wr.cell? ⟨b, o + i * 13, none⟩ = some (.string (bs r.p)) := hb2 0 _ rfl
            have x1 : wr.cell? ⟨b, o + i * 13 + 1, none⟩ = some (.int .i64 r.id) := hb2 1 _ rfl
            have x2 : wr.cell? ⟨b, o + i * 13 + 2, none⟩ = some (.int .i64 r.kind) := hb2 2 _ rfl
            have x3 : wr.cell? ⟨b, o + i * 13 + 3, none⟩ = some (.int .i64 r.mode) := hb2 3 _ rfl
            have x4 : wr.cell? ⟨b, o + i * 13 + 4, none⟩ = some (.int .i64 0) := hb2 4 _ rfl
            have x5 : wr.cell? ⟨b, o + i * 13 + 5, none⟩ = some (.int .i64 0) := hb2 5 _ rfl
            have x6 : wr.cell? ⟨b, o + i * 13 + 6, none⟩ = some (.int .i64 0) := hb2 6 _ rfl
            have x7 : wr.cell? ⟨b, o + i * 13 + 7, none⟩ = some (.string ⟨#[]⟩) := hb2 7 _ rfl
            have x8 : wr.cell? ⟨b, o + i * 13 + 8, none⟩ = some (.string ⟨#[]⟩) := hb2 8 _ rfl
            have x9 : wr.cell? ⟨b, o + i * 13 + 9, none⟩ = some (.string ⟨#[]⟩) := hb2 9 _ rfl
            have x10 : wr.cell? ⟨b, o + i * 13 + 10, none⟩ = some (.slice none 0 0) := hb2 10 _ rfl
            have x11 : wr.cell? ⟨b, o + i * 13 + 11, none⟩ = some (.int .i64 r.size) := hb2 11 _ rfl
            have x12 : wr.cell? ⟨b, o + i * 13 + 12, none⟩ = some (.bool r.made) := hb2 12 _ rfl
            have i1 : (0 : Int) ≤ (i : Int) := by omega
            have i2 : (i : Int) < (lB : Int) := by omega
            clear hb2 hr
            go_upto_region 11 with fail
            have kb := below_box wr (.cells #[.string (bs r.p), .int .i64 r.id, .int .i64 r.kind, .int .i64 r.mode, .int .i64 0, .int .i64 0, .int .i64 0, .string ⟨#[]⟩, .string ⟨#[]⟩, .string ⟨#[]⟩, .slice none 0 0, .int .i64 r.size, .bool r.made] 43)
            have q1 := heap_alloc_new wr (.cells #[.string (bs r.p), .int .i64 r.id, .int .i64 r.kind, .int .i64 r.mode, .int .i64 0, .int .i64 0, .int .i64 0, .string ⟨#[]⟩, .string ⟨#[]⟩, .string ⟨#[]⟩, .slice none 0 0, .int .i64 r.size, .bool r.made] 43)
            have HR1 : Hid (Kn w _ _ _ _ _ _ _ _ _) := HR.out.next kb
            generalize wr.alloc _ = w3 at *
            have hg1 : wr.heap.size < w3.heap.size := (Array.getElem?_eq_some_iff.1 q1).1
            generalize wr.heap.size = g1 at *
            clear x0 x1 x2 x3 x4 x5 x6 x7 x8 x9 x10 x11 x12 HR kb
            have y1 := cells_of q1
            have ya := cells_of HR1.out.ba
            generalize (LB.take i).any (clsh LA) = cl at *
            go_upto_region 12 with (go_at_call 20; refine (KG.out _ aa r.p HR1.out.ra hrp).mono ?_; rintro e w4 ⟨rfl, b4⟩; have HR2 : Hid (Kn w w4 _ _ _ _ _ _ _ _) := HR1.out.next b4; have q4 : w4.heap[g1]? = _ := (b4.block _ hg1).trans q1)
            have kc := below_box w4 (.cells #[.string (bs (atR LA r.p).p), .int .i64 (atR LA r.p).id, .int .i64 (atR LA r.p).kind, .int .i64 (atR LA r.p).mode, .int .i64 0, .int .i64 0, .int .i64 0, .string ⟨#[]⟩, .string ⟨#[]⟩, .string ⟨#[]⟩, .slice none 0 0, .int .i64 (atR LA r.p).size, .bool (atR LA r.p).made] 43)
            have q5 := heap_alloc_new w4 (.cells #[.string (bs (atR LA r.p).p), .int .i64 (atR LA r.p).id, .int .i64 (atR LA r.p).kind, .int .i64 (atR LA r.p).mode, .int .i64 0, .int .i64 0, .int .i64 0, .string ⟨#[]⟩, .string ⟨#[]⟩, .string ⟨#[]⟩, .slice none 0 0, .int .i64 (atR LA r.p).size, .bool (atR LA r.p).made] 43)
            have HR3 : Hid (Kn w _ _ _ _ _ _ _ _ _) := HR2.out.next kc
            have q6 := (kc.block _ (Nat.lt_of_lt_of_le hg1 b4.size)).trans q4
            have HU2 : Hid ((LB.take (i + 1)).any (clsh LA) = (cl || (fd LA r.p && (decide ((atR LA r.p).kind = 4) != decide (r.kind = 4))))) := HU
            clear ya y1 q1 q4 HR1 HR2 b4 kc HU hrp
            generalize w4.alloc _ = w5 at *
            generalize w4.heap.size = g5 at *
            generalize atR LA r.p = x at *
            generalize fd LA r.p = f at *
            have y5 := cells_of q5
            have y6 := cells_of q6
            clear q5 q6 hg1
            have fin : ∀ cl2 : Bool, (LB.take (i + 1)).any (clsh LA) = cl2 → Value.bool cl2 = Value.bool ((LB.take (i + 1)).any (clsh LA)) := fun cl2 h => by rw [h]
            cases cl with
            | true =>
              have HU3 : Hid (Value.bool true = Value.bool ((LB.take (i + 1)).any (clsh LA))) := fin true (by rw [HU2.out]; rfl)
              clear HU2 fin
              go_wp2_with fail
              go_roundw
              case rel => exact ⟨i + 1, HU3.out, by simp, hlt, HR3⟩
              case measure => simp [intOf]; omega
            | false =>
              cases f with
              | false =>
                have HU3 : Hid (Value.bool false = Value.bool ((LB.take (i + 1)).any (clsh LA))) := fin false (by rw [HU2.out]; rfl)
                clear HU2 fin
                go_wp2_with fail
                go_roundw
                case rel => exact ⟨i + 1, HU3.out, by simp, hlt, HR3⟩
                case measure => simp [intOf]; omega
              | true =>
                by_cases hx : x.kind = 4
                · have hxb : (x.kind == 4) = true := by simpa using hx
                  by_cases hk : r.kind = 4
                  · have hkb : (r.kind == 4) = true := by simpa using hk
                    have HU3 : Hid (Value.bool false = Value.bool ((LB.take (i + 1)).any (clsh LA))) := fin false (by rw [HU2.out, decide_eq_true hx, decide_eq_true hk]; rfl)
                    clear HU2 fin hx hk
                    go_wp2_with fail
                    go_roundw
                    case rel => exact ⟨i + 1, HU3.out, by simp, hlt, HR3⟩
                    case measure => simp [intOf]; omega
                  · have hkb : (r.kind == 4) = false := by simpa using hk
                    have HU3 : Hid (Value.bool true = Value.bool ((LB.take (i + 1)).any (clsh LA))) := fin true (by rw [HU2.out, decide_eq_true hx, decide_eq_false hk]; rfl)
                    clear HU2 fin hx hk
                    go_wp2_with fail
                    go_roundw
                    case rel => exact ⟨i + 1, HU3.out, by simp, hlt, HR3⟩
                    case measure => simp [intOf]; omega
                · have hxb : (x.kind == 4) = false := by simpa using hx
                  by_cases hk : r.kind = 4
                  · have hkb : (r.kind == 4) = true := by simpa using hk
                    have HU3 : Hid (Value.bool true = Value.bool ((LB.take (i + 1)).any (clsh LA))) := fin true (by rw [HU2.out, decide_eq_false hx, decide_eq_true hk]; rfl)
                    clear HU2 fin hx hk
                    go_wp2_with fail
                    go_roundw
                    case rel => exact ⟨i + 1, HU3.out, by simp, hlt, HR3⟩
                    case measure => simp [intOf]; omega
                  · have hkb : (r.kind == 4) = false := by simpa using hk
                    have HU3 : Hid (Value.bool false = Value.bool ((LB.take (i + 1)).any (clsh LA))) := fin false (by rw [HU2.out, decide_eq_false hx, decide_eq_false hk]; rfl)
                    clear HU2 fin hx hk
                    go_wp2_with fail
                    go_roundw
                    case rel => exact ⟨i + 1, HU3.out, by simp, hlt, HR3⟩
                    case measure => simp [intOf]; omega
          · obtain rfl : i = lB := by omega
            go_wp2_with fail
            go_meet
            case rel => exact ⟨by rw [List.take_of_length_le (by rw [HEB.out]; exact Nat.le_refl _)], HR⟩
      case rest =>
        obtain ⟨rfl, HR⟩ := hcut
        clear xb HK HEB HPB
        generalize LB.any (clsh LA) = cl at *
        have xa := cells_of HR.out.ba
        have xb := cells_of HR.out.bb
        go_upto_region 15 with (go_at_call 11; refine (KO.out _ HR.out).mono ?_; rintro e w5 ⟨a3, c3, X, l3, n3, code, rfl, EX, l3b, R3, hcode, HX', b5⟩; have HEX : Hid (X.length = l3) := EX; have HX : Hid (∀ q ∈ X, q.p.length ≤ 1000 ∧ (fd LA q.p = true → decide ((atR LA q.p).kind = 4) = decide (q.kind = 4))) := HX'; clear EX HX'; have HR2 : Hid (Kn w w5 _ _ _ _ _ _ _ _) := HR.out.next b5)
        have kb := below_box w5 (.cells #[.slice a3 l3 c3, .int .i64 n3] 26)
        have q1 := heap_alloc_new w5 (.cells #[.slice a3 l3 c3, .int .i64 n3] 26)
        have HR3 : Hid (Kn w _ _ _ _ _ _ _ _ _) := HR2.out.next kb
        have HR4 : Hid (Rs _ a3 X) := R3.below kb
        clear KO xa xb HR HR2 R3 b5 kb
        generalize w5.alloc _ = w6 at *
        generalize w5.heap.size = gt at *
        have y1 := cells_of q1
        clear q1
        rcases hcode with ⟨rfl, rfl⟩ | ⟨rfl, rfl⟩
        all_goals
          go_wp2_with fail
          go_loopw [91] (fun x91 wr => ∃ i : Nat, x91 = .int .i64 (i : Int) ∧ i ≤ l3 ∧ Hid (Kn w wr gA gB #[.slice aa lA ca, .int .i64 nA] #[.slice ab lB cb, .int .i64 nB] aa ab LA LB) ∧ Hid (Rs wr a3 X)) (fun x91 _ => l3 - (intOf x91).toNat)
          case atStart => exact ⟨0, rfl, Nat.zero_le _, HR3, HR4⟩
          case round =>
            obtain ⟨i, rfl, hi, HS, HT⟩ := hrel
            clear HR3 HR4 y1
            by_cases hlt : i < l3
            · obtain ⟨r, hr⟩ : ∃ r, X[i]? = some r := ⟨_, List.getElem?_eq_getElem (by have := HEX.out; omega)⟩
              obtain ⟨hrp, hrk⟩ := HX.out r (List.mem_of_getElem? hr)
              have HKK : Hid (fd LA r.p = true → decide ((atR LA r.p).kind = 4) = decide (r.kind = 4)) := hrk
              obtain ⟨b, o, rfl, hb1, hb2⟩ := HT.out.at hr
              have x0 : wr.cell? ⟨b, o + i * 13, none⟩ = some (.string (bs r.p)) := hb2 0 _ rfl
              have x1 : wr.cell? ⟨b, o + i * 13 + 1, none⟩ = some (.int .i64 r.id) := hb2 1 _ rfl
              have x2 : wr.cell? ⟨b, o + i * 13 + 2, none⟩ = some (.int .i64 r.kind) := hb2 2 _ rfl
              have x3 : wr.cell? ⟨b, o + i * 13 + 3, none⟩ = some (.int .i64 r.mode) := hb2 3 _ rfl
              have x4 : wr.cell? ⟨b, o + i * 13 + 4, none⟩ = some (.int .i64 0) := hb2 4 _ rfl
              have x5 : wr.cell? ⟨b, o + i * 13 + 5, none⟩ = some (.int .i64 0) := hb2 5 _ rfl
              have x6 : wr.cell? ⟨b, o + i * 13 + 6, none⟩ = some (.int .i64 0) := hb2 6 _ rfl
              have x7 : wr.cell? ⟨b, o + i * 13 + 7, none⟩ = some (.string ⟨#[]⟩) := hb2 7 _ rfl
              have x8 : wr.cell? ⟨b, o + i * 13 + 8, none⟩ = some (.string ⟨#[]⟩) := hb2 8 _ rfl
              have x9 : wr.cell? ⟨b, o + i * 13 + 9, none⟩ = some (.string ⟨#[]⟩) := hb2 9 _ rfl
              have x10 : wr.cell? ⟨b, o + i * 13 + 10, none⟩ = some (.slice none 0 0) := hb2 10 _ rfl
              have x11 : wr.cell? ⟨b, o + i * 13 + 11, none⟩ = some (.int .i64 r.size) := hb2 11 _ rfl
              have x12 : wr.cell? ⟨b, o + i * 13 + 12, none⟩ = some (.bool r.made) := hb2 12 _ rfl
              have i1 : (0 : Int) ≤ (i : Int) := by omega
              have i2 : (i : Int) < (l3 : Int) := by omega
              clear hb2 hr hrk
              go_upto_region 20 with fail
              have kb := below_box wr (.cells #[.string (bs r.p), .int .i64 r.id, .int .i64 r.kind, .int .i64 r.mode, .int .i64 0, .int .i64 0, .int .i64 0, .string ⟨#[]⟩, .string ⟨#[]⟩, .string ⟨#[]⟩, .slice none 0 0, .int .i64 r.size, .bool r.made] 43)
              have q1 := heap_alloc_new wr (.cells #[.string (bs r.p), .int .i64 r.id, .int .i64 r.kind, .int .i64 r.mode, .int .i64 0, .int .i64 0, .int .i64 0, .string ⟨#[]⟩, .string ⟨#[]⟩, .string ⟨#[]⟩, .slice none 0 0, .int .i64 r.size, .bool r.made] 43)
              have HR1 : Hid (Kn w _ _ _ _ _ _ _ _ _) := HS.out.next kb
              have HT1 : Hid (Rs _ (some ⟨b, o, none⟩) X) := HT.out.below kb
              generalize wr.alloc _ = w3 at *
              have hg1 : wr.heap.size < w3.heap.size := (Array.getElem?_eq_some_iff.1 q1).1
              generalize wr.heap.size = g1 at *
              clear x0 x1 x2 x3 x4 x5 x6 x7 x8 x9 x10 x11 x12 HS HT kb
              have y1 := cells_of q1
              have ya := cells_of HR1.out.ba
              go_upto_region 21 with (go_at_call 20; refine (KG.out _ aa r.p HR1.out.ra hrp).mono ?_; rintro e w4 ⟨rfl, b4⟩; have HR2 : Hid (Kn w w4 _ _ _ _ _ _ _ _) := HR1.out.next b4; have HT2 : Hid (Rs w4 (some ⟨b, o, none⟩) X) := HT1.out.below b4; have q4 : w4.heap[g1]? = _ := (b4.block _ hg1).trans q1)
              have kc := below_box w4 (.cells #[.string (bs (atR LA r.p).p), .int .i64 (atR LA r.p).id, .int .i64 (atR LA r.p).kind, .int .i64 (atR LA r.p).mode, .int .i64 0, .int .i64 0, .int .i64 0, .string ⟨#[]⟩, .string ⟨#[]⟩, .string ⟨#[]⟩, .slice none 0 0, .int .i64 (atR LA r.p).size, .bool (atR LA r.p).made] 43)
              have q5 := heap_alloc_new w4 (.cells #[.string (bs (atR LA r.p).p), .int .i64 (atR LA r.p).id, .int .i64 (atR LA r.p).kind, .int .i64 (atR LA r.p).mode, .int .i64 0, .int .i64 0, .int .i64 0, .string ⟨#[]⟩, .string ⟨#[]⟩, .string ⟨#[]⟩, .slice none 0 0, .int .i64 (atR LA r.p).size, .bool (atR LA r.p).made] 43)
              have HR3 : Hid (Kn w _ _ _ _ _ _ _ _ _) := HR2.out.next kc
              have HT3 : Hid (Rs _ (some ⟨b, o, none⟩) X) := HT2.out.below kc
              have q6 := (kc.block _ (Nat.lt_of_lt_of_le hg1 b4.size)).trans q4
              clear ya y1 q1 q4 HR1 HR2 HT1 HT2 b4 kc hrp
              generalize w4.alloc _ = w5 at *
              generalize w4.heap.size = g5 at *
              generalize atR LA r.p = x at *
              generalize fd LA r.p = f at *
              have y5 := cells_of q5
              have y6 := cells_of q6
              clear q5 q6 hg1
              cases f with
              | false =>
                clear HKK
                go_wp2_with fail
                go_roundw
                case rel => exact ⟨i + 1, by simp, hlt, HR3, HT3⟩
                case measure => simp [intOf]; omega
              | true =>
                have hkk := HKK.out rfl
                clear HKK
                by_cases hx : x.kind = 4
                · have hk : r.kind = 4 := by rw [decide_eq_true hx] at hkk; exact of_decide_eq_true hkk.symm
                  have hxb : (x.kind == 4) = true := by simpa using hx
                  have hkb : (r.kind == 4) = true := by simpa using hk
                  clear hx hk hkk
                  go_wp2_with fail
                  go_roundw
                  case rel => exact ⟨i + 1, by simp, hlt, HR3, HT3⟩
                  case measure => simp [intOf]; omega
                · have hk : ¬ r.kind = 4 := by rw [decide_eq_false hx] at hkk; exact of_decide_eq_false hkk.symm
                  have hxb : (x.kind == 4) = false := by simpa using hx
                  have hkb : (r.kind == 4) = false := by simpa using hk
                  clear hx hk hkk
                  go_wp2_with fail
                  go_roundw
                  case rel => exact ⟨i + 1, by simp, hlt, HR3, HT3⟩
                  case measure => simp [intOf]; omega
            · obtain rfl : i = l3 := by omega
              go_wp2_with fail
              go_ret
              exact ⟨rfl, HS.out.bel⟩
    · have c0' : ¬ (n0 : Int) > 30 := by omega
      have c1' : (n1 : Int) > 30 := by omega
      go_wp2_with (go_at_call 9; refine (KL.out _ b0).mono ?_; rintro e wl ⟨rfl, bl⟩)
      go_ret
      exact ⟨rfl, bl⟩
  · have c0' : (n0 : Int) > 30 := by omega
    go_wp2_with (go_at_call 9; refine (KL.out _ b0).mono ?_; rintro e wl ⟨rfl, bl⟩)
    go_ret
    exact ⟨rfl, bl⟩

end Go.Proofs.YtpgiibpalmhhlaaGreatDoor
