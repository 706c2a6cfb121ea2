/-
  The law's walk: MergeApart.
-/
import Derived.Test.YtpgiibpalmhhlaaGreatDoorMp2
namespace Go.Proofs.YtpgiibpalmhhlaaGreatDoor
open Go.RowKit
open Go.Lib hiding intOf
set_option linter.unusedVariables false
set_option linter.unusedSimpArgs false

/-- the three boxes of the law's last line -/
structure Sx (w W : World) (gA gB gt : Nat) (A B C : Array Value) (aA aB aX : Option Addr) (LA LB X : List Rw) : Prop where
  kn : Kn w W gA gB A B aA aB LA LB
  bt : W.heap[gt]? = some (.cells C 26 (0, 0))
  rx : Rs W aX X
theorem Sx.next {w W W' : World} {gA gB gt : Nat} {A B C : Array Value} {aA aB aX : Option Addr} {LA LB X : List Rw} (h : Sx w W gA gB gt A B C aA aB aX LA LB X) (b : Below W.heap.size W W') : Sx w W' gA gB gt A B C aA aB aX LA LB X :=
  ⟨h.kn.next b, (b.block _ (Array.getElem?_eq_some_iff.1 h.bt).1).trans h.bt, h.rx.below b⟩
theorem Sx.cs {w W : World} {gA gB gt : Nat} {A B C : Array Value} {aA aB aX : Option Addr} {LA LB X : List Rw} (h : Sx w W gA gB gt A B C aA aB aX LA LB X) : (∀ i, W.cell? ⟨gA, i, none⟩ = A[i]?) ∧ (∀ i, W.cell? ⟨gB, i, none⟩ = B[i]?) ∧ (∀ i, W.cell? ⟨gt, i, none⟩ = C[i]?) := ⟨cells_of h.kn.ba, cells_of h.kn.bb, cells_of h.bt⟩

set_option maxRecDepth 20000 in
set_option maxHeartbeats 8000000 in
theorem apart_law (ad0 ad1 : Option Addr) (n0 n1 cap0 cap1 : Nat) (X0 X1 : List Tg) (w : World) (hm : Ml w) (z0 : X0.length = n0 ∧ n0 ≤ cap0 ∧ cap0 ≤ 9223372036854775807 ∧ Ts w ad0 X0 ∧ (∀ x ∈ X0, Tg.ok x) ∧ (ad0 = none → cap0 = 0)) (z1 : X1.length = n1 ∧ n1 ≤ cap1 ∧ cap1 ≤ 9223372036854775807 ∧ Ts w ad1 X1 ∧ (∀ x ∈ X1, Tg.ok x) ∧ (ad1 = none → cap1 = 0)) :
    Calls Tryz.prog 7 #[.slice ad0 n0 cap0, .slice ad1 n1 cap1] w fun e w' => e = .returned (.bool true) ∧ Below w.heap.size w w' := by
  obtain ⟨e0, l0, m0, t0, o0, _⟩ := z0
  obtain ⟨e1, l1, m1, t1, o1, _⟩ := z1
  have KL : Hid (∀ W, Below w.heap.size w W → Calls Tryz.prog 9 #[] W fun e w' => e = .returned (.bool true) ∧ Below W.heap.size W w') := fun W hb => lays_w W (hm.below hb)
  have KP : Hid (∀ W (more : Int) ad n cap X, Below w.heap.size w W → 0 ≤ more ∧ more ≤ 10000 → X.length = n → n ≤ 30 → Ts w ad X → (∀ x ∈ X, Tg.ok x) → Calls Tryz.prog 10 #[.slice ad n cap, .int .i64 more] W fun e w' => ∃ a c L nl nx d dc dl dm, e = .returned (.tuple #[.agg #[.slice a nl c, .int .i64 nx], .agg #[.slice d dl dc, .int .i64 dm]]) ∧ L.length = nl ∧ Rs w' a L ∧ nl ≤ c ∧ (a = none → c = 0) ∧ Pd L nx ∧ Below W.heap.size W w') := fun W more ad n cap X hb hmo hn h30 hT hO => by
    subst hn
    refine (planted_w ad cap more X W (hm.below hb) (hT.below hb) hO (by omega) hmo).mono ?_
    rintro e w' ⟨v, u, rfl, ⟨a, c, rfl, h1, h2, h3⟩, ⟨d, dc, rfl, _⟩, hbb⟩
    exact ⟨a, c, _, _, _, d, dc, _, _, rfl, rfl, h1, h2, h3, pd_of more X h30, hbb⟩
  have HM : Hid (Ml w) := hm
  have T0 : Hid (Ts w ad0 X0) := t0
  have T1 : Hid (Ts w ad1 X1) := t1
  have O0 : Hid (∀ x ∈ X0, Tg.ok x) := o0
  have O1 : Hid (∀ x ∈ X1, Tg.ok x) := o1
  have E0 : Hid (X0.length = n0) := e0
  have E1 : Hid (X1.length = n1) := e1
  clear hm t0 t1 o0 o1 e0 e1
  go_enter Tryz.func7, Tryz.ntmps7
  have b0 := Below.refl w.heap.size w
  by_cases c0 : n0 ≤ 30
  · by_cases c1 : n1 ≤ 30
    · have c0' : ¬ (n0 : Int) > 30 := by omega
      have c1' : ¬ (n1 : Int) > 30 := by omega
      go_upto_region 5 with (go_at_call 9; refine (KL.out _ b0).mono ?_; rintro e wl ⟨rfl, bl⟩)
      go_upto_region 6 with (go_at_call 10; refine (KP.out _ 0 ad0 n0 cap0 X0 bl (by omega) E0.out c0 T0.out O0.out).mono ?_; rintro e wa ⟨aa, ca, LA, lA, nA, dA, cdA, ldA, mA, rfl, EA, RA, CA, NA, PA, ba⟩)
      have HA := Two.mk0 wa #[.slice aa lA ca, .int .i64 nA] #[.slice dA ldA cdA, .int .i64 mA] 26 29
      have bA : Below w.heap.size w ((wa.alloc (.cells #[.slice aa lA ca, .int .i64 nA] 26)).alloc (.cells #[.slice dA ldA cdA, .int .i64 mA] 29)) := (bl.trans (ba.mono bl.size)).trans (HA.2.2.1.mono (Nat.le_trans bl.size ba.size))
      generalize (wa.alloc _).alloc _ = w1 at *
      go_upto_region 7 with (go_at_call 10; refine (KP.out _ 5000 ad1 n1 cap1 X1 bA (by omega) E1.out c1 T1.out O1.out).mono ?_; rintro e wb ⟨ab, cb, LB, lB, nB, dB, cdB, ldB, mB, rfl, EB, RB, CB, NB, PB, bb⟩)
      have HB := Two.mk0 wb #[.slice ab lB cb, .int .i64 nB] #[.slice dB ldB cdB, .int .i64 mB] 26 29
      have HK : Hid (Kn w _ wa.heap.size wb.heap.size _ _ aa ab LA LB) := Kn.mk0 bl RA ba HA bb RB HB
      clear HA HB bA bb ba bl RA RB b0 KL KP T0 T1 O0 O1 E0 E1
      generalize (wb.alloc _).alloc _ = w2 at *
      generalize wa.heap.size = gA at *
      generalize wb.heap.size = gB at *
      have KG : Hid (∀ W a s, Rs W a LA → s.length ≤ 1000 → Calls Tryz.prog 20 #[.agg #[.slice a lA ca, .int .i64 nA], .string (bs s)] W fun e w' => e = .returned (.tuple #[.agg #[.string (bs (atR LA s).p), .int .i64 (atR LA s).id, .int .i64 (atR LA s).kind, .int .i64 (atR LA s).mode, .int .i64 0, .int .i64 0, .int .i64 0, .string ⟨#[]⟩, .string ⟨#[]⟩, .string ⟨#[]⟩, .slice none 0 0, .int .i64 (atR LA s).size, .bool (atR LA s).made], .bool (fd LA s)]) ∧ Below W.heap.size W w') := fun W a s r hs => by
        have := get_w a ca nA LA s W PA.sd.srt r (by have := PA.len; omega) (fun r hr => by have := (PA.sd.ok r hr).1; omega) (by omega)
        rw [EA] at this
        exact this
      have HPB : Hid (∀ r ∈ LB, r.p.length ≤ 1000) := fun r hr => (PB.sd.ok r hr).1
      have HEB : Hid (LB.length = lB) := EB
      have lBb : lB ≤ 9030 := by have := PB.len; omega
      have lAb : lA ≤ 9030 := by have := PA.len; omega
      have HPA2 : Hid (Pd LA nA) := PA
      have HPB2 : Hid (Pd LB nB) := PB
      have HEA : Hid (LA.length = lA) := EA
      have HCA : Hid (lA ≤ ca) := CA
      have HNA : Hid (aa = none → ca = 0) := NA
      clear PA PB EA EB NA CA NB CB
      have xb := cells_of HK.out.bb
      go_upto_block 0 with fail
      go_cut [9] (fun x9 wx => ∃ m : Nat, x9 = .int .i64 (m : Int) ∧ m ≤ 9030 ∧ Hid (m = LB.countP fun r => fd LA r.p) ∧ Hid (∀ r ∈ LB, fd LA r.p = true → (atR LA r.p).kind = 4 ∧ r.kind = 4) ∧ Hid (Kn w wx gA gB #[.slice aa lA ca, .int .i64 nA] #[.slice ab lB cb, .int .i64 nB] aa ab LA LB))
      case first =>
        clear xb
        go_wp2_with fail
        go_loopw [9, 39] (fun x9 x39 wr => ∃ i m : Nat, x9 = .int .i64 (m : Int) ∧ x39 = .int .i64 (i : Int) ∧ i ≤ lB ∧ m ≤ i ∧ Hid (m = (LB.take i).countP fun r => fd LA r.p) ∧ Hid (∀ r ∈ LB.take i, fd LA r.p = true → (atR LA r.p).kind = 4 ∧ r.kind = 4) ∧ Hid (Kn w wr gA gB #[.slice aa lA ca, .int .i64 nA] #[.slice ab lB cb, .int .i64 nB] aa ab LA LB)) (fun _ x39 _ => lB - (intOf x39).toNat)
        case atStart => exact ⟨0, 0, rfl, rfl, Nat.zero_le _, Nat.le_refl _, rfl, (fun r hr => by simp at hr), HK⟩
        case round =>
          obtain ⟨i, m, rfl, rfl, hi, hmi, HC, HB, HR⟩ := hrel
          clear HK
          by_cases hlt : i < lB
          · obtain ⟨r, hr⟩ : ∃ r, LB[i]? = some r := ⟨_, List.getElem?_eq_getElem (by have := HEB.out; omega)⟩
            have hrp := HPB.out r (List.mem_of_getElem? hr)
            have HU : Hid (LB.take (i + 1) = LB.take i ++ [r]) := (by
              show _ = _
              rw [List.take_add_one, hr]; rfl)
            obtain ⟨b, o, rfl, hb1, hb2⟩ := HR.out.rb.at hr
            have x0 : wr.cell? ⟨b, o + i * 13, none⟩ = some (.string (bs r.p)) := hb2 0 _ rfl
            have x1 : wr.cell? ⟨b, o + i * 13 + 1, none⟩ = some (.int .i64 r.id) := hb2 1 _ rfl
            have x2 : wr.cell? ⟨b, o + i * 13 + 2, none⟩ = some (.int .i64 r.kind) := hb2 2 _ rfl
            have x3 : wr.cell? ⟨b, o + i * 13 + 3, none⟩ = some (.int .i64 r.mode) := hb2 3 _ rfl
            have x4 : wr.cell? ⟨b, o + i * 13 + 4, none⟩ = some (.int .i64 0) := hb2 4 _ rfl
            have x5 : wr.cell? ⟨b, o + i * 13 + 5, none⟩ = some (.int .i64 0) := hb2 5 _ rfl
            have x6 : wr.cell? ⟨b, o + i * 13 + 6, none⟩ = some (.int .i64 0) := hb2 6 _ rfl
            have x7 : wr.cell? ⟨b, o + i * 13 + 7, none⟩ = some (.string ⟨#[]⟩) := hb2 7 _ rfl
            have x8 : wr.cell? ⟨b, o + i * 13 + 8, none⟩ = some (.string ⟨#[]⟩) := hb2 8 _ rfl
            have x9 : wr.cell? ⟨b, o + i * 13 + 9, none⟩ = some (.string ⟨#[]⟩) := hb2 9 _ rfl
            have x10 : wr.cell? ⟨b, o + i * 13 + 10, none⟩ = some (.slice none 0 0) := hb2 10 _ rfl
            have x11 : wr.cell? ⟨b, o + i * 13 + 11, none⟩ = some (.int .i64 r.size) := hb2 11 _ rfl
            have x12 : wr.cell? ⟨b, o + i * 13 + 12, none⟩ = some (.bool r.made) := hb2 12 _ rfl
            have i1 : (0 : Int) ≤ (i : Int) := by omega
            have i2 : (i : Int) < (lB : Int) := by omega
            clear hb2 hr
            go_upto_region 11 with fail
            have kb := below_box wr (.cells #[.string (bs r.p), .int .i64 r.id, .int .i64 r.kind, .int .i64 r.mode, .int .i64 0, .int .i64 0, .int .i64 0, .string ⟨#[]⟩, .string ⟨#[]⟩, .string ⟨#[]⟩, .slice none 0 0, .int .i64 r.size, .bool r.made] 43)
            have q1 := heap_alloc_new wr (.cells #[.string (bs r.p), .int .i64 r.id, .int .i64 r.kind, .int .i64 r.mode, .int .i64 0, .int .i64 0, .int .i64 0, .string ⟨#[]⟩, .string ⟨#[]⟩, .string ⟨#[]⟩, .slice none 0 0, .int .i64 r.size, .bool r.made] 43)
            have HR1 : Hid (Kn w _ _ _ _ _ _ _ _ _) := HR.out.next kb
            generalize wr.alloc _ = w3 at *
            have hg1 : wr.heap.size < w3.heap.size := (Array.getElem?_eq_some_iff.1 q1).1
            generalize wr.heap.size = g1 at *
            clear x0 x1 x2 x3 x4 x5 x6 x7 x8 x9 x10 x11 x12 HR kb
            have y1 := cells_of q1
            have ya := cells_of HR1.out.ba
            go_upto_region 12 with (go_at_call 20; refine (KG.out _ aa r.p HR1.out.ra hrp).mono ?_; rintro e w4 ⟨rfl, b4⟩; have HR2 : Hid (Kn w w4 _ _ _ _ _ _ _ _) := HR1.out.next b4; have q4 : w4.heap[g1]? = _ := (b4.block _ hg1).trans q1)
            have kc := below_box w4 (.cells #[.string (bs (atR LA r.p).p), .int .i64 (atR LA r.p).id, .int .i64 (atR LA r.p).kind, .int .i64 (atR LA r.p).mode, .int .i64 0, .int .i64 0, .int .i64 0, .string ⟨#[]⟩, .string ⟨#[]⟩, .string ⟨#[]⟩, .slice none 0 0, .int .i64 (atR LA r.p).size, .bool (atR LA r.p).made] 43)
            have q5 := heap_alloc_new w4 (.cells #[.string (bs (atR LA r.p).p), .int .i64 (atR LA r.p).id, .int .i64 (atR LA r.p).kind, .int .i64 (atR LA r.p).mode, .int .i64 0, .int .i64 0, .int .i64 0, .string ⟨#[]⟩, .string ⟨#[]⟩, .string ⟨#[]⟩, .slice none 0 0, .int .i64 (atR LA r.p).size, .bool (atR LA r.p).made] 43)
            have HR3 : Hid (Kn w _ _ _ _ _ _ _ _ _) := HR2.out.next kc
            have q6 := (kc.block _ (Nat.lt_of_lt_of_le hg1 b4.size)).trans q4
            clear ya y1 q1 q4 HR1 HR2 b4 kc hrp
            generalize w4.alloc _ = w5 at *
            generalize w4.heap.size = g5 at *
            have HB2 : Hid ((fd LA r.p = true → (atR LA r.p).kind = 4 ∧ r.kind = 4) → ∀ r ∈ LB.take (i + 1), fd LA r.p = true → (atR LA r.p).kind = 4 ∧ r.kind = 4) := fun h q hq => by
              rw [HU.out, List.mem_append, List.mem_singleton] at hq
              rcases hq with hq | rfl
              · exact HB.out q hq
              · exact h
            have HC2 : Hid ((LB.take (i + 1)).countP (fun r => fd LA r.p) = m + (if fd LA r.p then 1 else 0)) := (by
              show _ = _
              rw [HU.out, List.countP_append, ← HC.out, List.countP_singleton])
            clear HB HC HU
            generalize atR LA r.p = x at *
            generalize fd LA r.p = f at *
            have y5 := cells_of q5
            have y6 := cells_of q6
            clear q5 q6 hg1
            cases f with
            | false =>
              have HC3 : Hid (m = (LB.take (i + 1)).countP fun r => fd LA r.p) := HC2.out.symm
              have HB3 : Hid (∀ r ∈ LB.take (i + 1), fd LA r.p = true → (atR LA r.p).kind = 4 ∧ r.kind = 4) := HB2.out (fun h => by cases h)
              clear HC2 HB2
              go_wp2_with fail
              go_roundw
              case rel => exact ⟨i + 1, m, rfl, by simp, hlt, by omega, HC3, HB3, HR3⟩
              case measure => simp [intOf]; omega
            | true =>
              have HC3 : Hid (m + 1 = (LB.take (i + 1)).countP fun r => fd LA r.p) := HC2.out.symm
              by_cases hx : x.kind = 4
              · have hxb : (x.kind == 4) = true := by simpa using hx
                by_cases hk : r.kind = 4
                · have hkb : (r.kind == 4) = true := by simpa using hk
                  have HB3 : Hid (∀ r ∈ LB.take (i + 1), fd LA r.p = true → (atR LA r.p).kind = 4 ∧ r.kind = 4) := HB2.out (fun _ => ⟨hx, hk⟩)
                  clear HC2 HB2 hxb hkb
                  go_wp2_with fail
                  go_roundw
                  case rel => exact ⟨i + 1, m + 1, by simp, by simp, hlt, by omega, HC3, HB3, HR3⟩
                  case measure => simp [intOf]; omega
                · have hkb : (r.kind == 4) = false := by simpa using hk
                  clear HC2 HC3 HB2 hxb hkb
                  go_wp2_with fail
                  all_goals (go_ret; exact ⟨rfl, HR3.out.bel⟩)
              · have hxb : (x.kind == 4) = false := by simpa using hx
                clear HC2 HC3 HB2 hxb
                go_wp2_with fail
                all_goals (go_ret; exact ⟨rfl, HR3.out.bel⟩)
          · obtain rfl : i = lB := by omega
            go_wp2_with fail
            go_meet
            case rel =>
              have e : LB.take i = LB := List.take_of_length_le (by rw [HEB.out]; exact Nat.le_refl _)
              refine ⟨m, rfl, by omega, ?_, ?_, HR⟩
              · have := HC.out; rwa [e] at this
              · have := HB.out; rwa [e] at this
      case rest =>
        obtain ⟨m, rfl, hm9, HC, HB, HR⟩ := hcut
        clear xb HK KG HPB
        have KO : Hid (∀ W, Kn w W gA gB #[.slice aa lA ca, .int .i64 nA] #[.slice ab lB cb, .int .i64 nB] aa ab LA LB → Calls Tryz.prog 11 #[.agg #[.slice aa lA ca, .int .i64 nA], .agg #[.slice ab lB cb, .int .i64 nB]] W fun e w' => ∃ a c X l n, e = .returned (.tuple #[.agg #[.slice a l c, .int .i64 n], .int .i64 0]) ∧ Hid (X.length = l) ∧ Rs w' a X ∧ Hid (l + m = lA + lB) ∧ l ≤ 18060 ∧ Hid ((contK X).length = (contK LA).length + (contK LB).length) ∧ Hid (goneK LA X = []) ∧ Hid (∀ q ∈ X, 0 ≤ q.id ∧ q.id ≤ 18060) ∧ Below W.heap.size W w') := fun W h => by
          have := over_l HPA2.out HPB2.out aa ab ca cb W (HM.out.below h.bel) h.ra h.rb (by rw [HEA.out]; exact HCA.out) HNA.out
          rw [HEA.out, HEB.out] at this
          obtain ⟨k1, k2, k3, k4⟩ := apart_all HPA2.out HPB2.out HB.out
          have k5 := over_ids HPA2.out HPB2.out
          rw [← HC.out, HEA.out, HEB.out] at k2
          rw [k1] at this
          refine Calls.mono this ?_
          rintro e w' ⟨a, c, X, rfl, rfl, h1, _, _, hb⟩
          exact ⟨a, c, _, _, _, rfl, rfl, h1, k2, by omega, k3, k4, k5, hb⟩
        have KF : Hid (∀ W a c n L l, L.length = l → l ≤ 18060 → Rs W a L → (∀ q ∈ L, 0 ≤ q.id ∧ q.id ≤ 18060) → Calls Tryz.prog 21 #[.agg #[.slice a l c, .int .i64 n]] W fun e w' => e = .returned (.int .i64 ((contK L).length : Int)) ∧ Below W.heap.size W w') := fun W a c n L l hl h18 hr hi => by
          subst hl
          exact files_w a c n L W hr (by omega) (fun q hq => by have := hi q hq; omega)
        have KN : Hid (∀ W a c n X l, X.length = l → l ≤ 18060 → Rs W aa LA → Rs W a X → goneK LA X = [] → (∀ q ∈ X, 0 ≤ q.id ∧ q.id ≤ 18060) → Calls Tryz.prog 15 #[.agg #[.slice aa lA ca, .int .i64 nA], .agg #[.slice a l c, .int .i64 n]] W fun e w' => ∃ v c2, e = .returned (.slice (some ⟨v, 0, none⟩) 0 c2) ∧ Below W.heap.size W w') := fun W a c n X l hl h18 rA rX hg hi => by
          subst hl
          have h9 := HPA2.out.len
          have := gone_w aa a ca c nA n LA X W rA rX (by omega) (by omega) (fun q hq => by have h1 := HPA2.out.sd.id q hq; have h2 := HPA2.out.nx; omega) (fun q hq => by have := hi q hq; omega)
          rw [hg, HEA.out] at this
          refine Calls.mono this ?_
          rintro e w' ⟨v, c2, vs, rfl, _, _, hb⟩
          exact ⟨v, c2, rfl, hb⟩
        have HIA : Hid (∀ q ∈ LA, 0 ≤ q.id ∧ q.id ≤ 18060) := fun q hq => by have h1 := HPA2.out.sd.id q hq; have h2 := HPA2.out.nx; omega
        have HIB : Hid (∀ q ∈ LB, 0 ≤ q.id ∧ q.id ≤ 18060) := fun q hq => by have h1 := HPB2.out.sd.id q hq; have h2 := HPB2.out.nx; omega
        have fA : (contK LA).length ≤ 9030 := Nat.le_trans (contK_len LA) HPA2.out.len
        have fB : (contK LB).length ≤ 9030 := Nat.le_trans (contK_len LB) HPB2.out.len
        have xa := cells_of HR.out.ba
        have xb := cells_of HR.out.bb
        clear HC HB HPA2 HPB2 HCA HNA HM
        go_upto_region 18 with (go_at_call 11; refine (KO.out _ HR.out).mono ?_; rintro e w5 ⟨a3, c3, X, l3, n3, rfl, HEX, R3, HLm, l3b, HFX, HGX, HIX, b5⟩; have HR2 : Hid (Kn w w5 _ _ _ _ _ _ _ _) := HR.out.next b5)
        have kb := below_box w5 (.cells #[.slice a3 l3 c3, .int .i64 n3] 26)
        have q1 := heap_alloc_new w5 (.cells #[.slice a3 l3 c3, .int .i64 n3] 26)
        have HR3 : Hid (Kn w _ _ _ _ _ _ _ _ _) := HR2.out.next kb
        have R4 : Hid (Rs _ a3 X) := R3.below kb
        clear KO xa xb HR HR2 R3 b5 kb
        generalize w5.alloc _ = w6 at *
        have hgt : w5.heap.size < w6.heap.size := (Array.getElem?_eq_some_iff.1 q1).1
        generalize w5.heap.size = gt at *
        have y1 := cells_of q1
        have xa := cells_of HR3.out.ba
        have xb := cells_of HR3.out.bb
        have hcmp : ((l3 : Int) == IntKind.i64.wrap (IntKind.i64.wrap ((lA : Int) + (lB : Int)) - (m : Int))) = true := by
          have := HLm.out
          rw [show IntKind.i64.wrap ((lA : Int) + (lB : Int)) = (lA : Int) + (lB : Int) by rw [IntKind.wrap_i64]; omega, show IntKind.i64.wrap ((lA : Int) + (lB : Int) - (m : Int)) = (lA : Int) + (lB : Int) - (m : Int) by rw [IntKind.wrap_i64]; omega]
          simp; omega
        have hfx : (((contK X).length : Int) == IntKind.i64.wrap (((contK LA).length : Int) + ((contK LB).length : Int))) = true := by
          have := HFX.out
          rw [show IntKind.i64.wrap (((contK LA).length : Int) + ((contK LB).length : Int)) = ((contK LA).length : Int) + ((contK LB).length : Int) by rw [IntKind.wrap_i64]; omega]
          simp; omega
        have fxb : (contK X).length ≤ 18060 := by have := HFX.out; omega
        clear HFX HLm
        have S6 : Hid (Sx w w6 gA gB gt #[.slice aa lA ca, .int .i64 nA] #[.slice ab lB cb, .int .i64 nB] #[.slice a3 l3 c3, .int .i64 n3] aa ab a3 LA LB X) := ⟨HR3.out, q1, R4.out⟩
        have S6d : Hid (Sx w w6.drew gA gB gt #[.slice aa lA ca, .int .i64 nA] #[.slice ab lB cb, .int .i64 nB] #[.slice a3 l3 c3, .int .i64 n3] aa ab a3 LA LB X) := S6.out.next ((Below.refl _ _).drew)
        have s6 := S6.out.cs
        have s6d := S6d.out.cs
        clear q1 R4 HR3 xa xb y1 hgt
        go_region_held3 (fun W => (∀ i, W.cell? ⟨gA, i, none⟩ = (#[.slice aa lA ca, .int .i64 nA] : Array Value)[i]?) ∧ (∀ i, W.cell? ⟨gB, i, none⟩ = (#[.slice ab lB cb, .int .i64 nB] : Array Value)[i]?) ∧ (∀ i, W.cell? ⟨gt, i, none⟩ = (#[.slice a3 l3 c3, .int .i64 n3] : Array Value)[i]?)) (first | assumption | exact s6 | exact s6d | exact s7 | exact s8 | exact s9 | exact s10) (first
          | (go_at_call 15; have vd := S9; refine (KN.out _ a3 c3 n3 X l3 HEX.out l3b S9.out.kn.ra S9.out.rx HGX.out HIX.out).mono ?_; rintro e w10 ⟨v10, c10, rfl, b10⟩; have S10 : Hid (Sx w w10 _ _ _ _ _ _ _ _ _ _ _ _) := S9.out.next b10; have s10 := S10.out.cs)
          | (go_at_call 21; have vd := S8; refine (KF.out _ ab cb nB LB lB HEB.out (by omega) S8.out.kn.rb HIB.out).mono ?_; rintro e w9 ⟨rfl, b9⟩; have S9 : Hid (Sx w w9 _ _ _ _ _ _ _ _ _ _ _ _) := S8.out.next b9; have s9 := S9.out.cs)
          | (go_at_call 21; have vd := S7; refine (KF.out _ aa ca nA LA lA HEA.out (by omega) S7.out.kn.ra HIA.out).mono ?_; rintro e w8 ⟨rfl, b8⟩; have S8 : Hid (Sx w w8 _ _ _ _ _ _ _ _ _ _ _ _) := S7.out.next b8; have s8 := S8.out.cs)
          | (go_at_call 21; refine (KF.out _ a3 c3 n3 X l3 HEX.out l3b S6d.out.rx HIX.out).mono ?_; rintro e w7 ⟨rfl, b7⟩; have S7 : Hid (Sx w w7 _ _ _ _ _ _ _ _ _ _ _ _) := S6d.out.next b7; have s7 := S7.out.cs))
        go_wp2_with fail
        go_ret
        exact ⟨rfl, S10.out.kn.bel⟩
    · have c0' : ¬ (n0 : Int) > 30 := by omega
      have c1' : (n1 : Int) > 30 := by omega
      go_wp2_with (go_at_call 9; refine (KL.out _ b0).mono ?_; rintro e wl ⟨rfl, bl⟩)
      go_ret
      exact ⟨rfl, bl⟩
  · have c0' : (n0 : Int) > 30 := by omega
    go_wp2_with (go_at_call 9; refine (KL.out _ b0).mono ?_; rintro e wl ⟨rfl, bl⟩)
    go_ret
    exact ⟨rfl, bl⟩

end Go.Proofs.YtpgiibpalmhhlaaGreatDoor
