/-
  The law ExtentParts returns true for every bytes and every list of numbers; no condition.
-/
import Derived.Test.YtpjfhfbjdcgbjabRows
import Derived.Test.YtpjfhfbjdcgbjabInts
import Derived.Deep.DeepCutAuto
import Derived.ProofKit
import Derived.OpenShut
import Derived.ShutString
import Derived.ChangeOld
import Derived.Below
namespace Go.Proofs.Ytpjfhfbjdcgbjab.extentParts
open Go.ChangeShapes Go.WideShapes Go.ChangeAt Go.RowKit
set_option linter.unusedVariables false
set_option linter.unusedSimpArgs false


/-- two contents in a store: all the bytes at once; so many of them, part by part -/
structure Tw (w wr : World) (p S F g7 g10 L : Nat) (zs : List Int) (a1 : Option Addr) (c1 : Nat) (ids1 : List Int) (f1 : Nat) (t : Nat) (a2 : Option Addr) (c2 : Nat) (ids2 : List Int) (ss : List Slot) (fr : List Nat) (vk : Value) (ks : List Int) : Prop where
  below : Below w.heap.size w wr
  one : wr.heap[g7]? = some (.cells #[.slice a1 ids1.length c1, .int .i64 (zs.length : Int)] 35 (0, 0))
  two : wr.heap[g10]? = some (.cells #[.slice a2 ids2.length c2, .int .i64 (t : Int)] 35 (0, 0))
  o1 : Own wr L (.slice a1 ids1.length c1) ids1
  o2 : Own wr L (.slice a2 ids2.length c2) ids2
  ok : Own wr L vk ks
  ar : Ar wr p S F ss fr
  inv : Inv ss fr [(ids2, zs.take t), (ids1, zs)]
  un : Un ss
  free : fr.length + need t = f1
  le : t ≤ zs.length

/-- the second content behind one more part -/
theorem Tw.next {w wr w' : World} {p S F g7 g10 L : Nat} {zs : List Int} {a1 : Option Addr} {c1 : Nat} {ids1 : List Int} {f1 t : Nat} {a2 : Option Addr} {c2 : Nat} {ids2 : List Int} {ss : List Slot} {fr : List Nat} {vk : Value} {ks : List Int} (h : Tw w wr p S F g7 g10 L zs a1 c1 ids1 f1 t a2 c2 ids2 ss fr vk ks)
    (hp : p < L) (hS : S < L) (hF : F < L) (gp : w.heap.size ≤ p) (gS : w.heap.size ≤ S) (gF : w.heap.size ≤ F) (h7 : L ≤ g7) (h10 : L ≤ g10) (hne : g7 ≠ g10) (hL : w.heap.size ≤ L) (hLw : L ≤ wr.heap.size)
    (k : Nat) (hk : t + k ≤ zs.length) (a3 : Option Addr) (c3 : Nat) (ids3 : List Int) (ss3 : List Slot) (fr3 : List Nat) (O : Own w' wr.heap.size (.slice a3 ids3.length c3) ids3) (A : Ar w' p S F ss3 fr3) (K : Keeps p S F wr w')
    (I : Inv ss3 fr3 [(ids3, zs.take t ++ (zs.drop t).take k), (ids1, zs)]) (f : (fr3.length : Int) = (fr.length : Int) - ((need (t + k) : Int) - (need t : Int)) - (if isShared ss ids2 t then 1 else 0)) (U : Un ss3) :
    Tw w ((w'.setCell ⟨g10, 0, none⟩ (.slice a3 ids3.length c3)).setCell ⟨g10, 1, none⟩ (.int .i64 ((t + k : Nat) : Int))) p S F g7 g10 L zs a1 c1 ids1 f1 (t + k) a3 c3 ids3 ss3 fr3 vk ks := by
  have l10 := lt_of_heap h.two
  have x10 : w'.heap[g10]? = _ := (K.block _ l10 (by omega) (by omega) (by omega)).trans h.two
  have x7 : w'.heap[g7]? = _ := (K.block _ (lt_of_heap h.one) (by omega) (by omega) (by omega)).trans h.one
  obtain ⟨y1, y2⟩ := two_set x10 (.slice a3 ids3.length c3) (.int .i64 ((t + k : Nat) : Int))
  have hb : Below w.heap.size w w' := h.below.trans (K.below h.below.size gp gS gF)
  have tt : ∀ (g : Nat), (∀ ty fz cur, w'.heap[g]? = some (.cells cur ty fz) → ty = 3) → g ≠ g10 := fun g ht => by rintro rfl; have := ht _ _ _ x10; cases this
  have e1 : zs.take t ++ (zs.drop t).take k = zs.take (t + k) := by rw [List.take_add]
  rw [if_neg (by rw [un_shared h.un]; simp)] at f
  rw [e1] at I
  refine ⟨(hb.setCell (by show w.heap.size ≤ g10; omega) _).setCell (by show w.heap.size ≤ g10; omega) _, (y2 _ hne).trans x7, y1, ?_, ?_, ?_, ?_, I, U, ?_, hk⟩
  · exact (h.o1.keeps K hp hS hF).moved fun g _ _ ht => y2 g (tt g ht)
  · exact (O.base hLw).moved fun g _ _ ht => y2 g (tt g ht)
  · exact (h.ok.keeps K hp hS hF).moved fun g _ _ ht => y2 g (tt g ht)
  · exact A.moved (y2 p (by omega)) (y2 S (by omega)) (y2 F (by omega))
  · have := h.free
    simp at f
    unfold need at *
    omega

set_option maxRecDepth 100000 in
set_option maxHeartbeats 16000000 in
theorem walk_yes (a : Option Addr) (cap : Nat) (zs : List Int) (ak : Option Addr) (capk : Nat) (ks : List Int) (w : World) (hl : zs.length ≤ 2000) (hlk : ks.length ≤ 50) (hc : zs.length ≤ cap) (hc2 : cap ≤ 9223372036854775807) (hs : Hid (Src w a zs)) (hk : Hid (SrcI w ak ks)) (hnil : Hid (ak = none → ks.length = 0 ∧ capk = 0)) (hkb : Hid (∀ z ∈ ks, -9223372036854775808 ≤ z ∧ z ≤ 9223372036854775807)) :
    Calls Try.prog 4 #[.slice a zs.length cap, .slice ak ks.length capk] w fun e w' => e = .returned (.bool true) ∧ Below w.heap.size w w' := by
  have hl' : decide ((2000 : Int) < (zs.length : Int)) = false := decide_eq_false (by omega)
  have hl2 : decide (2000 < zs.length) = false := decide_eq_false (by omega)
  have hlk' : decide ((50 : Int) < (ks.length : Int)) = false := decide_eq_false (by omega)
  have hlk2 : decide (50 < ks.length) = false := decide_eq_false (by omega)
  go_enter Try.func4, Try.ntmps4
  go_wp2_with fail
  refine (keeps_ok w).mono ?_
  rintro e w1 ⟨rfl, b1⟩
  go_wp2_with fail
  refine (new_yes 100 w1 (by decide)).mono ?_
  rintro e w2 ⟨p, S, F, rfl, A2, B2, gp, gS, gF⟩
  obtain ⟨lp, lS, lF⟩ := A2.lt
  have s1 := b1.size
  have b2 : Below w.heap.size w w2 := b1.trans (B2.mono s1)
  have s2 := b2.size
  have I2 : Inv (blank 100) (down 100) [([], [])] := (blank_inv 100 _ A2.good).begin
  have hs2 := hs.out.grow b2
  have hcan : canCode (blank 100) (down 100) [] ([] : List Int).length zs.length = 0 := I2.can zs.length (by simp; omega) (by rw [down_len]; have : isShared (blank 100) [] ([] : List Int).length = false := (by decide +kernel); rw [this]; simp [need]; omega)
  have q := app_inv A2 I2 none 0 0 (own_nil _ _) a zs cap hc hc2 hs2 (fun h0 ad e => by subst e; have := hs.out.lt h0; exact ⟨by omega, by omega, by omega⟩) hcan
  simp only [List.length_nil, List.nil_append, Int.natCast_zero] at q
  clear hcan I2
  go_wp2_with fail
  refine q.mono ?_
  rintro e w3 ⟨a1, c1, ids1, ss1, fr1, rfl, O3, A3, K3, I3, f3, U3⟩
  clear q A2 hs2
  have f1 : fr1.length + need zs.length = 100 := by
    rw [down_len, if_neg (by rw [un_shared (blank_un 100)]; simp)] at f3
    simp [need] at f3 ⊢
    omega
  have U3 := U3 (blank_un 100)
  have b3 : Below w.heap.size w w3 := b2.trans (K3.below s2 (by omega) (by omega) (by omega))
  have s3 := K3.size
  -- the variables one, two
  have g7 := heap_alloc_new w3 (.cells #[.slice a1 ids1.length c1, .int .i64 (zs.length : Int)] 35)
  have bx7 := below_box w3 (.cells #[.slice a1 ids1.length c1, .int .i64 (zs.length : Int)] 35)
  have A4 := A3.grow bx7
  have O4 := O3.grow bx7
  have b4 := b3.trans (bx7.mono b3.size)
  have s4 : w3.heap.size + 1 ≤ (w3.alloc (.cells #[.slice a1 ids1.length c1, .int .i64 (zs.length : Int)] 35)).heap.size := by simp
  generalize hv4 : w3.alloc (.cells #[.slice a1 ids1.length c1, .int .i64 (zs.length : Int)] 35) = w4 at *
  have q := free_w A4
  clear f3 K3 A3 O3 b3 bx7
  go_wp2_with fail
  refine q.mono ?_
  rintro e w' ⟨rfl, rfl⟩
  clear q hv4
  have g10 := heap_alloc_new w4 (.cells #[.slice none 0 0, .int .i64 0] 35)
  have bx := below_box w4 (.cells #[.slice none 0 0, .int .i64 0] 35)
  have A5 := A4.grow bx
  have O5 := O4.grow bx
  have g75 := heap_below bx g7
  have b5 := b4.trans (bx.mono b4.size)
  have s5 : w4.heap.size + 1 ≤ (w4.alloc (.cells #[.slice none 0 0, .int .i64 0] 35)).heap.size := by simp
  have hk5 := hk.out.grow b5
  have s5b := b5.size
  clear A4 O4 g7 bx b4
  go_wp2_with (at_builtin; refine wpList_ints (W := w4.alloc (.cells #[.slice none 0 0, .int .i64 0] 35)) rfl _ _ rfl (by rw [World.size_alloc]; rfl) ak ks.length capk ks rfl rfl hk5 hnil.out (by omega) ?_)
  have E5 : Hid ((w4.alloc (.cells #[.slice none 0 0, .int .i64 0] 35)).heap.size = w4.heap.size + 1) := World.size_alloc _ _
  generalize w4.alloc (.cells #[.slice none 0 0, .int .i64 0] 35) = w5 at *
  intro gk ck w6 Ok b6
  have b6 : Below w5.heap.size w5 w6 := by rw [E5.out]; exact b6
  have Ok : Own w6 w5.heap.size (.slice (some ⟨gk, 0, none⟩) ks.length ck) ks := by rw [E5.out]; exact Ok
  go_wp2_with (at_builtin; refine wpList_push (W := w6) rfl _ _ rfl w5.heap.size gk ks.length ck ks (zs.length : Int) rfl Ok b6.size rfl rfl (by omega) ?_)
  intro gk' ck' w7 Ok' b7
  have T7 : Tw w w7 p S F w3.heap.size w4.heap.size w2.heap.size zs a1 c1 ids1 fr1.length 0 none 0 [] ss1 fr1 (.slice (some ⟨gk', 0, none⟩) (ks.length + 1) ck') (ks ++ [(zs.length : Int)]) := by
    have b57 : Below w5.heap.size w5 w7 := b6.trans b7
    refine ⟨b5.trans (b57.mono b5.size), heap_below b57 g75, heap_below b57 g10, O5.grow b57, own_nil _ _, Ok'.base (by omega), A5.grow b57, ?_, U3, by simp [need], by omega⟩
    have := I3.begin
    simpa using this
  clear Ok Ok' b6 b7 hk5 g10 g75 O5 A5 I3 U3 b5
  have hN : Hid ((ks ++ [(zs.length : Int)]).length = ks.length + 1) := by simp [Hid]
  have hKB : Hid (∀ (j : Nat) (z : Int), (ks ++ [(zs.length : Int)])[j]? = some z → -9223372036854775808 ≤ z ∧ z ≤ 9223372036854775807) := by
    intro j z hz
    have := List.mem_of_getElem? hz
    rcases List.mem_append.1 this with h1 | h1
    · exact hkb.out z h1
    · simp at h1; omega
  have hLast : Hid ((ks ++ [(zs.length : Int)])[ks.length]? = some (zs.length : Int)) := by simp [Hid]
  generalize ks ++ [(zs.length : Int)] = kl at *
  go_wp2_with fail
  go_loopw [11, 54] (fun s11 x wr => ∃ (j t : Nat) (ab : Option Addr) (cr : Nat) (a2 : Option Addr) (c2 : Nat) (ids2 : List Int) (ss : List Slot) (fr : List Nat), j ≤ ks.length + 1 ∧ x = .int .i64 (j : Int) ∧ s11 = .slice ab (zs.length - t) cr ∧ zs.length - t ≤ cr ∧ cr ≤ 9223372036854775807 ∧ Hid (Src w ab (zs.drop t)) ∧ Hid (j = ks.length + 1 → t = zs.length) ∧ Tw w wr p S F w3.heap.size w4.heap.size w2.heap.size zs a1 c1 ids1 fr1.length t a2 c2 ids2 ss fr (.slice (some ⟨gk', 0, none⟩) (ks.length + 1) ck') kl) (fun _ x _ => ks.length + 1 - (intOf x).toNat)
  case atStart => exact ⟨0, 0, a, cap, none, 0, [], ss1, fr1, by omega, rfl, rfl, by omega, hc2, by simpa [Hid] using hs.out, fun h => by omega, T7⟩
  case round =>
    clear T7
    obtain ⟨j, t, ab, cr, a2, c2, ids2, ss, fr, hj, rfl, rfl, hcr, hcr2, HS, HE, T⟩ := hrel
    by_cases hlt : j < ks.length + 1
    · obtain ⟨u0, u1, u2, u3, _⟩ := T.ok.use
      obtain ⟨bk, offk, ek, hcell⟩ := u1 (by have := hN.out; omega)
      obtain ⟨kv, hkv⟩ : ∃ kv, kl[j]? = some kv := ⟨kl[j]'(by have := hN.out; omega), List.getElem?_eq_getElem _⟩
      have ckv := hcell j kv hkv
      simp at ek
      obtain ⟨rfl, rfl⟩ := ek
      rw [Nat.zero_add] at ckv
      have hkvb := hKB.out j kv hkv
      have hle := T.le
      have HT : Hid _ := T
      have HKV : Hid _ := hkv
      clear T u0 u1 u2 u3 hcell hkv
      go_upto_region 15 with fail
      go_cut [14] (fun s14 wx => ∃ k : Nat, k ≤ zs.length - t ∧ Hid (j = ks.length → k = zs.length - t) ∧ s14 = .int .i64 (k : Int) ∧ wx = wr)
      case first =>
        have hLk : j = ks.length → kv = (zs.length : Int) := fun e => by
          have h1 := HKV.out; rw [e, hLast.out] at h1; exact (Option.some.inj h1).symm
        have HLK : Hid _ := hLk
        clear hLk
        by_cases q1 : ((zs.length - t : Nat) : Int) < kv
        · go_wp2_with fail
          all_goals go_meet
          all_goals first
            | exact ⟨zs.length - t, Nat.le_refl _, fun _ => rfl, rfl, rfl⟩
            | exact ⟨0, by omega, fun e => by have := HLK.out e; omega, rfl, rfl⟩
        · by_cases q2 : (0 : Int) < kv
          · obtain ⟨kn, rfl⟩ : ∃ kn : Nat, kv = (kn : Int) := ⟨kv.toNat, by omega⟩
            go_wp2_with fail
            all_goals go_meet
            all_goals first
              | exact ⟨kn, by omega, fun e => by have := HLK.out e; omega, rfl, rfl⟩
              | exact ⟨0, by omega, fun e => by have := HLK.out e; omega, rfl, rfl⟩
              | exact ⟨zs.length - t, Nat.le_refl _, fun _ => rfl, by congr 1; omega, rfl⟩
          · go_wp2_with fail
            all_goals go_meet
            all_goals first
              | exact ⟨0, by omega, fun e => by have := HLK.out e; omega, rfl, rfl⟩
              | exact ⟨zs.length - t, Nat.le_refl _, fun _ => rfl, by congr 1; omega, rfl⟩
      case rest =>
        obtain ⟨k, hk1, HKE, rfl, rfl⟩ := hcut
        have hrl : ((zs.drop t).take k).length = k := by rw [List.length_take, List.length_drop]; omega
        have htl : (zs.take t).length = t := by rw [List.length_take]; omega
        have hcan : canCode ss fr ids2 (zs.take t).length ((zs.drop t).take k).length = 0 := HT.out.inv.can _ (by rw [htl, hrl]; omega) (by
          rw [if_neg (by rw [un_shared HT.out.un]; simp), htl, hrl]
          have := HT.out.free
          unfold need at *
          omega)
        have hSd := src_high ((HS.out).grow HT.out.below) k
        have sw := lt_of_heap HT.out.two
        have q := app_inv HT.out.ar.drew HT.out.inv a2 c2 w2.heap.size (HT.out.o2.moved fun _ _ _ _ => rfl) ab ((zs.drop t).take k) cr (by omega) hcr2 (hSd.moved (w' := wc.drew) fun _ _ => rfl) (fun h0 ad e => by
          subst e
          have := (HS.out).lt (by rw [List.length_drop]; omega)
          exact ⟨by omega, by omega, by omega⟩) hcan
        rw [hrl, htl] at q
        have eL : ((zs.take t ++ (zs.drop t).take k).length : Int) = ((t + k : Nat) : Int) := by rw [List.length_append, htl, hrl]
        rw [eL] at q
        have g10 := HT.out.two
        have hG : ∀ w8, Keeps p S F wc.drew w8 → w8.heap[w4.heap.size]? = some (.cells #[.slice a2 ids2.length c2, .int .i64 (t : Int)] 35 (0, 0)) := fun w8 K => (K.block _ (by show w4.heap.size < wc.heap.size; omega) (by omega) (by omega) (by omega)).trans g10
        obtain ⟨k0, k1, k2, k3⟩ := two_cells g10
        have r1 := fun W => run_high W ab (zs.length - t) cr k (by omega)
        have HG : Hid _ := hG
        clear hG g10 hcan hSd hrl htl eL ckv hkvb HKV
        go_upto_region 16 with fail
        go_cut [8] (fun s8 wx => s8 = .int .i64 0 ∧ ∃ a3 c3 ids3 ss3 fr3, Tw w wx p S F w3.heap.size w4.heap.size w2.heap.size zs a1 c1 ids1 fr1.length (t + k) a3 c3 ids3 ss3 fr3 (.slice (some ⟨gk', 0, none⟩) (ks.length + 1) ck') kl)
        case first =>
          go_region_with (go_at_call 12; refine q.mono ?_; rintro e w8 ⟨a3, c3, ids3, ss3, fr3, rfl, O8, A8, K8, I8, f8, U8⟩; have gg := HG.out w8 K8; obtain ⟨m0, m1, m2, m3⟩ := two_cells gg)
          all_goals go_wp2_with fail
          all_goals go_meet
          all_goals exact ⟨rfl, a3, c3, ids3, ss3, fr3, by have := HT.out.next lp lS lF (by omega) (by omega) (by omega) (by omega) (by omega) (by omega) s2 (by omega) k (by omega) a3 c3 ids3 ss3 fr3 O8 A8 ((Keeps.refl p S F wc).drew.trans K8) I8 f8 (U8 HT.out.un); exact this⟩
        case rest =>
          obtain ⟨rfl, a3, c3, ids3, ss3, fr3, T3⟩ := hcut
          have r2 := fun W => run_low W ab (zs.length - t) cr k hk1
          clear r1 q k0 k1 k2 k3 HG
          have HT3 : Hid _ := T3
          clear T3 HT
          go_wp2
          go_roundw
          case rel => exact ⟨j + 1, t + k, lowAt ab cr k, cr - k, a3, c3, ids3, ss3, fr3, by omega, by go_num, by congr 1; omega, by omega, by omega, by
            have := src_low HS.out cr k (by rw [List.length_drop]; omega)
            rw [List.drop_drop] at this
            exact this, fun e => by have := HKE.out (by omega); omega, HT3.out⟩
          case measure => simp [intOf]; omega
    · obtain rfl : j = ks.length + 1 := by omega
      obtain rfl : t = zs.length := HE.out rfl
      have I := T.inv
      rw [List.take_length] at I
      have q1 := read_ext T.ar a1 c1 ids1 zs (I.lies (ids1, zs) (by simp)) T.o1.use.2.1 (by omega) 0 zs.length (by omega)
      obtain ⟨k0, k1, k2, k3⟩ := two_cells T.one
      have HT : Hid _ := T
      have HI : Hid _ := I
      clear T I
      have z0 : decide ((zs.length : Int) < 0) = false := decide_eq_false (by omega)
      go_wp2_with fail
      refine q1.mono ?_
      rintro e w8 ⟨g8, c8, rfl, R8, _, b8⟩
      clear q1 k0 k1 k2 k3
      obtain ⟨k0, k1, k2, k3⟩ := two_cells (heap_below b8 HT.out.two)
      have q2 := read_ext (HT.out.ar.grow b8) a2 c2 ids2 zs (HI.out.lies (ids2, zs) (by simp)) (HT.out.o2.grow b8).use.2.1 (by omega) 0 zs.length (by omega)
      go_wp2_with fail
      refine q2.mono ?_
      rintro e w9 ⟨g9, c9, rfl, R9, _, b9⟩
      clear q2 k0 k1 k2 k3
      have b89 := b8.trans (b9.mono b8.size)
      have bb := HT.out.below.trans (b89.mono HT.out.below.size)
      have hp : part zs 0 zs.length = zs := by rw [part_zero, List.take_length]
      rw [hp] at R8 R9
      have v1 := conv_src w9 _ zs zs.length c8 rfl (R8.use.2.grow b9)
      have v2 := conv_src w9 _ zs zs.length c9 rfl R9.use.2
      have v3 := conv_src w9 a zs zs.length cap rfl (hs.out.grow bb)
      have q3 := free_w (HT.out.ar.grow b89)
      have q4 := need_w zs.length w9 (by omega)
      obtain ⟨k0, k1, k2, k3⟩ := two_cells (heap_below b89 HT.out.one)
      obtain ⟨m0, m1, m2, m3⟩ := two_cells (heap_below b89 HT.out.two)
      have ff := HT.out.free
      have fle : fr1.length ≤ 100 := by omega
      generalize strOf zs = SS at *
      clear R8 R9 b8 b9 b89 HT HI hs hp
      go_wp2_with fail
      refine q3.mono ?_
      rintro e w' ⟨rfl, rfl⟩
      go_wp2_with fail
      refine q4.mono ?_
      rintro e w' ⟨rfl, rfl⟩
      go_wp2
      go_ret
      exact ⟨by simp, bb⟩

theorem walk_no (a ak : Option Addr) (l cap lk capk : Nat) (w : World) (h1 : l ≤ 9223372036854775807) (h2 : lk ≤ 9223372036854775807) (h : 2000 < l ∨ 50 < lk) :
    Calls Try.prog 4 #[.slice a l cap, .slice ak lk capk] w fun e w' => e = .returned (.bool true) ∧ Below w.heap.size w w' := by
  by_cases c : (2000 : Int) < (l : Int)
  · go_enter Try.func4, Try.ntmps4
    go_wp2_with (go_at_call 9; refine (keeps_ok _).mono ?_; rintro e w1 ⟨rfl, hb1⟩)
    go_ret
    exact ⟨rfl, hb1⟩
  · have c2 : (50 : Int) < (lk : Int) := by omega
    go_enter Try.func4, Try.ntmps4
    go_wp2_with (go_at_call 9; refine (keeps_ok _).mono ?_; rintro e w1 ⟨rfl, hb1⟩)
    go_ret
    exact ⟨rfl, hb1⟩

theorem walk (a : Option Addr) (l cap : Nat) (zs : List Int) (ak : Option Addr) (lk capk : Nat) (ks : List Int) (w : World) (hr : IsRow .u8 w a l cap zs) (hk : IsRow .i64 w ak lk capk ks) :
    Calls Try.prog 4 #[.slice a l cap, .slice ak lk capk] w fun e w' => e = .returned (.bool true) ∧ Below w.heap.size w w' := by
  obtain ⟨hs, hl, hcap, hmax⟩ := row_src hr
  obtain ⟨hs2, hl2, hcap2, hmax2, hb2, hn2⟩ := rowI_src hk
  by_cases c : 2000 < l ∨ 50 < lk
  · exact walk_no a ak l cap lk capk w (by omega) (by omega) c
  · have := walk_yes a cap (zs.take l) ak capk (ks.take lk) w (by omega) (by omega) (by omega) hmax hs hs2 (fun e => by rw [hl2]; exact hn2 e) hb2
    rw [hl, hl2] at this
    exact this

theorem own : ownKnob Try.prog.godebug = none := by kernel_rfl
theorem laidOut : laidOutB Try.prog = true := by kernel_rfl
set_option maxRecDepth 100000 in
theorem lifted (os : Os) (started : os.Started) (H : Type) (enc : TypeId × Value → H) :
    ReturnsInHanded {} Try.checked os 4 .any (Rows.extentPartsSpec.pre6 enc Try.prog Try.f4 Rows.extentPartsRow.domain false) (Rows.extentPartsSpec.post enc Try.prog Try.f4 false true false false) := by
  refine returnsInHanded_of_change (C := Try.checked) own started (by kernel_rfl) Try.func4
    (ChangeSpec.witness6 (enc := enc) (C := Try.checked) false ⟨#[], #[.slice none 0 0, .slice none 0 0], []⟩ 8 (by kernel_rfl) (by kernel_rfl) (by kernel_rfl) (by kernel_rfl)) ?_
  intro W base args ds gs before hval0 hW hcnd _
  have hval : ∀ (j : Nat) t v, Try.f4.params[j]? = some t → args[j]? = some v → Value.okWide Try.prog W .any base t v := hval0
  have hW' := hW
  obtain ⟨p, q, hA0, hV, rfl, hfz, hnd⟩ := hW
  have hA : DataW.TrodAll enc Try.prog W 0 (fun _ => true) true Try.f4.params.toList args.toList ds p := hA0
  rw [Try.params4] at hA hval
  obtain ⟨v0, vs0, d0, ds0, p0, q0, hargs, rfl, rfl, h0, r0⟩ := trodAll_cons hA
  obtain ⟨v1, vs1, d1, ds1, p1, q1, rfl, rfl, rfl, h1, r1⟩ := trodAll_cons r0
  obtain ⟨rfl, rfl, rfl⟩ := trodAll_nil r1
  obtain rfl : args = #[v0, v1] := by cases args; simp_all
  obtain ⟨rfl, rfl⟩ := trodVars_none hV
  obtain ⟨a0, len0, cap0, rfl⟩ := okWide_slice Try.underlying30 (hval 0 30 v0 rfl rfl)
  have k0 := h0
  have lt0 : ∀ x ∈ p0, x.block < W.heap.size := by obtain ⟨m, hm⟩ := k0; exact DataW.trod_lt m _ _ _ hm
  obtain ⟨z0, w0⟩ : ∃ zs, IsRow .u8 W a0 len0 cap0 zs := by
    obtain ⟨fuel, hf⟩ := h0
    rcases open_ints Try.underlying30 Try.underlying5 (by kernel_rfl) hf with ⟨hcs, _⟩ | ⟨x, l, c, zs, hcs, _, hl, hm, hz, _, hcell, hwz⟩
    · simp [Value.cells] at hcs
      obtain ⟨rfl, rfl, rfl⟩ := hcs
      exact ⟨[], .inl ⟨rfl, rfl, rfl, rfl⟩⟩
    · simp [Value.cells] at hcs
      obtain ⟨rfl, rfl, rfl⟩ := hcs
      exact ⟨zs, .inr ⟨_, rfl, hl, hm, by simpa using hz, hcell, hwz⟩⟩
  obtain ⟨a1, len1, cap1, rfl⟩ := okWide_slice Try.underlying33 (hval 1 33 v1 rfl rfl)
  have k1 := h1
  have lt1 : ∀ x ∈ p1, x.block < W.heap.size := by obtain ⟨m, hm⟩ := k1; exact DataW.trod_lt m _ _ _ hm
  obtain ⟨z1, w1⟩ : ∃ zs, IsRow .i64 W a1 len1 cap1 zs := by
    obtain ⟨fuel, hf⟩ := h1
    rcases open_ints Try.underlying33 Try.underlying3 (by kernel_rfl) hf with ⟨hcs, _⟩ | ⟨x, l, c, zs, hcs, _, hl, hm, hz, _, hcell, hwz⟩
    · simp [Value.cells] at hcs
      obtain ⟨rfl, rfl, rfl⟩ := hcs
      exact ⟨[], .inl ⟨rfl, rfl, rfl, rfl⟩⟩
    · simp [Value.cells] at hcs
      obtain ⟨rfl, rfl, rfl⟩ := hcs
      exact ⟨zs, .inr ⟨_, rfl, hl, hm, by simpa using hz, hcell, hwz⟩⟩
  clear hA0 hval0
  refine (walk a0 len0 cap0 z0 a1 len1 cap1 z1 W w0 w1).mono fun e W' ⟨he, bel⟩ => ?_
  subst he
  exact ⟨_, rfl, _, _, _, [], _, [], hW', trodAll_mk1 (shut_bool Try.underlying4 _), (trodAll_cons_mk (Below.trod laidOut (by kernel_rfl) (of_decide_eq_true (by kernel_rfl)) k0 bel lt0) (trodAll_cons_mk (Below.trod laidOut (by kernel_rfl) (of_decide_eq_true (by kernel_rfl)) k1 bel lt1) trodAll_mk0)), rfl, bel.frame _, fun h => by cases h⟩

theorem over : Rows.extentPartsRow.holds Try.pinned (OpenSpec.ofChange Rows.extentPartsSpec) :=
  OpenClaim.holds_of_wide 4 Try.f4 rfl rfl rfl rfl rfl rfl rfl ⟨rfl, rfl, rfl, rfl, rfl⟩ rfl rfl rfl rfl rfl (by kernel_rfl) Try.func4 (by kernel_rfl)
    (of_decide_eq_true (by kernel_rfl)) (by unfold Func.isWrapper; first | (rw [if_pos (by decide +kernel)]; kernel_rfl) | (rw [if_neg (by decide +kernel)]; exact ⟨rfl, rfl⟩))
    (fun os started H enc _ => lifted os started H enc)

end Go.Proofs.Ytpjfhfbjdcgbjab.extentParts
namespace Go.Proofs.Ytpjfhfbjdcgbjab
theorem extentParts_holds : Rows.ExtentPartsSaid := extentParts.over
#print axioms extentParts_holds
end Go.Proofs.Ytpjfhfbjdcgbjab
