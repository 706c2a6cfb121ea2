/-
  Contract: usage.Of.
-/
import Derived.Test.YtpgiibpalmhhlaaGreatDoorU1
import Derived.Deep.DeepCutAuto
namespace Go.Proofs.YtpgiibpalmhhlaaGreatDoor
open Go.RowKit
open Go.Lib hiding intOf
set_option linter.unusedVariables false
set_option linter.unusedSimpArgs false

theorem wf64 {z : Int} (h : -9223372036854775808 ≤ z ∧ z ≤ 9223372036854775807) : (Lit.int .i64 z).wf = true := by
  have e1 : IntKind.i64.min = -9223372036854775808 := by decide
  have e2 : IntKind.i64.max = 9223372036854775807 := by decide
  simp [Lit.wf, e1, e2]
  omega

theorem Oi.mk0 (w : World) (T : Array Value) (o : Obj) : Oi w ((((w.alloc (.cells T 26)).alloc (.cells #[.int .i64 0, .int .i64 0, .int .i64 0, .int .i64 0] 55)).alloc (.cells #[.int .i64 0, .int .i64 0, .int .i64 0, .int .i64 0] 55)).alloc o) T 0 0 0 0 := by
  have s1 := size_box w (.cells T 26)
  have s2 := size_box (w.alloc (.cells T 26)) (.cells #[.int .i64 0, .int .i64 0, .int .i64 0, .int .i64 0] 55)
  have s3 := size_box ((w.alloc (.cells T 26)).alloc (.cells #[.int .i64 0, .int .i64 0, .int .i64 0, .int .i64 0] 55)) (.cells #[.int .i64 0, .int .i64 0, .int .i64 0, .int .i64 0] 55)
  have s4 := size_box (((w.alloc (.cells T 26)).alloc (.cells #[.int .i64 0, .int .i64 0, .int .i64 0, .int .i64 0] 55)).alloc (.cells #[.int .i64 0, .int .i64 0, .int .i64 0, .int .i64 0] 55)) o
  refine ⟨?_, ?_, ?_, ?_, by omega⟩
  · rw [Below.heap_alloc _ _ _ (by omega), Below.heap_alloc _ _ _ (by omega), Below.heap_alloc _ _ _ (by omega)]; exact heap_alloc_new _ _
  · rw [Below.heap_alloc _ _ _ (by omega), Below.heap_alloc _ _ _ (by omega)]
    have := heap_alloc_new (w.alloc (.cells T 26)) (.cells #[.int .i64 0, .int .i64 0, .int .i64 0, .int .i64 0] 55)
    rwa [s1] at this
  · rw [Below.heap_alloc _ _ _ (by omega)]
    have := heap_alloc_new ((w.alloc (.cells T 26)).alloc (.cells #[.int .i64 0, .int .i64 0, .int .i64 0, .int .i64 0] 55)) (.cells #[.int .i64 0, .int .i64 0, .int .i64 0, .int .i64 0] 55)
    rwa [s2, s1] at this
  · exact (((below_box w _).alloc (by omega) _).alloc (by omega) _).alloc (by omega) _

set_option maxRecDepth 20000 in
set_option maxHeartbeats 4000000 in
theorem of_w (ad : Option Addr) (cap : Nat) (nx : Int) (L : List Rw) (w : World) (hm : Ml w) (hr : Rs w ad L) (hl : L.length ≤ 1000000) (ho : ∀ r ∈ L, Okr r) :
    Calls Tryz.prog 18 #[.agg #[.slice ad L.length cap, .int .i64 nx]] w fun e w' => e = .returned (.agg #[.int .i64 ((ofU L).b : Int), .int .i64 ((ofU L).n : Int), .int .i64 ((ofU L).d : Int), .int .i64 ((ofU L).l : Int)]) ∧ Below w.heap.size w w' := by
  have mm := make85
  have HM : Hid (Ml w) := hm
  have HR : Hid (Rs w ad L) := hr
  have HO : Hid (∀ r ∈ L, Okr r) := ho
  clear hm hr ho
  generalize hn : L.length = n at *
  have HN : Hid (L.length = n) := hn
  clear hn
  have H0 := Oi.mk0 w #[.slice ad n cap, .int .i64 nx] (.map #[] 0)
  have C0 := Cnt.made (((w.alloc (.cells #[.slice ad n cap, .int .i64 nx] 26)).alloc (.cells #[.int .i64 0, .int .i64 0, .int .i64 0, .int .i64 0] 55)).alloc (.cells #[.int .i64 0, .int .i64 0, .int .i64 0, .int .i64 0] 55))
  rw [size_box, size_box, size_box] at C0
  go_enter Tryz.func18, Tryz.ntmps18
  go_wp2_with fail
  generalize ((((w.alloc _).alloc _).alloc _).alloc _) = w0 at *
  go_loopw [11] (fun x wr => ∃ (i : Nat), x = .int .i64 (i : Int) ∧ i ≤ n ∧ Hid (Oi w wr #[.slice ad n cap, .int .i64 nx] (ofU (L.take i)).b (ofU (L.take i)).n (ofU (L.take i)).d (ofU (L.take i)).l) ∧ Hid (Cnt wr (w.heap.size + 1 + 1 + 1) i (ofU (L.take i)).S)) (fun x _ => n - (intOf x).toNat)
  case atStart => exact ⟨0, rfl, Nat.zero_le _, H0, C0⟩
  case round =>
    obtain ⟨i, rfl, hi, HI, HC⟩ := hrel
    by_cases hlt : i < n
    · obtain ⟨r, hr⟩ : ∃ r, L[i]? = some r := ⟨_, List.getElem?_eq_getElem (by have := HN.out; omega)⟩
      have hok := HO.out r (List.mem_of_getElem? hr)
      have HU : Hid (ofU (L.take (i + 1)) = stepU (ofU (L.take i)) r) := ofU_succ L i r hr
      have hsm := ofU_small (L.take i) (fun q hq => HO.out q (List.mem_of_mem_take hq))
      have hlen : (L.take i).length ≤ 1000000 := by rw [List.length_take]; omega
      obtain ⟨b, o, rfl, hb1, hb2⟩ := (HR.out.below HI.out.bel).at hr
      have HB : Hid (wr.rangeAt b (o + i * 13) [.string (bs r.p), .int .i64 r.id, .int .i64 r.kind, .int .i64 r.mode, .int .i64 0, .int .i64 0, .int .i64 0, .string ⟨#[]⟩, .string ⟨#[]⟩, .string ⟨#[]⟩, .slice none 0 0, .int .i64 r.size, .bool r.made]) := hb2
      generalize ofU (L.take i) = u at *
      have i1 : (0 : Int) ≤ (i : Int) := by omega
      have i2 : (i : Int) < (n : Int) := by omega
      have hsi : Hid ((Tryz.prog.info? 43).map (·.size) = some ([.string (bs r.p), .int .i64 r.id, .int .i64 r.kind, .int .i64 r.mode, .int .i64 0, .int .i64 0, .int .i64 0, .string ⟨#[]⟩, .string ⟨#[]⟩, .string ⟨#[]⟩, .slice none 0 0, .int .i64 r.size, .bool r.made] : List Value).length) := (by show _ = _; kernel_rfl)
      have wi : wrap64 ((i : Int) + 1) = (i : Int) + 1 := by unfold wrap64; omega
      clear hr hb2
      go_upto_region 6 with (refine wpList_load_mid rfl 43 _ rfl b (o + i * 13) rfl [.string (bs r.p), .int .i64 r.id, .int .i64 r.kind, .int .i64 r.mode, .int .i64 0, .int .i64 0, .int .i64 0, .string ⟨#[]⟩, .string ⟨#[]⟩, .string ⟨#[]⟩, .slice none 0 0, .int .i64 r.size, .bool r.made] _ HB.out Tryz.underlying43 rfl hsi.out ?_)
      have O2 : Hid (Oi w (wr.alloc (.cells #[.string (bs r.p), .int .i64 r.id, .int .i64 r.kind, .int .i64 r.mode, .int .i64 0, .int .i64 0, .int .i64 0, .string ⟨#[]⟩, .string ⟨#[]⟩, .string ⟨#[]⟩, .slice none 0 0, .int .i64 r.size, .bool r.made] 43)) #[.slice (some ⟨b, o, none⟩) n cap, .int .i64 nx] u.b u.n u.d u.l) := HI.out.below (below_box _ _)
      have C2 : Hid (Cnt (wr.alloc (.cells #[.string (bs r.p), .int .i64 r.id, .int .i64 r.kind, .int .i64 r.mode, .int .i64 0, .int .i64 0, .int .i64 0, .string ⟨#[]⟩, .string ⟨#[]⟩, .string ⟨#[]⟩, .slice none 0 0, .int .i64 r.size, .bool r.made] 43)) (w.heap.size + 1 + 1 + 1) i u.S) := HC.out.below (below_box _ _)
      have g0 := heap_alloc_new wr (.cells #[.string (bs r.p), .int .i64 r.id, .int .i64 r.kind, .int .i64 r.mode, .int .i64 0, .int .i64 0, .int .i64 0, .string ⟨#[]⟩, .string ⟨#[]⟩, .string ⟨#[]⟩, .slice none 0 0, .int .i64 r.size, .bool r.made] 43)
      have HG : Hid ((wr.alloc (.cells #[.string (bs r.p), .int .i64 r.id, .int .i64 r.kind, .int .i64 r.mode, .int .i64 0, .int .i64 0, .int .i64 0, .string ⟨#[]⟩, .string ⟨#[]⟩, .string ⟨#[]⟩, .slice none 0 0, .int .i64 r.size, .bool r.made] 43)).heap[wr.heap.size]? = some (.cells #[.string (bs r.p), .int .i64 r.id, .int .i64 r.kind, .int .i64 r.mode, .int .i64 0, .int .i64 0, .int .i64 0, .string ⟨#[]⟩, .string ⟨#[]⟩, .string ⟨#[]⟩, .slice none 0 0, .int .i64 r.size, .bool r.made] 43 (0, 0))) := g0
      have hge : w.heap.size + 4 ≤ wr.heap.size := HI.out.lt
      have hgl : wr.heap.size < (wr.alloc (.cells #[.string (bs r.p), .int .i64 r.id, .int .i64 r.kind, .int .i64 r.mode, .int .i64 0, .int .i64 0, .int .i64 0, .string ⟨#[]⟩, .string ⟨#[]⟩, .string ⟨#[]⟩, .slice none 0 0, .int .i64 r.size, .bool r.made] 43)).heap.size := by rw [size_box]; omega
      clear g0 HB
      generalize wr.alloc _ = w2 at *
      generalize wr.heap.size = gr at *
      have cr := cells_of HG.out
      have ht := bs_toList r.p
      by_cases hp : r.p = []
      · have HU2 : Hid (ofU (L.take (i + 1)) = u) := (by show _ = _; rw [HU.out]; unfold stepU; rw [if_pos hp])
        have hE : r.p.isEmpty = true := by simp [hp]
        clear hp HU
        go_wp2_with fail
        go_roundw
        case rel => exact ⟨i + 1, by simp, by omega, by show Oi _ _ _ _ _ _ _; rw [HU2.out]; exact O2.out, by show Cnt _ _ _ _; rw [HU2.out]; obtain ⟨D, q1, q2, q3⟩ := C2.out.own; exact ⟨D, q1.mono (by omega), q2, q3⟩⟩
        case measure => simp [intOf]; omega
      · have hE : r.p.isEmpty = false := by simpa using hp
        have KP : Hid (∀ W, Below w.heap.size w W → Calls Tryz.prog 36 #[.string (bs r.p)] W fun e w' => ∃ ad, e = .returned (.slice ad (prt r.p).length (prt r.p).length) ∧ Below W.heap.size W w') := fun W hW => by
          refine (parts_w r.p (by have := hok.p; omega) W (HM.out.below hW)).mono ?_
          rintro e w' ⟨ad, h1, _, h2⟩
          exact ⟨ad, h1, h2⟩
        go_upto_region 7 with fail
        go_cut [23] (fun _ wx => Hid (Oi w wx #[.slice (some ⟨b, o, none⟩) n cap, .int .i64 nx] u.b u.n (max u.d (prt r.p).length) u.l) ∧ Hid (Cnt wx (w.heap.size + 1 + 1 + 1) i u.S) ∧ Hid (wx.heap[gr]? = some (.cells #[.string (bs r.p), .int .i64 r.id, .int .i64 r.kind, .int .i64 r.mode, .int .i64 0, .int .i64 0, .int .i64 0, .string ⟨#[]⟩, .string ⟨#[]⟩, .string ⟨#[]⟩, .slice none 0 0, .int .i64 r.size, .bool r.made] 43 (0, 0))) ∧ Hid (gr < wx.heap.size))
        case first =>
          have cu := cells_of O2.out.use
          have fu := froz_of O2.out.use
          go_region_with (go_at_call 36; refine (KP.out _ O2.out.drew.bel).mono ?_; rintro e w3 ⟨adp, rfl, b3⟩; have O3 : Hid (Oi w w3 #[.slice (some ⟨b, o, none⟩) n cap, .int .i64 nx] u.b u.n u.d u.l) := O2.out.drew.below b3; have cu3 := cells_of O3.out.use; have fu3 := froz_of O3.out.use; have cr3 := cells_of ((b3.block _ hgl).trans HG.out))
          all_goals
            have P1 : Hid (Oi w (w3.setCell ⟨w.heap.size + 2, 2, none⟩ (.int .i64 (max (u.d : Int) ((prt r.p).length : Int)))) #[.slice (some ⟨b, o, none⟩) n cap, .int .i64 nx] u.b u.n (max u.d (prt r.p).length) u.l) := O3.out.set 2 _ (by rw [show (max (u.d : Int) ((prt r.p).length : Int)) = ((max u.d (prt r.p).length : Nat) : Int) by omega]; rfl)
            have P2 : Hid (Cnt (w3.setCell ⟨w.heap.size + 2, 2, none⟩ (.int .i64 (max (u.d : Int) ((prt r.p).length : Int)))) (w.heap.size + 1 + 1 + 1) i u.S) := (C2.out.drew.below b3).set _ _ (by show _ ≠ w.heap.size + 2; omega)
            have P3 : Hid ((w3.setCell ⟨w.heap.size + 2, 2, none⟩ (.int .i64 (max (u.d : Int) ((prt r.p).length : Int)))).heap[gr]? = some (.cells #[.string (bs r.p), .int .i64 r.id, .int .i64 r.kind, .int .i64 r.mode, .int .i64 0, .int .i64 0, .int .i64 0, .string ⟨#[]⟩, .string ⟨#[]⟩, .string ⟨#[]⟩, .slice none 0 0, .int .i64 r.size, .bool r.made] 43 (0, 0))) := (Below.heap_setCell _ _ _ _ (by show gr ≠ w.heap.size + 2; omega)).trans ((b3.block _ hgl).trans HG.out)
            have P4 : Hid (gr < (w3.setCell ⟨w.heap.size + 2, 2, none⟩ (.int .i64 (max (u.d : Int) ((prt r.p).length : Int)))).heap.size) := (by show _ < _; rw [World.size_setCell]; exact Nat.lt_of_lt_of_le hgl b3.size)
            clear cu fu cu3 fu3 cr3 cr
            go_wp2_with fail
            go_meet
            exact ⟨P1, P2, P3, P4⟩
        case rest =>
          obtain ⟨O4, C4, G4, L4⟩ := hcut
          clear O2 C2 HG cr KP
          have cu := cells_of O4.out.use
          have fu := froz_of O4.out.use
          have cr := cells_of G4.out
          have hz := bs_size r.p
          have HWF : Hid ((Lit.int .i64 r.id).wf = true) := wf64 hok.id
          generalize hD : max u.d (prt r.p).length = D at *
          go_upto_region 9 with fail
          have P1 : Hid (Oi w (wc.setCell ⟨w.heap.size + 2, 3, none⟩ (.int .i64 (max (u.l : Int) (r.p.length : Int)))) #[.slice (some ⟨b, o, none⟩) n cap, .int .i64 nx] u.b u.n D (max u.l r.p.length)) := O4.out.set 3 _ (by rw [show (max (u.l : Int) (r.p.length : Int)) = ((max u.l r.p.length : Nat) : Int) by omega]; rfl)
          have P2 : Hid (Cnt (wc.setCell ⟨w.heap.size + 2, 3, none⟩ (.int .i64 (max (u.l : Int) (r.p.length : Int)))) (w.heap.size + 1 + 1 + 1) i u.S) := C4.out.set _ _ (by show _ ≠ w.heap.size + 2; omega)
          have P3 : Hid ((wc.setCell ⟨w.heap.size + 2, 3, none⟩ (.int .i64 (max (u.l : Int) (r.p.length : Int)))).heap[gr]? = some (.cells #[.string (bs r.p), .int .i64 r.id, .int .i64 r.kind, .int .i64 r.mode, .int .i64 0, .int .i64 0, .int .i64 0, .string ⟨#[]⟩, .string ⟨#[]⟩, .string ⟨#[]⟩, .slice none 0 0, .int .i64 r.size, .bool r.made] 43 (0, 0))) := (Below.heap_setCell _ _ _ _ (by show gr ≠ w.heap.size + 2; omega)).trans G4.out
          have P4 : Hid (gr < (wc.setCell ⟨w.heap.size + 2, 3, none⟩ (.int .i64 (max (u.l : Int) (r.p.length : Int)))).heap.size) := (by show _ < _; rw [World.size_setCell]; exact L4.out)
          clear cu fu cr O4 C4 G4 L4 hz ht
          generalize hL : max u.l r.p.length = Z at *
          generalize wc.setCell _ _ = w5 at *
          by_cases hS : r.id ∈ u.S
          · have HU2 : Hid (ofU (L.take (i + 1)) = ⟨u.b, u.n, D, Z, u.S⟩) := (by show _ = _; rw [HU.out]; unfold stepU; rw [if_neg hp, if_pos hS, hD, hL])
            have KF : Hid (Calls Tryz.prog 37 #[.map (some (w.heap.size + 1 + 1 + 1)), .int .i64 r.id] w5 fun e w' => e = .returned (.bool false) ∧ Below w5.heap.size w5 w') := first_old P2.out r.id HWF.out hS
            have cr := cells_of P3.out
            clear HU hD hL hp hS hE
            go_wp2_with (go_at_call 37; refine KF.out.mono ?_; rintro e w6 ⟨rfl, b6⟩)
            go_roundw
            case rel => exact ⟨i + 1, by simp, by omega, by show Oi _ _ _ _ _ _ _; rw [HU2.out]; exact P1.out.below b6, by show Cnt _ _ _ _; rw [HU2.out]; obtain ⟨E, q1, q2, q3⟩ := (P2.out.below b6).own; exact ⟨E, q1.mono (by omega), q2, q3⟩⟩
            case measure => simp [intOf]; omega
          · have HU2 : Hid (ofU (L.take (i + 1)) = ⟨u.b + bytesN r, u.n + 1, D, Z, r.id :: u.S⟩) := (by show _ = _; rw [HU.out]; unfold stepU; rw [if_neg hp, if_neg hS, hD, hL])
            have KF : Hid (Calls Tryz.prog 37 #[.map (some (w.heap.size + 1 + 1 + 1)), .int .i64 r.id] w5 fun e w' => e = .returned (.bool true) ∧ Cnt w' (w.heap.size + 1 + 1 + 1) (i + 1) (r.id :: u.S) ∧ w5.grownBy w' (some (w.heap.size + 1 + 1 + 1))) := first_new P2.out r.id HWF.out hS (by unfold maxLen; omega)
            have cr := cells_of P3.out
            have wn : wrap64 ((u.n : Int) + 1) = (u.n : Int) + 1 := by unfold wrap64; omega
            clear HU hD hL hp hS hE
            go_upto_region 11 with (go_at_call 37; refine KF.out.mono ?_; rintro e w6 ⟨rfl, C6, g6⟩; have O6 : Hid (Oi w w6 #[.slice (some ⟨b, o, none⟩) n cap, .int .i64 nx] u.b u.n D Z) := P1.out.next g6; have cu := cells_of O6.out.use; have fu := froz_of O6.out.use; have G6 : Hid (w6.heap[gr]? = some (.cells #[.string (bs r.p), .int .i64 r.id, .int .i64 r.kind, .int .i64 r.mode, .int .i64 0, .int .i64 0, .int .i64 0, .string ⟨#[]⟩, .string ⟨#[]⟩, .string ⟨#[]⟩, .slice none 0 0, .int .i64 r.size, .bool r.made] 43 (0, 0))) := (g6.block _ P4.out (by simp; omega)).trans P3.out; have L6 : Hid (gr < w6.heap.size) := Nat.lt_of_lt_of_le P4.out g6.size)
            have O7 : Hid (Oi w (w6.setCell ⟨w.heap.size + 2, 1, none⟩ (.int .i64 ((u.n : Int) + 1))) #[.slice (some ⟨b, o, none⟩) n cap, .int .i64 nx] u.b (u.n + 1) D Z) := O6.out.set 1 _ (by rw [show ((u.n : Int) + 1) = ((u.n + 1 : Nat) : Int) by omega]; rfl)
            have C7 : Hid (Cnt (w6.setCell ⟨w.heap.size + 2, 1, none⟩ (.int .i64 ((u.n : Int) + 1))) (w.heap.size + 1 + 1 + 1) (i + 1) (r.id :: u.S)) := C6.set _ _ (by show _ ≠ w.heap.size + 2; omega)
            have G7 : Hid ((w6.setCell ⟨w.heap.size + 2, 1, none⟩ (.int .i64 ((u.n : Int) + 1))).heap[gr]? = some (.cells #[.string (bs r.p), .int .i64 r.id, .int .i64 r.kind, .int .i64 r.mode, .int .i64 0, .int .i64 0, .int .i64 0, .string ⟨#[]⟩, .string ⟨#[]⟩, .string ⟨#[]⟩, .slice none 0 0, .int .i64 r.size, .bool r.made] 43 (0, 0))) := (Below.heap_setCell _ _ _ _ (by show gr ≠ w.heap.size + 2; omega)).trans G6.out
            have L7 : Hid (gr < (w6.setCell ⟨w.heap.size + 2, 1, none⟩ (.int .i64 ((u.n : Int) + 1))).heap.size) := (by show _ < _; rw [World.size_setCell]; exact L6.out)
            clear cu fu cr O6 C6 G6 L6 P1 P2 P3 P4 KF wn g6
            generalize w6.setCell _ _ = w7 at *
            have KB : Hid (∀ W, Calls Tryz.prog 38 #[.agg #[.string (bs r.p), .int .i64 r.id, .int .i64 r.kind, .int .i64 r.mode, .int .i64 0, .int .i64 0, .int .i64 0, .string ⟨#[]⟩, .string ⟨#[]⟩, .string ⟨#[]⟩, .slice none 0 0, .int .i64 r.size, .bool r.made]] W fun e w' => e = .returned (.int .i64 (bytesN r : Int)) ∧ Below W.heap.size W w') := fun W => by
              refine (bytes_w r W).mono ?_
              rintro e w' ⟨rfl, hb⟩
              refine ⟨?_, hb⟩
              unfold bytesN
              have := hok.size
              by_cases c : r.kind = 1
              · rw [if_pos c, if_pos c]
                rw [show ((r.size.toNat : Nat) : Int) = r.size by omega]
              · rw [if_neg c, if_neg c]; rfl
            have hby : (u.b : Int) + (bytesN r : Int) ≤ 9223372036854775807 := by
              have : bytesN r ≤ 1048576 := by
                unfold bytesN
                split
                · have := hok.size; omega
                · omega
              omega
            have wb : IntKind.i64.wrap ((u.b : Int) + (bytesN r : Int)) = (u.b : Int) + (bytesN r : Int) := by rw [IntKind.wrap_i64]; omega
            generalize bytesN r = by_ at *
            have cu := cells_of O7.out.use
            have fu := froz_of O7.out.use
            have cr := cells_of G7.out
            clear hby hsm hlen
            go_region_with (go_at_call 38; refine (KB.out _).mono ?_; rintro e w8 ⟨rfl, b8⟩; have O8 : Hid (Oi w w8 #[.slice (some ⟨b, o, none⟩) n cap, .int .i64 nx] u.b (u.n + 1) D Z) := O7.out.drew.below b8; have cu8 := cells_of O8.out.use; have fu8 := froz_of O8.out.use)
            all_goals
              have Q1 : Hid (Oi w (w8.setCell ⟨w.heap.size + 2, 0, none⟩ (.int .i64 ((u.b : Int) + (by_ : Int)))) #[.slice (some ⟨b, o, none⟩) n cap, .int .i64 nx] (u.b + by_) (u.n + 1) D Z) := O8.out.set 0 _ (by rw [show ((u.b : Int) + (by_ : Int)) = ((u.b + by_ : Nat) : Int) by omega]; rfl)
              have Q2 : Hid (Cnt (w8.setCell ⟨w.heap.size + 2, 0, none⟩ (.int .i64 ((u.b : Int) + (by_ : Int)))) (w.heap.size + 1 + 1 + 1) (i + 1) (r.id :: u.S)) := (C7.out.drew.below b8).set _ _ (by show _ ≠ w.heap.size + 2; omega)
              clear cu fu cr cu8 fu8 O7 C7 G7 L7 O8 KB wb b8
              generalize w8.setCell _ _ = w9 at *
              go_wp2_with fail
              go_roundw
              case rel => exact ⟨i + 1, by simp, by omega, by show Oi _ _ _ _ _ _ _; rw [HU2.out]; exact Q1.out, by show Cnt _ _ _ _; rw [HU2.out]; exact Q2.out⟩
              case measure => simp [intOf]; omega
    · have hie : L.take i = L := List.take_of_length_le (by have := HN.out; omega)
      have HI2 : Hid (Oi w wr #[.slice ad n cap, .int .i64 nx] (ofU L).b (ofU L).n (ofU L).d (ofU L).l) := (by have := HI.out; rw [hie] at this; exact this)
      clear HI HC hie
      generalize hu : ofU L = u at *
      have HUU : Hid (ofU L = u) := hu
      clear hu
      have h1 : Hid _ := HI2.out.use
      have h2 : Hid _ := HI2.out.res
      have h3 : Hid (Below w.heap.size w wr) := HI2.out.bel
      go_wp2_with (first
        | (refine wpList_load_row rfl 55 _ rfl (w.heap.size + 2) rfl 55 _ _ _ h1.out Tryz.underlying55 rfl (by kernel_rfl) ?_)
        | (refine wpList_store_row rfl 55 _ _ rfl (w.heap.size + 1) _ rfl rfl 55 _ h2.out (by kernel_rfl) rfl (by simp [Value.oneCell']) ?_))
      exact bodyPost_ret (results_cell_row rfl _ _ (w.heap.size + 1) 55 _ (0, 0) _ rfl (setRow_heap _ _ _ #[.int .i64 (u.b : Int), .int .i64 (u.n : Int), .int .i64 (u.d : Int), .int .i64 (u.l : Int)] _ _ h2.out) Tryz.underlying55 rfl (by kernel_rfl)) rfl ⟨by rw [HUU.out], below_setRow h3.out (by omega) _⟩

end Go.Proofs.YtpgiibpalmhhlaaGreatDoor
