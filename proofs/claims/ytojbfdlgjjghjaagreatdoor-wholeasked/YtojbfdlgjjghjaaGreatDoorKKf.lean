/-
  Contract: ask.Decode, where the first word is a kind's.
-/
import Derived.Test.YtojbfdlgjjghjaaGreatDoorKKe
namespace Go.Proofs.YtojbfdlgjjghjaaGreatDoor.K
open Go.RowKit
open Go.Lib hiding intOf
set_option linter.unusedVariables false
set_option linter.unusedSimpArgs false

theorem Ptrs.set {W : World} {v : Value} {g q f : Nat} {fs : List Nat} {a : Ak} (h : Ptrs W v g fs) (hb : Box W q (a.cells (.slice none 0 0))) (hf : fs ≠ []) (x : Value) : Ptrs (W.setCell ⟨q, f, none⟩ x) v g fs := by
  obtain ⟨B, c, h1, h2, h3, h4⟩ := h
  refine ⟨B, c, h1, h2, h3, fun i y hy => ?_⟩
  have hne : B ≠ q := by
    rintro rfl
    obtain ⟨y0, r, rfl⟩ := List.exists_cons_of_ne_nil hf
    have := h4 0 y0 rfl
    rw [hb.cell 0] at this
    simp [Ak.cells] at this
  have hb' := hb
  unfold Box at hb'
  rw [setCell_eq_setRow W q f _ _ _ x hb']
  have := h4 i y hy
  simp only [World.cell?] at this ⊢
  rw [setRow_other _ _ _ _ hne]
  exact this

/-- where Decode stands behind i numbers -/
structure Stp (fs : List Nat) (a0 : Ak) (r0 : ByteArray) (i : Nat) (a : Ak) (r : ByteArray) : Prop where
  eq : goP fs a0 r0 = goP (fs.drop i) a r
  size : r.size ≤ 16384
  k : a.k = a0.k
  p : a.p = a0.p
theorem Stp.start {fs : List Nat} {a0 : Ak} {r0 : ByteArray} (h : r0.size ≤ 16384) : Stp fs a0 r0 0 a0 r0 := ⟨rfl, h, rfl, rfl⟩
theorem Stp.bad {fs : List Nat} {a0 a : Ak} {r0 r : ByteArray} {i : Nat} (h : Stp fs a0 r0 i a r) (hi : i < fs.length) {x : Int} (hx : numP (cutW r) = .inl x) : goP fs a0 r0 = .inl x := by
  rw [h.eq, List.drop_eq_getElem_cons hi, goP, hx]
theorem Stp.next {fs : List Nat} {a0 a : Ak} {r0 r : ByteArray} {i : Nat} (h : Stp fs a0 r0 i a r) (hi : i < fs.length) {v : Int} (hx : numP (cutW r) = .inr v) : Stp fs a0 r0 (i + 1) (a.set fs[i] v) (cutR r) := by
  refine ⟨?_, Nat.le_trans (cutR_size r) h.size, by rw [Ak.set_k]; exact h.k, by rw [Ak.set_p]; exact h.p⟩
  rw [h.eq, List.drop_eq_getElem_cons hi, goP, hx]
theorem Stp.done {fs : List Nat} {a0 a : Ak} {r0 r : ByteArray} {i : Nat} (h : Stp fs a0 r0 i a r) (hi : fs.length ≤ i) : goP fs a0 r0 = .inr (a, r) := by
  rw [h.eq, List.drop_eq_nil_of_le hi, goP]

/-- the end of Decode -/
def endP (k : Nat) (o : Sum Int (Ak × ByteArray)) : Sum Int (Ak × List UInt8) :=
  match o with
  | .inl e => .inl e
  | .inr (a, r) => match lastP k r with
    | none => .inl 200
    | some (p, bs) => .inr ({ a with p := p }, bs)

theorem DatAt.setRow {W : World} {d : Value} {bs : List UInt8} (h : DatAt W d bs) {R : Nat} {C : Array Value} (hb : Box W R C) (D : Array Value) : DatAt (W.setRow R D) d bs := by
  rcases h with h | ⟨B, h1, h2⟩
  · exact .inl h
  · refine .inr ⟨B, h1, ?_⟩
    have hne : B ≠ R := by
      rintro rfl
      unfold By at h2
      unfold Box at hb
      rw [hb] at h2
      injection h2 with h2
      injection h2 with _ h2
      cases h2
    unfold By at h2 ⊢
    rw [setRow_other _ _ _ _ hne]
    exact h2

set_option maxRecDepth 20000 in
set_option maxHeartbeats 8000000 in
theorem decode_kind (s : ByteArray) (h : s.size ≤ 16384) (k : Nat) (hk : kindP (cutW s) = k) (k1 : 1 ≤ k) (w : World) (ht : Vs w) :
    Calls Tryz.prog 4 #[.string s] w fun e w' => DecOk w w' e (endP k (goP (flds k) ⟨k, 0, 0, 0, ⟨#[]⟩⟩ (cutR s))) ∧ Below w.heap.size w w' := by
  have k2 : k ≤ 11 := by rw [← hk]; exact kindP_le _
  have hz := zeroA
  have q1 := fun W => cut_w s W (by omega)
  have HV : Hid (∀ W, Below w.heap.size w W → Vs W) := fun W b => ht.below b
  have HK : Hid (∀ W, Below w.heap.size w W → Calls Tryz.prog 14 #[.string (cutW s)] W fun e w' => e = .returned (.int .i64 (k : Int)) ∧ W = w') := fun W b => by
    have := kindOf_w (cutW s) W (ht.below b)
    rw [hk] at this
    exact this
  have HA : Hid (∀ W, W = w.alloc (.cells (Ak.zero.cells (.slice none 0 0)) 24) ∨ W = (w.alloc (.cells (Ak.zero.cells (.slice none 0 0)) 24)).drew → W.heap.size = w.heap.size + 1 ∧ Below w.heap.size w W ∧ Dm w (W.alloc (.cells ((⟨k, 0, 0, 0, ⟨#[]⟩⟩ : Ak).cells (.slice none 0 0)) 24)) ⟨k, 0, 0, 0, ⟨#[]⟩⟩) := fun W hW => Dm.start hW _
  have h3 : ¬ (16384 : Int) < s.size := by omega
  have h4 : ((k : Int) == 0) = false := by simp; omega
  have h5 : ¬ (k : Int) = 0 := by omega
  have si := sizeA ⟨k, 0, 0, 0, ⟨#[]⟩⟩ (.slice none 0 0)
  have sk := one_cells ⟨k, 0, 0, 0, ⟨#[]⟩⟩ (.slice none 0 0) rfl
  have si0 := sizeA Ak.zero (.slice none 0 0)
  have sk0 := one_cells Ak.zero (.slice none 0 0) rfl
  have GI : Hid (∀ {W : World} {a : Ak}, Dm w W a → W.heap[w.heap.size]? = some (.cells (Ak.zero.cells (.slice none 0 0)) 24 (0, 0)) ∧ (W.setRow w.heap.size (Ak.zero.cells (.slice none 0 0))).heap[w.heap.size]? = some (.cells (Ak.zero.cells (.slice none 0 0)) 24 (0, 0)) ∧ Below w.heap.size w (W.setRow w.heap.size (Ak.zero.cells (.slice none 0 0))) ∧ W.cell? ⟨w.heap.size + 1, 0, none⟩ = some (.int .i64 a.k)) := fun d => ⟨d.res, d.bad.1, d.bad.2, by rw [d.box.cell]; rfl⟩
  have S0 : Hid (Stp (flds k) ⟨k, 0, 0, 0, ⟨#[]⟩⟩ (cutR s) 0 ⟨k, 0, 0, 0, ⟨#[]⟩⟩ (cutR s)) := Stp.start (Nat.le_trans (cutR_size s) h)
  have HM : Hid (∀ f ∈ flds (k : Int), f = 1 ∨ f = 2 ∨ f = 3) := flds_mem k
  suffices HH : ∀ (PP : Ending → World → Prop), (∀ x W, goP (flds k) ⟨k, 0, 0, 0, ⟨#[]⟩⟩ (cutR s) = .inl x → Below w.heap.size w W → PP (.returned (.tuple #[.agg (Ak.zero.cells (.slice none 0 0)), .int .i64 x])) W) →
      (∀ a r W, goP (flds k) ⟨k, 0, 0, 0, ⟨#[]⟩⟩ (cutR s) = .inr (a, r) → lastP k r = none → Below w.heap.size w W → PP (.returned (.tuple #[.agg (Ak.zero.cells (.slice none 0 0)), .int .i64 200])) W) →
      (∀ a r p bs d W, goP (flds k) ⟨k, 0, 0, 0, ⟨#[]⟩⟩ (cutR s) = .inr (a, r) → lastP k r = some (p, bs) → DatAt W d bs → Below w.heap.size w W → PP (.returned (.tuple #[.agg (({ a with p := p } : Ak).cells d), .int .i64 0])) W) →
      Calls Tryz.prog 4 #[.string s] w PP from
    HH _ (fun x W e b => by rw [e]; exact ⟨rfl, b⟩) (fun a r W e l b => by rw [e]; unfold endP; simp only [l]; exact ⟨rfl, b⟩) (fun a r p bs d W e l hd b => by rw [e]; unfold endP; simp only [l]; exact ⟨⟨d, rfl, hd⟩, b⟩)
  intro PP PE PL PG
  have HE : Hid _ := PE
  have HL : Hid _ := PL
  have HG : Hid _ := PG
  clear PE PL PG
  generalize hr0 : cutR s = r0 at *
  generalize hfs : flds (k : Int) = fs at *
  generalize hf1 : cutW s = t at *
  generalize ha0 : (⟨k, 0, 0, 0, ⟨#[]⟩⟩ : Ak) = a0 at S0 HE HL HG
  have HN : Hid (∀ W, W.cell? ⟨w.heap.size + 1, 0, none⟩ = some (.int .i64 (k : Int)) → Calls Tryz.prog 15 #[.pointer (some ⟨w.heap.size + 1, 0, none⟩)] W fun e w' => ∃ v, e = .returned v ∧ Ptrs w' v (w.heap.size + 1) fs ∧ Below W.heap.size W w') := fun W hc => by
    have := numbers_w k ⟨k1, k2⟩ (w.heap.size + 1) W hc
    rw [hfs] at this
    exact this
  have AK : Hid (a0.k = (k : Int) ∧ a0.p = ⟨#[]⟩) := by rw [← ha0]; exact ⟨rfl, rfl⟩
  have D0 : Hid (∀ W, Dm w W ⟨k, 0, 0, 0, ⟨#[]⟩⟩ → Dm w W a0) := by rw [ha0]; exact fun W h => h
  clear hk ht hfs hf1 hr0 ha0
  simp only [Ak.cells, Ak.zero] at *
  go_enter Tryz.func4, Tryz.ntmps4
  go_upto_region 4 with (go_at_call 13; refine (q1 _).mono ?_; rintro e w1 ⟨b, rfl, hw1⟩)
  obtain ⟨z1, b1, d1⟩ := HA.out _ hw1
  have qk := HK.out _ b1
  clear hw1 HA HK q1 b1
  go_upto_region 5 with (first | (go_at_call 14; refine qk.mono ?_; rintro e w2 ⟨rfl, rfl⟩) | (refine wpList_store_row rfl 24 _ _ rfl _ _ rfl rfl 24 _ (heap_alloc_new _ _) si rfl sk ?_))
  obtain ⟨g1, g2, g3, g4⟩ := GI.out d1
  have d2 : Hid _ := D0.out _ d1
  clear d1 qk D0 g1 g2 g3
  generalize World.alloc _ _ = W2 at *
  simp only at g4
  have qn := HN.out W2 g4
  clear HN
  go_upto_region 8 with (go_at_call 15; refine qn.mono ?_; rintro e w3 ⟨v, rfl, ⟨B, c, rfl, hc1, hc2, hc3⟩, b3⟩)
  have d3 : Hid (Dm w w3 a0) := d2.out.grow b3
  have P3 : Hid (Ptrs w3 (.slice (some ⟨B, 0, none⟩) fs.length c) (w.heap.size + 1) fs) := ⟨B, c, rfl, hc1, hc2, hc3⟩
  clear d2 qn b3 hc3 g4
  generalize hN : fs.length = N at *
  have HNN : Hid (fs.length = N) := hN
  clear hN
  go_loopg [5, 30] N (fun g u5 u30 wr => ∃ (i : Nat) (a : Ak) (r : ByteArray), i + g = N ∧ u5 = .string r ∧ u30 = .int .i64 i ∧ Hid (Stp fs a0 r0 i a r) ∧ Hid (Dm w wr a) ∧ Hid (Ptrs wr (.slice (some ⟨B, 0, none⟩) N c) (w.heap.size + 1) fs))
  case atStart => exact ⟨0, a0, r0, by omega, rfl, rfl, S0, d3, P3⟩
  case round =>
    obtain ⟨i, a, r, hig, rfl, rfl, hst, hd, hp⟩ := hrel
    clear S0 d3 P3
    have hrs := hst.out.size
    by_cases hlt : i < N
    · have hif : i < fs.length := by rw [HNN.out]; exact hlt
      obtain ⟨f, hf⟩ : ∃ f, fs[i] = f := ⟨_, rfl⟩
      have hm : f = 1 ∨ f = 2 ∨ f = 3 := HM.out f (hf ▸ List.getElem_mem hif)
      have hcell : wr.cell? ⟨B, i, none⟩ = some (.pointer (some ⟨w.heap.size + 1, f, none⟩)) := by
        obtain ⟨B', c', e, _, _, h4⟩ := hp.out
        cases e
        exact h4 i f (by rw [List.getElem?_eq_getElem hif, hf])
      have q1 := fun W => cut_w r W (by omega)
      have HNU : Hid (∀ W1, (W1 = wr ∨ W1 = wr.drew) → Calls Tryz.prog 16 #[.string (cutW r)] W1 fun e w' => e = .returned (numV (cutW r)) ∧ Below W1.heap.size W1 w') := fun W1 hW => number_w (cutW r) (by have := cutW_size r; omega) W1 (HV.out W1 (by rcases hW with rfl | rfl; exact hd.out.bel; exact hd.out.bel.drew))
      have HNX : Hid (∀ W1 W3, (W1 = wr ∨ W1 = wr.drew) → Below W1.heap.size W1 W3 → W3.cell? ⟨w.heap.size + 1, f, none⟩ = some (.int .i64 (a.get f)) ∧ W3.frozen? ⟨w.heap.size + 1, f, none⟩ = false ∧ ∀ v : Int, Hid (Dm w (W3.setCell ⟨w.heap.size + 1, f, none⟩ (.int .i64 v)) (a.set f v)) ∧ Hid (Ptrs (W3.setCell ⟨w.heap.size + 1, f, none⟩ (.int .i64 v)) (.slice (some ⟨B, 0, none⟩) N c) (w.heap.size + 1) fs)) := fun W1 W3 hW b => by
        have dW : Dm w W3 a ∧ Ptrs W3 (.slice (some ⟨B, 0, none⟩) N c) (w.heap.size + 1) fs := by
          rcases hW with rfl | rfl
          · exact ⟨hd.out.grow b, hp.out.below b⟩
          · exact ⟨hd.out.drew.grow b, (hp.out.below (Below.refl _ _).drew).below b⟩
        exact ⟨dW.1.cellf f hm, dW.1.box.froz f, fun v => ⟨dW.1.set f hm v, dW.2.set dW.1.box (by intro e; rw [e] at hif; simp at hif) _⟩⟩
      unfold numV at HNU
      cases hx : numP (cutW r) with
      | inl x =>
        have HB : Hid (∀ W, Below w.heap.size w W → PP (.returned (.tuple #[.agg #[.int .i64 0, .int .i64 0, .int .i64 0, .int .i64 0, .string ⟨#[]⟩, .slice none 0 0], .int .i64 x])) W) := fun W b => HE.out x W (hst.out.bad hif hx) b
        have hx1 := numP_bad hx
        rw [hx] at HNU
        clear hx hst hd hp HE HL HG HM hf hm
        generalize cutW r = t2 at *
        generalize cutR r = r2 at *
        generalize a.get f = av at *
        rcases hx1 with rfl | rfl
        all_goals
          go_wp2_with (first
            | (go_at_call 13; refine (q1 _).mono ?_; rintro e w4 ⟨b4, rfl, hw4⟩)
            | (go_at_call 16; refine (HNU.out _ hw4).mono ?_; rintro e w5 ⟨rfl, b5⟩; obtain ⟨c5, f5, n5⟩ := HNX.out _ _ hw4 b5; obtain ⟨g1, g2, g3, _⟩ := GI.out (n5 0).1.out)
            | (refine wpList_store_row rfl 24 _ _ rfl _ _ rfl rfl 24 _ g1 si0 rfl sk0 ?_))
          have hld := run_loadVar_row _ _ _ 24 _ _ _ g2 Tryz.underlying24 rfl si0
          try simp only [Exit.inBlock, Exit.then]
          exact bodyPost_ret (by rw [results_cell_tmp rfl]; simp [asAddr, hld]) rfl (HB.out _ g3)
      | inr v =>
        have hn : Hid _ := hst.out.next hif hx
        rw [hf] at hn
        rw [hx] at HNU
        clear hx hst hd hp HE HL HG HM hf hm
        generalize cutW r = t2 at *
        generalize cutR r = r2 at *
        generalize a.get f = av at *
        go_wp2_with (first
          | (go_at_call 13; refine (q1 _).mono ?_; rintro e w4 ⟨b4, rfl, hw4⟩)
          | (go_at_call 16; refine (HNU.out _ hw4).mono ?_; rintro e w5 ⟨rfl, b5⟩; obtain ⟨c5, f5, n5⟩ := HNX.out _ _ hw4 b5; have n6 := n5 v; clear n5))
        go_roundg (N - (i + 1))
        case rel => exact ⟨i + 1, _, _, by omega, rfl, by simp, hn, n6.1, n6.2⟩
        case measure => omega
    · have hdone := hst.out.done (by rw [HNN.out]; omega)
      obtain rfl : i = N := by omega
      have hl := last_w a (w.heap.size + 1) wr k ⟨k1, k2⟩ (by rw [hst.out.k, AK.out.1]) (by rw [hst.out.p, AK.out.2]) hd.out.box r (by omega)
      have hbx := hd.out.box
      have hrs := hd.out.res
      have hbl := hd.out.bel
      have HX : Hid (∀ W, Gx (w.heap.size + 1) wr W → W.heap[w.heap.size]? = some (.cells (Ak.zero.cells (.slice none 0 0)) 24 (0, 0)) ∧ (∀ D : Array Value, (W.setRow w.heap.size D).heap[w.heap.size]? = some (.cells D 24 (0, 0))) ∧ ∀ D : Array Value, Below w.heap.size w (W.setRow w.heap.size D)) := fun W gx => by
        have b := hbl.trans (gx.below (B := w.heap.size) (by omega) hbl.size)
        have hr : W.heap[w.heap.size]? = some (.cells (Ak.zero.cells (.slice none 0 0)) 24 (0, 0)) := (gx.block _ hrs.lt (by omega)).trans hrs
        exact ⟨hr, fun D => setRow_heap _ _ _ _ _ _ hr, fun D => ⟨b.os, b.tape, b.output, by rw [setRow_size]; exact b.size, fun k hk => (setRow_other _ _ _ _ (by omega)).trans (b.block k hk)⟩⟩
      cases hlp : lastP k r with
      | none =>
        have HB : Hid (∀ W, Below w.heap.size w W → PP (.returned (.tuple #[.agg #[.int .i64 0, .int .i64 0, .int .i64 0, .int .i64 0, .string ⟨#[]⟩, .slice none 0 0], .int .i64 200])) W) := fun W b => HL.out a r W hdone hlp b
        rw [hlp] at hl
        simp only [LastOk] at hl
        clear hbx hrs hbl hdone hlp HE HL HG HM hst hd hp
        simp only [Ak.cells, Ak.zero] at HX
        go_wp2_with (first
          | (go_at_call 17; refine hl.mono ?_; rintro e w4 ⟨rfl, gx⟩; obtain ⟨g1, g2, g3⟩ := HX.out _ gx)
          | (refine wpList_store_row rfl 24 _ _ rfl _ _ rfl rfl 24 _ g1 si0 rfl sk0 ?_))
        have hld := run_loadVar_row _ _ _ 24 _ _ _ (g2 _) Tryz.underlying24 rfl si0
        exact bodyPost_ret (by rw [results_cell_tmp rfl]; simp [asAddr, hld]) rfl (HB.out _ (g3 _))
      | some pb =>
        obtain ⟨p, bs⟩ := pb
        have HB : Hid (∀ W d, DatAt W d bs → Below w.heap.size w W → PP (.returned (.tuple #[.agg (({ a with p := p } : Ak).cells d), .int .i64 0])) W) := fun W d hdt b => HG.out a r p bs d W hdone hlp hdt b
        rw [hlp] at hl
        simp only [LastOk] at hl
        have HS : Hid (∀ d, (Tryz.prog.info? 24).map (·.size) = some (({ a with p := p } : Ak).cells d).size) := fun d => sizeA _ d
        have HO : Hid (∀ ad n, ((({ a with p := p } : Ak).cells (.slice ad n n)).all (·.oneCell') = true)) := fun ad n => one_cells _ _ rfl
        have HR : Hid (∀ W d D, DatAt W d bs → W.heap[w.heap.size]? = some (.cells (Ak.zero.cells (.slice none 0 0)) 24 (0, 0)) → DatAt (W.setRow w.heap.size D) d bs) := fun W d D hdt hr => hdt.setRow hr D
        clear hbx hrs hbl hdone hlp HE HL HG HM hst hd hp
        simp only [Ak.cells, Ak.zero] at HX HR
        go_upto_region 18 with (go_at_call 17; refine hl.mono ?_; rintro e w4 ⟨⟨rfl, d, hbx, hdt⟩, gx⟩; obtain ⟨g1, g2, g3⟩ := HX.out _ gx; obtain ⟨ad, dn, rfl⟩ := hdt.shape)
        have HDT : Hid _ := hdt
        have hrr := HR.out _ _ (({ a with p := p } : Ak).cells (.slice ad dn dn)) hdt g1
        have hsz := HS.out (.slice ad dn dn)
        have hone := HO.out ad dn
        have hBB := HB.out _ _ hrr (g3 _)
        have hg2 := g2 (({ a with p := p } : Ak).cells (.slice ad dn dn))
        unfold Box at hbx
        have hj : (#[.int .i64 0, .int .i64 0, .int .i64 0, .int .i64 0, .string ⟨#[]⟩, .slice none 0 0] : Array Value).size = (({ a with p := p } : Ak).cells (.slice ad dn dn)).size := by simp [Ak.cells]
        clear HDT HR HS HO HB hdt hrr hl gx HX g2 g3
        generalize (({ a with p := p } : Ak).cells (.slice ad dn dn)) = C at *
        go_wp2_with (first
          | (refine wpList_load_row rfl 24 _ rfl _ rfl 24 C _ _ hbx Tryz.underlying24 rfl hsz ?_)
          | (refine wpList_store_row rfl 24 _ _ rfl _ C rfl rfl 24 _ g1 hsz hj hone ?_))
        have hld := run_loadVar_row _ _ _ 24 _ _ _ hg2 Tryz.underlying24 rfl hsz
        exact bodyPost_ret (by rw [results_cell_tmp rfl]; simp [asAddr, hld]) rfl hBB
end Go.Proofs.YtojbfdlgjjghjaaGreatDoor.K
