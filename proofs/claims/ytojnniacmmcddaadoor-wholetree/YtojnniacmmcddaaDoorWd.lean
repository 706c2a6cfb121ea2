/-
  WholeTree from its lists on: a declaration of its own.
-/
import Derived.Test.YtojnniacmmcddaaDoorWv
import Derived.Test.YtojnniacmmcddaaDoorMc
import Derived.Deep.LoopGhost
import Derived.Deep.DeepCutAuto
import Derived.Deep.CutBlock
namespace Go.Proofs.YtojnniacmmcddaaDoor
open Go.RowKit
open Go.Lib hiding intOf
set_option linter.unusedVariables false
set_option linter.unusedSimpArgs false

theorem sub_nodup {L : List Rw} {nx : Int} {all todo : List (List UInt8)} (hs : Sd L nx) (h : Dfs L all todo) : all.Nodup ∧ todo.Nodup := by
  constructor
  · refine List.nodup_iff_count.2 fun a => ?_
    by_cases ha : a ∈ all
    · obtain ⟨r, hr, rfl⟩ := h.mem a ha
      have := h.one r hr
      omega
    · rw [List.count_eq_zero.2 ha]; omega
  · refine List.nodup_iff_count.2 fun a => ?_
    by_cases ha : a ∈ todo
    · rcases h.dir a ha with rfl | ⟨r, hr, rfl, _⟩
      · exact h.root
      · have h1 := h.one r hr
        have h2 : todo.count r.p ≤ todo.countP (fun d => und d r.p) := by
          rw [List.count_eq_countP]
          refine List.countP_mono_left fun x _ hx => ?_
          have e : x = r.p := by simpa using hx
          obtain ⟨ps, _, k2, k3⟩ := hs.cp r hr
          rw [e, k3]; exact und_self ps k2
        omega
    · rw [List.count_eq_zero.2 ha]; omega

theorem Dfs.short {L : List Rw} {nx : Int} {all todo : List (List UInt8)} (hs : Sd L nx) (h : Dfs L all todo) : all.length ≤ L.length ∧ todo.length ≤ L.length + 1 := by
  obtain ⟨h1, h2⟩ := sub_nodup hs h
  constructor
  · have := len_sub all (L.map Rw.p) h1 (fun x hx => by obtain ⟨r, hr, e⟩ := h.mem x hx; exact List.mem_map.2 ⟨r, hr, e⟩)
    simpa using this
  · have := len_sub todo ([] :: L.map Rw.p) h2 (fun x hx => by
      rcases h.dir x hx with rfl | ⟨r, hr, e, _⟩
      · simp
      · exact List.mem_cons_of_mem _ (List.mem_map.2 ⟨r, hr, e⟩))
    simpa using this

/-- List of a directory that is there -/
theorem list_w (ad : Option Addr) (cap n : Nat) (nx : Int) (L : List Rw) (d : List UInt8) (w : World) (hs : Sd L nx) (hr : Rs w ad L) (hn : L.length = n) (hl : n ≤ 5000) (hd : Dr L d) :
    Calls Tryd.prog 11 #[.agg #[.slice ad n cap, .int .i64 nx], .string (bs d)] w fun e w' => ∃ v, e = .returned (.tuple #[v, .int .i64 0]) ∧ Ow w' w.heap.size v (kids L d) ∧ Below w.heap.size w w' := by
  have hp9 : ∀ r ∈ L, r.p.length ≤ 4611686018427387903 := fun r hr => by have := (hs.ok r hr).1; omega
  have hdl : d.length ≤ 1000 := by
    rcases hd with rfl | ⟨r, hr, rfl, _⟩
    · simp
    · exact (hs.ok r hr).1
  have hne : ∀ r ∈ L, r.p ≠ [] := fun r hr => (hs.cp r hr).ne
  have hkl : ∀ f : Rw → Bool, (L.filter f).length ≤ 1000000 := fun f => by have := List.length_filter_le f L; omega
  have KS1 : ∀ W gs, Below w.heap.size w W → W.cell? ⟨gs, 0, none⟩ = some (.string (bs d)) → Calls Tryd.prog 34 #[.slice ad n cap, .func (.func 54) #[] #[.pointer (some ⟨gs, 0, none⟩)]] W fun e w' => ∃ v, e = .returned v ∧ Ow w' W.heap.size v (L.filter (sbf d)) ∧ Below W.heap.size W w' := fun W gs hb hc => by
    have g := pickS_w ad cap L (sbf d) gs W (hr.below hb) (by omega) (fun W2 r _ hb2 => subf_w r d gs W2 ((hb2.cell (p := ⟨gs, 0, none⟩) (World.block_lt_of_cell? W _ hc)).trans hc))
    rw [hn] at g
    exact g
  have KL1 : ∀ W gs ad' c', Rs W ad' (L.filter (sbf d)) → W.cell? ⟨gs, 0, none⟩ = some (.string (bs d)) → Calls Tryd.prog 34 #[.slice ad' (L.filter (sbf d)).length c', .func (.func 35) #[] #[.pointer (some ⟨gs, 0, none⟩)]] W fun e w' => ∃ v, e = .returned v ∧ Ow w' W.heap.size v (kids L d) ∧ Below W.heap.size W w' := fun W gs ad' c' hr' hc =>
    pickL_w ad' c' (L.filter (sbf d)) (lsf d) gs W hr' (hkl _) (fun W2 r hm hb2 => listf_w r d gs W2 (hne r (List.mem_filter.1 hm).1) (hp9 r (List.mem_filter.1 hm).1) ((hb2.cell (p := ⟨gs, 0, none⟩) (World.block_lt_of_cell? W _ hc)).trans hc))
  have KO1 : ∀ W B v, Ow W B v (kids L d) → B ≤ W.heap.size → Calls Tryd.prog 33 #[v] W fun e w' => e = .returned v ∧ Below W.heap.size W w' := fun W B v hO hB => ownAll_w v B (kids L d) W hO (by
    have := List.length_filter_le (lsf d) (L.filter (sbf d))
    have := hkl (sbf d)
    unfold kids
    omega) hB
  rcases hd with rfl | ⟨r, hr0, hrp, hrk⟩
  · have hfd : fd L [] = false := by
      cases h : fd L [] with
      | false => rfl
      | true =>
        obtain ⟨r, hr, e⟩ := fd_mem h
        exact absurd e (hne r hr)
    have KA : ∀ W, Below w.heap.size w W → Calls Tryd.prog 28 #[.agg #[.slice ad n cap, .int .i64 nx], .string (bs [])] W fun e w' => e = .returned (.tuple #[.agg (atR L []).cs.toArray, .bool false]) ∧ Below W.heap.size W w' := fun W hb => by
      have g := at_w ad cap nx L [] W hs.srt (hr.below hb) (by omega) hp9 (by simp)
      rw [hn, hfd] at g
      exact g
    exact list_root ad cap n nx (atR L []) w (L.filter (sbf [])) (kids L []) KA (fun W hb => sub_root ad cap n nx (atR L []) W (L.filter (sbf [])) (fun W2 hb2 => KA W2 (hb.trans (hb2.mono hb.size))) (fun W2 gs hb2 hc => KS1 W2 gs (hb.trans (hb2.mono hb.size)) hc)) KL1 KO1
  · have hfd : fd L d = true := by rw [← hrp]; exact fd_of hs.srt hr0
    have hat : atR L d = r := by rw [← hrp]; exact atR_of hs.srt hr0
    have KA : ∀ W, Below w.heap.size w W → Calls Tryd.prog 28 #[.agg #[.slice ad n cap, .int .i64 nx], .string (bs d)] W fun e w' => e = .returned (.tuple #[.agg r.cs.toArray, .bool true]) ∧ Below W.heap.size W w' := fun W hb => by
      have g := at_w ad cap nx L d W hs.srt (hr.below hb) (by omega) hp9 (by omega)
      rw [hn, hfd, hat] at g
      exact g
    have KD : ∀ W, Calls Tryd.prog 29 #[.agg r.cs.toArray] W fun e w' => e = .returned (.bool true) ∧ Below W.heap.size W w' := fun W => by
      have g := isDir_w r W
      rw [decide_eq_true hrk] at g
      exact g
    exact list_dir ad cap n nx d r w (L.filter (sbf d)) (kids L d) KA KD (fun W hb => sub_dir ad cap n nx d r W (L.filter (sbf d)) (fun W2 hb2 => KA W2 (hb.trans (hb2.mono hb.size))) KD (fun W2 gs hb2 hc => KS1 W2 gs (hb.trans (hb2.mono hb.size)) hc)) KL1 KO1

theorem Tw.start (w : World) : Tw (w.alloc (.cells #[.string ⟨#[]⟩] 9)) w.heap.size (some ⟨w.heap.size, 0, none⟩) 1 [[]] none 0 [] := by
  have e := heap_alloc_new w (.cells #[.string ⟨#[]⟩] 9)
  refine ⟨.inr ⟨w.heap.size, rfl, Nat.le_refl _, by rw [size_box]; omega, Nat.le_refl _, by omega, fun i hi => ?_, fun i x hx => ?_⟩, .inl ⟨rfl, rfl, rfl⟩, fun g _ h => nomatch h⟩
  · obtain rfl : i = 0 := by omega
    exact ⟨by rw [cells_of e]; rfl, froz_of e 0⟩
  · cases i with
    | zero =>
      have : x = [] := by simpa using hx.symm
      subst this
      rw [cells_of e]
      rfl
    | succ i => simp at hx

theorem Rs.moved {w w' : World} {b o : Nat} {L : List Rw} (h : Rs w (some ⟨b, o, none⟩) L) (e : w'.heap[b]? = w.heap[b]?) : Rs w' (some ⟨b, o, none⟩) L := by
  rcases h with h | ⟨b', o', h1, h2, h3⟩
  · exact .inl h
  · injection h1 with h1
    injection h1 with h1 h1'
    subst h1 h1'
    refine .inr ⟨b, o, rfl, (Array.getElem?_eq_some_iff.1 (e.trans (Array.getElem?_eq_getElem h2))).1, fun j v hv => ?_⟩
    have ec : w'.cell? ⟨b, o + j, none⟩ = w.cell? ⟨b, o + j, none⟩ := by unfold World.cell?; simp only [e]
    rw [ec]
    exact h3 j v hv

theorem nds_snoc (l : List Rw) (c : Rw) : nds (l ++ [c]) = nds l ++ (if c.kind = 4 then [] else [c.p]) := by
  unfold nds
  rw [List.filter_append, List.map_append]
  by_cases h : c.kind = 4 <;> simp [h]
theorem dds_snoc (l : List Rw) (c : Rw) : dds (l ++ [c]) = dds l ++ (if c.kind = 4 then [c.p] else []) := by
  unfold dds
  rw [List.filter_append, List.map_append]
  by_cases h : c.kind = 4 <;> simp [h]

theorem rev_take {α : Type} (K : List α) (j : Nat) (c : α) (h : K[j]? = some c) : K.reverse.take (K.length - j) = K.reverse.take (K.length - (j + 1)) ++ [c] := by
  have hj := (List.getElem?_eq_some_iff.1 h).1
  rw [show K.length - j = (K.length - (j + 1)) + 1 by omega, List.take_add_one]
  congr 1
  rw [List.getElem?_reverse (by omega), show K.length - 1 - (K.length - (j + 1)) = j by omega, h]
  rfl

set_option maxRecDepth 100000 in
set_option maxHeartbeats 8000000 in
theorem tail16 (w : World) (PP : Ending → World → Prop) (wb : World) (g5 : Nat) (ad : Option Addr) (cap n : Nat) (nx : Int) (L : List Rw)
    (s0 s1 s2 s3 s4 s6 s7 s8 s9 s10 s11 s12 s13 s14 s15 s16 s17 s18 s19 s20 s21 s22 s23 s24 s25 s26 s27 s28 s29 s30 s31 s32 s33 s34 s35 s36 s37 s38 s39 s40 s41 s42 s43 s44 s45 s46 s47 s48 s49 s50 s51 s52 s53 s54 s55 s56 s57 s58 s59 s60 s61 s62 s63 s64 s65 s66 s67 s68 s69 s70 s71 s72 s73 s74 s75 s76 s77 s78 s79 s80 s81 s82 s83 s84 s85 s86 s87 s88 s89 s90 s91 s92 s93 s94 s95 s96 s97 s98 s99 s100 s101 s102 s103 s104 s105 s106 s107 s108 s109 s110 s111 s112 s113 s114 s115 s116 s117 s118 s119 s120 s121 s122 s123 s124 s125 s126 s127 s128 s129 s130 s131 s132 s133 s134 s135 s136 s137 s138 s139 s140 s141 s142 s143 s144 s145 s146 s147 s148 s149 s150 s151 s152 s153 s154 s155 s156 s157 s158 s159 s160 s161 s162 s163 s164 s165 s166 s167 s168 s169 s170 s171 s172 s173 s174 s175 s176 s177 s178 s179 s180 s181 s182 s183 s184 s185 s186 s187 s188 s189 s190 s191 s192 s193 s194 s195 s196 s197 s198 s199 s200 s201 s202 s203 s204 s205 s206 s207 s208 s209 s210 s211 s212 s213 s214 s215 s216 s217 s218 s219 s220 s221 s222 s223 s224 s225 s226 s227 s228 s229 s230 s231 s232 s233 : Value)
    (HPP : Hid (∀ W, Below w.heap.size w W → PP (.returned (.bool true)) W))
    (HM : Hid (Ml w)) (HB : Hid (Below w.heap.size w wb)) (HS : Hid (Sd L nx)) (hn : n ≤ 5000) (hcap : n ≤ cap)
    (HR : Hid (Rs wb ad L)) (HQ : Hid (wb.heap[g5]? = some (.cells #[.slice ad n cap, .int .i64 nx] 26 (0, 0)))) (HN2 : Hid (L.length = n)) :
    Code.wp Tryd.prog ((Tryd.f3.body.bind (tailAt 16)).getD .skip) (bodyPost Tryd.prog Tryd.f3 PP) { tmps := #[s0, s1, s2, s3, s4, .pointer (some ⟨g5, 0, none⟩), s6, s7, s8, s9, s10, s11, s12, s13, s14, s15, s16, s17, s18, s19, s20, s21, s22, s23, s24, s25, s26, s27, s28, s29, s30, s31, s32, s33, s34, s35, s36, s37, s38, s39, s40, s41, s42, s43, s44, s45, s46, s47, s48, s49, s50, s51, s52, s53, s54, s55, s56, s57, s58, s59, s60, s61, s62, s63, s64, s65, s66, s67, s68, s69, s70, s71, s72, s73, s74, s75, s76, s77, s78, s79, s80, s81, s82, s83, s84, s85, s86, s87, s88, s89, s90, s91, s92, s93, s94, s95, s96, s97, s98, s99, s100, s101, s102, s103, s104, s105, s106, s107, s108, s109, s110, s111, s112, s113, s114, s115, s116, s117, s118, s119, s120, s121, s122, s123, s124, s125, s126, s127, s128, s129, s130, s131, s132, s133, s134, s135, s136, s137, s138, s139, s140, s141, s142, s143, s144, s145, s146, s147, s148, s149, s150, s151, s152, s153, s154, s155, s156, s157, s158, s159, s160, s161, s162, s163, s164, s165, s166, s167, s168, s169, s170, s171, s172, s173, s174, s175, s176, s177, s178, s179, s180, s181, s182, s183, s184, s185, s186, s187, s188, s189, s190, s191, s192, s193, s194, s195, s196, s197, s198, s199, s200, s201, s202, s203, s204, s205, s206, s207, s208, s209, s210, s211, s212, s213, s214, s215, s216, s217, s218, s219, s220, s221, s222, s223, s224, s225, s226, s227, s228, s229, s230, s231, s232, s233], defers := [] } wb := by
  conv => arg 2; whnf
  have hg5 : g5 < wb.heap.size := (Array.getElem?_eq_some_iff.1 HQ.out).1
  go_upto_region 18 with fail
  rename_i K2 hK2
  have HK : Hid (∀ (a : Act) (w : World), Code.wp Tryd.prog ((Tryd.f3.body.bind (tailAt 32)).getD .skip) (bodyPost Tryd.prog Tryd.f3 PP) a w → K2 a w) := hK2
  clear hK2
  have k6 := below_box wb (.cells #[.string ⟨#[]⟩] 9)
  have T6 : Hid (Tw (wb.alloc (.cells #[.string ⟨#[]⟩] 9)) wb.heap.size (some ⟨wb.heap.size, 0, none⟩) 1 [[]] none 0 []) := Tw.start wb
  generalize wb.alloc (.cells #[.string ⟨#[]⟩] 9) = w6 at *
  go_loopg [13, 14] (mu L [[]]) (fun gk x13 x14 W => ∃ (a1 a2 : Option Addr) (c1 c2 n1 n2 : Nat) (all todo : List (List UInt8)), x13 = .slice a1 n1 c1 ∧ x14 = .slice a2 n2 c2 ∧ n1 ≤ 5000 ∧ n2 ≤ 5001 ∧ Hid (all.length = n1) ∧ Hid (todo.length = n2) ∧ Hid (Tw W wb.heap.size a2 c2 todo a1 c1 all) ∧ Hid (Dfs L all todo) ∧ Hid (mu L todo ≤ gk) ∧ Hid (Below wb.heap.size wb W))
  case atStart => exact ⟨none, some ⟨wb.heap.size, 0, none⟩, 0, 1, 0, 1, [], [[]], rfl, rfl, by omega, by omega, rfl, rfl, T6, Dfs.start L, Nat.le_refl _, k6⟩
  case round =>
    obtain ⟨a1, a2, c1, c2, n1, n2, all, todo, rfl, rfl, hn1, hn2, HL1, HL2, HT, HD, Hmu, Bw⟩ := hrel
    rcases List.eq_nil_or_concat todo with h0 | ⟨tl, d, h0⟩
    · subst h0
      have e2 : n2 = 0 := HL2.out.symm
      subst e2
      go_wp2_with fail
      refine HK.out _ _ ?_
      have hlen := HD.out.len HS.out
      have e1 : n1 = n := by have := HL1.out; have := HN2.out; omega
      subst e1
      exact tail32 w PP wr g5 ad cap n1 nx L a1 c1 all _ _ _ _ _ _ _ _ _ _ _ _ _ _ _ _ _ _ _ _ _ _ _ _ _ _ _ _ _ _ _ _ _ _ _ _ _ _ _ _ _ _ _ _ _ _ _ _ _ _ _ _ _ _ _ _ _ _ _ _ _ _ _ _ _ _ _ _ _ _ _ _ _ _ _ _ _ _ _ _ _ _ _ _ _ _ _ _ _ _ _ _ _ _ _ _ _ _ _ _ _ _ _ _ _ _ _ _ _ _ _ _ _ _ _ _ _ _ _ _ _ _ _ _ _ _ _ _ _ _ _ _ _ _ _ _ _ _ _ _ _ _ _ _ _ _ _ _ _ _ _ _ _ _ _ _ _ _ _ _ _ _ _ _ _ _ _ _ _ _ _ _ _ _ _ _ _ _ _ _ _ _ _ _ _ _ _ _ _ _ _ _ _ _ _ _ _ _ _ _ _ _ _ _ _ _ _ _ _ _ _ _ _ _ _ _ _ _ _ _ _ _ _ _ _ _ _ _ _ _ _ _ HPP HM (HB.out.trans (Bw.out.mono HB.out.size)) HS hn (by have := HT.out.two.le; have := HL1.out; omega) hcap (HR.out.below Bw.out) ((Bw.out.block g5 hg5).trans HQ.out) HT.out.two.sl HD HL1 HN2
    · rw [List.concat_eq_append] at h0
      subst h0
      have hk0 : tl.length + 1 = n2 := by have := HL2.out; simpa using this
      obtain ⟨k, rfl⟩ : ∃ k, n2 = k + 1 := ⟨tl.length, hk0.symm⟩
      have HL3 : Hid (tl.length = k) := (by show _ = _; omega)
      have hd : Dr L d := HD.out.dir d (by simp)
      have HDr : Hid (Dr L d) := hd
      obtain ⟨ga, had, hga1, hga2, hga3, hga4, -, hga6⟩ : ∃ g, a2 = some ⟨g, 0, none⟩ ∧ wb.heap.size ≤ g ∧ g < wr.heap.size ∧ (tl ++ [d]).length ≤ c2 ∧ c2 ≤ 9223372036854775807 ∧ True ∧ wr.cell? ⟨g, k, none⟩ = some (.string (bs d)) := by
        rcases HT.out.one with ⟨_, h, _⟩ | ⟨g, h1, h2, h3, h4, h5, h6, h7⟩
        · simp at h
        · refine ⟨g, h1, h2, h3, h4, h5, trivial, h7 k d ?_⟩
          rw [List.getElem?_append_right (by omega)]
          simp [show k - tl.length = 0 by omega]
      subst had
      have hk2 : k + 1 ≤ c2 := by have h9 := hga3; have h8 := HL3.out; rw [List.length_append] at h9; simp at h9; omega
      have T2 : Hid (Tw wr wb.heap.size (some ⟨ga, 0, none⟩) c2 tl a1 c1 all) := HT.out.pop
      have KL : Hid (∀ W, Below wb.heap.size wb W → Calls Tryd.prog 11 #[.agg #[.slice ad n cap, .int .i64 nx], .string (bs d)] W fun e w' => ∃ v, e = .returned (.tuple #[v, .int .i64 0]) ∧ Ow w' W.heap.size v (kids L d) ∧ Below W.heap.size W w') := fun W hb => list_w ad cap n nx L d W HS.out (HR.out.below hb) HN2.out hn hd
      have m5 := cells_of ((Bw.out.block g5 hg5).trans HQ.out)
      have j1 : (0 : Int) ≤ (k : Int) := by omega
      have j2 : (k : Int) ≤ (c2 : Int) := by omega
      have htl := bs_toList d
      clear hd hk0 HL2 hga3 hga4 HT
      go_upto_region 22 with (go_at_call 11; refine (KL.out _ Bw.out).mono ?_; rintro e w2 ⟨v, rfl, O2, k2⟩)
      rename_i Kr hKr0 Kc hKc0
      have HKr0 : Hid _ := hKr0
      clear hKr0
      obtain ⟨adK, cK, hv⟩ : ∃ adK cK, v = .slice adK (kids L d).length cK := by
        rcases O2.2 with ⟨e1, e2⟩ | ⟨g, c, cur, e1, _⟩
        · exact ⟨none, 0, by rw [e1, ← e2]⟩
        · exact ⟨some ⟨g, 0, none⟩, c, e1⟩
      subst hv
      have HKr : Hid (Rs w2 adK (kids L d)) := (Ow.rs O2).2
      have HKs : Hid (∀ b o, adK = some ⟨b, o, none⟩ → wr.heap.size ≤ b ∧ b < w2.heap.size) := fun b o e => by
        rcases O2.2 with ⟨e1, e2⟩ | ⟨g, c, cur, e1, e2, e3, _⟩
        · simp at e1; rw [e1.1] at e; cases e
        · simp at e1
          rw [e1.1] at e
          injection e with e
          injection e with e
          subst e
          exact ⟨e2, (Array.getElem?_eq_some_iff.1 e3).1⟩
      have hKm : (kids L d).length ≤ n := by
        have h1 := List.length_filter_le (lsf d) (L.filter (sbf d))
        have h2 := List.length_filter_le (sbf d) L
        have := HN2.out
        unfold kids
        omega
      have hKk : Hid (∀ c ∈ kids L d, c ∈ L) := fun c hc => (kids_mem.1 hc).1
      have T3 : Hid (Tw w2 wb.heap.size (some ⟨ga, 0, none⟩) c2 tl a1 c1 all) := T2.out.below k2
      have B2 : Hid (Below wb.heap.size wb w2) := Bw.out.trans (k2.mono Bw.out.size)
      have hw2 : wr.heap.size ≤ w2.heap.size := k2.size
      have hwr : wb.heap.size ≤ wr.heap.size := Bw.out.size
      have HA1 : Hid (∀ g, a1 = some ⟨g, 0, none⟩ → g < wr.heap.size) := fun g e => (T2.out.two.blt e).2
      have HKs2 : Hid (∀ b o, adK = some ⟨b, o, none⟩ → wr.heap.size ≤ b ∧ b < w2.heap.size) := HKs
      clear O2 k2 m5 KL T2
      generalize hKg : kids L d = K at *
      generalize hKn : K.length = m at *
      have HKn : Hid (K.length = m) := hKn
      have HKg : Hid (kids L d = K) := hKg
      clear hKn hKg
      go_wp2_with fail
      refine HKr0.out _ _ ?_
      refine wp_seq_k (fun K4 h4 => ?_)
      have hA1 : all.length ≤ 5000 := by have := HL1.out; omega
      go_cut [13] (fun s13 wx => ∃ (a3 : Option Addr) (c3 n3 : Nat) (al3 : List (List UInt8)), s13 = .slice a3 n3 c3 ∧ n3 ≤ 5001 ∧ Hid (al3.length = n3) ∧ Hid (al3 = all ++ if d = [] then [] else [d]) ∧ Hid (Tw wx wb.heap.size (some ⟨ga, 0, none⟩) c2 tl a3 c3 al3) ∧ Hid (Rs wx adK K) ∧ Hid (∀ b o, adK = some ⟨b, o, none⟩ → a3 ≠ some ⟨b, 0, none⟩) ∧ Hid (Below wb.heap.size wb wx) ∧ w2.heap.size ≤ wx.heap.size)
      case first =>
        by_cases hd0 : d = []
        · have hE : d.isEmpty = true := by rw [hd0]; rfl
          have He : Hid (all = all ++ if d = [] then [] else [d]) := (by show _ = _; rw [if_pos hd0, List.append_nil])
          clear hd0
          go_wp2_with fail
          go_meet
          exact ⟨a1, c1, n1, all, rfl, by omega, HL1, He, T3, HKr, (fun b o e1 e2 => by have := HKs.out b o e1; have := HA1.out b e2; omega), B2, Nat.le_refl _⟩
        · have hE : d.isEmpty = false := by simpa using hd0
          have He : Hid (all ++ [d] = all ++ if d = [] then [] else [d]) := (by show _ = _; rw [if_neg hd0])
          clear hd0
          obtain ⟨a3, c3, w3, hrun, T4, b4, hk4⟩ := T3.out.swap.push d (by omega) (by omega)
          rw [HL1.out] at hrun
          have HRn : Hid _ := hrun
          have R4 : Hid (Rs w3 adK K) := by
            rcases HKr.out with h | ⟨b, o, h1, h2, h3⟩
            · exact .inl h
            · have hbb := HKs.out b o h1
              have hne : a1 ≠ some ⟨b, 0, none⟩ := fun e => by have := HA1.out b e; omega
              have e := (hk4 b hbb.2 hne).1
              refine .inr ⟨b, o, h1, by have := (Array.getElem?_eq_some_iff.1 (e.trans (Array.getElem?_eq_getElem hbb.2))).1; exact this, fun j v hv => ?_⟩
              have ec : w3.cell? ⟨b, o + j, none⟩ = w2.cell? ⟨b, o + j, none⟩ := by unfold World.cell?; simp only [e]
              rw [ec]
              exact h3 j v hv
          have S4 : Hid (∀ b o, adK = some ⟨b, o, none⟩ → a3 ≠ some ⟨b, 0, none⟩) := fun b o e1 => (by
            have hbb := HKs.out b o e1
            exact (hk4 b hbb.2 (fun e => by have := HA1.out b e; omega)).2)
          have T5 : Hid (Tw w3 wb.heap.size (some ⟨ga, 0, none⟩) c2 tl a3 c3 (all ++ [d])) := T4.swap
          have B4 : Hid (Below wb.heap.size wb w3) := B2.out.trans b4
          have hs4 : w2.heap.size ≤ w3.heap.size := b4.size
          clear hrun T4 b4 hk4
          go_wp2_with (at_builtin; refine wpList_append_run rfl _ _ 23 23 rfl _ _ _ rfl rfl HRn.out ?_)
          go_meet
          exact ⟨a3, c3, n1 + 1, all ++ [d], rfl, by omega, by show _ = _; rw [List.length_append, HL1.out]; rfl, He, T5, R4, S4, B4, hs4⟩
      case rest =>
        obtain ⟨a3, c3, n3, al3, rfl, hn3, HL4, HAl, T5, R5, S5, B5, hs5⟩ := hcut
        clear HKr HKs HA1 T3 B2 hs5 HKr0
        go_wp2_with fail
        go_loopw [13, 14, 18] (fun x13 x14 x18 W => ∃ (j n4 n5 c4 c5 : Nat) (a4 a5 : Option Addr) (al td : List (List UInt8)), x13 = .slice a4 n4 c4 ∧ x14 = .slice a5 n5 c5 ∧ x18 = .int .i64 ((j : Int) - 1) ∧ j ≤ m ∧ n4 + j ≤ 5001 + m ∧ n5 + j ≤ 5001 + m ∧ Hid (al.length = n4) ∧ Hid (td.length = n5) ∧ Hid (al = al3 ++ nds (K.reverse.take (m - j))) ∧ Hid (td = tl ++ dds (K.reverse.take (m - j))) ∧ Hid (Tw W wb.heap.size a5 c5 td a4 c4 al) ∧ Hid (Rs W adK K) ∧ Hid (∀ b o, adK = some ⟨b, o, none⟩ → a4 ≠ some ⟨b, 0, none⟩ ∧ a5 ≠ some ⟨b, 0, none⟩) ∧ Hid (Below wb.heap.size wb W)) (fun _ _ x18 _ => (intOf x18 + 1).toNat)
        case atStart =>
          refine ⟨m, n3, k, c3, c2, a3, some ⟨ga, 0, none⟩, al3, tl, rfl, rfl, by simp, Nat.le_refl _, by omega, by omega, HL4, HL3, ?_, ?_, T5, R5, fun b o e => ⟨S5.out b o e, fun e2 => ?_⟩, B5⟩
          · show al3 = _; rw [Nat.sub_self, List.take_zero]; exact (List.append_nil _).symm
          · show tl = _; rw [Nat.sub_self, List.take_zero]; exact (List.append_nil _).symm
          · have h1 := HKs2.out b o e
            injection e2 with e2
            injection e2 with e2
            omega
        case round =>
          obtain ⟨j, n4, n5, c4, c5, a4, a5, al, td, rfl, rfl, rfl, hj, hn4, hn5, HLa, HLt, HEa, HEt, HTw, HRk, HSk, Bj⟩ := hrel
          cases j with
          | zero =>
            go_wp2_with fail
            have hD2 := HD.out.step HS.out
            rw [HKg.out] at hD2
            have hmu := mu_lt HS.out HD.out
            rw [HKg.out] at hmu
            have ea : al = all ++ (if d = [] then [] else [d]) ++ nds K.reverse := by rw [HEa.out, HAl.out, Nat.sub_zero, List.take_of_length_le (by rw [List.length_reverse, HKn.out]; exact Nat.le_refl _)]
            have et : td = tl ++ dds K.reverse := by rw [HEt.out, Nat.sub_zero, List.take_of_length_le (by rw [List.length_reverse, HKn.out]; exact Nat.le_refl _)]
            rw [← ea, ← et] at hD2
            rw [← et] at hmu
            have hsh := hD2.short HS.out
            rw [HLa.out, HLt.out, HN2.out] at hsh
            go_roundg (mu L td)
            case measure => exact Nat.lt_of_lt_of_le hmu Hmu.out
            case rel => exact ⟨a4, a5, c4, c5, n4, n5, al, td, rfl, rfl, by omega, by omega, HLa, HLt, HTw, hD2, Nat.le_refl _, Bj⟩
          | succ i =>
            obtain ⟨c, hc⟩ : ∃ c, K[i]? = some c := ⟨_, List.getElem?_eq_getElem (by have := HKn.out; omega)⟩
            obtain ⟨b, o, rfl, hb1, hb2⟩ := HRk.out.at hc
            have q0 : wr.cell? ⟨b, o + i * 13, none⟩ = some (.string (bs c.p)) := hb2 0 _ rfl
            have q2 : wr.cell? ⟨b, o + i * 13 + 2, none⟩ = some (.int .i64 c.kind) := hb2 2 _ rfl
            have HRv : Hid (K.reverse.take (m - i) = K.reverse.take (m - (i + 1)) ++ [c]) := (by have h9 := rev_take K i c hc; rw [HKn.out] at h9; exact h9)
            have hsep := HSk.out b o rfl
            have i1 : (0 : Int) ≤ (i : Int) := by omega
            have i2 : (i : Int) < (m : Int) := by omega
            have hszB : wb.heap.size ≤ wr.heap.size := Bj.out.size
            by_cases hkd : c.kind = 4
            · have hkb : (c.kind == 4) = true := by simpa using hkd
              obtain ⟨a6, c6, w7, hrun, T7, b7, hk7⟩ := HTw.out.push c.p hszB (by have := HLt.out; omega)
              rw [HLt.out] at hrun
              have HRn : Hid _ := hrun
              have e7 := hk7 b hb1 hsep.2
              have R7 : Hid (Rs w7 (some ⟨b, o, none⟩) K) := HRk.out.moved e7.1
              have S7 : Hid (∀ b' o', some ⟨b, o, none⟩ = some (⟨b', o', none⟩ : Addr) → a4 ≠ some ⟨b', 0, none⟩ ∧ a6 ≠ some ⟨b', 0, none⟩) := fun b' o' e => (by
                injection e with e; injection e with e1 e2; subst e1; exact ⟨hsep.1, e7.2⟩)
              have T8 : Hid (Tw w7 wb.heap.size a6 c6 (td ++ [c.p]) a4 c4 al) := T7
              have B8 : Hid (Below wb.heap.size wb w7) := Bj.out.trans b7
              have E8 : Hid (al = al3 ++ nds (K.reverse.take (m - i))) := (by show _ = _; rw [HRv.out, nds_snoc, if_pos hkd, List.append_nil]; exact HEa.out)
              have E9 : Hid (td ++ [c.p] = tl ++ dds (K.reverse.take (m - i))) := (by show _ = _; rw [HRv.out, dds_snoc, if_pos hkd, ← List.append_assoc, ← HEt.out])
              have L9 : Hid ((td ++ [c.p]).length = n5 + 1) := (by show _ = _; rw [List.length_append, HLt.out]; rfl)
              clear hrun T7 b7 hk7 e7 hc hb2 hkd HTw HRk HSk HEa HEt
              go_wp2_with (at_builtin; refine wpList_append_run rfl _ _ 23 23 rfl _ _ _ rfl rfl HRn.out ?_)
              go_roundw
              case rel => exact ⟨i, n4, n5 + 1, c4, c6, a4, a6, al, td ++ [c.p], rfl, rfl, by simp, by omega, by omega, by omega, HLa, L9, E8, E9, T8, R7, S7, B8⟩
              case measure => simp [intOf]
            · have hkb : (c.kind == 4) = false := by simpa using hkd
              obtain ⟨a6, c6, w7, hrun, T7, b7, hk7⟩ := HTw.out.swap.push c.p hszB (by have := HLa.out; omega)
              rw [HLa.out] at hrun
              have HRn : Hid _ := hrun
              have e7 := hk7 b hb1 hsep.1
              have R7 : Hid (Rs w7 (some ⟨b, o, none⟩) K) := HRk.out.moved e7.1
              have S7 : Hid (∀ b' o', some ⟨b, o, none⟩ = some (⟨b', o', none⟩ : Addr) → a6 ≠ some ⟨b', 0, none⟩ ∧ a5 ≠ some ⟨b', 0, none⟩) := fun b' o' e => (by
                injection e with e; injection e with e1 e2; subst e1; exact ⟨e7.2, hsep.2⟩)
              have T8 : Hid (Tw w7 wb.heap.size a5 c5 td a6 c6 (al ++ [c.p])) := T7.swap
              have B8 : Hid (Below wb.heap.size wb w7) := Bj.out.trans b7
              have E8 : Hid (al ++ [c.p] = al3 ++ nds (K.reverse.take (m - i))) := (by show _ = _; rw [HRv.out, nds_snoc, if_neg hkd, ← List.append_assoc, ← HEa.out])
              have E9 : Hid (td = tl ++ dds (K.reverse.take (m - i))) := (by show _ = _; rw [HRv.out, dds_snoc, if_neg hkd, List.append_nil]; exact HEt.out)
              have L9 : Hid ((al ++ [c.p]).length = n4 + 1) := (by show _ = _; rw [List.length_append, HLa.out]; rfl)
              clear hrun T7 b7 hk7 e7 hc hb2 HTw HRk HSk HEa HEt
              go_wp2_with (at_builtin; refine wpList_append_run rfl _ _ 23 23 rfl _ _ _ rfl rfl HRn.out ?_)
              go_roundw
              case rel => exact ⟨i, n4 + 1, n5, c6, c5, a6, a5, al ++ [c.p], td, rfl, rfl, by simp, by omega, by omega, by omega, L9, HLt, E8, E9, T8, R7, S7, B8⟩
              case measure => simp [intOf]

end Go.Proofs.YtojnniacmmcddaaDoor
