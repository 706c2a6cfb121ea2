/-
  The bytes of what was read are written.
-/
import Derived.Test.YtnmmaedngdibeaaGreatDoorRs
namespace Go.Proofs.YtnmmaedngdibeaaGreatDoor
open Go.RowKit
set_option linter.unusedVariables false
set_option linter.unusedSimpArgs false

def dataV (x : EvE × Value) : Value := match x.1 with | .dat _ _ => x.2 | _ => .slice none 0 0
theorem ev_data (x : EvE × Value) : (evCells x.1 x.2)[11]? = some (dataV x) := by
  obtain ⟨e, v⟩ := x
  cases e <;> simp [evCells, zero10, E.En.cells, dataV]
def overB : EvE → Bool
  | .don _ => true
  | .bad _ _ _ => true
  | _ => false
theorem ev_kind (x : EvE × Value) : ∃ n : Int, (evCells x.1 x.2)[0]? = some (.int .i64 n) ∧ (overB x.1 = false → n < 4) := by
  obtain ⟨e, v⟩ := x
  cases e with
  | bgn y p => exact ⟨1, rfl, fun _ => by omega⟩
  | dat b p => exact ⟨2, rfl, fun _ => by omega⟩
  | fin p => exact ⟨3, rfl, fun _ => by omega⟩
  | don p => exact ⟨4, rfl, fun h => by cases h⟩
  | bad c q p => exact ⟨5, rfl, fun h => by cases h⟩
/-- an archive to which one more was told than it may is none -/
theorem arcs_last (l : List EvE) (e : EvE) {a b : AcE} (h : Pu.arcs a (l ++ [e]) = some b) (ho : overB e = true) : b.ov = true := by
  rw [Pu.arcs_append] at h
  cases hm : Pu.arcs a l with
  | none => rw [hm] at h; cases h
  | some m =>
    rw [hm] at h
    simp only [Option.bind_some, Pu.arcs] at h
    cases e with
    | don p =>
      simp only [Pu.arc] at h
      split at h
      · cases h
      · cases h; rfl
    | bad c q p =>
      simp only [Pu.arc] at h
      split at h
      · cases h
      · cases h; rfl
    | bgn y p => cases ho
    | dat y p => cases ho
    | fin p => cases ho
/-- where what was told last ends the archive, the parser is over -/
theorem feed_over (zs : List Int) (l : List EvE) (e : EvE) (h : (Pu.feed fns0 zs.length (Pu.new fns0) zs).2 = l ++ [e]) (ho : overB e = true) : (Pu.feed fns0 zs.length (Pu.new fns0) zs).1.pt = 4 := by
  obtain ⟨e1, e2, e3⟩ := fed_arch zs []
  have ep : pcs zs ([] ++ [(zs.length : Int)]) = [zs] := by
    have e : (max 0 (min (zs.length : Int) (zs.length : Int))).toNat = zs.length := by omega
    simp only [List.nil_append, pcs, e, List.take_length]
  rw [ep] at e1 e2
  simp only [Pu.feeds, List.append_nil] at e1 e2
  rw [h] at e2
  have := arcs_last l e e2 ho
  rw [← e1] at e3
  exact e3.ov.1 this

/-- bytes that may be written -/
def Dk (W : World) (D : Nat → Prop) (L : List (EvE × Value)) : Prop :=
  ∀ x ∈ L, ∃ (ad : Option Addr) (n c : Nat), dataV x = .slice ad n c ∧ n ≤ 1000000 ∧ (n = 0 ∨ ∃ (G : Nat) (cs : Array Value) (ty : TypeId), ad = some ⟨G, 0, none⟩ ∧ D G ∧ W.heap[G]? = some (.cells cs ty (0, 0)) ∧ ∀ k, k < n → ∃ z, cs[k]? = some (.int .u8 z))
theorem Dk.moved {W W' : World} {D : Nat → Prop} {L : List (EvE × Value)} (h : Dk W D L) (e : ∀ k, D k → W'.heap[k]? = W.heap[k]?) : Dk W' D L := fun x hx => by
  obtain ⟨ad, n, c, h1, h2, h3⟩ := h x hx
  refine ⟨ad, n, c, h1, h2, h3.imp id fun ⟨G, cs, ty, g1, g2, g3, g4⟩ => ⟨G, cs, ty, g1, g2, (e G g2).trans g3, g4⟩⟩
theorem Dk.set {W : World} {D : Nat → Prop} {L : List (EvE × Value)} (h : Dk W D L) {G : Nat} {cs : Array Value} {ty : TypeId} (hG : W.heap[G]? = some (.cells cs ty (0, 0))) (k : Nat) (z : Int) : Dk (W.setCell ⟨G, k, none⟩ (.int .u8 z)) D L := fun x hx => by
  obtain ⟨ad, n, c, h1, h2, h3⟩ := h x hx
  refine ⟨ad, n, c, h1, h2, h3.imp id ?_⟩
  rintro ⟨G', cs', ty', g1, g2, g3, g4⟩
  by_cases e : G' = G
  · subst e
    rw [hG] at g3
    cases g3
    refine ⟨G', _, ty, g1, g2, Lib.heap_setCell_same hG _, fun j hj => ?_⟩
    obtain ⟨z', hz⟩ := g4 j hj
    rw [Array.getElem?_setIfInBounds]
    by_cases ej : k = j
    · subst ej
      rw [if_pos rfl, if_pos (Array.getElem?_eq_some_iff.1 hz).1]
      exact ⟨z, rfl⟩
    · rw [if_neg ej]
      exact ⟨z', hz⟩
  · refine ⟨G', cs', ty', g1, g2, ?_, g4⟩
    rw [← g3]
    simp [World.setCell, Array.getElem?_modify, Ne.symm e]
theorem Dk.start {w w' : World} {M D : Nat → Prop} {v : Value} {L : List (EvE × Value)} (hE : EvS w' v L) (hd : ∀ x ∈ L, DatOk w w' M x) (hl : ∀ (b : List Int) (p : Nat), (.dat b p : EvE) ∈ L.map (·.1) → b.length ≤ 1000000) (hD : ∀ G, w.heap.size ≤ G → G < w'.heap.size → ¬ M G → v.ownBlock ≠ some G → D G) : Dk w' D L := fun x hx => by
  have h := hd x hx
  have hm : x.1 ∈ L.map (·.1) := List.mem_map.2 ⟨x, hx, rfl⟩
  obtain ⟨e, u⟩ := x
  cases e with
  | dat b p =>
    obtain ⟨G, c, h1, h2, h3, h4, h5, h6, h7⟩ := h
    refine ⟨some ⟨G, 0, none⟩, b.length, c, h1, hl b p hm, ?_⟩
    by_cases hb : b = []
    · exact .inl (by rw [hb]; rfl)
    · right
      have hne : v.ownBlock ≠ some G := fun hG => by
        obtain ⟨n1, c1⟩ := ev_first hE hx hG
        obtain ⟨n2, c2⟩ := src_first h4.1 hb
        rw [c1] at c2
        injection c2 with c2
        injection c2 with c2
        cases c2
      obtain ⟨cs, ty, hg⟩ := h4.2 hb
      obtain ⟨ad, ea, hc⟩ := h4.1 (List.length_pos_iff.2 hb)
      cases ea
      refine ⟨G, cs, ty, rfl, hD G h5 h6 h7 hne, hg, fun k hk => ⟨b[k], ?_⟩⟩
      have := hc k (.int .u8 b[k]) (by rw [cells_map, List.getElem?_map, List.getElem?_eq_getElem hk]; rfl)
      rw [add_at, Nat.zero_add] at this
      simpa [World.cell?, hg] using this
  | bgn y p => exact ⟨none, 0, 0, rfl, by omega, .inl rfl⟩
  | fin p => exact ⟨none, 0, 0, rfl, by omega, .inl rfl⟩
  | don p => exact ⟨none, 0, 0, rfl, by omega, .inl rfl⟩
  | bad c q p => exact ⟨none, 0, 0, rfl, by omega, .inl rfl⟩

set_option maxRecDepth 100000 in
set_option maxHeartbeats 8000000 in
theorem inner_w (w5 W : World) (D : Nat → Prop) (L : List (EvE × Value)) (GE lc i : Nat) (hi : i < L.length) (hlL : L.length ≤ 1000000) (hE : EvS w5 (.slice (some ⟨GE, 0, none⟩) L.length lc) L) (hGD : ¬ D GE) (hM : Mv D w5 W) (hDk : Dk W D L)
    (s0 s1 s2 s3 s4 s5 s6 s8 s9 s10 s11 s12 s13 s14 s15 s16 s17 s18 s19 s20 s21 s22 s23 s24 s25 s26 s27 s28 s29 s30 s31 s32 s33 s34 s35 s36 s37 s38 s39 s40 s41 s42 s43 s44 s45 s46 s48 s49 s50 s51 s52 s53 s54 s55 s56 s57 s58 s59 s60 s61 s62 s63 s64 s65 s66 s67 s68 s69 s70 s71 s72 s73 s74 s75 s76 s77 s78 s79 s80 s81 s82 s83 s84 s85 s86 s87 s88 s89 s90 s91 s92 s93 s94 s95 s96 s97 s98 s99 s100 s101 s102 s103 s104 s105 s106 s107 s108 s109 s110 s111 s112 s113 s114 s115 s116 s117 s118 s119 s120 s121 s122 s123 s124 s125 s126 s127 s128 s129 s130 : Value) (Q : Exit → Act → World → Prop)
    (HQ : Hid (∀ (r9 r10 r49 r50 r51 r52 r53 r54 r55 r56 r57 r58 r59 r60 r61 r62 r63 r64 r65 r66 r67 r68 r69 : Value) (W2 : World), Mv D w5 W2 → Dk W2 D L → Q .normal { tmps := #[s0, s1, s2, s3, s4, s5, s6, .slice (some ⟨GE, 0, none⟩) L.length lc, s8, r9, r10, s11, s12, s13, s14, s15, s16, s17, s18, s19, s20, s21, s22, s23, s24, s25, s26, s27, s28, s29, s30, s31, s32, s33, s34, s35, s36, s37, s38, s39, s40, s41, s42, s43, s44, s45, s46, .int .i64 (i : Int), s48, r49, r50, r51, r52, r53, r54, r55, r56, r57, r58, r59, r60, r61, r62, r63, r64, r65, r66, r67, r68, r69, s70, s71, s72, s73, s74, s75, s76, s77, s78, s79, s80, s81, s82, s83, s84, s85, s86, s87, s88, s89, s90, s91, s92, s93, s94, s95, s96, s97, s98, s99, s100, s101, s102, s103, s104, s105, s106, s107, s108, s109, s110, s111, s112, s113, s114, s115, s116, s117, s118, s119, s120, s121, s122, s123, s124, s125, s126, s127, s128, s129, s130], defers := [] } W2)) :
    Code.wp Tryz.prog ((Tryz.f5.body.bind (blkAt 3)).getD .skip) Q { tmps := #[s0, s1, s2, s3, s4, s5, s6, .slice (some ⟨GE, 0, none⟩) L.length lc, s8, s9, s10, s11, s12, s13, s14, s15, s16, s17, s18, s19, s20, s21, s22, s23, s24, s25, s26, s27, s28, s29, s30, s31, s32, s33, s34, s35, s36, s37, s38, s39, s40, s41, s42, s43, s44, s45, s46, .int .i64 (i : Int), s48, s49, s50, s51, s52, s53, s54, s55, s56, s57, s58, s59, s60, s61, s62, s63, s64, s65, s66, s67, s68, s69, s70, s71, s72, s73, s74, s75, s76, s77, s78, s79, s80, s81, s82, s83, s84, s85, s86, s87, s88, s89, s90, s91, s92, s93, s94, s95, s96, s97, s98, s99, s100, s101, s102, s103, s104, s105, s106, s107, s108, s109, s110, s111, s112, s113, s114, s115, s116, s117, s118, s119, s120, s121, s122, s123, s124, s125, s126, s127, s128, s129, s130], defers := [] } W := by
  conv => arg 2; whnf
  have hi1 : (i : Int) < (L.length : Int) := by omega
  have hGE : GE < w5.heap.size := (own_lt hE (k := GE) rfl).1
  obtain ⟨ad, n, c, hdv, hn6, hcs⟩ := hDk _ (List.getElem_mem hi)
  have hrow : ∀ W', Mv D w5 W' → W'.cell? ⟨GE, i * 14 + 11, none⟩ = some (.slice ad n c) := fun W' m => by
    have hc := hE.cells (g := GE) rfl (i * 14 + 11) (dataV L[i]) (ev_at L i hi 11 _ (ev_data L[i]))
    rw [add_at, Nat.zero_add, hdv] at hc
    simp only [World.cell?] at hc ⊢
    rw [m.block GE hGE hGD]
    exact hc
  have HROW : Hid _ := hrow
  have HIN : Hid (∀ W', Dk W' D L → ∀ k, k < n → ∃ (G : Nat) (cs : Array Value) (ty : TypeId) (z : Int), ad = some ⟨G, 0, none⟩ ∧ D G ∧ W'.heap[G]? = some (.cells cs ty (0, 0)) ∧ cs[k]? = some (.int .u8 z)) := fun W' d k hk => by
    obtain ⟨ad', n', c', e1, _, e2⟩ := d _ (List.getElem_mem hi)
    rw [hdv] at e1
    cases e1
    rcases e2 with e2 | ⟨G, cs, ty, g1, g2, g3, g4⟩
    · omega
    · obtain ⟨z, hz⟩ := g4 k hk
      exact ⟨G, cs, ty, z, g1, g2, g3, hz⟩
  have hsiE := sizeEv
  have HM0 : Hid (Mv D w5 W) := hM
  have HD0 : Hid (Dk W D L) := hDk
  have y0 := hrow W hM
  clear hcs hE hrow hM hDk hdv
  go_wp2_with fail
  clear y0
  go_loopg [56] n (fun gk t56 W => ∃ (Wn : World) (j : Nat), Wn = W ∧ j ≤ n ∧ n - j ≤ gk ∧ t56 = .int .i64 (j : Int) ∧ Hid (Mv D w5 W) ∧ Hid (Dk W D L))
  case atStart => exact ⟨_, 0, rfl, Nat.zero_le _, by omega, rfl, HM0, HD0⟩
  case round =>
    obtain ⟨W1, j, rfl, hj0, hgk, rfl, hM1, hD1⟩ := hrel
    clear HM0 HD0
    have y1 := HROW.out W1 hM1.out
    by_cases hlt : j < n
    · have hlt1 : (j : Int) < (n : Int) := by omega
      obtain ⟨G, cs, ty, z, rfl, hDG, hG, hz⟩ := HIN.out W1 hD1.out j hlt
      have hcell : W1.cell? ⟨G, j, none⟩ = some (.int .u8 z) := by simp only [World.cell?, hG]; simpa using hz
      have hfz : ∀ m, W1.frozen? ⟨G, m, none⟩ = false := fun m => by simp [World.frozen?, hG]
      have HMN : Hid (∀ y, Mv D w5 (W1.setCell ⟨G, j, none⟩ (.int .u8 y))) := fun y => by
        have m := hM1.out
        refine ⟨m.os, m.tape, m.output, by simpa [World.setCell] using m.size, fun k hk hn => ?_⟩
        have hkG : k ≠ G := fun e => hn (by rw [e]; exact hDG)
        rw [← m.block k hk hn]
        simp [World.setCell, Array.getElem?_modify, Ne.symm hkG]
      have HDN : Hid (∀ y, Dk (W1.setCell ⟨G, j, none⟩ (.int .u8 y)) D L) := fun y => hD1.out.set hG j y
      clear HQ hG hz hM1 hD1 HROW HIN
      go_wp2_with fail
      go_roundg (n - (j + 1))
      case rel => exact ⟨_, j + 1, rfl, by omega, Nat.le_refl _, by simp, HMN.out _, HDN.out _⟩
      case measure => omega
    · have hje : j = n := by omega
      subst hje
      have HF := fun (r9 : Value) (r10 : Value) (r49 : Value) (r50 : Value) (r51 : Value) (r52 : Value) (r53 : Value) (r54 : Value) (r55 : Value) (r56 : Value) (r57 : Value) (r58 : Value) (r59 : Value) (r60 : Value) (r61 : Value) (r62 : Value) (r63 : Value) (r64 : Value) (r65 : Value) (r66 : Value) (r67 : Value) (r68 : Value) (r69 : Value) => HQ.out r9 r10 r49 r50 r51 r52 r53 r54 r55 r56 r57 r58 r59 r60 r61 r62 r63 r64 r65 r66 r67 r68 r69 W1 hM1.out hD1.out
      have HF' : Hid _ := HF
      clear HF HQ hM1 hD1 HROW HIN
      go_wp2_with fail
      exact HF'.out _ _ _ _ _ _ _ _ _ _ _ _ _ _ _ _ _ _ _ _ _ _ _
end Go.Proofs.YtnmmaedngdibeaaGreatDoor
