/-
  Contract: merge.Over.
-/
import Derived.Test.YtpgiibpalmhhlaaGreatDoorMb0
import Derived.Test.YtpgiibpalmhhlaaGreatDoorM0
import Derived.Deep.DeepCutAuto
import Derived.Deep.CutBlock
import Derived.Deep.RegionWith
namespace Go.Proofs.YtpgiibpalmhhlaaGreatDoor
open Go.RowKit
open Go.Lib hiding intOf
set_option linter.unusedVariables false
set_option linter.unusedSimpArgs false

/-- Over, on its way -/
structure Mo (w W : World) (T1 T2 : Array Value) (g c : Nat) (Q : List Rw) (adr : Option Addr) (cr : Nat) (S : List Rw) : Prop where
  t3 : T3 w W T1 T2 #[.slice none 0 0, .int .i64 0] 26 26 26
  own : Ow W (w.heap.size + 3) (.slice (some ⟨g, 0, none⟩) Q.length c) Q
  rst : Rs W adr S
  low : S = [] ∨ ∃ b o, adr = some ⟨b, o, none⟩ ∧ b < w.heap.size
  rl : S.length ≤ cr
  rn : adr = none → cr = 0
theorem Ow.bk {w : World} {B g n c : Nat} {L : List Rw} (h : Ow w B (.slice (some ⟨g, 0, none⟩) n c) L) : B ≤ g ∧ g < w.heap.size ∧ L.length ≤ c := by
  have h1 := World.ownsRow.lt h g rfl
  refine ⟨h1.1, h1.2, ?_⟩
  rcases h.2 with ⟨q1, _⟩ | ⟨g', cp, cur, q1, q2, q3, q4, _⟩
  · cases q1
  · cases q1; exact q4
theorem Mo.next {w W W' : World} {T1 T2 : Array Value} {g c : Nat} {Q : List Rw} {adr : Option Addr} {cr : Nat} {S : List Rw} (h : Mo w W T1 T2 g c Q adr cr S) (b : Below W.heap.size W W') : Mo w W' T1 T2 g c Q adr cr S :=
  ⟨h.t3.next b, h.own.below b, h.rst.below b, h.low, h.rl, h.rn⟩
theorem Mo.drew {w W : World} {T1 T2 : Array Value} {g c : Nat} {Q : List Rw} {adr : Option Addr} {cr : Nat} {S : List Rw} (h : Mo w W T1 T2 g c Q adr cr S) : Mo w W.drew T1 T2 g c Q adr cr S := h.next ((Below.refl _ _).drew)
/-- an append to the rows -/
theorem Mo.grown {w W W' : World} {T1 T2 : Array Value} {g c : Nat} {Q : List Rw} {adr : Option Addr} {cr : Nat} {S : List Rw} (h : Mo w W T1 T2 g c Q adr cr S) {g' c' : Nat} {Q' : List Rw} (ho : Ow W' (w.heap.size + 3) (.slice (some ⟨g', 0, none⟩) Q'.length c') Q') (hg : W.grownBy W' (some g)) : Mo w W' T1 T2 g' c' Q' adr cr S := by
  have h1 := h.own.bk
  have k : Below (w.heap.size + 3) W W' := (Below.refl _ _).grown hg (Nat.le_trans h.t3.lt (Nat.le_refl _)) (fun k hk => by injection hk with hk; omega)
  refine ⟨h.t3.nextB k, ho, ?_, h.low, h.rl, h.rn⟩
  rcases h.rst with e | ⟨b, o, e1, e2, e3⟩
  · exact .inl e
  · rcases h.low with e | ⟨b', o', e4, e5⟩
    · exact .inl e
    · rw [e1] at e4; cases e4
      exact .inr ⟨b, o, e1, Nat.lt_of_lt_of_le e2 k.size, range_below e3 k (by omega)⟩
/-- another block is written -/
theorem Mo.set {w W W' : World} {T1 T2 : Array Value} {g c : Nat} {Q : List Rw} {adr : Option Addr} {cr : Nat} {S : List Rw} (h : Mo w W T1 T2 g c Q adr cr S) (k : Nat) (hk : w.heap.size + 3 ≤ k) (hne : k ≠ g) (hb : W.grownBy W' (some k)) : Mo w W' T1 T2 g c Q adr cr S := by
  have h1 := h.own.bk
  have b : Below (w.heap.size + 3) W W' := (Below.refl _ _).grown hb (Nat.le_trans h.t3.lt (Nat.le_refl _)) (fun k' hk' => by injection hk' with hk'; omega)
  refine ⟨h.t3.nextB b, World.ownsRow.kept h.own hb (by simp [Value.ownBlock]; omega), ?_, h.low, h.rl, h.rn⟩
  rcases h.rst with e | ⟨b', o, e1, e2, e3⟩
  · exact .inl e
  · rcases h.low with e | ⟨b2, o', e4, e5⟩
    · exact .inl e
    · rw [e1] at e4; cases e4
      exact .inr ⟨b', o, e1, Nat.lt_of_lt_of_le e2 b.size, range_below e3 b (by omega)⟩
theorem grown_setCell (W : World) (g j : Nat) (v : Value) : W.grownBy (W.setCell ⟨g, j, none⟩ v) (some g) :=
  ⟨rfl, rfl, rfl, by simp, fun i _ hi => Below.heap_setCell _ _ _ _ (fun e => hi (by rw [e]))⟩
theorem grown_setRow (W : World) (g : Nat) (C : Array Value) : W.grownBy (W.setRow g C) (some g) :=
  ⟨rfl, rfl, rfl, by simp, fun i _ hi => setRow_other _ _ _ _ (fun e => hi (by rw [e]))⟩

theorem low_drop {w : World} {adr : Option Addr} {cr : Nat} {S : List Rw} (k : Nat) (h : S = [] ∨ ∃ b o, adr = some ⟨b, o, none⟩ ∧ b < w.heap.size) : S.drop k = [] ∨ ∃ b o, lowAt adr cr k = some ⟨b, o, none⟩ ∧ b < w.heap.size := by
  rcases h with e | ⟨b, o, e, h⟩
  · left; rw [e]; simp
  · right
    subst e
    unfold lowAt
    split
    · exact ⟨b, o, rfl, h⟩
    · exact ⟨b, o + k * 13, by simp [Addr.add_mid], h⟩
theorem Mo.drop {w W : World} {T1 T2 : Array Value} {g c : Nat} {Q : List Rw} {adr : Option Addr} {cr : Nat} {S : List Rw} (h : Mo w W T1 T2 g c Q adr cr S) (k : Nat) (hk : k ≤ S.length) : Mo w W T1 T2 g c Q (lowAt adr cr k) (cr - k) (S.drop k) :=
  ⟨h.t3, h.own, h.rst.drop cr k h.rl, low_drop k h.low, by rw [List.length_drop]; have := h.rl; omega, fun e => by have := h.rn (low_none e); omega⟩

theorem run_low1 (w : World) (a : Option Addr) (n cap : Nat) (h : 1 ≤ n) : (Instr.sliceAt 24 (.slice a n cap) (some (.int .i64 1)) none none).run Tryz.prog w = .ok (.slice (lowAt a cap 1) (n - 1) (cap - 1)) w := run_lowAt w a n cap 1 h

theorem ovX_nil (bn : Int) (S : List Rw) : ovX bn S [] = some S := by cases S <;> rfl
theorem ovX_cons (bn : Int) (S : List Rw) (r : Rw) (us : List Rw) : ovX bn S (r :: us) = if fd S r.p then
      (if decide ((atR S r.p).kind = 4) ≠ decide (r.kind = 4) then none
       else (ovX bn (S.drop (ix S r.p + 1)) us).map fun X => S.take (ix S r.p) ++ inPl (atR S r.p) { r with id := r.id + bn } :: X)
    else (ovX bn (S.drop (ix S r.p)) us).map fun X => S.take (ix S r.p) ++ { r with id := r.id + bn } :: X := by cases S <;> rfl

/-- Over: the rows, the next number, the error -/
def overP (L1 : List Rw) (n1 : Int) (L2 : List Rw) (n2 : Int) : List Rw × Int × Int := match ovX n1 L1 L2 with | some X => (X, n1 + n2, 0) | none => (L1, n1, 130)

set_option maxRecDepth 20000 in
set_option maxHeartbeats 8000000 in
theorem over_w (ad1 ad2 : Option Addr) (c1 c2 : Nat) (n1 n2 : Int) (L1 L2 : List Rw) (w : World) (hm : Ml w) (hs : Srt L1) (r1 : Rs w ad1 L1) (r2 : Rs w ad2 L2) (l1 : L1.length ≤ 400000) (l2 : L2.length ≤ 400000) (k1 : L1.length ≤ c1) (e1 : ad1 = none → c1 = 0) (h1 : 0 ≤ n1 ∧ n1 ≤ 1000000000000) (h2 : 0 ≤ n2 ∧ n2 ≤ 1000000000000)
    (p1 : ∀ r ∈ L1, r.p.length ≤ 1000000) (p2 : ∀ r ∈ L2, r.p.length ≤ 1000000 ∧ 0 ≤ r.id ∧ r.id ≤ 1000000000000) :
    Calls Tryz.prog 11 #[.agg #[.slice ad1 L1.length c1, .int .i64 n1], .agg #[.slice ad2 L2.length c2, .int .i64 n2]] w fun e w' => ∃ v, e = .returned (.tuple #[v, .int .i64 (overP L1 n1 L2 n2).2.2]) ∧ Tm w' v (overP L1 n1 L2 n2).1 (overP L1 n1 L2 n2).2.1 ∧ Below w.heap.size w w' := by
  obtain ⟨i0, hi0, hi1, hi2, z, hz, hzs⟩ := i40
  have H0 := T3.mk0 w #[.slice ad1 L1.length c1, .int .i64 n1] #[.slice ad2 L2.length c2, .int .i64 n2] #[.slice none 0 0, .int .i64 0] 26 26 26
  have HM : Hid (Ml w) := hm
  have R1 : Hid (Rs w ad1 L1) := r1
  have R2 : Hid (Rs w ad2 L2) := r2
  have P2 : Hid (∀ r ∈ L2, r.p.length ≤ 1000000 ∧ 0 ≤ r.id ∧ r.id ≤ 1000000000000) := p2
  have low0 : L1 = [] ∨ ∃ b o, ad1 = some ⟨b, o, none⟩ ∧ b < w.heap.size := by
    rcases r1 with e | ⟨b, o, e, h, _⟩
    · exact .inl e
    · exact .inr ⟨b, o, e, h⟩
  have HLow := hid low0
  have KQ : Hid (∀ W adr cr k s, Below w.heap.size w W → Rs W adr (L1.drop k) → s.length ≤ 1000000 → Calls Tryz.prog 28 #[.slice adr (L1.drop k).length cr, .string (bs s)] W fun e w' => e = .returned (.tuple #[.int .i64 (ix (L1.drop k) s : Int), .bool (fd (L1.drop k) s)]) ∧ Below W.heap.size W w') := fun W adr cr k s hb hr hsl => mfind_w adr cr (L1.drop k) s W (hm.below hb) (hs.sublist (List.drop_sublist _ _)) hr (by rw [List.length_drop]; omega) (fun r hr => p1 r (List.mem_of_mem_drop hr)) hsl
  have KD := isDirC_w
  have KI : Hid (∀ (was r : Rw) W, Calls Tryz.prog 31 #[.agg #[.string (bs was.p), .int .i64 was.id, .int .i64 was.kind, .int .i64 was.mode, .int .i64 0, .int .i64 0, .int .i64 0, .string ⟨#[]⟩, .string ⟨#[]⟩, .string ⟨#[]⟩, .slice none 0 0, .int .i64 was.size, .bool was.made], .agg #[.string (bs r.p), .int .i64 r.id, .int .i64 r.kind, .int .i64 r.mode, .int .i64 0, .int .i64 0, .int .i64 0, .string ⟨#[]⟩, .string ⟨#[]⟩, .string ⟨#[]⟩, .slice none 0 0, .int .i64 r.size, .bool r.made]] W fun e w' => e = .returned (.agg #[.string (bs (inPl was r).p), .int .i64 (inPl was r).id, .int .i64 (inPl was r).kind, .int .i64 (inPl was r).mode, .int .i64 0, .int .i64 0, .int .i64 0, .string ⟨#[]⟩, .string ⟨#[]⟩, .string ⟨#[]⟩, .slice none 0 0, .int .i64 (inPl was r).size, .bool (inPl was r).made]) ∧ Below W.heap.size W w') := fun was r W => inpl_w was r W
  have KC : Hid (∀ W, Below w.heap.size w W → Calls Tryz.prog 30 #[.slice ad1 L1.length c1] W fun e w' => ∃ a c, e = .returned (.slice a L1.length c) ∧ Rs w' a L1 ∧ L1.length ≤ c ∧ (a = none → c = 0) ∧ Below W.heap.size W w') := fun W hb => cloneR_w ad1 c1 L1 W (r1.below hb) (by omega)
  have HO : Hid (overP L1 n1 L2 n2 = match ovX n1 L1 L2 with | some X => (X, n1 + n2, 0) | none => (L1, n1, 130)) := rfl
  have HF : Hid ((ovX n1 (L1.drop 0) (L2.drop 0)).map (fun X => [] ++ X) = ovX n1 L1 L2) := (by show _ = _; rw [List.drop_zero, List.drop_zero]; cases ovX n1 L1 L2 <;> rfl)
  have hw1 : wrap64 (n1 + n2) = n1 + n2 := by unfold wrap64; omega
  have hcapn : Hid (i0.bytes * (L1.length + L2.length) ≤ 281474976710656) := (by show _ ≤ _; rw [hi2]; omega)
  have hmax : Hid (L1.length + L2.length ≤ maxLen) := (by show _ ≤ _; unfold maxLen; omega)
  clear hm hs r1 r2 p1 p2 low0
  generalize ovX n1 L1 L2 = F at *
  generalize overP L1 n1 L2 n2 = RR at *
  generalize hN1 : L1.length = m1 at *
  have HN1 : Hid (L1.length = m1) := hN1
  generalize hN2 : L2.length = m2 at *
  have HN2 : Hid (L2.length = m2) := hN2
  clear hN1 hN2
  go_enter Tryz.func11, Tryz.ntmps11
  go_upto_region 1 with fail
  generalize ((w.alloc _).alloc _).alloc _ = w0 at *
  have x1 := cells_of H0.one
  have x2 := cells_of H0.two
  have hwm : wrap64 ((m1 : Int) + (m2 : Int)) = ((m1 + m2 : Nat) : Int) := by unfold wrap64; omega
  go_upto_region 2 with (at_make; refine wpList_make_own _ rfl _ _ 24 rfl (w.heap.size + 3) 43 i0 z 13 Tryz.underlying24 hi0 hz hi1 _ _ _ (m1 + m2) rfl rfl (by first | omega | exact hwm) hcapn.out hmax.out H0.lt ?_; intro v1 O1 G1)
  have b1 : Below w0.heap.size w0 v1 := (Below.refl _ _).grown G1 (Nat.le_refl _) (fun k hk => by cases hk)
  have R1' := R1.out.below H0.bel
  have M0 : Hid (Mo w v1 #[.slice ad1 m1 c1, .int .i64 n1] #[.slice ad2 m2 c2, .int .i64 n2] w0.heap.size (m1 + m2) [] ad1 c1 (L1.drop 0)) := ⟨H0.next b1, O1, R1'.below b1, HLow.out, by rw [List.drop_zero, HN1.out]; exact k1, e1⟩
  clear x1 x2 hwm O1 G1 R1' b1 H0 hcapn hmax
  have x1 := cells_of M0.out.t3.one
  have x2 := cells_of M0.out.t3.two
  go_wp2_with fail
  generalize w0.heap.size = g0 at *
  go_loopw [6, 7, 26] (fun x6 x7 x26 wr => ∃ (i k g c : Nat) (Q : List Rw) (adr : Option Addr) (cr : Nat) (S : List Rw) (q s : Nat), x26 = .int .i64 (i : Int) ∧ i ≤ m2 ∧ k ≤ m1 ∧ x6 = .slice (some ⟨g, 0, none⟩) q c ∧ x7 = .slice adr s cr ∧ q ≤ k + i ∧ s + k = m1 ∧ Hid (Mo w wr #[.slice ad1 m1 c1, .int .i64 n1] #[.slice ad2 m2 c2, .int .i64 n2] g c Q adr cr S) ∧ Hid ((ovX n1 S (L2.drop i)).map (fun X => Q ++ X) = F) ∧ Hid (L1.drop k = S) ∧ Hid (Q.length = q) ∧ Hid (S.length = s)) (fun _ _ x26 _ => m2 - (intOf x26).toNat)
  case atStart => exact ⟨0, 0, g0, m1 + m2, [], ad1, c1, L1.drop 0, 0, m1, rfl, by omega, by omega, rfl, rfl, by omega, by omega, M0, HF, rfl, rfl, by show _ = _; rw [List.drop_zero, HN1.out]⟩
  case round =>
    obtain ⟨i, k, g, c, Q, adr, cr, S, q, s, rfl, hi, hk, rfl, rfl, hQ, hsk, HMo, HFi, HS, HQl, HSl⟩ := hrel
    clear x1 x2 M0 HF
    by_cases hlt : i < m2
    · obtain ⟨r, hr⟩ : ∃ r, L2[i]? = some r := ⟨_, List.getElem?_eq_getElem (by have := HN2.out; omega)⟩
      have hdr : L2.drop i = r :: L2.drop (i + 1) := by
        obtain ⟨q1, q2⟩ := List.getElem?_eq_some_iff.1 hr
        rw [List.drop_eq_getElem_cons q1, q2]
      have HF2 := HFi.out
      rw [hdr, ovX_cons] at HF2
      have HF3 := hid HF2
      have hrp := P2.out r (List.mem_of_getElem? hr)
      obtain ⟨b, o, rfl, hb1, hb2⟩ := (R2.out.below HMo.out.t3.bel).at hr
      have x0 : wr.cell? ⟨b, o + i * 13, none⟩ = some (.string (bs r.p)) := hb2 0 _ rfl
      have x1 : wr.cell? ⟨b, o + i * 13 + 1, none⟩ = some (.int .i64 r.id) := hb2 1 _ rfl
      have x2 : wr.cell? ⟨b, o + i * 13 + 2, none⟩ = some (.int .i64 r.kind) := hb2 2 _ rfl
      have x3 : wr.cell? ⟨b, o + i * 13 + 3, none⟩ = some (.int .i64 r.mode) := hb2 3 _ rfl
      have x4 : wr.cell? ⟨b, o + i * 13 + 4, none⟩ = some (.int .i64 0) := hb2 4 _ rfl
      have x5 : wr.cell? ⟨b, o + i * 13 + 5, none⟩ = some (.int .i64 0) := hb2 5 _ rfl
      have x6 : wr.cell? ⟨b, o + i * 13 + 6, none⟩ = some (.int .i64 0) := hb2 6 _ rfl
      have x7 : wr.cell? ⟨b, o + i * 13 + 7, none⟩ = some (.string ⟨#[]⟩) := hb2 7 _ rfl
      have x8 : wr.cell? ⟨b, o + i * 13 + 8, none⟩ = some (.string ⟨#[]⟩) := hb2 8 _ rfl
      have x9 : wr.cell? ⟨b, o + i * 13 + 9, none⟩ = some (.string ⟨#[]⟩) := hb2 9 _ rfl
      have x10 : wr.cell? ⟨b, o + i * 13 + 10, none⟩ = some (.slice none 0 0) := hb2 10 _ rfl
      have x11 : wr.cell? ⟨b, o + i * 13 + 11, none⟩ = some (.int .i64 r.size) := hb2 11 _ rfl
      have x12 : wr.cell? ⟨b, o + i * 13 + 12, none⟩ = some (.bool r.made) := hb2 12 _ rfl
      have i1 : (0 : Int) ≤ (i : Int) := by omega
      have i2 : (i : Int) < (m2 : Int) := by omega
      have hids : wrap64 (r.id + n1) = r.id + n1 := by unfold wrap64; omega
      have hQ3 : q ≤ 800000 := by omega
      have KQ1 : Hid (∀ W, Below w.heap.size w W → Rs W adr S → Calls Tryz.prog 28 #[.slice adr s cr, .string (bs r.p)] W fun e w' => e = .returned (.tuple #[.int .i64 (ix S r.p : Int), .bool (fd S r.p)]) ∧ Below W.heap.size W w') := fun W h1 h2 => by
        have := KQ.out W adr cr k r.p h1 (by rw [HS.out]; exact h2) hrp.1
        rw [HS.out, HSl.out] at this
        exact this
      have hix : ix S r.p ≤ s := by rw [← HSl.out]; exact ix_le S r.p
      have hget : Hid (fd S r.p = true → L1[k + ix S r.p]? = some (atR S r.p)) := fun hf => by
        obtain ⟨x, hx, _⟩ := fd_some hf
        unfold atR
        rw [if_pos hf, hx]
        rw [← HS.out, List.getElem?_drop] at hx
        rw [← HS.out]
        exact hx
      clear hb2 hdr HF2 HFi hr
      go_upto_region 6 with fail
      have bB := below_box wr (.cells #[.string (bs r.p), .int .i64 r.id, .int .i64 r.kind, .int .i64 r.mode, .int .i64 0, .int .i64 0, .int .i64 0, .string ⟨#[]⟩, .string ⟨#[]⟩, .string ⟨#[]⟩, .slice none 0 0, .int .i64 r.size, .bool r.made] 43)
      have qB := heap_alloc_new wr (.cells #[.string (bs r.p), .int .i64 r.id, .int .i64 r.kind, .int .i64 r.mode, .int .i64 0, .int .i64 0, .int .i64 0, .string ⟨#[]⟩, .string ⟨#[]⟩, .string ⟨#[]⟩, .slice none 0 0, .int .i64 r.size, .bool r.made] 43)
      have zB := size_box wr (.cells #[.string (bs r.p), .int .i64 r.id, .int .i64 r.kind, .int .i64 r.mode, .int .i64 0, .int .i64 0, .int .i64 0, .string ⟨#[]⟩, .string ⟨#[]⟩, .string ⟨#[]⟩, .slice none 0 0, .int .i64 r.size, .bool r.made] 43)
      have lB := HMo.out.t3.lt
      have gB := HMo.out.own.bk
      generalize hw1 : wr.alloc _ = w1 at *
      clear hw1
      have M1 : Hid (Mo w w1 _ _ g c Q adr cr S) := HMo.out.next bB
      generalize wr.heap.size = g9 at *
      have zB2 : g9 < w1.heap.size := by omega
      clear x0 x1 x2 x3 x4 x5 x6 x7 x8 x9 x10 x11 x12 bB HMo zB
      have y9 := cells_of qB
      go_upto_region 7 with (go_at_call 28; refine (KQ1.out _ M1.out.t3.bel M1.out.rst).mono ?_; rintro e w2 ⟨rfl, b2⟩)
      have M2 : Hid (Mo w w2 _ _ g c Q adr cr S) := M1.out.next b2
      have q2 := (b2.block _ (by omega)).trans qB
      have z2 := b2.size
      clear y9 qB M1 KQ1
      -- the rows ahead
      have hat : Hid ((S.take (ix S r.p)).length = ix S r.p) := (by show _ = _; rw [List.length_take, HSl.out]; omega)
      have M2o := M2.out.own
      have M2r := M2.out.rl
      rw [HQl.out] at M2o
      obtain ⟨g3, c3, w3, run3, O3, G3, L3⟩ := run_rows (w.heap.size + 3) g c Q M2.out.own M2.out.t3.lt adr cr (S.take (ix S r.p)) (M2.out.rst.take _) M2.out.rn (by rw [hat.out, HQl.out]; omega) 24
      rw [hat.out, HQl.out] at run3
      have RUN3 := hid run3
      have hQ4 : (Q ++ S.take (ix S r.p)).length = q + ix S r.p := by rw [List.length_append, hat.out, HQl.out]
      rw [hat.out, HQl.out, ← hQ4] at O3
      have M3 : Hid (Mo w w3 _ _ g3 c3 (Q ++ S.take (ix S r.p)) adr cr S) := M2.out.grown O3 G3
      have q3 := (G3.block g9 (by omega) (by simp; omega)).trans q2
      have z3 := G3.size
      have hsl := fun W => run_highAt W adr s cr (ix S r.p) (Nat.le_trans hix (by rw [← HSl.out]; exact M2r))
      have hlow := fun W => run_lowAt W adr s cr (ix S r.p) hix
      have M4 : Hid (Mo w w3 _ _ g3 c3 (Q ++ S.take (ix S r.p)) _ _ (S.drop (ix S r.p))) := M3.out.drop _ (by rw [HSl.out]; exact hix)
      have g3b := M3.out.own.bk
      have hg39 : g3 ≠ g9 := by omega
      have hQ5 := hid hQ4
      have HF4 : Hid _ := HF3
      clear hQ4 M2o run3 O3 G3 M3 q2 hat
      generalize S.take (ix S r.p) = AH at *
      have HSd : Hid (L1.drop (k + ix S r.p) = S.drop (ix S r.p)) := (by show _ = _; rw [← HS.out, List.drop_drop])
      have HSn : Hid ((S.drop (ix S r.p)).length = s - ix S r.p) := (by show _ = _; rw [List.length_drop, HSl.out])
      have x1 := cells_of M4.out.t3.one
      have y9 := cells_of q3
      have f9 := froz_of q3
      go_upto_region 8 with (at_builtin; refine Lib.wpList_append_run _ rfl _ _ 24 24 rfl _ _ rfl rfl _ _ RUN3.out ?_)
      have q4 : (w3.setCell ⟨g9, 1, none⟩ (.int .i64 (r.id + n1))).heap[g9]? = some (.cells #[.string (bs r.p), .int .i64 (r.id + n1), .int .i64 r.kind, .int .i64 r.mode, .int .i64 0, .int .i64 0, .int .i64 0, .string ⟨#[]⟩, .string ⟨#[]⟩, .string ⟨#[]⟩, .slice none 0 0, .int .i64 r.size, .bool r.made] 43 (0, 0)) := (by have := heap_setCell_same w3 g9 1 _ _ (.int .i64 (r.id + n1)) q3; rw [this]; rfl)
      have M5 : Hid (Mo w (w3.setCell ⟨g9, 1, none⟩ (.int .i64 (r.id + n1))) _ _ g3 c3 (Q ++ AH) _ _ (S.drop (ix S r.p))) := M4.out.set g9 (by omega) (by omega) (grown_setCell _ _ _ _)
      have z4 : w3.heap.size ≤ (w3.setCell ⟨g9, 1, none⟩ (.int .i64 (r.id + n1))).heap.size := by simp
      go_upto_region 10 with fail
      generalize hw4 : w3.setCell ⟨g9, 1, none⟩ _ = w4 at *
      clear hw4 x1 y9 f9 hsl hlow M4 q3 RUN3 hids M2
      have hM5l := M5.out.low
      have hM5r := M5.out.rl
      have hM5n := M5.out.rn
      generalize lowAt adr cr (ix S r.p) = adr4 at *
      generalize cr - ix S r.p = cr4 at *
      have hd0 : Hid (fd S r.p = true → (S.drop (ix S r.p))[0]? = some (atR S r.p)) := fun hf => by
        obtain ⟨x, hx, _⟩ := fd_some hf
        unfold atR
        rw [if_pos hf, hx, List.getElem?_drop]
        exact hx
      have hdd : Hid (S.drop (ix S r.p + 1) = (S.drop (ix S r.p)).drop 1) := (by show _ = _; rw [List.drop_drop])
      rw [hdd.out] at HF4
      generalize atR S r.p = was at *
      generalize S.drop (ix S r.p) = S4 at *
      generalize fd S r.p = fnd at *
      generalize ix S r.p = at0 at *
      cases fnd with
      | false =>
        have HF5 : Hid ((ovX n1 S4 (L2.drop (i + 1))).map (fun X => (Q ++ AH ++ [{ r with id := r.id + n1 }]) ++ X) = F) := (by
          show _ = _
          rw [← HF4.out]
          simp only [Bool.false_eq_true, if_false, Option.map_map]
          congr 1
          funext X
          simp [Function.comp])
        clear HF4 hget hd0
        obtain ⟨g6, c6, w6, run6, O6, G6, L6⟩ := run_rows (W := w4.alloc (.cells #[.string (bs r.p), .int .i64 (r.id + n1), .int .i64 r.kind, .int .i64 r.mode, .int .i64 0, .int .i64 0, .int .i64 0, .string ⟨#[]⟩, .string ⟨#[]⟩, .string ⟨#[]⟩, .slice none 0 0, .int .i64 r.size, .bool r.made] 43)) (w.heap.size + 3) g3 c3 (Q ++ AH) (M5.out.next (below_box _ _)).own (M5.out.next (below_box w4 (.cells #[.string (bs r.p), .int .i64 (r.id + n1), .int .i64 r.kind, .int .i64 r.mode, .int .i64 0, .int .i64 0, .int .i64 0, .string ⟨#[]⟩, .string ⟨#[]⟩, .string ⟨#[]⟩, .slice none 0 0, .int .i64 r.size, .bool r.made] 43))).t3.lt (some ⟨w4.heap.size, 0, none⟩) 1 [{ r with id := r.id + n1 }] (Or.inr ⟨w4.heap.size, 0, rfl, by rw [size_box]; omega, fun j u hu => by rw [Nat.zero_add, World.cell?_alloc_new]; simpa [flat, Rw.cs] using hu⟩) (fun e => by cases e) (by rw [hQ5.out]; show _ + 1 ≤ _; omega) 24
        rw [hQ5.out] at run6
        simp only [List.length_singleton] at run6
        have RUN6 := hid run6
        have hQ6 : Hid (((Q ++ AH) ++ [{ r with id := r.id + n1 }]).length = q + at0 + 1) := (by show _ = _; rw [List.length_append, hQ5.out]; rfl)
        have O6b : Ow w6 (w.heap.size + 3) (.slice (some ⟨g6, 0, none⟩) ((Q ++ AH) ++ [{ r with id := r.id + n1 }]).length c6) ((Q ++ AH) ++ [{ r with id := r.id + n1 }]) := (by rw [hQ6.out]; rw [hQ5.out] at O6; exact O6)
        have M6 : Hid (Mo w w6 _ _ g6 c6 ((Q ++ AH) ++ [{ r with id := r.id + n1 }]) _ _ _) := (M5.out.next (below_box w4 (.cells #[.string (bs r.p), .int .i64 (r.id + n1), .int .i64 r.kind, .int .i64 r.mode, .int .i64 0, .int .i64 0, .int .i64 0, .string ⟨#[]⟩, .string ⟨#[]⟩, .string ⟨#[]⟩, .slice none 0 0, .int .i64 r.size, .bool r.made] 43))).grown O6b G6
        have y9 := cells_of q4
        clear run6 O6 O6b G6
        go_upto_region 16 with fail
        go_upto_region 17 with (at_builtin; refine Lib.wpList_append_run _ rfl _ _ 24 24 rfl _ _ rfl rfl _ _ RUN6.out ?_)
        go_wp2_with fail
        go_roundw
        case rel => exact ⟨i + 1, k + at0, g6, c6, _, _, _, _, q + at0 + 1, s - at0, by simp, by omega, by omega, by simp, rfl, by omega, by omega, M6, HF5, HSd, hQ6, HSn⟩
        case measure => simp [intOf]; omega
      | true =>
        have hw0 := hd0.out rfl
        have hs1 : 1 ≤ s - at0 := by rw [← HSn.out]; exact (List.getElem?_eq_some_iff.1 hw0).1
        have hL1 := HSn.out
        generalize hs4 : s - at0 = s4 at *
        have HS4 : Hid (s - at0 = s4) := hs4
        clear hs4 hL1
        have hlow1 := fun W => run_low1 W adr4 s4 cr4 hs1
        obtain ⟨dw, hdw⟩ : ∃ dw, dw = decide (was.kind = 4) := ⟨_, rfl⟩
        obtain ⟨dr, hdr⟩ : ∃ dr, dr = decide (r.kind = 4) := ⟨_, rfl⟩
        have KDw : Hid (∀ W, Calls Tryz.prog 29 #[.agg #[.string (bs was.p), .int .i64 was.id, .int .i64 was.kind, .int .i64 was.mode, .int .i64 0, .int .i64 0, .int .i64 0, .string ⟨#[]⟩, .string ⟨#[]⟩, .string ⟨#[]⟩, .slice none 0 0, .int .i64 was.size, .bool was.made]] W fun e w' => e = .returned (.bool dw) ∧ Below W.heap.size W w') := fun W => by rw [hdw]; exact KD _ _ _ _ _ _ W
        have KDr : Hid (∀ W, Calls Tryz.prog 29 #[.agg #[.string (bs r.p), .int .i64 (r.id + n1), .int .i64 r.kind, .int .i64 r.mode, .int .i64 0, .int .i64 0, .int .i64 0, .string ⟨#[]⟩, .string ⟨#[]⟩, .string ⟨#[]⟩, .slice none 0 0, .int .i64 r.size, .bool r.made]] W fun e w' => e = .returned (.bool dr) ∧ Below W.heap.size W w') := fun W => by rw [hdr]; exact KD _ _ _ _ _ _ W
        have HDW := hid hdw
        have HDR := hid hdr
        clear hdw hdr
        have KI1 : Hid (∀ W, Calls Tryz.prog 31 #[.agg #[.string (bs was.p), .int .i64 was.id, .int .i64 was.kind, .int .i64 was.mode, .int .i64 0, .int .i64 0, .int .i64 0, .string ⟨#[]⟩, .string ⟨#[]⟩, .string ⟨#[]⟩, .slice none 0 0, .int .i64 was.size, .bool was.made], .agg #[.string (bs r.p), .int .i64 (r.id + n1), .int .i64 r.kind, .int .i64 r.mode, .int .i64 0, .int .i64 0, .int .i64 0, .string ⟨#[]⟩, .string ⟨#[]⟩, .string ⟨#[]⟩, .slice none 0 0, .int .i64 r.size, .bool r.made]] W fun e w' => e = .returned (.agg #[.string (bs (inPl was { r with id := r.id + n1 }).p), .int .i64 (inPl was { r with id := r.id + n1 }).id, .int .i64 (inPl was { r with id := r.id + n1 }).kind, .int .i64 (inPl was { r with id := r.id + n1 }).mode, .int .i64 0, .int .i64 0, .int .i64 0, .string ⟨#[]⟩, .string ⟨#[]⟩, .string ⟨#[]⟩, .slice none 0 0, .int .i64 (inPl was { r with id := r.id + n1 }).size, .bool (inPl was { r with id := r.id + n1 }).made]) ∧ Below W.heap.size W w') := fun W => KI.out was { r with id := r.id + n1 } W
        have M5d := hid (M5.out.drop 1 (by rw [HSn.out]; exact hs1))
        have hat4 := M5.out.rst.at hw0
        obtain ⟨b4, o4, had4, hb4, hc4⟩ := hat4
        subst had4
        rw [Nat.zero_mul, Nat.add_zero] at hc4
        have x0 : w4.cell? ⟨b4, o4, none⟩ = some (.string (bs was.p)) := hc4 0 _ rfl
        have x1 : w4.cell? ⟨b4, o4 + 1, none⟩ = some (.int .i64 was.id) := hc4 1 _ rfl
        have x2 : w4.cell? ⟨b4, o4 + 2, none⟩ = some (.int .i64 was.kind) := hc4 2 _ rfl
        have x3 : w4.cell? ⟨b4, o4 + 3, none⟩ = some (.int .i64 was.mode) := hc4 3 _ rfl
        have x4 : w4.cell? ⟨b4, o4 + 4, none⟩ = some (.int .i64 0) := hc4 4 _ rfl
        have x5 : w4.cell? ⟨b4, o4 + 5, none⟩ = some (.int .i64 0) := hc4 5 _ rfl
        have x6 : w4.cell? ⟨b4, o4 + 6, none⟩ = some (.int .i64 0) := hc4 6 _ rfl
        have x7 : w4.cell? ⟨b4, o4 + 7, none⟩ = some (.string ⟨#[]⟩) := hc4 7 _ rfl
        have x8 : w4.cell? ⟨b4, o4 + 8, none⟩ = some (.string ⟨#[]⟩) := hc4 8 _ rfl
        have x9 : w4.cell? ⟨b4, o4 + 9, none⟩ = some (.string ⟨#[]⟩) := hc4 9 _ rfl
        have x10 : w4.cell? ⟨b4, o4 + 10, none⟩ = some (.slice none 0 0) := hc4 10 _ rfl
        have x11 : w4.cell? ⟨b4, o4 + 11, none⟩ = some (.int .i64 was.size) := hc4 11 _ rfl
        have x12 : w4.cell? ⟨b4, o4 + 12, none⟩ = some (.bool was.made) := hc4 12 _ rfl
        have i3 : (0 : Int) < (s4 : Int) := by omega
        clear hc4
        go_upto_region 12 with fail
        have b5 := below_box w4 (.cells #[.string (bs was.p), .int .i64 was.id, .int .i64 was.kind, .int .i64 was.mode, .int .i64 0, .int .i64 0, .int .i64 0, .string ⟨#[]⟩, .string ⟨#[]⟩, .string ⟨#[]⟩, .slice none 0 0, .int .i64 was.size, .bool was.made] 43)
        have q12 := heap_alloc_new w4 (.cells #[.string (bs was.p), .int .i64 was.id, .int .i64 was.kind, .int .i64 was.mode, .int .i64 0, .int .i64 0, .int .i64 0, .string ⟨#[]⟩, .string ⟨#[]⟩, .string ⟨#[]⟩, .slice none 0 0, .int .i64 was.size, .bool was.made] 43)
        have l5 : w4.heap.size < (w4.alloc (.cells #[.string (bs was.p), .int .i64 was.id, .int .i64 was.kind, .int .i64 was.mode, .int .i64 0, .int .i64 0, .int .i64 0, .string ⟨#[]⟩, .string ⟨#[]⟩, .string ⟨#[]⟩, .slice none 0 0, .int .i64 was.size, .bool was.made] 43)).heap.size := by rw [size_box]; omega
        generalize hw5 : w4.alloc _ = w5 at *
        clear hw5 x0 x1 x2 x3 x4 x5 x6 x7 x8 x9 x10 x11 x12
        have M6 : Hid (Mo w w5 _ _ g3 c3 (Q ++ AH) _ _ _) := M5d.out.next b5
        have q9 := (b5.block _ (by omega)).trans q4
        have lg9 : g9 < w5.heap.size := by have := b5.size; omega
        have hg12 : w4.heap.size ≠ g3 := by have := M5.out.own.bk; omega
        have lg12 : w.heap.size + 3 ≤ w4.heap.size := M5.out.t3.lt
        generalize w4.heap.size = g12 at *
        clear M5 M5d q4 b5
        have SS : Hid (∀ W W', ((∀ i, W.cell? ⟨g12, i, none⟩ = (#[.string (bs was.p), .int .i64 was.id, .int .i64 was.kind, .int .i64 was.mode, .int .i64 0, .int .i64 0, .int .i64 0, .string ⟨#[]⟩, .string ⟨#[]⟩, .string ⟨#[]⟩, .slice none 0 0, .int .i64 was.size, .bool was.made] : Array Value)[i]?) ∧ (∀ i, W.cell? ⟨g9, i, none⟩ = (#[.string (bs r.p), .int .i64 (r.id + n1), .int .i64 r.kind, .int .i64 r.mode, .int .i64 0, .int .i64 0, .int .i64 0, .string ⟨#[]⟩, .string ⟨#[]⟩, .string ⟨#[]⟩, .slice none 0 0, .int .i64 r.size, .bool r.made] : Array Value)[i]?) ∧ g12 < W.heap.size ∧ g9 < W.heap.size) → Below W.heap.size W W' → ((∀ i, W'.cell? ⟨g12, i, none⟩ = (#[.string (bs was.p), .int .i64 was.id, .int .i64 was.kind, .int .i64 was.mode, .int .i64 0, .int .i64 0, .int .i64 0, .string ⟨#[]⟩, .string ⟨#[]⟩, .string ⟨#[]⟩, .slice none 0 0, .int .i64 was.size, .bool was.made] : Array Value)[i]?) ∧ (∀ i, W'.cell? ⟨g9, i, none⟩ = (#[.string (bs r.p), .int .i64 (r.id + n1), .int .i64 r.kind, .int .i64 r.mode, .int .i64 0, .int .i64 0, .int .i64 0, .string ⟨#[]⟩, .string ⟨#[]⟩, .string ⟨#[]⟩, .slice none 0 0, .int .i64 r.size, .bool r.made] : Array Value)[i]?) ∧ g12 < W'.heap.size ∧ g9 < W'.heap.size)) := fun W W' h hb => ⟨fun i => (hb.cell (p := ⟨g12, i, none⟩) h.2.2.1).trans (h.1 i), fun i => (hb.cell (p := ⟨g9, i, none⟩) h.2.2.2).trans (h.2.1 i), Nat.lt_of_lt_of_le h.2.2.1 hb.size, Nat.lt_of_lt_of_le h.2.2.2 hb.size⟩
        have s5 : (∀ i, w5.cell? ⟨g12, i, none⟩ = (#[.string (bs was.p), .int .i64 was.id, .int .i64 was.kind, .int .i64 was.mode, .int .i64 0, .int .i64 0, .int .i64 0, .string ⟨#[]⟩, .string ⟨#[]⟩, .string ⟨#[]⟩, .slice none 0 0, .int .i64 was.size, .bool was.made] : Array Value)[i]?) ∧ (∀ i, w5.cell? ⟨g9, i, none⟩ = (#[.string (bs r.p), .int .i64 (r.id + n1), .int .i64 r.kind, .int .i64 r.mode, .int .i64 0, .int .i64 0, .int .i64 0, .string ⟨#[]⟩, .string ⟨#[]⟩, .string ⟨#[]⟩, .slice none 0 0, .int .i64 r.size, .bool r.made] : Array Value)[i]?) ∧ g12 < w5.heap.size ∧ g9 < w5.heap.size := ⟨cells_of q12, cells_of q9, l5, lg9⟩
        have M6d := hid M6.out.drew
        have q12d : w5.drew.heap[g12]? = some (.cells #[.string (bs was.p), .int .i64 was.id, .int .i64 was.kind, .int .i64 was.mode, .int .i64 0, .int .i64 0, .int .i64 0, .string ⟨#[]⟩, .string ⟨#[]⟩, .string ⟨#[]⟩, .slice none 0 0, .int .i64 was.size, .bool was.made] 43 (0, 0)) := q12
        have q9d : w5.drew.heap[g9]? = some (.cells #[.string (bs r.p), .int .i64 (r.id + n1), .int .i64 r.kind, .int .i64 r.mode, .int .i64 0, .int .i64 0, .int .i64 0, .string ⟨#[]⟩, .string ⟨#[]⟩, .string ⟨#[]⟩, .slice none 0 0, .int .i64 r.size, .bool r.made] 43 (0, 0)) := q9
        have s5d := SS.out w5 w5.drew s5 ((Below.refl _ _).drew)
        go_region_held3 (fun W => (∀ i, W.cell? ⟨g12, i, none⟩ = (#[.string (bs was.p), .int .i64 was.id, .int .i64 was.kind, .int .i64 was.mode, .int .i64 0, .int .i64 0, .int .i64 0, .string ⟨#[]⟩, .string ⟨#[]⟩, .string ⟨#[]⟩, .slice none 0 0, .int .i64 was.size, .bool was.made] : Array Value)[i]?) ∧ (∀ i, W.cell? ⟨g9, i, none⟩ = (#[.string (bs r.p), .int .i64 (r.id + n1), .int .i64 r.kind, .int .i64 r.mode, .int .i64 0, .int .i64 0, .int .i64 0, .string ⟨#[]⟩, .string ⟨#[]⟩, .string ⟨#[]⟩, .slice none 0 0, .int .i64 r.size, .bool r.made] : Array Value)[i]?) ∧ g12 < W.heap.size ∧ g9 < W.heap.size) (first | assumption | exact s5 | exact s5d | exact sW | exact sR) (first
          | (go_at_call 29; have vd := bW; refine (KDr.out _).mono ?_; rintro e wR ⟨rfl, bR⟩; have sR := SS.out _ _ sW bR; have MR : Hid (Mo w wR _ _ g3 c3 (Q ++ AH) _ _ _) := MW.out.next bR; have q12R := (bR.block _ sW.2.2.1).trans q12W; have q9R := (bR.block _ sW.2.2.2).trans q9W)
          | (go_at_call 29; refine (KDw.out _).mono ?_; rintro e wW ⟨rfl, bW⟩; have sW := SS.out _ _ s5d bW; have MW : Hid (Mo w wW _ _ g3 c3 (Q ++ AH) _ _ _) := M6d.out.next bW; have q12W := (bW.block _ s5d.2.2.1).trans q12d; have q9W := (bW.block _ s5d.2.2.2).trans q9d))
        have HF6 := HF4.out
        rw [if_pos trivial, ← HDW.out, ← HDR.out] at HF6
        have m12 := cells_of q12R
        have m9 := cells_of q9R
        clear vd s5d sW sR q12d q9d M6d q12W q9W MW bR bW q12 q9 s5 M6 SS KDw KDr
        cases dw with
        | true =>
          cases dr with
          | true =>
            rw [if_neg (by simp)] at HF6
            generalize hx : inPl was { r with id := r.id + n1 } = x at *
            have HF7 : Hid ((ovX n1 (S4.drop 1) (L2.drop (i + 1))).map (fun X => (Q ++ AH ++ [x]) ++ X) = F) := (by
              show _ = _
              rw [← HF6]
              simp only [Option.map_map]
              congr 1
              funext X
              simp [Function.comp])
            have siX : Hid ((Tryz.prog.info? 43).map (·.size) = some (#[.string (bs x.p), .int .i64 x.id, .int .i64 x.kind, .int .i64 x.mode, .int .i64 0, .int .i64 0, .int .i64 0, .string ⟨#[]⟩, .string ⟨#[]⟩, .string ⟨#[]⟩, .slice none 0 0, .int .i64 x.size, .bool x.made] : Array Value).size) := (by show _ = _; kernel_rfl)
            have sjX : Hid ((#[.string (bs r.p), .int .i64 (r.id + n1), .int .i64 r.kind, .int .i64 r.mode, .int .i64 0, .int .i64 0, .int .i64 0, .string ⟨#[]⟩, .string ⟨#[]⟩, .string ⟨#[]⟩, .slice none 0 0, .int .i64 r.size, .bool r.made] : Array Value).size = (#[.string (bs x.p), .int .i64 x.id, .int .i64 x.kind, .int .i64 x.mode, .int .i64 0, .int .i64 0, .int .i64 0, .string ⟨#[]⟩, .string ⟨#[]⟩, .string ⟨#[]⟩, .slice none 0 0, .int .i64 x.size, .bool x.made] : Array Value).size) := (by show _ = _; rfl)
            have skX : Hid ((#[.string (bs x.p), .int .i64 x.id, .int .i64 x.kind, .int .i64 x.mode, .int .i64 0, .int .i64 0, .int .i64 0, .string ⟨#[]⟩, .string ⟨#[]⟩, .string ⟨#[]⟩, .slice none 0 0, .int .i64 x.size, .bool x.made] : Array Value).all (·.oneCell') = true) := all_one (cs_one x)
            clear HDW HDR HF6 HF4 hx hget hd0
            go_upto_region 15 with (first
              | (go_at_call 31; refine (KI1.out _).mono ?_; rintro e wI ⟨rfl, bI⟩; have MI : Hid (Mo w wI _ _ g3 c3 (Q ++ AH) _ _ _) := MR.out.next bI; have qI := (bI.block g9 (by have := (Array.getElem?_eq_some_iff.1 q9R).1; exact this)).trans q9R)
              | (refine wpList_store_row rfl 43 _ _ rfl g9 #[.string (bs x.p), .int .i64 x.id, .int .i64 x.kind, .int .i64 x.mode, .int .i64 0, .int .i64 0, .int .i64 0, .string ⟨#[]⟩, .string ⟨#[]⟩, .string ⟨#[]⟩, .slice none 0 0, .int .i64 x.size, .bool x.made] rfl rfl 43 _ qI siX.out sjX.out skX.out ?_))
            have M8 : Hid (Mo w (wI.setRow g9 #[.string (bs x.p), .int .i64 x.id, .int .i64 x.kind, .int .i64 x.mode, .int .i64 0, .int .i64 0, .int .i64 0, .string ⟨#[]⟩, .string ⟨#[]⟩, .string ⟨#[]⟩, .slice none 0 0, .int .i64 x.size, .bool x.made]) _ _ g3 c3 (Q ++ AH) _ _ _) := MI.out.set g9 (by omega) (by omega) (grown_setRow _ _ _)
            have q8 := setRow_heap _ _ _ #[.string (bs x.p), .int .i64 x.id, .int .i64 x.kind, .int .i64 x.mode, .int .i64 0, .int .i64 0, .int .i64 0, .string ⟨#[]⟩, .string ⟨#[]⟩, .string ⟨#[]⟩, .slice none 0 0, .int .i64 x.size, .bool x.made] _ _ qI
            generalize hw8 : wI.setRow g9 _ = w8 at *
            clear hw8 qI MI q9R q12R m9 m12 MR
            have HSd2 : Hid (L1.drop (k + at0 + 1) = S4.drop 1) := (by show _ = _; rw [← HSd.out, List.drop_drop])
            have HSn2 : Hid ((S4.drop 1).length = s4 - 1) := (by show _ = _; rw [List.length_drop, HSn.out])
            have hs41 : s4 + (k + at0) = m1 := by have := HS4.out; omega
            obtain ⟨g6, c6, w6, run6, O6, G6, L6⟩ := run_rows (W := w8.alloc (.cells #[.string (bs x.p), .int .i64 x.id, .int .i64 x.kind, .int .i64 x.mode, .int .i64 0, .int .i64 0, .int .i64 0, .string ⟨#[]⟩, .string ⟨#[]⟩, .string ⟨#[]⟩, .slice none 0 0, .int .i64 x.size, .bool x.made] 43)) (w.heap.size + 3) g3 c3 (Q ++ AH) (M8.out.next (below_box _ _)).own (M8.out.next (below_box w8 (.cells #[.string (bs x.p), .int .i64 x.id, .int .i64 x.kind, .int .i64 x.mode, .int .i64 0, .int .i64 0, .int .i64 0, .string ⟨#[]⟩, .string ⟨#[]⟩, .string ⟨#[]⟩, .slice none 0 0, .int .i64 x.size, .bool x.made] 43))).t3.lt (some ⟨w8.heap.size, 0, none⟩) 1 [x] (Or.inr ⟨w8.heap.size, 0, rfl, by rw [size_box]; omega, fun j u hu => by rw [Nat.zero_add, World.cell?_alloc_new]; simpa [flat, Rw.cs] using hu⟩) (fun e => by cases e) (by rw [hQ5.out]; show _ + 1 ≤ _; omega) 24
            rw [hQ5.out] at run6
            simp only [List.length_singleton] at run6
            have RUN6 := hid run6
            have hQ6 : Hid (((Q ++ AH) ++ [x]).length = q + at0 + 1) := (by show _ = _; rw [List.length_append, hQ5.out]; rfl)
            have O6b : Ow w6 (w.heap.size + 3) (.slice (some ⟨g6, 0, none⟩) ((Q ++ AH) ++ [x]).length c6) ((Q ++ AH) ++ [x]) := (by rw [hQ6.out]; rw [hQ5.out] at O6; exact O6)
            have M6 : Hid (Mo w w6 _ _ g6 c6 ((Q ++ AH) ++ [x]) _ _ _) := (M8.out.next (below_box w8 (.cells #[.string (bs x.p), .int .i64 x.id, .int .i64 x.kind, .int .i64 x.mode, .int .i64 0, .int .i64 0, .int .i64 0, .string ⟨#[]⟩, .string ⟨#[]⟩, .string ⟨#[]⟩, .slice none 0 0, .int .i64 x.size, .bool x.made] 43))).grown O6b G6
            have y9 := cells_of q8
            clear run6 O6 O6b G6
            go_upto_region 16 with fail
            go_upto_region 17 with (at_builtin; refine Lib.wpList_append_run _ rfl _ _ 24 24 rfl _ _ rfl rfl _ _ RUN6.out ?_)
            go_wp2_with fail
            go_roundw
            case rel => exact ⟨i + 1, k + at0 + 1, g6, c6, _, _, _, _, q + at0 + 1, s4 - 1, by simp, by omega, by omega, by simp, rfl, by omega, by omega, M6, HF7, HSd2, hQ6, HSn2⟩
            case measure => simp [intOf]; omega
          | false =>
            rw [if_pos (by simp)] at HF6
            have hRR := HO.out
            rw [← HF6] at hRR
            replace hRR : RR = (L1, n1, 130) := hRR
            subst hRR
            clear HDW HDR HF6 HF4 hget hd0 HO q9R q12R m9 m12
            have y1 := cells_of MR.out.t3.one
            go_upto_region 13 with fail
            have M9 : Hid (Mo w wR.drew _ _ g3 c3 (Q ++ AH) _ _ _) := MR.out.drew
            have y1d := cells_of M9.out.t3.one
            go_region_with (go_at_call 30; refine (KC.out _ M9.out.t3.bel).mono ?_; rintro e wC ⟨aC, cC, rfl, RsC, CC, NC, bC⟩; have MC : Hid (Mo w wC _ _ g3 c3 (Q ++ AH) _ _ _) := M9.out.next bC; have d1 := cells_of MC.out.t3.one; have d3 := cells_of MC.out.t3.thr; have f4 := froz_of MC.out.t3.thr)
            all_goals (
              have e2 := two_set MC.out.t3.thr (.slice aC m1 cC) (.int .i64 n1)
              have RsD := RsC.setTwo MC.out.t3.thr (.slice aC m1 cC) (.int .i64 n1)
              have bD : Below w.heap.size w ((wC.setCell ⟨w.heap.size + 1 + 1, 0, none⟩ (.slice aC m1 cC)).setCell ⟨w.heap.size + 1 + 1, 1, none⟩ (.int .i64 n1)) := (MC.out.t3.bel.setCell (by show _ ≤ w.heap.size + 1 + 1; omega) _).setCell (by show _ ≤ w.heap.size + 1 + 1; omega) _
              have HN1' := HN1.out
              clear d3 f4 d1
              generalize hwD : (wC.setCell _ _).setCell _ _ = wD at *
              clear hwD
              go_wp2_with fail
              have hld := run_loadVar_row (P := Tryz.prog) _ _ _ 26 _ _ _ e2 Tryz.underlying26 rfl (by kernel_rfl)
              exact bodyPost_ret (v := .tuple #[.agg #[.slice aC m1 cC, .int .i64 n1], .int .i64 130]) (by rw [results_cell_tmp rfl]; simp [asAddr, hld]) rfl ⟨_, rfl, ⟨aC, cC, by rw [HN1'], RsD, by rw [HN1']; exact CC, NC⟩, bD⟩)
        | false =>
          cases dr with
          | true =>
            rw [if_pos (by simp)] at HF6
            have hRR := HO.out
            rw [← HF6] at hRR
            replace hRR : RR = (L1, n1, 130) := hRR
            subst hRR
            clear HDW HDR HF6 HF4 hget hd0 HO q9R q12R m9 m12
            have y1 := cells_of MR.out.t3.one
            go_upto_region 13 with fail
            have M9 : Hid (Mo w wR.drew _ _ g3 c3 (Q ++ AH) _ _ _) := MR.out.drew
            have y1d := cells_of M9.out.t3.one
            go_region_with (go_at_call 30; refine (KC.out _ M9.out.t3.bel).mono ?_; rintro e wC ⟨aC, cC, rfl, RsC, CC, NC, bC⟩; have MC : Hid (Mo w wC _ _ g3 c3 (Q ++ AH) _ _ _) := M9.out.next bC; have d1 := cells_of MC.out.t3.one; have d3 := cells_of MC.out.t3.thr; have f4 := froz_of MC.out.t3.thr)
            all_goals (
              have e2 := two_set MC.out.t3.thr (.slice aC m1 cC) (.int .i64 n1)
              have RsD := RsC.setTwo MC.out.t3.thr (.slice aC m1 cC) (.int .i64 n1)
              have bD : Below w.heap.size w ((wC.setCell ⟨w.heap.size + 1 + 1, 0, none⟩ (.slice aC m1 cC)).setCell ⟨w.heap.size + 1 + 1, 1, none⟩ (.int .i64 n1)) := (MC.out.t3.bel.setCell (by show _ ≤ w.heap.size + 1 + 1; omega) _).setCell (by show _ ≤ w.heap.size + 1 + 1; omega) _
              have HN1' := HN1.out
              clear d3 f4 d1
              generalize hwD : (wC.setCell _ _).setCell _ _ = wD at *
              clear hwD
              go_wp2_with fail
              have hld := run_loadVar_row (P := Tryz.prog) _ _ _ 26 _ _ _ e2 Tryz.underlying26 rfl (by kernel_rfl)
              exact bodyPost_ret (v := .tuple #[.agg #[.slice aC m1 cC, .int .i64 n1], .int .i64 130]) (by rw [results_cell_tmp rfl]; simp [asAddr, hld]) rfl ⟨_, rfl, ⟨aC, cC, by rw [HN1'], RsD, by rw [HN1']; exact CC, NC⟩, bD⟩)
          | false =>
            rw [if_neg (by simp)] at HF6
            generalize hx : inPl was { r with id := r.id + n1 } = x at *
            have HF7 : Hid ((ovX n1 (S4.drop 1) (L2.drop (i + 1))).map (fun X => (Q ++ AH ++ [x]) ++ X) = F) := (by
              show _ = _
              rw [← HF6]
              simp only [Option.map_map]
              congr 1
              funext X
              simp [Function.comp])
            have siX : Hid ((Tryz.prog.info? 43).map (·.size) = some (#[.string (bs x.p), .int .i64 x.id, .int .i64 x.kind, .int .i64 x.mode, .int .i64 0, .int .i64 0, .int .i64 0, .string ⟨#[]⟩, .string ⟨#[]⟩, .string ⟨#[]⟩, .slice none 0 0, .int .i64 x.size, .bool x.made] : Array Value).size) := (by show _ = _; kernel_rfl)
            have sjX : Hid ((#[.string (bs r.p), .int .i64 (r.id + n1), .int .i64 r.kind, .int .i64 r.mode, .int .i64 0, .int .i64 0, .int .i64 0, .string ⟨#[]⟩, .string ⟨#[]⟩, .string ⟨#[]⟩, .slice none 0 0, .int .i64 r.size, .bool r.made] : Array Value).size = (#[.string (bs x.p), .int .i64 x.id, .int .i64 x.kind, .int .i64 x.mode, .int .i64 0, .int .i64 0, .int .i64 0, .string ⟨#[]⟩, .string ⟨#[]⟩, .string ⟨#[]⟩, .slice none 0 0, .int .i64 x.size, .bool x.made] : Array Value).size) := (by show _ = _; rfl)
            have skX : Hid ((#[.string (bs x.p), .int .i64 x.id, .int .i64 x.kind, .int .i64 x.mode, .int .i64 0, .int .i64 0, .int .i64 0, .string ⟨#[]⟩, .string ⟨#[]⟩, .string ⟨#[]⟩, .slice none 0 0, .int .i64 x.size, .bool x.made] : Array Value).all (·.oneCell') = true) := all_one (cs_one x)
            clear HDW HDR HF6 HF4 hx hget hd0
            go_upto_region 15 with (first
              | (go_at_call 31; refine (KI1.out _).mono ?_; rintro e wI ⟨rfl, bI⟩; have MI : Hid (Mo w wI _ _ g3 c3 (Q ++ AH) _ _ _) := MR.out.next bI; have qI := (bI.block g9 (by have := (Array.getElem?_eq_some_iff.1 q9R).1; exact this)).trans q9R)
              | (refine wpList_store_row rfl 43 _ _ rfl g9 #[.string (bs x.p), .int .i64 x.id, .int .i64 x.kind, .int .i64 x.mode, .int .i64 0, .int .i64 0, .int .i64 0, .string ⟨#[]⟩, .string ⟨#[]⟩, .string ⟨#[]⟩, .slice none 0 0, .int .i64 x.size, .bool x.made] rfl rfl 43 _ qI siX.out sjX.out skX.out ?_))
            have M8 : Hid (Mo w (wI.setRow g9 #[.string (bs x.p), .int .i64 x.id, .int .i64 x.kind, .int .i64 x.mode, .int .i64 0, .int .i64 0, .int .i64 0, .string ⟨#[]⟩, .string ⟨#[]⟩, .string ⟨#[]⟩, .slice none 0 0, .int .i64 x.size, .bool x.made]) _ _ g3 c3 (Q ++ AH) _ _ _) := MI.out.set g9 (by omega) (by omega) (grown_setRow _ _ _)
            have q8 := setRow_heap _ _ _ #[.string (bs x.p), .int .i64 x.id, .int .i64 x.kind, .int .i64 x.mode, .int .i64 0, .int .i64 0, .int .i64 0, .string ⟨#[]⟩, .string ⟨#[]⟩, .string ⟨#[]⟩, .slice none 0 0, .int .i64 x.size, .bool x.made] _ _ qI
            generalize hw8 : wI.setRow g9 _ = w8 at *
            clear hw8 qI MI q9R q12R m9 m12 MR
            have HSd2 : Hid (L1.drop (k + at0 + 1) = S4.drop 1) := (by show _ = _; rw [← HSd.out, List.drop_drop])
            have HSn2 : Hid ((S4.drop 1).length = s4 - 1) := (by show _ = _; rw [List.length_drop, HSn.out])
            have hs41 : s4 + (k + at0) = m1 := by have := HS4.out; omega
            obtain ⟨g6, c6, w6, run6, O6, G6, L6⟩ := run_rows (W := w8.alloc (.cells #[.string (bs x.p), .int .i64 x.id, .int .i64 x.kind, .int .i64 x.mode, .int .i64 0, .int .i64 0, .int .i64 0, .string ⟨#[]⟩, .string ⟨#[]⟩, .string ⟨#[]⟩, .slice none 0 0, .int .i64 x.size, .bool x.made] 43)) (w.heap.size + 3) g3 c3 (Q ++ AH) (M8.out.next (below_box _ _)).own (M8.out.next (below_box w8 (.cells #[.string (bs x.p), .int .i64 x.id, .int .i64 x.kind, .int .i64 x.mode, .int .i64 0, .int .i64 0, .int .i64 0, .string ⟨#[]⟩, .string ⟨#[]⟩, .string ⟨#[]⟩, .slice none 0 0, .int .i64 x.size, .bool x.made] 43))).t3.lt (some ⟨w8.heap.size, 0, none⟩) 1 [x] (Or.inr ⟨w8.heap.size, 0, rfl, by rw [size_box]; omega, fun j u hu => by rw [Nat.zero_add, World.cell?_alloc_new]; simpa [flat, Rw.cs] using hu⟩) (fun e => by cases e) (by rw [hQ5.out]; show _ + 1 ≤ _; omega) 24
            rw [hQ5.out] at run6
            simp only [List.length_singleton] at run6
            have RUN6 := hid run6
            have hQ6 : Hid (((Q ++ AH) ++ [x]).length = q + at0 + 1) := (by show _ = _; rw [List.length_append, hQ5.out]; rfl)
            have O6b : Ow w6 (w.heap.size + 3) (.slice (some ⟨g6, 0, none⟩) ((Q ++ AH) ++ [x]).length c6) ((Q ++ AH) ++ [x]) := (by rw [hQ6.out]; rw [hQ5.out] at O6; exact O6)
            have M6 : Hid (Mo w w6 _ _ g6 c6 ((Q ++ AH) ++ [x]) _ _ _) := (M8.out.next (below_box w8 (.cells #[.string (bs x.p), .int .i64 x.id, .int .i64 x.kind, .int .i64 x.mode, .int .i64 0, .int .i64 0, .int .i64 0, .string ⟨#[]⟩, .string ⟨#[]⟩, .string ⟨#[]⟩, .slice none 0 0, .int .i64 x.size, .bool x.made] 43))).grown O6b G6
            have y9 := cells_of q8
            clear run6 O6 O6b G6
            go_upto_region 16 with fail
            go_upto_region 17 with (at_builtin; refine Lib.wpList_append_run _ rfl _ _ 24 24 rfl _ _ rfl rfl _ _ RUN6.out ?_)
            go_wp2_with fail
            go_roundw
            case rel => exact ⟨i + 1, k + at0 + 1, g6, c6, _, _, _, _, q + at0 + 1, s4 - 1, by simp, by omega, by omega, by simp, rfl, by omega, by omega, M6, HF7, HSd2, hQ6, HSn2⟩
            case measure => simp [intOf]; omega
    · obtain rfl : i = m2 := by omega
      have hRR := HO.out
      have hF9 := HFi.out
      rw [List.drop_of_length_le (by rw [HN2.out]; omega), ovX_nil] at hF9
      rw [← hF9] at hRR
      replace hRR : RR = (Q ++ S, n1 + n2, 0) := hRR
      subst hRR
      go_upto_region 18 with fail
      have M2 : Hid (Mo w wr.drew _ _ g c Q adr cr S) := HMo.out.drew
      have HSs := HSl.out
      obtain ⟨g3, c3, w3, run3, O3, G3, L3⟩ := run_rows (w.heap.size + 3) g c Q M2.out.own M2.out.t3.lt adr cr S M2.out.rst M2.out.rn (by rw [HQl.out, HSs]; omega) 24
      rw [HQl.out, HSs] at run3
      have RUN3 := hid run3
      have hQ4 : (Q ++ S).length = q + s := by rw [List.length_append, HSs, HQl.out]
      rw [HQl.out, HSs, ← hQ4] at O3
      have M3 : Hid (Mo w w3 _ _ g3 c3 (Q ++ S) adr cr S) := M2.out.grown O3 G3
      have R3 := (Ow.rs M3.out.own).2
      have hc3 : q + s ≤ c3 := by have := M3.out.own.bk.2.2; omega
      have s0 : (fun W : World => W.cell? ⟨w.heap.size, 1, none⟩ = some (.int .i64 n1) ∧ W.cell? ⟨w.heap.size + 1, 1, none⟩ = some (.int .i64 n2)) wr.drew := ⟨cells_of M2.out.t3.one 1, cells_of M2.out.t3.two 1⟩
      have s3 : (fun W : World => W.cell? ⟨w.heap.size, 1, none⟩ = some (.int .i64 n1) ∧ W.cell? ⟨w.heap.size + 1, 1, none⟩ = some (.int .i64 n2)) w3 := ⟨cells_of M3.out.t3.one 1, cells_of M3.out.t3.two 1⟩
      have s4 : (fun W : World => W.cell? ⟨w.heap.size, 1, none⟩ = some (.int .i64 n1) ∧ W.cell? ⟨w.heap.size + 1, 1, none⟩ = some (.int .i64 n2)) ((w3.setCell ⟨w.heap.size + 1 + 1, 0, none⟩ (.slice (some ⟨g3, 0, none⟩) (q + s) c3)).setCell ⟨w.heap.size + 1 + 1, 1, none⟩ (.int .i64 (n1 + n2))) := (by
        refine ⟨?_, ?_⟩
        · rw [World.cell?_setCell_far _ _ _ _ (by show w.heap.size + 1 + 1 ≠ w.heap.size; omega), World.cell?_setCell_far _ _ _ _ (by show w.heap.size + 1 + 1 ≠ w.heap.size; omega)]; exact s3.1
        · rw [World.cell?_setCell_far _ _ _ _ (by show w.heap.size + 1 + 1 ≠ w.heap.size + 1; omega), World.cell?_setCell_far _ _ _ _ (by show w.heap.size + 1 + 1 ≠ w.heap.size + 1; omega)]; exact s3.2)
      have e9 := two_set M3.out.t3.thr (.slice (some ⟨g3, 0, none⟩) (q + s) c3) (.int .i64 (n1 + n2))
      have R9 := R3.setTwo M3.out.t3.thr (.slice (some ⟨g3, 0, none⟩) (q + s) c3) (.int .i64 (n1 + n2))
      have b9 : Below w.heap.size w ((w3.setCell ⟨w.heap.size + 1 + 1, 0, none⟩ (.slice (some ⟨g3, 0, none⟩) (q + s) c3)).setCell ⟨w.heap.size + 1 + 1, 1, none⟩ (.int .i64 (n1 + n2))) := (M3.out.t3.bel.setCell (by show _ ≤ w.heap.size + 1 + 1; omega) _).setCell (by show _ ≤ w.heap.size + 1 + 1; omega) _
      have d3 := cells_of M3.out.t3.thr
      have f3 := froz_of M3.out.t3.thr
      have hwk : IntKind.i64.wrap (n1 + n2) = n1 + n2 := by rw [IntKind.wrap_i64]; omega
      clear HO hF9 HFi O3 G3 run3 L3 hQ4 KQ KI KC R1 R2 P2 HLow HMo HSs
      refine wp_region_held_drew (S := (fun W : World => W.cell? ⟨w.heap.size, 1, none⟩ = some (.int .i64 n1) ∧ W.cell? ⟨w.heap.size + 1, 1, none⟩ = some (.int .i64 n2))) (by kernel_rfl) s0 (fun hHeld => ?_)
      refine wpAnyH_take (i := 0) (oi := { dst := some 76, op := Op.move (Operand.tmp 6), type := 24, pos := "merge.go:32", after := #[], guard := none }) (v := ?_) rfl (by kernel_rfl) (by kernel_rfl) (by kernel_rfl) (fun _ _ _ h => h) (Or.inl ⟨by rfl, ?_⟩) (by assumption) ?_
      rotate_left 1
      · (intro W hSw; have hSw1 := hSw.1; have hSw2 := hSw.2; go_simp; try with_reducible rfl)
      (try simp only [Act.put, List.setIfInBounds_toArray, List.set_cons_zero, List.set_cons_succ])
      refine wpAnyH_take (i := 1) (oi := { dst := some 77, op := Op.move (Operand.tmp 7), type := 24, pos := "merge.go:32", after := #[], guard := none }) (v := ?_) rfl (by kernel_rfl) (by kernel_rfl) (by kernel_rfl) (fun _ _ _ h => h) (Or.inl ⟨by rfl, ?_⟩) (by assumption) ?_
      rotate_left 1
      · (intro W hSw; have hSw1 := hSw.1; have hSw2 := hSw.2; go_simp; try with_reducible rfl)
      (try simp only [Act.put, List.setIfInBounds_toArray, List.set_cons_zero, List.set_cons_succ])
      refine wpAnyH_take (i := 3) (oi := { dst := some 79, op := Op.fieldAddr 26 (Operand.tmp 2) 1, type := 0, pos := "merge.go:32", after := #[], guard := none }) (v := ?_) rfl (by kernel_rfl) (by kernel_rfl) (by kernel_rfl) (fun _ _ _ h => h) (Or.inl ⟨by rfl, ?_⟩) (by assumption) ?_
      rotate_left 1
      · (intro W hSw; have hSw1 := hSw.1; have hSw2 := hSw.2; go_simp; try with_reducible rfl)
      (try simp only [Act.put, List.setIfInBounds_toArray, List.set_cons_zero, List.set_cons_succ])
      refine wpAnyH_take (i := 4) (oi := { dst := some 80, op := Op.load 3 (Operand.tmp 79), type := 3, pos := "merge.go:32", after := #[{ on := 3, ground := Ground.data }], guard := none }) (v := ?_) rfl (by kernel_rfl) (by kernel_rfl) (by kernel_rfl) (fun _ _ _ h => h) (Or.inl ⟨by rfl, ?_⟩) (by assumption) ?_
      rotate_left 1
      · (intro W hSw; have hSw1 := hSw.1; have hSw2 := hSw.2; go_simp; try with_reducible rfl)
      (try simp only [Act.put, List.setIfInBounds_toArray, List.set_cons_zero, List.set_cons_succ])
      refine wpAnyH_take (i := 5) (oi := { dst := some 81, op := Op.fieldAddr 26 (Operand.tmp 3) 1, type := 0, pos := "merge.go:32", after := #[], guard := none }) (v := ?_) rfl (by kernel_rfl) (by kernel_rfl) (by kernel_rfl) (fun _ _ _ h => h) (Or.inl ⟨by rfl, ?_⟩) (by assumption) ?_
      rotate_left 1
      · (intro W hSw; have hSw1 := hSw.1; have hSw2 := hSw.2; go_simp; try with_reducible rfl)
      (try simp only [Act.put, List.setIfInBounds_toArray, List.set_cons_zero, List.set_cons_succ])
      refine wpAnyH_take (i := 6) (oi := { dst := some 82, op := Op.load 3 (Operand.tmp 81), type := 3, pos := "merge.go:32", after := #[{ on := 5, ground := Ground.data }], guard := none }) (v := ?_) rfl (by kernel_rfl) (by kernel_rfl) (by kernel_rfl) (fun _ _ _ h => h) (Or.inl ⟨by rfl, ?_⟩) (by assumption) ?_
      rotate_left 1
      · (intro W hSw; have hSw1 := hSw.1; have hSw2 := hSw.2; go_simp; try with_reducible rfl)
      (try simp only [Act.put, List.setIfInBounds_toArray, List.set_cons_zero, List.set_cons_succ])
      refine wpAnyH_take (i := 7) (oi := { dst := some 83, op := Op.binOp BinOp.add 3 (Operand.tmp 80) (Operand.tmp 82) 3, type := 3, pos := "merge.go:32", after := #[{ on := 4, ground := Ground.data }, { on := 6, ground := Ground.data }], guard := none }) (v := ?_) rfl (by kernel_rfl) (by kernel_rfl) (by kernel_rfl) (fun _ _ _ h => h) (Or.inl ⟨by rfl, ?_⟩) (by assumption) ?_
      rotate_left 1
      · (intro W hSw; have hSw1 := hSw.1; have hSw2 := hSw.2; go_simp; try with_reducible rfl)
      (try simp only [Act.put, List.setIfInBounds_toArray, List.set_cons_zero, List.set_cons_succ])
      refine wpAnyH_ready (rs := [2]) (by kernel_rfl) (by simp) ?_
      refine AllReadyH.cons (o := { dst := some 78, op := Op.call { callee := Callee.builtin Builtin.append, args := #[Operand.tmp 76, Operand.tmp 77], argTypes := #[24, 24] }, type := 24, pos := "merge.go:32", after := #[{ on := 0, ground := Ground.data }, { on := 1, ground := Ground.data }], guard := none }) rfl (fun K hK => ?_) AllReadyH.nil
      · refine Lib.wp_append_run _ _ _ _ _ rfl _ _ rfl rfl _ _ RUN3.out ?_
        refine hK.out _ _ s3 (fun hHeld => ?_)
        clear hK K
        (try simp only [Act.put, List.setIfInBounds_toArray, List.set_cons_zero, List.set_cons_succ])
        refine wpAnyH_take (i := 8) (oi := { dst := some 84, op := Op.build 26 #[(0, Operand.tmp 78), (1, Operand.tmp 83)], type := 26, pos := "merge.go:32", after := #[{ on := 2, ground := Ground.data }, { on := 7, ground := Ground.data }], guard := none }) (v := ?_) rfl (by kernel_rfl) (by kernel_rfl) (by kernel_rfl) (fun _ _ _ h => h) (Or.inl ⟨by rfl, ?_⟩) (by assumption) ?_
        rotate_left 1
        · (intro W hSw; have hSw1 := hSw.1; have hSw2 := hSw.2; go_simp; try with_reducible rfl)
        (try simp only [Act.put, List.setIfInBounds_toArray, List.set_cons_zero, List.set_cons_succ])
        refine wpAnyH_ready (rs := [9]) (by kernel_rfl) (by simp) ?_
        refine AllReadyH.cons (o := { dst := none, op := Op.store 26 (Operand.tmp 4) (Operand.tmp 84), type := 0, pos := "merge.go:32", after := #[{ on := 8, ground := Ground.data }, { on := 2, ground := Ground.chain }, { on := 0, ground := Ground.phase }, { on := 1, ground := Ground.phase }, { on := 2, ground := Ground.phase }, { on := 3, ground := Ground.phase }, { on := 4, ground := Ground.phase }, { on := 5, ground := Ground.phase }, { on := 6, ground := Ground.phase }, { on := 7, ground := Ground.phase }, { on := 8, ground := Ground.phase }], guard := none }) rfl (fun K hK => ?_) AllReadyH.nil
        · go_simp
          refine hK.out _ _ s4 (fun hHeld => ?_)
          clear hK K
          (try simp only [Act.put, List.setIfInBounds_toArray, List.set_cons_zero, List.set_cons_succ])
          refine wpAnyH_take (i := 10) (oi := { dst := some 5, op := Op.assign (Operand.const (Value.int IntKind.i64 0)), type := 32, pos := "merge.go:32", after := #[{ on := 9, ground := Ground.chain }, { on := 0, ground := Ground.phase }, { on := 1, ground := Ground.phase }, { on := 2, ground := Ground.phase }, { on := 3, ground := Ground.phase }, { on := 4, ground := Ground.phase }, { on := 5, ground := Ground.phase }, { on := 6, ground := Ground.phase }, { on := 7, ground := Ground.phase }, { on := 8, ground := Ground.phase }, { on := 9, ground := Ground.phase }], guard := none }) (v := ?_) rfl (by kernel_rfl) (by kernel_rfl) (by kernel_rfl) (fun _ _ _ h => h) (Or.inl ⟨by rfl, ?_⟩) (by assumption) ?_
          rotate_left 1
          · (intro W hSw; have hSw1 := hSw.1; have hSw2 := hSw.2; go_simp; try with_reducible rfl)
          (try simp only [Act.put, List.setIfInBounds_toArray, List.set_cons_zero, List.set_cons_succ])
          refine wpAnyH_done (by kernel_rfl) ?_ _
          generalize hw9 : (w3.setCell _ _).setCell _ _ = w9 at *
          clear hw9
          go_wp2_with fail
          have hld := run_loadVar_row (P := Tryz.prog) w9 _ _ 26 _ _ _ e9 Tryz.underlying26 rfl (by kernel_rfl)
          exact bodyPost_ret (v := .tuple #[.agg #[.slice (some ⟨g3, 0, none⟩) (q + s) c3, .int .i64 (n1 + n2)], .int .i64 0]) (by rw [results_cell_tmp rfl]; simp [asAddr, hld]) rfl ⟨_, rfl, ⟨some ⟨g3, 0, none⟩, c3, by rw [List.length_append, HQl.out, HSl.out], R9, by rw [List.length_append, HQl.out, HSl.out]; exact hc3, fun e => by cases e⟩, b9⟩

end Go.Proofs.YtpgiibpalmhhlaaGreatDoor
