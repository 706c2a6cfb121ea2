/-
  Contract: ask.Encode.
-/
import Derived.Test.YtojbfdlgjjghjaaGreatDoorKKg
import Derived.Lib.ItoaNum
namespace Go.Proofs.YtojbfdlgjjghjaaGreatDoor.K
open Go.RowKit
open Go.Lib hiding intOf
set_option linter.unusedVariables false
set_option linter.unusedSimpArgs false

def sps : ByteArray := ⟨#[32]⟩
/-- the numbers of a line -/
def encN : List Nat → Ak → ByteArray → ByteArray
  | [], _, l => l
  | f :: fs, a, l => encN fs a (l ++ (sps ++ num (a.get f)))
/-- what stands behind the numbers -/
def restP (k : Nat) (p : ByteArray) (bs : List UInt8) : ByteArray :=
  if k = 5 ∨ k = 6 ∨ k = 7 ∨ k = 8 then p else if k = 2 then ⟨(sp bs).toArray⟩ else ⟨#[]⟩
/-- the line that asks something -/
def encP (k : Nat) (a : Ak) (bs : List UInt8) : ByteArray :=
  if restP k a.p bs = ⟨#[]⟩ then encN (flds k) a (wd k) else encN (flds k) a (wd k) ++ sps ++ restP k a.p bs

theorem itoa_len (n : Nat) : (Lib.itoa (n : Int)).length = Lib.nDigits n := by
  have h : ¬ ((n : Int) < 0) := by omega
  simp [Lib.itoa, h, Lib.decDigits_length]
theorem nDigits_mono (a : Nat) : ∀ b, a ≤ b → nDigits a ≤ nDigits b := by
  induction a using Nat.strongRecOn with
  | _ a ih =>
    intro b hab
    by_cases h : a < 10
    · rw [nDigits_small h]; exact nDigits_pos b
    · rw [nDigits_big h, nDigits_big (u := b) (by omega)]
      have := ih (a / 10) (by omega) (b / 10) (by omega)
      omega
theorem num_len (e : Int) (h0 : 0 ≤ e) (h1 : e ≤ 9223372036854775807) : (num e).size ≤ 30 := by
  obtain ⟨n, rfl⟩ : ∃ n : Nat, e = n := ⟨e.toNat, by omega⟩
  have : (num (n : Int)).size = Lib.nDigits n := by rw [← itoa_len]; simp [num, ByteArray.size]
  rw [this]
  have h2 : Lib.nDigits 9223372036854775807 = 19 := Lib.nDigits_unique 18 _ (by decide) (by decide)
  have := nDigits_mono n 9223372036854775807 (by omega)
  omega

/-- where Encode stands behind i numbers -/
structure Sto (fs : List Nat) (a : Ak) (l0 : ByteArray) (i : Nat) (l : ByteArray) : Prop where
  eq : encN fs a l0 = encN (fs.drop i) a l
  size : l.size ≤ 100 + 100 * i
theorem Sto.start {fs : List Nat} {a : Ak} {l0 : ByteArray} (h : l0.size ≤ 100) : Sto fs a l0 0 l0 := ⟨rfl, by omega⟩
theorem Sto.next {fs : List Nat} {a : Ak} {l0 l : ByteArray} {i : Nat} (h : Sto fs a l0 i l) (hi : i < fs.length) (hn : (num (a.get fs[i])).size ≤ 30) : Sto fs a l0 (i + 1) (l ++ (sps ++ num (a.get fs[i]))) := by
  refine ⟨?_, ?_⟩
  · rw [h.eq, List.drop_eq_getElem_cons hi, encN]
  · have := h.size
    have e : sps.size = 1 := rfl
    rw [ByteArray.size_append, ByteArray.size_append, e]; omega
theorem Sto.done {fs : List Nat} {a : Ak} {l0 l : ByteArray} {i : Nat} (h : Sto fs a l0 i l) (hi : fs.length ≤ i) : encN fs a l0 = l := by
  rw [h.eq, List.drop_eq_nil_of_le hi, encN]

theorem wd_size (k : Nat) (h : k ≤ 11) : (wd k).size ≤ 100 := by
  match k, h with
  | 0, _ | 1, _ | 2, _ | 3, _ | 4, _ | 5, _ | 6, _ | 7, _ | 8, _ | 9, _ | 10, _ | 11, _ => decide
  | n + 12, h => exact absurd h (by omega)
theorem flds_len (k : Int) : (flds k).length ≤ 3 := by
  unfold flds
  (repeat' split) <;> simp

theorem encode_no (a : Ak) (d : Value) (h : a.k < 1 ∨ 11 < a.k) (w : World) (ad : Option Addr) (n c : Nat) (hd : d = .slice ad n c) :
    Calls Tryz.prog 7 #[.agg (a.cells d)] w fun e w' => e = .returned (.string ⟨#[]⟩) ∧ Below w.heap.size w w' := by
  subst hd
  have b0 : Below w.heap.size w (w.alloc (.cells (a.cells (.slice ad n c)) 24)) := (Below.refl _ w).alloc (Nat.le_refl _) _
  have hx : Box (w.alloc (.cells (a.cells (.slice ad n c)) 24)) w.heap.size (a.cells (.slice ad n c)) := heap_alloc_new w _
  have c0 := hx.cell 0
  clear hx
  obtain ⟨k, t, n, cc, p⟩ := a
  simp only [Ak.cells] at *
  by_cases h1 : k < 1
  · go_enter Tryz.func7, Tryz.ntmps7
    go_wp2
    go_ret
    exact ⟨rfl, b0⟩
  · have h2 : 11 < k := by omega
    go_enter Tryz.func7, Tryz.ntmps7
    go_wp2
    go_ret
    exact ⟨rfl, b0⟩

set_option maxRecDepth 20000 in
set_option maxHeartbeats 4000000 in
theorem encode_w (a : Ak) (d : Value) (bs : List UInt8) (k : Nat) (h1 : 1 ≤ k) (h2 : k ≤ 11) (hk : a.k = (k : Int)) (hf : ∀ f, f = 1 ∨ f = 2 ∨ f = 3 → 0 ≤ a.get f ∧ a.get f ≤ 9223372036854775807) (hp : a.p.size ≤ 140737488355328) (hb : bs.length ≤ 70368744177664) (w : World) (hd : BytesIn w d bs) (ht : Vs w) :
    Calls Tryz.prog 7 #[.agg (a.cells d)] w fun e w' => e = .returned (.string (encP k a bs)) ∧ Below w.heap.size w w' := by
  obtain ⟨ad, c, hdd⟩ := hd.shape
  have b0 : Below w.heap.size w (w.alloc (.cells (a.cells d) 24)) := (Below.refl _ w).alloc (Nat.le_refl _) _
  have hx : Box (w.alloc (.cells (a.cells d) 24)) w.heap.size (a.cells d) := heap_alloc_new w _
  have HX : Hid (∀ W, Below (w.heap.size + 1) (w.alloc (.cells (a.cells d) 24)) W → Box W w.heap.size (a.cells d) ∧ Below w.heap.size w W) := fun W b => ⟨hx.below b (by omega), b0.trans (b.mono (by omega))⟩
  have HV : Hid (∀ W, Below w.heap.size w W → Vs W ∧ W.cell? ⟨0, k, none⟩ = some (.string (wd k))) := fun W b => ⟨ht.below b, (ht.below b).wds k (by omega)⟩
  have HD : Hid (∀ W, Below w.heap.size w W → BytesIn W d bs) := fun W b => hd.below b
  have HF : Hid (∀ f, f = 1 ∨ f = 2 ∨ f = 3 → 0 ≤ a.get f ∧ a.get f ≤ 9223372036854775807) := hf
  have HM : Hid (∀ f ∈ flds (k : Int), f = 1 ∨ f = 2 ∨ f = 3) := flds_mem k
  have hz0 : (w.alloc (.cells (a.cells d) 24)).heap.size = w.heap.size + 1 := by simp
  have c0 := hx.cell 0
  have l0 := (HV.out _ b0).2
  have HN : Hid (∀ W, W.cell? ⟨w.heap.size, 0, none⟩ = some (.int .i64 (k : Int)) → Calls Tryz.prog 15 #[.pointer (some ⟨w.heap.size, 0, none⟩)] W fun e w' => ∃ v, e = .returned v ∧ Ptrs w' v w.heap.size (flds k) ∧ Below W.heap.size W w') := fun W hc => numbers_w k ⟨h1, h2⟩ w.heap.size W hc
  have c00 : (w.alloc (.cells (a.cells d) 24)).cell? ⟨w.heap.size, 0, none⟩ = some (.int .i64 (k : Int)) := by rw [hx.cell, ← hk]; rfl
  have qn := HN.out _ c00
  have S0 : Hid (Sto (flds k) a (wd k) 0 (wd k)) := Sto.start (wd_size k h2)
  suffices HH : ∀ (PP : Ending → World → Prop), (∀ W, Below w.heap.size w W → PP (.returned (.string (encP k a bs))) W) → Calls Tryz.prog 7 #[.agg (a.cells d)] w PP from HH _ fun W b => ⟨rfl, b⟩
  intro PP HPP
  have HP : Hid _ := HPP
  clear HPP hx hd ht hf HN c0
  have hlen : Hid ((flds (k : Int)).length ≤ 3) := flds_len k
  subst hdd
  simp only [Ak.cells, hk] at HX b0 l0 c00 qn hz0 ⊢
  generalize hfs : flds (k : Int) = fs at *
  have HFS : Hid _ := hfs
  generalize hw0 : wd k = l00 at *
  have HW0 : Hid _ := hw0
  clear hfs hw0
  go_enter Tryz.func7, Tryz.ntmps7
  go_upto_region 4 with fail
  generalize hW0 : World.alloc _ _ = W0 at *
  have hRl : w.heap.size < W0.heap.size := by omega
  clear hW0
  go_upto_region 5 with (go_at_call 15; refine qn.mono ?_; rintro e w3 ⟨v, rfl, ⟨B, c2, rfl, hc1, hc2, hc3⟩, b3⟩)
  have P3 : Hid (Ptrs w3 (.slice (some ⟨B, 0, none⟩) fs.length c2) w.heap.size fs) := ⟨B, c2, rfl, hc1, hc2, hc3⟩
  have X3 : Hid (Below (w.heap.size + 1) W0 w3) := b3.mono (by omega)
  clear qn hc3 b3 l0 c00 b0
  have hfl : fs.length ≤ 3 := hlen.out
  generalize hN : fs.length = N at *
  have HNN : Hid (fs.length = N) := hN
  clear hN hlen
  go_loopg [3, 21] N (fun g u3 u21 wr => ∃ (i : Nat) (l : ByteArray), i + g = N ∧ u3 = .string l ∧ u21 = .int .i64 i ∧ Hid (Sto fs a l00 i l) ∧ Hid (Below (w.heap.size + 1) W0 wr) ∧ Hid (Ptrs wr (.slice (some ⟨B, 0, none⟩) N c2) w.heap.size fs))
  case atStart => exact ⟨0, l00, by omega, rfl, rfl, S0, X3, P3⟩
  case round =>
    obtain ⟨i, l, hig, rfl, rfl, hst, hbe, hpt⟩ := hrel
    clear S0 X3 P3
    obtain ⟨hbx, hbw⟩ := HX.out _ hbe.out
    have hls := hst.out.size
    by_cases hlt : i < N
    · have hif : i < fs.length := by rw [HNN.out]; exact hlt
      obtain ⟨f, hf⟩ : ∃ f, fs[i] = f := ⟨_, rfl⟩
      have hm : f = 1 ∨ f = 2 ∨ f = 3 := HM.out f (hf ▸ List.getElem_mem hif)
      have hcell : wr.cell? ⟨B, i, none⟩ = some (.pointer (some ⟨w.heap.size, f, none⟩)) := by
        obtain ⟨B', c', e, _, _, h4⟩ := hpt.out
        cases e
        exact h4 i f (by rw [List.getElem?_eq_getElem hif, hf])
      have hcf : wr.cell? ⟨w.heap.size, f, none⟩ = some (.int .i64 (a.get f)) := by
        rw [hbx.cell]
        rcases hm with rfl | rfl | rfl <;> rfl
      have hr := HF.out f hm
      have qi := itoa_w (a.get f) (by omega) hr.2 wr (HV.out _ hbw).1
      have hnl := num_len (a.get f) hr.1 hr.2
      have hn : Hid _ := hst.out.next hif (by rw [hf]; exact hnl)
      rw [hf] at hn
      have HG : Hid (∀ W, Below wr.heap.size wr W → Below (w.heap.size + 1) W0 W ∧ Ptrs W (.slice (some ⟨B, 0, none⟩) N c2) w.heap.size fs) := fun W b => ⟨hbe.out.trans (b.mono (by have := hbe.out.size; omega)), hpt.out.below b⟩
      clear hst hbe hpt hbx hbw hr hf hm
      have es : sps = ⟨#[32]⟩ := rfl
      rw [es] at hn
      have hs1 : (⟨#[32]⟩ : ByteArray).size = 1 := rfl
      generalize num (a.get f) = nf at *
      generalize a.get f = av at *
      have hs2 : ((⟨#[32]⟩ : ByteArray) ++ nf).size = 1 + nf.size := by rw [ByteArray.size_append, hs1]
      have hs3 : ¬ 9223372036854775807 < (⟨#[32]⟩ : ByteArray).size + nf.size := by rw [hs1]; omega
      have hs4 : ¬ 9223372036854775807 < l.size + ((⟨#[32]⟩ : ByteArray) ++ nf).size := by rw [hs2]; omega
      go_wp2_with (go_at_call 21; refine qi.mono ?_; rintro e w4 ⟨rfl, b4⟩)
      obtain ⟨g1, g2⟩ := HG.out _ b4
      have G1 := hid g1
      have G2 := hid g2
      clear g1 g2 b4 HG
      go_roundg (N - (i + 1))
      case rel => exact ⟨i + 1, _, by omega, rfl, by simp, hn, G1, G2⟩
      case measure => omega
    · have hdone := hst.out.done (by rw [HNN.out]; omega)
      obtain rfl : i = N := by omega
      have HPE : Hid (∀ W, Below w.heap.size w W → PP (.returned (.string (if restP k a.p bs = ⟨#[]⟩ then l else l ++ sps ++ restP k a.p bs))) W) := fun W b => by
        have := HP.out W b
        unfold encP at this
        rw [HFS.out, HW0.out, hdone] at this
        exact this
      have hcp := hbx.cell 4
      have hcd := hbx.cell 5
      have hck := hbx.cell 0
      have hcp' : wr.cell? ⟨w.heap.size, 4, none⟩ = some (.string a.p) := hcp
      have hcd' : wr.cell? ⟨w.heap.size, 5, none⟩ = some (.slice ad bs.length c) := hcd
      have hck' : wr.cell? ⟨w.heap.size, 0, none⟩ = some (.int .i64 (k : Int)) := hck
      clear hcp hcd hck
      have hs1 : sps.size = 1 := rfl
      clear hst hbe hpt hbx HX HP HM HFS HW0 HF hdone HNN
      have tail : ∀ (r : ByteArray), r.size ≤ 140737488355328 → (∀ W, Below w.heap.size w W → PP (.returned (.string (if r = ⟨#[]⟩ then l else l ++ sps ++ r))) W) → True := fun _ _ _ => trivial
      by_cases e1 : k = 5 ∨ k = 6 ∨ k = 7 ∨ k = 8
      · have hr : restP k a.p bs = a.p := if_pos e1
        rw [hr] at HPE
        generalize a.p = p at *
        by_cases e2 : p = ⟨#[]⟩
        · have F : Hid (PP (.returned (.string l)) wr) := by have := HPE.out wr hbw; rw [if_pos e2] at this; exact this
          subst e2
          clear HPE hr
          rcases e1 with rfl | rfl | rfl | rfl
          all_goals
            go_wp2
            exact F.out
        · have e3 := ne_list e2
          have e4 : (p.toList == ([] : List UInt8)) = false := by simpa using e3
          have F : Hid (PP (.returned (.string (l ++ ⟨#[32]⟩ ++ p))) wr) := by have := HPE.out wr hbw; rw [if_neg e2] at this; exact this
          have hs2 : (l ++ (⟨#[32]⟩ : ByteArray)).size = l.size + 1 := by rw [ByteArray.size_append]; rfl
          have hs3 : ¬ 9223372036854775807 < l.size + (⟨#[32]⟩ : ByteArray).size := by show ¬ _ < l.size + 1; omega
          have hs4 : ¬ 9223372036854775807 < (l ++ (⟨#[32]⟩ : ByteArray)).size + p.size := by rw [hs2]; omega
          clear HPE hr e2
          rcases e1 with rfl | rfl | rfl | rfl
          all_goals
            go_wp2
            exact F.out
      · by_cases e5 : k = 2
        · have hr : restP k a.p bs = ⟨(sp bs).toArray⟩ := by unfold restP; rw [if_neg e1, if_pos e5]
          rw [hr] at HPE
          have hps : (⟨(sp bs).toArray⟩ : ByteArray).size ≤ 140737488355328 := by
            show (sp bs).toArray.size ≤ _
            simp [sp_length]; omega
          have qs := spell_w _ bs hb wr (HD.out _ hbw)
          generalize (⟨(sp bs).toArray⟩ : ByteArray) = p at *
          subst e5
          by_cases e2 : p = ⟨#[]⟩
          · have F : Hid (∀ W, Below wr.heap.size wr W → PP (.returned (.string l)) W) := fun W b => by have := HPE.out W (hbw.trans (b.mono hbw.size)); rw [if_pos e2] at this; exact this
            subst e2
            clear HPE hr
            go_wp2_with (go_at_call 22; refine qs.mono ?_; rintro e w5 ⟨rfl, b5⟩)
            exact F.out _ b5
          · have e3 := ne_list e2
            have e4 : (p.toList == ([] : List UInt8)) = false := by simpa using e3
            have F : Hid (∀ W, Below wr.heap.size wr W → PP (.returned (.string (l ++ ⟨#[32]⟩ ++ p))) W) := fun W b => by have := HPE.out W (hbw.trans (b.mono hbw.size)); rw [if_neg e2] at this; exact this
            have hs2 : (l ++ (⟨#[32]⟩ : ByteArray)).size = l.size + 1 := by rw [ByteArray.size_append]; rfl
            have hs3 : ¬ 9223372036854775807 < l.size + (⟨#[32]⟩ : ByteArray).size := by show ¬ _ < l.size + 1; omega
            have hs4 : ¬ 9223372036854775807 < (l ++ (⟨#[32]⟩ : ByteArray)).size + p.size := by rw [hs2]; omega
            clear HPE hr e2
            go_wp2_with (go_at_call 22; refine qs.mono ?_; rintro e w5 ⟨rfl, b5⟩)
            exact F.out _ b5
        · have hr : restP k a.p bs = ⟨#[]⟩ := by unfold restP; rw [if_neg e1, if_neg e5]
          have F : Hid (PP (.returned (.string l)) wr) := by have := HPE.out wr hbw; rw [hr, if_pos rfl] at this; exact this
          clear HPE hr
          have n2 : ((k : Int) == 2) = false := by simp; omega
          have n5 : ((k : Int) == 5) = false := by simp; omega
          have n6 : ((k : Int) == 6) = false := by simp; omega
          have n7 : ((k : Int) == 7) = false := by simp; omega
          have n8 : ((k : Int) == 8) = false := by simp; omega
          go_wp2
          exact F.out
end Go.Proofs.YtojbfdlgjjghjaaGreatDoor.K
