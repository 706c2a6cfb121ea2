/-
  The head of the laws: a record is written and read.
-/
import Derived.Test.YtebnekkdkifgjaaDoorRound
namespace Go.Proofs.YtebnekkdkifgjaaDoor
open Go.RowKit
set_option linter.unusedVariables false
set_option linter.unusedSimpArgs false

theorem own_bytesAt {B : Nat} {w : World} {v : Value} {bs : List UInt8} (h : w.ownsRow B 5 1 v bs.length (Lib.byteCells bs)) (h0 : 0 < bs.length) :
    ∃ g cap, v = .slice (some ⟨g, 0, none⟩) bs.length cap ∧ BytesAt w g 0 bs ∧ bs.length ≤ cap ∧ cap ≤ 9223372036854775807 ∧ B ≤ g ∧ g < w.heap.size := by
  rcases h.2 with ⟨_, hn⟩ | ⟨g, cap, cur, hv, hb, hg, hc, hm, hsz, htk⟩
  · omega
  · unfold maxLen at hm
    refine ⟨g, cap, hv, ?_, hc, by omega, hb, (Array.getElem?_eq_some_iff.1 hg).1⟩
    intro i hi
    have : cur[i]? = some (.int .u8 ((bs.getD i 0).toNat : Int)) := by
      have h1 : (Lib.byteCells bs)[i]? = some (.int .u8 ((bs.getD i 0).toNat : Int)) := by
        simp [Lib.byteCells, List.getElem?_eq_getElem hi, List.getD]
      rw [← htk, List.getElem?_take] at h1
      split at h1
      · simpa using h1
      · cases h1
    simp only [World.cell?]
    rw [hg]
    simpa using this

def kOf (rs : List Rec) (i : Nat) : ByteArray := (rs.getD i (⟨#[]⟩, ⟨#[]⟩)).1
def vOf (rs : List Rec) (i : Nat) : ByteArray := (rs.getD i (⟨#[]⟩, ⟨#[]⟩)).2

theorem recCells_get : ∀ (rs : List Rec) (i : Nat), i < rs.length → (recCells rs)[i * 2]? = some (.string (kOf rs i)) ∧ (recCells rs)[i * 2 + 1]? = some (.string (vOf rs i))
  | [], i, h => absurd h (Nat.not_lt_zero _)
  | r :: rs, 0, _ => by simp [recCells, kOf, vOf]
  | r :: rs, i + 1, h => by
    have ih := recCells_get rs i (by simpa using h)
    have e : recCells (r :: rs) = .string r.1 :: .string r.2 :: recCells rs := by simp [recCells]
    rw [e, show (i + 1) * 2 = i * 2 + 1 + 1 by omega]
    simpa [kOf, vOf] using ih

theorem own_recsAt {B : Nat} {w : World} {v : Value} {rs : List Rec} (h : w.ownsRow B 28 2 v rs.length (recCells rs)) (h0 : 0 < rs.length) :
    ∃ g cap, v = .slice (some ⟨g, 0, none⟩) rs.length cap ∧ RecsAt w g 0 (kOf rs) (vOf rs) rs.length ∧ rs.length ≤ cap ∧ cap ≤ 9223372036854775807 ∧ B ≤ g ∧ g < w.heap.size := by
  rcases h.2 with ⟨_, hn⟩ | ⟨g, cap, cur, hv, hb, hg, hc, hm, hsz, htk⟩
  · omega
  · unfold maxLen at hm
    refine ⟨g, cap, hv, ?_, hc, by omega, hb, (Array.getElem?_eq_some_iff.1 hg).1⟩
    have key : ∀ (j : Nat) u, (recCells rs)[j]? = some u → cur[j]? = some u := by
      intro j u h1
      rw [← htk, List.getElem?_take] at h1
      split at h1
      · simpa using h1
      · cases h1
    intro i hi
    obtain ⟨e1, e2⟩ := recCells_get rs i hi
    have k1 := key _ _ e1
    have k2 := key _ _ e2
    constructor
    · simp only [World.cell?]
      rw [hg]
      simpa using k1
    · simp only [World.cell?]
      rw [hg]
      simpa [Nat.add_assoc] using k2

def pathS : ByteArray := ⟨#[112, 97, 116, 104]⟩
def aS : ByteArray := ⟨#[97]⟩

theorem chk_path : chk pathS aS = 0 := by decide +kernel
theorem nDig8 : plen 8 = 9 := by
  unfold plen
  have h8 : Lib.nDigits 8 = 1 := Lib.nDigits_small (by decide)
  have h9 : Lib.nDigits 9 = 1 := Lib.nDigits_small (by decide)
  simp [h8, h9]
theorem rec_path : recB pathS aS = [57, 32, 112, 97, 116, 104, 61, 97, 10] := by
  unfold recB
  rw [bodyS_size, show pathS.size + aS.size + 3 = 8 from rfl, nDig8, itoa_nat, Lib.decDigits, dif_pos (by decide)]
  decide +kernel

theorem last_path : lastOf (kOf [(pathS, aS)]) (vOf [(pathS, aS)]) pathS 1 = (aS, true) := by
  simp [lastOf, kOf, vOf]

set_option maxRecDepth 20000 in
set_option maxHeartbeats 2000000 in
theorem records_w (w : World) (ht : Vs w) : Calls Tryd.prog 9 #[] w fun e w' => e = .returned (.bool true) ∧ Below w.heap.size w w' := by
  have HV : Hid (Vs w) := ht
  clear ht
  go_enter Tryd.func9, Tryd.ntmps9
  go_wp2_with fail
  have b1 : Below w.heap.size w (w.alloc (.cells #[.string ⟨#[112, 97, 116, 104]⟩, .string ⟨#[97]⟩] 28)) := (Below.refl _ _).alloc (Nat.le_refl _) _
  have r1 : RecsAt (w.alloc (.cells #[.string ⟨#[112, 97, 116, 104]⟩, .string ⟨#[97]⟩] 28)) w.heap.size 0 (fun _ => pathS) (fun _ => aS) 1 := by
    intro i hi
    obtain rfl : i = 0 := by omega
    exact ⟨by simp [pathS], by simp [aS]⟩
  generalize w.alloc (.cells #[.string ⟨#[112, 97, 116, 104]⟩, .string ⟨#[97]⟩] 28) = w1 at *
  have he : errTo (fun _ => pathS) (fun _ => aS) 1 = 0 := by simp [errTo, chk_path]
  have hl : encL (fun _ => pathS) (fun _ => aS) 1 = [57, 32, 112, 97, 116, 104, 61, 97, 10] := by simp [encL, rec_path]
  have hr : encR [(pathS, aS)] = [57, 32, 112, 97, 116, 104, 61, 97, 10] := by simp [encR, rec_path]
  refine (enc_w w.heap.size 0 1 1 _ _ w1 r1 (by omega) (fun i _ => ⟨by decide, by decide⟩) (HV.out.below b1)).mono ?_
  rintro e w2 ⟨h, b2⟩
  rcases h with ⟨_, v, rfl, hown⟩ | ⟨h, _⟩
  · rw [hl] at hown
    obtain ⟨g, cap, rfl, hB, hc1, hc2, hg1, hg2⟩ := own_bytesAt hown (by decide)
    have bb2 : Below w.heap.size w w2 := b1.trans (b2.mono b1.size)
    have qd := decode_w g 0 cap _ w2 hB hc1 hc2 (by decide) (HV.out.below bb2)
    have hd := dec_back [(pathS, aS)] (by intro r hr; simp at hr; subst hr; exact ⟨chk_path, by decide, by decide⟩) (by decide)
    rw [hr] at hd
    rw [hd] at qd
    have HB : Hid (BytesAt w2 g 0 [57, 32, 112, 97, 116, 104, 61, 97, 10]) := hB
    clear hB hd hl hr he r1 hown
    go_wp2_with fail
    refine qd.mono ?_
    rintro e w3 ⟨v2, rfl, own2, b3⟩
    obtain ⟨g2, cap2, rfl, hR2, _, _, _, _⟩ := own_recsAt own2 (by decide)
    have qg := get_w g2 0 1 cap2 _ _ pathS w3 hR2 (by decide)
    rw [last_path] at qg
    have cs : (convert 36 9 (.slice (some ⟨g, 0, none⟩) 9 cap)).run Tryd.prog w3 = .ok (.string ⟨#[57, 32, 112, 97, 116, 104, 61, 97, 10]⟩) w3 := conv_str w3 g 0 cap _ (HB.out.below b3)
    have bb3 : Below w.heap.size w w3 := bb2.trans (b3.mono bb2.size)
    unfold pathS aS at qg
    clear hR2 own2 qd
    go_wp2_with fail
    refine qg.mono ?_
    rintro e w4 ⟨rfl, rfl⟩
    go_wp2
    go_ret
    exact ⟨rfl, bb3⟩
  · exact absurd he h

end Go.Proofs.YtebnekkdkifgjaaDoor
