/-
  Texts in one: Rv, Rw, Ry, Rz.
-/
import Derived.Test.YtnmmaedngdibeaaGreatDoorRx
import Derived.Test.YtnmmaedngdibeaaGreatDoorXRound
namespace Go.Proofs.YtnmmaedngdibeaaGreatDoor
open Go.RowKit
set_option linter.unusedVariables false
set_option linter.unusedSimpArgs false

def kUn : ByteArray := ⟨#[117, 110, 97, 109, 101]⟩
/-- a record's bytes -/
def bodyU (v : ByteArray) : List Int := X.ints (X.recB kUn v)
theorem U8_ints (l : List UInt8) : U8 (X.ints l) = l := by
  unfold U8 X.ints
  rw [List.map_map]
  conv => rhs; rw [← List.map_id l]
  apply List.map_congr_left
  intro x _
  simp [UInt8.ofNat_toNat]
theorem bodyU_allB (v : ByteArray) : H.AllB (bodyU v) := fun z hz => by
  unfold bodyU X.ints at hz
  obtain ⟨x, _, rfl⟩ := List.mem_map.1 hz
  have := x.toNat_lt
  omega
theorem bodyU_len (v : ByteArray) (hv : v.size ≤ 100) : 0 < (bodyU v).length ∧ (bodyU v).length ≤ 200 := by
  have h1 := X.bodyS_size kUn v
  have hk : kUn.size = 5 := rfl
  have h2 := X.plen_eq (X.bodyS kUn v).size
  have h3 := X.plen_le (X.bodyS kUn v).size
  have h4 := X.nDigits_small5 (X.bodyS kUn v).size (by omega)
  have h5 := X.itoa_len (X.plen (X.bodyS kUn v).size)
  have h6 := X.nDigits_small5 (X.plen (X.bodyS kUn v).size) (by omega)
  have hl : (bodyU v).length = (Lib.itoa (X.plen (X.bodyS kUn v).size : Int)).length + (X.bodyS kUn v).data.toList.length := by
    unfold bodyU X.ints X.recB
    rw [List.length_map, List.length_append]
  have hs : (X.bodyS kUn v).data.toList.length = (X.bodyS kUn v).size := by rw [Array.length_toList]; rfl
  omega
theorem bodyU_recs (v : ByteArray) (hv : v.size ≤ 100) : recsP (bodyU v) = .inr [(kUn, v)] := by
  have hk : kUn.size = 5 := rfl
  have hb : X.badKey kUn = false := by decide +kernel
  have hc : X.chk kUn v = 0 := by
    unfold X.chk
    rw [if_neg (by rw [hb]; rintro (h | h); omega; cases h), if_neg (by omega)]
  have hd := X.dec_back [(kUn, v)] (fun r hr => by
    obtain rfl := List.mem_singleton.1 hr
    exact ⟨hc, by show kUn.size ≤ _; omega, by show v.size ≤ _; omega⟩) (by simp)
  have he : X.encR [(kUn, v)] = X.recB kUn v := by simp [X.encR]
  rw [he] at hd
  have hdp : decP (bodyU v) = ([(kUn, v)], 0) := by
    unfold decP
    have hu : U8 (bodyU v) = X.recB kUn v := U8_ints _
    have hl : (bodyU v).length = (X.recB kUn v).length := by unfold bodyU X.ints; rw [List.length_map]
    rw [hu, hl]
    exact hd
  unfold recsP
  rw [hdp]
  rfl

/-- a parser between two entries, with records -/
def stG (r : Nat) (bg cl : Int) (gl lo : List Rec) : PsR := ⟨r, 0, 512, [], bg, cl, false, gl, lo, ⟨#[]⟩, ⟨#[]⟩, none⟩
theorem meta_feeds {z body f : List Int} {y : E.Hd} {rs : List Rec} (r : Nat) (bg cl c : Int) (gl lo : List Rec) (hr : r % 512 = 0) (hl : z.length = 512) (hb : H.blankB z = false) (hd : decH z = .inr y) (hcl : clsP y.typ = c) (hc : c = 2 ∨ c = 3)
    (hs : y.size = (body.length : Int)) (hb0 : 0 < body.length) (hb1 : body.length ≤ 8192) (hrs : recsP body = .inr rs) (hfl : f.length = (512 - body.length % 512) % 512) (hg1 : gl.length + rs.length ≤ 64) (hg2 : lo.length + rs.length ≤ 64) :
    ∃ bg2, (Pu.feeds fns0 (stG r bg cl gl lo) [z, body, f]).1 = stG (r + 512 + body.length + f.length) bg2 c (if c = 3 then gl ++ rs else gl) (if c = 2 then lo ++ rs else lo) ∧ (Pu.feeds fns0 (stG r bg cl gl lo) [z, body, f]).2 = [] := by
  have hzne : z ≠ [] := fun q => by rw [q] at hl; simp at hl
  have hbne : body ≠ [] := List.length_pos_iff.1 hb0
  have e1 : fns0.blank z = false := hb
  have e2 : fns0.decode z = .inr y := hd
  have e3 : fns0.cls (fns0.typ y) = c := hcl
  have e4 : fns0.size y = (body.length : Int) := hs
  have e5 : fns0.recs body = .inr rs := hrs
  have ht : Pu.take (E := E.En) (stG r bg cl gl lo) z = (⟨r + 512, 0, 0, z, bg, cl, false, gl, lo, ⟨#[]⟩, ⟨#[]⟩, none⟩, []) := by
    unfold Pu.take stG
    simp [hl]
  have hturn : Pu.turn fns0 (⟨r + 512, 0, 0, z, bg, cl, false, gl, lo, ⟨#[]⟩, ⟨#[]⟩, none⟩ : PsR) = (⟨r + 512, 1, body.length, [], ((r + 512 : Nat) : Int) - 512, c, false, gl, lo, ⟨#[]⟩, ⟨#[]⟩, none⟩, []) := by
    unfold Pu.turn
    rw [if_pos rfl]
    unfold Pu.endHeader
    simp only [e1, e2, e3]
    have hc0 : ¬ c = 0 := by omega
    have hc1 : ¬ c = 1 := by omega
    have hn0 : ¬ (body.length : Int) < 0 := by omega
    have hn1 : ¬ (8192 : Int) < (body.length : Int) := by omega
    simp [hc0, hc1, Pu.beginMeta, e4, hn0, hn1, Pu.expect]
  have hf1 := feed_piece (stG r bg cl gl lo) z hzne (by show (0 : Nat) ≠ 4; omega) (by rw [hl]; exact Nat.le_refl _)
  rw [ht] at hf1
  have hset3 : Pu.settle fns0 3 (⟨r + 512, 0, 0, z, bg, cl, false, gl, lo, ⟨#[]⟩, ⟨#[]⟩, none⟩ : PsR) = (⟨r + 512, 1, body.length, [], ((r + 512 : Nat) : Int) - 512, c, false, gl, lo, ⟨#[]⟩, ⟨#[]⟩, none⟩, []) := by
    conv => lhs; unfold Pu.settle
    rw [if_pos ⟨rfl, (by show (0 : Nat) ≠ 4; omega)⟩, hturn, Pu.settle_of_fit fns0 (.inl (by show body.length ≠ 0; omega)) 2]
    rfl
  rw [hset3] at hf1
  have htd : Pu.take (E := E.En) (⟨r + 512, 1, body.length, [], ((r + 512 : Nat) : Int) - 512, c, false, gl, lo, ⟨#[]⟩, ⟨#[]⟩, none⟩ : PsR) body = (⟨r + 512 + body.length, 1, 0, body, ((r + 512 : Nat) : Int) - 512, c, false, gl, lo, ⟨#[]⟩, ⟨#[]⟩, none⟩, []) := by
    unfold Pu.take
    simp
  have hpad : Pu.pad (r + 512 + body.length) = (512 - body.length % 512) % 512 := by unfold Pu.pad; omega
  have hlay : Pu.turn fns0 (⟨r + 512 + body.length, 1, 0, body, ((r + 512 : Nat) : Int) - 512, c, false, gl, lo, ⟨#[]⟩, ⟨#[]⟩, none⟩ : PsR) = (⟨r + 512 + body.length, 3, Pu.pad (r + 512 + body.length), [], ((r + 512 : Nat) : Int) - 512, c, false, (if c = 3 then gl ++ rs else gl), (if c = 2 then lo ++ rs else lo), ⟨#[]⟩, ⟨#[]⟩, none⟩, []) := by
    unfold Pu.turn
    rw [if_neg (by show ¬ (1 : Nat) = 0; omega), if_pos rfl]
    have k1 : ¬ 64 < gl.length + rs.length := by omega
    have k2 : ¬ 64 < lo.length + rs.length := by omega
    rcases hc with rfl | rfl
    · unfold Pu.endMeta Pu.layAhead Pu.add
      simp [e5, k2, Pu.fill, Pu.expect]
    · unfold Pu.endMeta Pu.layAhead Pu.add
      simp [e5, k1, Pu.fill, Pu.expect]
  have hf2 := feed_piece (⟨r + 512, 1, body.length, [], ((r + 512 : Nat) : Int) - 512, c, false, gl, lo, ⟨#[]⟩, ⟨#[]⟩, none⟩ : PsR) body hbne (by show (1 : Nat) ≠ 4; omega) (Nat.le_refl _)
  rw [htd] at hf2
  generalize (if c = 3 then gl ++ rs else gl) = gl2 at *
  generalize (if c = 2 then lo ++ rs else lo) = lo2 at *
  have hexp : ∀ (m : Nat) (b : Int), Pu.turn fns0 (⟨m, 3, 0, [], b, c, false, gl2, lo2, ⟨#[]⟩, ⟨#[]⟩, none⟩ : PsR) = (stG m b c gl2 lo2, []) := fun m b => by
    unfold Pu.turn Pu.expect stG
    simp
  have hset : ∀ (k m : Nat) (b : Int), 1 ≤ k → Pu.settle fns0 k (⟨m, 3, 0, [], b, c, false, gl2, lo2, ⟨#[]⟩, ⟨#[]⟩, none⟩ : PsR) = (stG m b c gl2 lo2, []) := fun k m b hk => by
    obtain ⟨k, rfl⟩ : ∃ q, k = q + 1 := ⟨k - 1, by omega⟩
    conv => lhs; unfold Pu.settle
    rw [if_pos ⟨rfl, (by show (3 : Nat) ≠ 4; omega)⟩, hexp, Pu.settle_of_fit fns0 (.inl (by show (512 : Nat) ≠ 0; omega)) k]
    rfl
  by_cases hp : (512 - body.length % 512) % 512 = 0
  · have hf0 : f = [] := List.eq_nil_of_length_eq_zero (by rw [hfl, hp])
    subst hf0
    have hs2 : Pu.settle fns0 3 (⟨r + 512 + body.length, 1, 0, body, ((r + 512 : Nat) : Int) - 512, c, false, gl, lo, ⟨#[]⟩, ⟨#[]⟩, none⟩ : PsR) = (stG (r + 512 + body.length) (((r + 512 : Nat) : Int) - 512) c gl2 lo2, []) := by
      conv => lhs; unfold Pu.settle
      rw [if_pos ⟨rfl, (by show (1 : Nat) ≠ 4; omega)⟩, hlay, hpad, hp, hset 2 _ _ (by omega)]
      rfl
    rw [hs2] at hf2
    refine ⟨((r + 512 : Nat) : Int) - 512, ?_, ?_⟩
    · simp only [Pu.feeds, hf1, hf2, feed_none]
      rfl
    · simp only [Pu.feeds, hf1, hf2, feed_none]
      rfl
  · have hfne : f ≠ [] := fun q => by rw [q] at hfl; simp at hfl; omega
    have hs2 : Pu.settle fns0 3 (⟨r + 512 + body.length, 1, 0, body, ((r + 512 : Nat) : Int) - 512, c, false, gl, lo, ⟨#[]⟩, ⟨#[]⟩, none⟩ : PsR) = (⟨r + 512 + body.length, 3, Pu.pad (r + 512 + body.length), [], ((r + 512 : Nat) : Int) - 512, c, false, gl2, lo2, ⟨#[]⟩, ⟨#[]⟩, none⟩, []) := by
      conv => lhs; unfold Pu.settle
      rw [if_pos ⟨rfl, (by show (1 : Nat) ≠ 4; omega)⟩, hlay, Pu.settle_of_fit fns0 (.inl (by show Pu.pad (r + 512 + body.length) ≠ 0; rw [hpad]; exact hp)) 2]
      rfl
    rw [hs2] at hf2
    have htf : Pu.take (E := E.En) (⟨r + 512 + body.length, 3, Pu.pad (r + 512 + body.length), [], ((r + 512 : Nat) : Int) - 512, c, false, gl2, lo2, ⟨#[]⟩, ⟨#[]⟩, none⟩ : PsR) f = (⟨r + 512 + body.length + f.length, 3, 0, [], ((r + 512 : Nat) : Int) - 512, c, false, gl2, lo2, ⟨#[]⟩, ⟨#[]⟩, none⟩, []) := by
      unfold Pu.take
      simp [hfl, hpad]
    have hf3 := feed_piece (⟨r + 512 + body.length, 3, Pu.pad (r + 512 + body.length), [], ((r + 512 : Nat) : Int) - 512, c, false, gl2, lo2, ⟨#[]⟩, ⟨#[]⟩, none⟩ : PsR) f hfne (by show (3 : Nat) ≠ 4; omega) (by rw [hfl]; show _ ≤ Pu.pad (r + 512 + body.length); rw [hpad]; exact Nat.le_refl _)
    rw [htf, hset 3 _ _ (by omega)] at hf3
    refine ⟨((r + 512 : Nat) : Int) - 512, ?_, ?_⟩
    · simp only [Pu.feeds, hf1, hf2, hf3]
    · simp only [Pu.feeds, hf1, hf2, hf3]
      rfl

/-- a directory -/
theorem dir_feeds {z : List Int} {y : E.Hd} {e : E.En} (r : Nat) (bg cl : Int) (gl lo : List Rec) (hr : r % 512 = 0) (hl : z.length = 512) (hb : H.blankB z = false) (hd : decH z = .inr y) (hcl : clsP y.typ = 1) (hm : makeP y gl lo ⟨#[]⟩ ⟨#[]⟩ = .inr e) (hs : e.size = 0) (a : AcE) (hov : a.ov = false) (hop : a.op = false) :
    ∃ bg2, (Pu.feeds fns0 (stG r bg cl gl lo) [z]).1 = stG (r + 512) bg2 1 gl [] ∧ Pu.arcs a (Pu.feeds fns0 (stG r bg cl gl lo) [z]).2 = some { a with ts := a.ts ++ [(⟨e, [], true, r + 512⟩ : ThE)] } := by
  have hzne : z ≠ [] := fun q => by rw [q] at hl; simp at hl
  have e1 : fns0.blank z = false := hb
  have e2 : fns0.decode z = .inr y := hd
  have e3 : fns0.cls (fns0.typ y) = 1 := hcl
  have e4 : fns0.make y gl lo ⟨#[]⟩ ⟨#[]⟩ = .inr e := hm
  have e5 : fns0.esize e = 0 := by show e.size.toNat = 0; rw [hs]; rfl
  have e6 : fns0.none = ⟨#[]⟩ := rfl
  have ht : Pu.take (E := E.En) (stG r bg cl gl lo) z = (⟨r + 512, 0, 0, z, bg, cl, false, gl, lo, ⟨#[]⟩, ⟨#[]⟩, none⟩, []) := by
    unfold Pu.take stG
    simp [hl]
  have hturn : Pu.turn fns0 (⟨r + 512, 0, 0, z, bg, cl, false, gl, lo, ⟨#[]⟩, ⟨#[]⟩, none⟩ : PsR) = (⟨r + 512, 2, 0, [], ((r + 512 : Nat) : Int) - 512, 1, false, gl, [], ⟨#[]⟩, ⟨#[]⟩, none⟩, [.bgn e (r + 512)]) := by
    unfold Pu.turn
    rw [if_pos rfl]
    unfold Pu.endHeader
    simp only [e1, e2, e3]
    simp [Pu.beginThing, e4, e5, e6, Pu.expect]
  have hfin : Pu.turn fns0 (⟨r + 512, 2, 0, [], ((r + 512 : Nat) : Int) - 512, 1, false, gl, [], ⟨#[]⟩, ⟨#[]⟩, none⟩ : PsR) = (⟨r + 512, 3, 0, [], ((r + 512 : Nat) : Int) - 512, 1, false, gl, [], ⟨#[]⟩, ⟨#[]⟩, none⟩, [.fin (r + 512)]) := by
    have hp : Pu.pad (r + 512) = 0 := by unfold Pu.pad; omega
    unfold Pu.turn Pu.fill Pu.expect
    simp [hp]
  have hexp : Pu.turn fns0 (⟨r + 512, 3, 0, [], ((r + 512 : Nat) : Int) - 512, 1, false, gl, [], ⟨#[]⟩, ⟨#[]⟩, none⟩ : PsR) = (stG (r + 512) (((r + 512 : Nat) : Int) - 512) 1 gl [], []) := by
    unfold Pu.turn Pu.expect stG
    simp
  have hf1 := feed_piece (stG r bg cl gl lo) z hzne (by show (0 : Nat) ≠ 4; omega) (by rw [hl]; exact Nat.le_refl _)
  rw [ht] at hf1
  have s1 : Pu.settle fns0 1 (⟨r + 512, 3, 0, [], ((r + 512 : Nat) : Int) - 512, 1, false, gl, [], ⟨#[]⟩, ⟨#[]⟩, none⟩ : PsR) = (stG (r + 512) (((r + 512 : Nat) : Int) - 512) 1 gl [], []) := by
    conv => lhs; unfold Pu.settle
    rw [if_pos ⟨rfl, (by show (3 : Nat) ≠ 4; omega)⟩, hexp, Pu.settle_of_fit fns0 (.inl (by show (512 : Nat) ≠ 0; omega)) 0]
    rfl
  have s2 : Pu.settle fns0 2 (⟨r + 512, 2, 0, [], ((r + 512 : Nat) : Int) - 512, 1, false, gl, [], ⟨#[]⟩, ⟨#[]⟩, none⟩ : PsR) = (stG (r + 512) (((r + 512 : Nat) : Int) - 512) 1 gl [], [.fin (r + 512)]) := by
    conv => lhs; unfold Pu.settle
    rw [if_pos ⟨rfl, (by show (2 : Nat) ≠ 4; omega)⟩, hfin, s1]
    rfl
  have s3 : Pu.settle fns0 3 (⟨r + 512, 0, 0, z, bg, cl, false, gl, lo, ⟨#[]⟩, ⟨#[]⟩, none⟩ : PsR) = (stG (r + 512) (((r + 512 : Nat) : Int) - 512) 1 gl [], [.bgn e (r + 512), .fin (r + 512)]) := by
    conv => lhs; unfold Pu.settle
    rw [if_pos ⟨rfl, (by show (0 : Nat) ≠ 4; omega)⟩, hturn, s2]
    rfl
  rw [s3] at hf1
  refine ⟨((r + 512 : Nat) : Int) - 512, ?_, ?_⟩
  · simp only [Pu.feeds, hf1]
  · simp only [Pu.feeds, hf1]
    simp [Pu.arcs, Pu.arc, hov, hop, Pu.chLast_snoc]
end Go.Proofs.YtnmmaedngdibeaaGreatDoor

namespace Go.Proofs.YtnmmaedngdibeaaGreatDoor
open Go.RowKit
set_option linter.unusedVariables false
set_option linter.unusedSimpArgs false

/-- a directory's header -/
def hdD : List Int := H.sealL (H.encL ⟨#[97]⟩ ⟨#[]⟩ ⟨#[]⟩ ⟨#[117]⟩ ⟨#[]⟩ 53 (H.numsF 0 0 0 0 0))
theorem textsD : H.textsB ⟨#[97]⟩ ⟨#[]⟩ ⟨#[]⟩ ⟨#[117]⟩ ⟨#[]⟩ = true := by decide +kernel
theorem numsD : ∀ k, k < 5 → H.numFit (H.numsF 0 0 0 0 0) k = true := by decide +kernel
theorem hdD_of : H.HdOf hdD ⟨#[97]⟩ ⟨#[]⟩ ⟨#[]⟩ ⟨#[117]⟩ ⟨#[]⟩ 53 (H.numsF 0 0 0 0 0) := H.hdOf_enc _ _ _ _ _ _ _ textsD numsD
theorem hdD_len : hdD.length = 512 := hdD_of.len
theorem hdD_allB : H.AllB hdD := H.sealL_allB _ (H.encL_allB _ _ _ _ _ _ _ (by omega))
theorem hdD_blank : H.blankB hdD = false := by decide +kernel
theorem hdD_right : H.rightB hdD = true := H.sealL_right _ (H.encL_length _ _ _ _ _ _ _ textsD) (H.encL_allB _ _ _ _ _ _ _ (by omega))
theorem hdD_magic : H.fld hdD 257 265 = H.ustarL := H.enc_magic _ _ _ _ _ 53 _ textsD
theorem dec_dir {z : List Int} (hd : H.HdOf z ⟨#[97]⟩ ⟨#[]⟩ ⟨#[]⟩ ⟨#[117]⟩ ⟨#[]⟩ 53 (H.numsF 0 0 0 0 0)) (hr : H.rightB z = true) (hmg : H.fld z 257 265 = H.ustarL) : ∃ y : E.Hd, decH z = .inr y ∧ y.typ = 53 ∧ y.size = 0 ∧ y.form = 1 ∧ y.uid = 0 ∧ y.gid = 0 := by
  have hv := hd.eN (fun j hj => by
    have hkk : j = 0 ∨ j = 1 ∨ j = 2 ∨ j = 3 ∨ j = 4 := by omega
    rcases hkk with rfl | rfl | rfl | rfl | rfl <;> simp [H.numsF])
  have hform : H.formL z = 1 := by unfold H.formL; exact if_pos hmg
  refine ⟨hdOf z, ?_, hd.type, (hv 3 (by omega)).2, hform, (hv 1 (by omega)).2, (hv 2 (by omega)).2⟩
  unfold decH
  rw [if_neg (by rw [hr]; simp), if_neg (by rw [(hv 0 (by omega)).1]; simp), if_neg (by rw [(hv 1 (by omega)).1]; simp), if_neg (by rw [(hv 2 (by omega)).1]; simp), if_neg (by rw [(hv 3 (by omega)).1]; simp), if_neg (by rw [(hv 4 (by omega)).1]; simp)]

/-- a directory's entry, with records of who it is -/
theorem mk_dir {y : E.Hd} (ht : y.typ = 53) (hf : y.form = 1) (hs : y.size = 0) (hu : y.uid = 0) (hg : y.gid = 0) (ga : ByteArray) (lo : List Rec) (us : ByteArray) (hlo : lo = [] ∧ us = ga ∨ lo = [(kUn, us)]) (hne : E.emp us = false) :
    ∃ e : E.En, makeP y [(kUn, ga)] lo ⟨#[]⟩ ⟨#[]⟩ = .inr e ∧ e.size = 0 ∧ e.user = us := by
  obtain ⟨A, hA⟩ : ∃ A, A = aOf (.slice none 0 0) (.slice none 0 0) [(kUn, ga)] lo ⟨#[]⟩ ⟨#[]⟩ := ⟨_, rfl⟩
  have hval : ∀ k, ¬ kUn = k → A.val k = ⟨#[]⟩ := fun k hk => by
    rw [hA]
    rcases hlo with ⟨rfl, _⟩ | rfl <;> simp [E.Ah.val, aOf, E.lastOf, keyAt, hk]
  have hvu : A.val kUn = us := by
    rw [hA]
    rcases hlo with ⟨rfl, rfl⟩ | rfl <;> simp [E.Ah.val, aOf, E.lastOf, keyAt, valAt]
  have hnk : ∀ k, ¬ kUn = E.kyN k := fun k => by
    rcases k with _ | _ | _ | k
    · show ¬ kUn = E.kSize; decide
    · show ¬ kUn = E.kUid; decide
    · show ¬ kUn = E.kGid; decide
    · show ¬ kUn = E.kMtime; decide
  have hnum : ∀ k, E.numV y A k = some (E.hdN y k) := fun k => by unfold E.numV; rw [hval _ (hnk k), E.emp_none]; rfl
  have htx : E.tx y A 2 = us := by
    unfold E.tx
    show E.or3 (A.val kUn) _ _ = us
    rw [hvu]
    unfold E.or3
    rw [hne]
    rfl
  have hk : E.kindF (E.entN y A (E.entK y A (E.startE (E.kd y.typ) (bits .and .i64 y.mode 4095)) 4) 4) y.form = 4 := by
    unfold E.kindF
    rw [if_neg (by rw [hf]; simp), ht]
    rfl
  have hfull : (E.fullE y A).size = 0 ∧ (E.fullE y A).uid = 0 ∧ (E.fullE y A).gid = 0 ∧ (E.fullE y A).user = us := by
    unfold E.fullE E.settleF
    rw [hk]
    refine ⟨rfl, ?_, ?_, ?_⟩
    · simp only [E.entN, E.setN, hnum, E.hdN, hu]; rfl
    · simp only [E.entN, E.setN, hnum, E.hdN, hg]; rfl
    · simp only [E.entN, E.setN, E.entK, E.setT, htx]
  obtain ⟨f1, f2, f3, f4⟩ := hfull
  refine ⟨E.fullE y A, ?_, f1, f4⟩
  have hbad : badB y A = false := by
    unfold badB
    rw [hnum, hnum, hnum, hnum]
    rfl
  unfold makeP
  rw [← hA]
  simp only
  rw [if_neg (by rw [ht]; decide), if_neg (by rw [hbad]; simp), if_neg (by rw [f1, f2, f3]; omega)]

/-- directories, one behind the other -/
theorem dirs_feeds {z : List Int} {y : E.Hd} (hl : z.length = 512) (hb : H.blankB z = false) (hd : decH z = .inr y) (ht : y.typ = 53) (hf : y.form = 1) (hs : y.size = 0) (hu : y.uid = 0) (hg : y.gid = 0) (ga : ByteArray) (hne : E.emp ga = false) :
    ∀ (k r : Nat) (bg cl : Int) (a : AcE), r % 512 = 0 → a.ov = false → a.op = false → ∃ (bg2 cl2 : Int) (ts : List ThE), (Pu.feeds fns0 (stG r bg cl [(kUn, ga)] []) (List.replicate k z)).1 = stG (r + 512 * k) bg2 cl2 [(kUn, ga)] [] ∧ Pu.arcs a (Pu.feeds fns0 (stG r bg cl [(kUn, ga)] []) (List.replicate k z)).2 = some { a with ts := a.ts ++ ts } ∧ ts.length = k ∧ ∀ t ∈ ts, t.e.user = ga
  | 0, r, bg, cl, a, hr, hov, hop => ⟨bg, cl, [], by simp [Pu.feeds], by simp [Pu.feeds, Pu.arcs], rfl, fun t ht => by cases ht⟩
  | k + 1, r, bg, cl, a, hr, hov, hop => by
    obtain ⟨e, hm, he, hus⟩ := mk_dir ht hf hs hu hg ga [] ga (.inl ⟨rfl, rfl⟩) hne
    obtain ⟨b1, k1, k2⟩ := dir_feeds r bg cl [(kUn, ga)] [] hr hl hb hd (by rw [ht]; decide) hm he a hov hop
    obtain ⟨b2, c2, ts, m1, m2, m3, m4⟩ := dirs_feeds hl hb hd ht hf hs hu hg ga hne k (r + 512) b1 1 { a with ts := a.ts ++ [(⟨e, [], true, r + 512⟩ : ThE)] } (by omega) hov hop
    obtain ⟨a1, a2⟩ := feeds_app (stG r bg cl [(kUn, ga)] []) [z] (List.replicate k z)
    rw [k1] at a1 a2
    refine ⟨b2, c2, (⟨e, [], true, r + 512⟩ : ThE) :: ts, ?_, ?_, by simp [m3], fun t htm => ?_⟩
    · rw [List.replicate_succ, show z :: List.replicate k z = [z] ++ List.replicate k z from rfl, a1, m1]
      congr 1
      omega
    · rw [List.replicate_succ, show z :: List.replicate k z = [z] ++ List.replicate k z from rfl, a2, Pu.arcs_append, k2]
      show Pu.arcs _ _ = _
      rw [m2]
      simp
    · rcases List.mem_cons.1 htm with rfl | h
      · exact hus
      · exact m4 t h

/-- the end of an archive, behind records -/
theorem end_feedsG (r : Nat) (bg cl : Int) (gl lo : List Rec) (a : AcE) (hov : a.ov = false) (z : List Int) (hl : z.length = 512) (hbz : H.blankB z = true) : Pu.arcs a (Pu.feeds fns0 (stG r bg cl gl lo) [z, z]).2 = some { a with dn := true, ov := true } := by
  have hne : z ≠ [] := fun q => by rw [q] at hl; simp at hl
  have hb : fns0.blank z = true := hbz
  have f1 : Pu.feed fns0 z.length (stG r bg cl gl lo) z = (⟨r + 512, 0, 512, [], ((r + 512 : Nat) : Int) - 512, cl, true, gl, lo, ⟨#[]⟩, ⟨#[]⟩, none⟩, []) := by
    rw [feed_piece (stG r bg cl gl lo) z hne (by show (0 : Nat) ≠ 4; omega) (by rw [hl]; exact Nat.le_refl _)]
    have ht : Pu.take (E := E.En) (stG r bg cl gl lo) z = (⟨r + 512, 0, 0, z, bg, cl, false, gl, lo, ⟨#[]⟩, ⟨#[]⟩, none⟩, []) := by
      unfold Pu.take stG
      simp [hl]
    have h1 : Pu.turn fns0 (⟨r + 512, 0, 0, z, bg, cl, false, gl, lo, ⟨#[]⟩, ⟨#[]⟩, none⟩ : PsR) = (⟨r + 512, 0, 512, [], ((r + 512 : Nat) : Int) - 512, cl, true, gl, lo, ⟨#[]⟩, ⟨#[]⟩, none⟩, []) := by
      unfold Pu.turn
      rw [if_pos rfl]
      unfold Pu.endHeader
      simp only [hb]
      simp [Pu.endBlank, Pu.expect]
    have : Pu.settle fns0 3 (⟨r + 512, 0, 0, z, bg, cl, false, gl, lo, ⟨#[]⟩, ⟨#[]⟩, none⟩ : PsR) = (⟨r + 512, 0, 512, [], ((r + 512 : Nat) : Int) - 512, cl, true, gl, lo, ⟨#[]⟩, ⟨#[]⟩, none⟩, []) := by
      conv => lhs; unfold Pu.settle
      rw [if_pos ⟨rfl, (by show (0 : Nat) ≠ 4; omega)⟩, h1, Pu.settle_of_fit fns0 (.inl (by show (512 : Nat) ≠ 0; omega)) 2]
      rfl
    rw [ht, this]
    rfl
  have f2 : Pu.feed fns0 z.length (⟨r + 512, 0, 512, [], ((r + 512 : Nat) : Int) - 512, cl, true, gl, lo, ⟨#[]⟩, ⟨#[]⟩, none⟩ : PsR) z = (⟨r + 1024, 4, 0, [], 0, 0, false, [], [], fns0.none, fns0.none, none⟩, [.don (r + 1024)]) := by
    rw [feed_piece _ z hne (by show (0 : Nat) ≠ 4; omega) (by rw [hl]; exact Nat.le_refl _)]
    have ht : Pu.take (E := E.En) (⟨r + 512, 0, 512, [], ((r + 512 : Nat) : Int) - 512, cl, true, gl, lo, ⟨#[]⟩, ⟨#[]⟩, none⟩ : PsR) z = (⟨r + 1024, 0, 0, z, ((r + 512 : Nat) : Int) - 512, cl, true, gl, lo, ⟨#[]⟩, ⟨#[]⟩, none⟩, []) := by
      unfold Pu.take
      simp [hl]
    have h1 : Pu.turn fns0 (⟨r + 1024, 0, 0, z, ((r + 512 : Nat) : Int) - 512, cl, true, gl, lo, ⟨#[]⟩, ⟨#[]⟩, none⟩ : PsR) = (⟨r + 1024, 4, 0, [], 0, 0, false, [], [], fns0.none, fns0.none, none⟩, [.don (r + 1024)]) := by
      unfold Pu.turn
      rw [if_pos rfl]
      unfold Pu.endHeader
      simp only [hb]
      simp [Pu.endBlank, Pu.stop]
    have : Pu.settle fns0 3 (⟨r + 1024, 0, 0, z, ((r + 512 : Nat) : Int) - 512, cl, true, gl, lo, ⟨#[]⟩, ⟨#[]⟩, none⟩ : PsR) = (⟨r + 1024, 4, 0, [], 0, 0, false, [], [], fns0.none, fns0.none, none⟩, [.don (r + 1024)]) := by
      conv => lhs; unfold Pu.settle
      rw [if_pos ⟨rfl, (by show (0 : Nat) ≠ 4; omega)⟩, h1, Pu.settle_of_fit fns0 (.inr rfl) 2]
      rfl
    rw [ht, this]
    rfl
  simp only [Pu.feeds, f1, f2]
  simp [Pu.arcs, Pu.arc, hov]

/-- a record's blocks -/
def recL (ty : Int) (v : ByteArray) : List Int := hdG ⟨#[112]⟩ ty 0 ((bodyU v).length : Int) ++ bodyU v ++ List.replicate ((512 - (bodyU v).length % 512) % 512) 0
/-- .. and what is read of all -/
theorem global_fin (n : Nat) (all own : ByteArray) (h1 : 1 ≤ n) (h8 : n ≤ 8) (ha : all.size ≤ 100) (ho : own.size ≤ 100) (hae : E.emp all = false) (hoe : E.emp own = false) :
    ∃ ts : List ThE, finA (recL 103 all ++ recL 120 own ++ (List.replicate n hdD).flatten ++ List.replicate 1024 0) = ⟨ts, false, true, true, 0, 0⟩ ∧ ts.length = n ∧ ∀ (i : Nat) (h : i < ts.length), ts[i].e.user = if i = 0 then own else all := by
  obtain ⟨la0, la1⟩ := bodyU_len all ha
  obtain ⟨lb0, lb1⟩ := bodyU_len own ho
  have na := numsM ((bodyU all).length : Int) (by omega) (by omega)
  have nb := numsM ((bodyU own).length : Int) (by omega) (by omega)
  obtain ⟨ya, da, ta, sa, _⟩ := hdG_dec (n := ⟨#[112]⟩) (ty := 103) (md := 0) (sz := ((bodyU all).length : Int)) textsM na (by omega) (by omega) (by omega)
  obtain ⟨yb, db, tb, sb, _⟩ := hdG_dec (n := ⟨#[112]⟩) (ty := 120) (md := 0) (sz := ((bodyU own).length : Int)) textsM nb (by omega) (by omega) (by omega)
  have ba := hdG_blank (n := ⟨#[112]⟩) (ty := 103) (md := 0) (sz := ((bodyU all).length : Int)) textsM na (by exact ⟨112, [], rfl, by omega⟩)
  have bb := hdG_blank (n := ⟨#[112]⟩) (ty := 120) (md := 0) (sz := ((bodyU own).length : Int)) textsM nb (by exact ⟨112, [], rfl, by omega⟩)
  have hla := hdG_len (n := ⟨#[112]⟩) (ty := 103) (md := 0) (sz := ((bodyU all).length : Int)) textsM na
  have hlb := hdG_len (n := ⟨#[112]⟩) (ty := 120) (md := 0) (sz := ((bodyU own).length : Int)) textsM nb
  have ra := bodyU_recs all ha
  have rb := bodyU_recs own ho
  unfold recL
  generalize hdG ⟨#[112]⟩ 103 0 ((bodyU all).length : Int) = za at *
  generalize hdG ⟨#[112]⟩ 120 0 ((bodyU own).length : Int) = zb at *
  generalize bodyU all = Ba at *
  generalize bodyU own = Bb at *
  obtain ⟨y, hd, ht, hs, hf, hu, hg⟩ := dec_dir hdD_of hdD_right hdD_magic
  have hl := hdD_len
  have hb := hdD_blank
  generalize hdD = zd at *
  obtain ⟨fa, hfa⟩ : ∃ fa, fa = List.replicate ((512 - Ba.length % 512) % 512) (0 : Int) := ⟨_, rfl⟩
  obtain ⟨fb, hfb⟩ : ∃ fb, fb = List.replicate ((512 - Bb.length % 512) % 512) (0 : Int) := ⟨_, rfl⟩
  have lfa : fa.length = (512 - Ba.length % 512) % 512 := by rw [hfa, List.length_replicate]
  have lfb : fb.length = (512 - Bb.length % 512) % 512 := by rw [hfb, List.length_replicate]
  rw [← hfa, ← hfb]
  clear hfa hfb
  obtain ⟨z0, hz0⟩ : ∃ z0, z0 = List.replicate 512 (0 : Int) := ⟨_, rfl⟩
  have hl0 : z0.length = 512 := by rw [hz0]; exact List.length_replicate
  have hb0 : H.blankB z0 = true := by rw [hz0]; exact blank_rep 512
  have hz1 : List.replicate 1024 (0 : Int) = z0 ++ z0 := by rw [hz0, List.replicate_append_replicate]
  rw [hz1]
  clear hz0 hz1
  obtain ⟨b1, p1, q1⟩ := meta_feeds (z := za) (body := Ba) (f := fa) (rs := [(kUn, all)]) 0 0 0 3 [] [] (by omega) hla ba da (by rw [ta]; decide) (.inr rfl) sa la0 (by omega) ra lfa (by simp) (by simp)
  simp only [if_pos, List.nil_append] at p1
  rw [if_neg (by omega)] at p1
  obtain ⟨b2, p2, q2⟩ := meta_feeds (z := zb) (body := Bb) (f := fb) (rs := [(kUn, own)]) (0 + 512 + Ba.length + fa.length) b1 3 2 [(kUn, all)] [] (by omega) hlb bb db (by rw [tb]; decide) (.inl rfl) sb lb0 (by omega) rb lfb (by simp) (by simp)
  simp only [if_pos, List.nil_append] at p2
  rw [if_neg (by omega)] at p2
  obtain ⟨r2, hr2⟩ : ∃ r2, r2 = 0 + 512 + Ba.length + fa.length + 512 + Bb.length + fb.length := ⟨_, rfl⟩
  rw [← hr2] at p2
  have hr2m : r2 % 512 = 0 := by omega
  obtain ⟨e0, m0, s0, u0⟩ := mk_dir ht hf hs hu hg all [(kUn, own)] own (.inr rfl) hoe
  obtain ⟨b3, p3, q3⟩ := dir_feeds r2 b2 2 [(kUn, all)] [(kUn, own)] hr2m hl hb hd (by rw [ht]; decide) m0 s0 Pu.Ac.nil rfl rfl
  obtain ⟨k, rfl⟩ : ∃ k, n = k + 1 := ⟨n - 1, by omega⟩
  obtain ⟨b4, c4, ts, p4, q4, l4, u4⟩ := dirs_feeds hl hb hd ht hf hs hu hg all hae k (r2 + 512) b3 1 { (Pu.Ac.nil : AcE) with ts := (Pu.Ac.nil : AcE).ts ++ [(⟨e0, [], true, r2 + 512⟩ : ThE)] } (by omega) rfl rfl
  have q5 := end_feedsG (r2 + 512 + 512 * k) b4 c4 [(kUn, all)] [] { ({ (Pu.Ac.nil : AcE) with ts := (Pu.Ac.nil : AcE).ts ++ [(⟨e0, [], true, r2 + 512⟩ : ThE)] } : AcE) with ts := ({ (Pu.Ac.nil : AcE) with ts := (Pu.Ac.nil : AcE).ts ++ [(⟨e0, [], true, r2 + 512⟩ : ThE)] } : AcE).ts ++ ts } rfl z0 hl0 hb0
  have hnew : Pu.new fns0 = stG 0 0 0 [] [] := rfl
  obtain ⟨a1, a2⟩ := feeds_app (stG 0 0 0 [] []) [za, Ba, fa] ([zb, Bb, fb] ++ ([zd] ++ (List.replicate k zd ++ [z0, z0])))
  obtain ⟨_, a3⟩ := feeds_app (stG (0 + 512 + Ba.length + fa.length) b1 3 [(kUn, all)] []) [zb, Bb, fb] ([zd] ++ (List.replicate k zd ++ [z0, z0]))
  obtain ⟨_, a4⟩ := feeds_app (stG r2 b2 2 [(kUn, all)] [(kUn, own)]) [zd] (List.replicate k zd ++ [z0, z0])
  obtain ⟨_, a5⟩ := feeds_app (stG (r2 + 512) b3 1 [(kUn, all)] []) (List.replicate k zd) [z0, z0]
  rw [p1] at a2
  rw [p2] at a3
  rw [p3] at a4
  rw [p4] at a5
  have ha : Pu.arcs (Pu.Ac.nil : AcE) (Pu.feeds fns0 (Pu.new fns0) ([za, Ba, fa] ++ ([zb, Bb, fb] ++ ([zd] ++ (List.replicate k zd ++ [z0, z0]))))).2 = some ⟨(⟨e0, [], true, r2 + 512⟩ : ThE) :: ts, false, true, true, 0, 0⟩ := by
    rw [hnew, a2, q1, a3, q2, List.nil_append, List.nil_append, a4, Pu.arcs_append, q3]
    show Pu.arcs _ _ = _
    rw [a5, Pu.arcs_append, q4]
    show Pu.arcs _ _ = _
    rw [q5]
    rfl
  obtain ⟨r1, _⟩ := arch_of ha
  have hfl : ([za, Ba, fa] ++ ([zb, Bb, fb] ++ ([zd] ++ (List.replicate k zd ++ [z0, z0])))).flatten = za ++ Ba ++ fa ++ (zb ++ Bb ++ fb) ++ (List.replicate (k + 1) zd).flatten ++ (z0 ++ z0) := by
    rw [List.replicate_succ]
    simp only [List.cons_append, List.nil_append, List.flatten_cons, List.flatten_append, List.flatten_nil, List.append_nil, List.append_assoc]
  rw [hfl] at r1
  refine ⟨(⟨e0, [], true, r2 + 512⟩ : ThE) :: ts, ?_, by simp [l4], fun i hi => ?_⟩
  · unfold finA
    rw [r1, if_pos rfl]
  · cases i with
    | zero => exact u0
    | succ i =>
      rw [if_neg (by omega)]
      exact u4 _ (List.getElem_mem _)
end Go.Proofs.YtnmmaedngdibeaaGreatDoor

namespace Go.Proofs.YtnmmaedngdibeaaGreatDoor
open Go.RowKit
set_option linter.unusedVariables false
set_option linter.unusedSimpArgs false

theorem byteCells_ints (l : List UInt8) : Lib.byteCells l = (X.ints l).map fun z => Value.int .u8 z := by
  unfold Lib.byteCells X.ints
  rw [List.map_map]
  rfl
theorem recL_len (ty : Int) (v : ByteArray) (hv : v.size ≤ 100) : (recL ty v).length = 1024 := by
  obtain ⟨h0, h1⟩ := bodyU_len v hv
  have hl := hdG_len (n := ⟨#[112]⟩) (ty := ty) (md := 0) (sz := ((bodyU v).length : Int)) textsM (numsM _ (by omega) (by omega))
  unfold recL
  rw [List.length_append, List.length_append, hl, List.length_replicate]
  omega
theorem recL_allB (ty : Int) (v : ByteArray) (ht : 0 ≤ ty ∧ ty ≤ 255) : H.AllB (recL ty v) := fun x hx => by
  unfold recL at hx
  rcases List.mem_append.1 hx with h | h
  · rcases List.mem_append.1 h with h | h
    · exact hdG_allB ht x h
    · exact bodyU_allB v x h
  · rw [List.eq_of_mem_replicate h]; omega

/-- noughts behind bytes of one's own -/
theorem wpList_own_zeros {ops : Array Oper} {rest : List Oper} {o : Oper} {a : Act} {Q : Exit → Act → World → Prop} {W : World} (hgd : o.guard = none) (x1 x2 : Operand) (ho : o.op = .call { callee := .builtin .append, args := #[x1, x2], argTypes := #[22, 3] }) {xs : List Int} {B : Nat} (v : Value) (hs : a.eval x1 = v) (hv : FO W B v xs)
    (h5 : xs.length ≠ 512) (k : Nat) (he : a.eval x2 = .int .i64 (k : Int)) (hl : xs.length + k ≤ 1000000) (hB : B ≤ W.heap.size)
    (h : ∀ v' W', W'.ownsRow 0 5 1 v' (xs ++ List.replicate k 0).length ((xs ++ List.replicate k 0).map fun z => Value.int .u8 z) → Below B W W' → (∀ k, v'.ownBlock = some k → B ≤ k) → wpList Tryz.prog ops Q rest (a.put o.dst v') W') : wpList Tryz.prog ops Q (o :: rest) a W := by
  obtain ⟨i0, hi, hz0, hz1, hz2⟩ := info_parts infoB
  rcases hv with ⟨h1, h2, h3⟩ | ⟨h1, _⟩
  · have hne : v ≠ .slice none 0 0 := fun e => by
      rcases h1.2 with ⟨_, q⟩ | ⟨g, cap, cur, e1, _⟩
      · exact h2 (List.eq_nil_of_length_eq_zero q)
      · rw [e1] at e; cases e
    refine wpList_append_own_zeros W hgd x1 x2 22 3 ho 0 5 .i64 .i64 i0 Tryz.underlying22 Tryz.underlying3 hi hz0 hz1 hz2 v xs.length _ hs h1 hne k he (by omega) (Nat.zero_le _) ?_
    intro v' W' o' g' at2
    have hzk : zc k = (List.replicate k 0).map fun z => Value.int .u8 z := by rw [cells_zc, cells_map]
    rw [hzk, ← List.map_append] at o'
    have hll : xs.length + k = (xs ++ List.replicate k 0).length := by simp
    rw [hll] at o'
    refine h v' W' o' ⟨g'.os, g'.tape, g'.output, g'.size, fun q hq => g'.block q (by omega) (fun e => by have := h3 q e.symm; omega)⟩ (fun k hk => ?_)
    rcases at2 with e | e
    · rw [e] at hk; exact h3 k hk
    · rw [e] at hk; cases hk; exact hB
  · exact absurd h1 h5

theorem encode_one (v : ByteArray) (hv : v.size ≤ 100) (W : World) (g : Nat) (h0 : W.cell? ⟨g, 0, none⟩ = some (.string kUn)) (h1 : W.cell? ⟨g, 1, none⟩ = some (.string v)) (hL : Lb W) :
    Calls Tryz.prog 22 #[.slice (some ⟨g, 0, none⟩) 1 1] W fun e w' => ∃ a c, e = .returned (.tuple #[.slice a (bodyU v).length c, .int .i64 0]) ∧ RIn .u8 w' (.slice a (bodyU v).length c) (bodyU v) ∧ Below W.heap.size W w' := by
  have hk : kUn.size = 5 := rfl
  have hb : X.badKey kUn = false := by decide +kernel
  have hc : X.chk kUn v = 0 := by
    unfold X.chk
    rw [if_neg (by rw [hb]; rintro (h | h); omega; cases h), if_neg (by omega)]
  have hE : X.errTo (fun _ => kUn) (fun _ => v) 1 = 0 := by simp [X.errTo, hc]
  refine (X.enc_w g 0 1 1 (fun _ => kUn) (fun _ => v) W (fun i hi => by obtain rfl : i = 0 := by omega
                                                                        exact ⟨h0, h1⟩) (by omega) (fun i hi => ⟨by show kUn.size ≤ _; omega, by show v.size ≤ _; omega⟩) hL.xv).mono ?_
  rintro e w' ⟨⟨_, u, rfl, o⟩ | ⟨h, _⟩, b⟩
  · have he : X.encL (fun _ => kUn) (fun _ => v) 1 = X.recB kUn v := by simp [X.encL]
    rw [he, byteCells_ints] at o
    have hl : (X.recB kUn v).length = (bodyU v).length := by unfold bodyU X.ints; rw [List.length_map]
    rw [hl] at o
    have o2 : w'.ownsRow 0 5 1 u (bodyU v).length ((bodyU v).map fun z => Value.int .u8 z) := ⟨o.1, o.2.imp id fun ⟨g, cap, cur, e1, _, e3⟩ => ⟨g, cap, cur, e1, Nat.zero_le _, e3⟩⟩
    obtain ⟨a, c, rfl, _⟩ := own_sl o2
    exact ⟨a, c, rfl, own_rin o2, b⟩
  · exact absurd hE h

set_option maxRecDepth 100000 in
set_option maxHeartbeats 4000000 in
theorem rec_w (w : World) (ty : Int) (v : ByteArray) (hty : 0 ≤ ty ∧ ty ≤ 255) (hv : v.size ≤ 100) (hL : Lb w) :
    Calls Tryz.prog 21 #[.int .u8 ty, .string v] w fun e w' => ∃ a c, e = .returned (.slice a 1024 c) ∧ w'.ownsRow 0 5 1 (.slice a 1024 c) 1024 ((recL ty v).map fun z => Value.int .u8 z) ∧ Below w.heap.size w w' ∧ ∀ k, (Value.slice a 1024 c).ownBlock = some k → w.heap.size ≤ k := by
  obtain ⟨PP, hPP⟩ : ∃ PP : Ending → World → Prop, PP = fun e w' => ∃ a c, e = .returned (.slice a 1024 c) ∧ w'.ownsRow 0 5 1 (.slice a 1024 c) 1024 ((recL ty v).map fun z => Value.int .u8 z) ∧ Below w.heap.size w w' ∧ ∀ k, (Value.slice a 1024 c).ownBlock = some k → w.heap.size ≤ k := ⟨_, rfl⟩
  have hrl := recL_len ty v hv
  rw [← hPP]
  have HP : Hid (∀ W a c, W.ownsRow 0 5 1 (.slice a 1024 c) 1024 ((recL ty v).map fun z => Value.int .u8 z) → Below w.heap.size w W → (∀ k, (Value.slice a 1024 c).ownBlock = some k → w.heap.size ≤ k) → PP (.returned (.slice a 1024 c)) W) := fun W a c o b n => by rw [hPP]; exact ⟨a, c, rfl, o, b, n⟩
  clear hPP
  obtain ⟨l0, l1⟩ := bodyU_len v hv
  have hn := numsM ((bodyU v).length : Int) (by omega) (by omega)
  have hlen := hdG_len (n := ⟨#[112]⟩) (ty := ty) (md := 0) (sz := ((bodyU v).length : Int)) textsM hn
  have HE : Hid (∀ W, Below w.heap.size w W → Calls Tryz.prog 20 #[.agg #[.int .i64 0, .string ⟨#[112]⟩, .string ⟨#[]⟩, .string ⟨#[]⟩, .string ⟨#[]⟩, .string ⟨#[]⟩, .int .u8 ty, .int .i64 0, .int .i64 0, .int .i64 0, .int .i64 ((bodyU v).length : Int), .int .i64 0]] W fun e w' =>
      ∃ g, e = .returned (.tuple #[.slice (some ⟨g, 0, none⟩) 512 512, .int .i64 0]) ∧ H.Own W w' g (hdG ⟨#[112]⟩ ty 0 ((bodyU v).length : Int))) := fun W b => enc_fits ⟨#[112]⟩ ty 0 ((bodyU v).length : Int) W textsM hn (hL.below b).laid hty (by omega) (by omega)
  have HN : Hid (∀ W g, Below w.heap.size w W → W.cell? ⟨g, 0, none⟩ = some (.string kUn) → W.cell? ⟨g, 1, none⟩ = some (.string v) → Calls Tryz.prog 22 #[.slice (some ⟨g, 0, none⟩) 1 1] W fun e w' => ∃ a c, e = .returned (.tuple #[.slice a (bodyU v).length c, .int .i64 0]) ∧ RIn .u8 w' (.slice a (bodyU v).length c) (bodyU v) ∧ Below W.heap.size W w') := fun W g b h0 h1 => encode_one v hv W g h0 h1 (hL.below b)
  have hun : recL ty v = hdG ⟨#[112]⟩ ty 0 ((bodyU v).length : Int) ++ bodyU v ++ List.replicate ((512 - (bodyU v).length % 512) % 512) 0 := rfl
  rw [hun] at HP
  clear hrl hun hn hL
  generalize hdG ⟨#[112]⟩ ty 0 ((bodyU v).length : Int) = z at *
  generalize bodyU v = body at *
  have hzz := zeroHdr
  unfold H.hcells at hzz
  have hzne : z ≠ [] := fun e => by rw [e] at hlen; simp at hlen
  have HLN : Hid (z.length = 512) := hlen
  clear hlen
  obtain ⟨pd, hpd⟩ : ∃ pd, pd = (512 - body.length % 512) % 512 := ⟨_, rfl⟩
  rw [← hpd] at HP
  have hpi : (512 - (body.length : Int) % 512) % 512 = (pd : Int) := by omega
  have hp1 : 512 + body.length + pd = 1024 := by omega
  have HP1 : Hid _ := hp1
  clear hpd hp1
  go_enter Tryz.func21, Tryz.ntmps21
  go_upto_region 2 with (first
    | (refine wpList_buildSliceTo rfl 68 59 1 _ rfl w.heap.size rfl _ rfl Tryz.underlying68 #[.string kUn, .string v] (by kernel_rfl) ?_)
    | (go_at_call 22; (refine (HN.out _ w.heap.size ((Below.refl _ w).alloc (Nat.le_refl _) _) (H.new_cell w _ _ 0 _ rfl) (H.new_cell w _ _ 1 _ rfl)).mono ?_); rintro e w1 ⟨ab, cb, rfl, r1, b1⟩))
  have B1 : Below w.heap.size w w1 := ((Below.refl _ w).alloc (Nat.le_refl _) _).trans (b1.mono (by simp))
  have HR1 : Hid _ := r1
  have HB1 : Hid _ := B1
  clear r1 b1 B1 HN
  go_upto_region 3 with (go_at_call 20; refine (HE.out _ HB1.out).mono ?_; rintro e w2 ⟨g, rfl, o2⟩)
  have B2 : Hid (Below w.heap.size w w2) := HB1.out.trans (o2.below.mono HB1.out.size)
  have hcs := own_cells o2 hzne
  have HR2 : Hid (RIn .u8 w2 (.slice ab body.length cb) body) := RIn.below HR1.out o2.below
  have hs2 := B2.out.size
  have HCS : Hid _ := hcs
  clear o2 hcs hzne HR1 HB1 HE
  go_wp2_with (first
    | (at_builtin; refine wpList_fo_app rfl _ _ rfl rfl HLN.out HCS.out _ rfl HR2.out (by have := HLN.out; omega) w.heap.size hs2 ?_; intro v3 w3 fo3 b3; have HFO3 : Hid _ := fo3; have HB3 : Hid (Below w.heap.size w w3) := B2.out.trans b3; clear fo3 b3)
    | (at_builtin; refine wpList_own_zeros rfl _ _ rfl _ rfl HFO3.out (by have := HLN.out; simp only [List.length_append]; omega) pd (by go_simp) (by have := HLN.out; simp only [List.length_append]; omega) HB3.out.size ?_; intro v4 w4 o4 b4 n4; have HO4 : Hid _ := o4; have HB4 : Hid (Below w.heap.size w w4) := HB3.out.trans b4; have HN4 : Hid _ := n4; clear o4 b4 n4))
  have hl4 : (z ++ body ++ List.replicate pd 0).length = 1024 := by have h1 := HLN.out; have h2 := HP1.out; simp only [List.length_append, List.length_replicate]; omega
  have HO5 := HO4.out
  rw [hl4] at HO5
  obtain ⟨a4, c4, rfl, _⟩ := own_sl HO5
  exact HP.out _ _ _ HO5 HB4.out HN4.out
end Go.Proofs.YtnmmaedngdibeaaGreatDoor

namespace Go.Proofs.YtnmmaedngdibeaaGreatDoor
open Go.RowKit
set_option linter.unusedVariables false
set_option linter.unusedSimpArgs false

abbrev zTh2 : Array Value := #[.string ⟨#[]⟩, .string ⟨#[]⟩, .int .i64 0, .int .i64 0, .int .i64 0, .int .i64 0, .int .i64 0, .int .i64 0, .string ⟨#[]⟩, .string ⟨#[]⟩, .string ⟨#[]⟩, .bool false, .int .i64 0]
theorem storedT2 (w : World) (C : Array Value) : ((w.alloc (.cells zTh2 35)).setRow w.heap.size C).heap[w.heap.size]? = some (.cells C 35 (0, 0)) ∧ Below w.heap.size w ((w.alloc (.cells zTh2 35)).setRow w.heap.size C) ∧ ((w.alloc (.cells zTh2 35)).setRow w.heap.size C).heap.size = w.heap.size + 1 :=
  ⟨setRow_heap _ _ _ _ _ _ (heap_alloc_new w _), below_setRow ((Below.refl _ w).alloc (Nat.le_refl _) _) (Nat.le_refl _) _, by simp⟩
theorem th_all2 (t : ThE) : (thCells t).toArray.all (·.oneCell') = true := all_oneCell_toArray (th_one t)
theorem th_user (t : ThE) : (thCells t).toArray[8]? = some (.string t.e.user) := by simp [thCells, E.En.cells]
theorem hdD_w (W : World) (hL : Lb W) : Calls Tryz.prog 20 #[.agg #[.int .i64 0, .string ⟨#[97]⟩, .string ⟨#[]⟩, .string ⟨#[]⟩, .string ⟨#[117]⟩, .string ⟨#[]⟩, .int .u8 53, .int .i64 0, .int .i64 0, .int .i64 0, .int .i64 0, .int .i64 0]] W fun e w' =>
      ∃ g, e = .returned (.tuple #[.slice (some ⟨g, 0, none⟩) 512 512, .int .i64 0]) ∧ H.Own W w' g hdD := by
  refine (H.enc_yes 0 ⟨#[97]⟩ ⟨#[]⟩ ⟨#[]⟩ ⟨#[117]⟩ ⟨#[]⟩ 53 0 0 0 0 0 W textsD hL.laid (by omega) (by omega) (by omega) (by omega) (by omega) (by omega)).mono ?_
  rintro e w' (⟨_, ⟨k, hk, h⟩, _⟩ | ⟨g, rfl, _, o⟩)
  · rw [numsD k hk] at h; cases h
  · exact ⟨g, rfl, o⟩

set_option maxRecDepth 100000 in
set_option maxHeartbeats 8000000 in
theorem global_w (w : World) (ni : Int) (all own : ByteArray) (hL : Lb w) (hF : F.Laid w) :
    Calls Tryz.prog 7 #[.int .i64 ni, .string all, .string own] w fun e w' => e = .returned (.bool true) ∧ Below w.heap.size w w' := by
  obtain ⟨PP, hPP⟩ : ∃ PP : Ending → World → Prop, PP = fun e w' => e = .returned (.bool true) ∧ Below w.heap.size w w' := ⟨_, rfl⟩
  rw [← hPP]
  have HP : Hid (∀ W, Below w.heap.size w W → PP (.returned (.bool true)) W) := fun W b => by rw [hPP]; exact ⟨rfl, b⟩
  clear hPP
  have q0 := reads_w w hL
  by_cases l0 : ni < 1
  · clear hL hF
    go_enter Tryz.func7, Tryz.ntmps7
    go_wp2_with (go_at_call 10; refine q0.mono ?_; rintro e w1 ⟨rfl, b1⟩)
    exact HP.out _ b1
  by_cases l1 : 8 < ni
  · clear hL hF
    go_enter Tryz.func7, Tryz.ntmps7
    go_wp2_with (go_at_call 10; refine q0.mono ?_; rintro e w1 ⟨rfl, b1⟩)
    exact HP.out _ b1
  by_cases l2 : (100 : Int) < (all.size : Int)
  · clear hL hF
    go_enter Tryz.func7, Tryz.ntmps7
    go_wp2_with (go_at_call 10; refine q0.mono ?_; rintro e w1 ⟨rfl, b1⟩)
    exact HP.out _ b1
  by_cases l3 : (100 : Int) < (own.size : Int)
  · clear hL hF
    go_enter Tryz.func7, Tryz.ntmps7
    go_wp2_with (go_at_call 10; refine q0.mono ?_; rintro e w1 ⟨rfl, b1⟩)
    exact HP.out _ b1
  by_cases call : all.toList = []
  · have e2 : all.toList.isEmpty = true := by rw [call]; rfl
    clear hL hF
    go_enter Tryz.func7, Tryz.ntmps7
    go_wp2_with (go_at_call 10; refine q0.mono ?_; rintro e w1 ⟨rfl, b1⟩)
    exact HP.out _ b1
  have iall : all.toList.isEmpty = false := by cases h : all.toList with | nil => exact absurd h call | cons _ _ => rfl
  by_cases cown : own.toList = []
  · have e2 : own.toList.isEmpty = true := by rw [cown]; rfl
    clear hL hF
    go_enter Tryz.func7, Tryz.ntmps7
    go_wp2_with (go_at_call 10; refine q0.mono ?_; rintro e w1 ⟨rfl, b1⟩)
    exact HP.out _ b1
  have iown : own.toList.isEmpty = false := by cases h : own.toList with | nil => exact absurd h cown | cons _ _ => rfl
  obtain ⟨n, rfl⟩ : ∃ n : Nat, ni = (n : Int) := ⟨ni.toNat, by omega⟩
  have hn1 : 1 ≤ n := by omega
  have hn8 : n ≤ 8 := by omega
  have hfi := global_fin n all own hn1 hn8 (by omega) (by omega) iall iown
  have HR1 : Hid (∀ W, Below w.heap.size w W → Calls Tryz.prog 21 #[.int .u8 103, .string all] W fun e w' => ∃ a c, e = .returned (.slice a (recL 103 all).length c) ∧ w'.ownsRow 0 5 1 (.slice a (recL 103 all).length c) (recL 103 all).length ((recL 103 all).map fun z => Value.int .u8 z) ∧ Below W.heap.size W w' ∧ ∀ k, (Value.slice a (recL 103 all).length c).ownBlock = some k → W.heap.size ≤ k) := fun W b => by rw [recL_len 103 all (by omega)]; exact rec_w W 103 all (by omega) (by omega) (hL.below b)
  have HR2 : Hid (∀ W, Below w.heap.size w W → Calls Tryz.prog 21 #[.int .u8 120, .string own] W fun e w' => ∃ a c, e = .returned (.slice a (recL 120 own).length c) ∧ w'.ownsRow 0 5 1 (.slice a (recL 120 own).length c) (recL 120 own).length ((recL 120 own).map fun z => Value.int .u8 z) ∧ Below W.heap.size W w' ∧ ∀ k, (Value.slice a (recL 120 own).length c).ownBlock = some k → W.heap.size ≤ k) := fun W b => by rw [recL_len 120 own (by omega)]; exact rec_w W 120 own (by omega) (by omega) (hL.below b)
  have HE : Hid (∀ W, Below w.heap.size w W → Calls Tryz.prog 20 #[.agg #[.int .i64 0, .string ⟨#[97]⟩, .string ⟨#[]⟩, .string ⟨#[]⟩, .string ⟨#[117]⟩, .string ⟨#[]⟩, .int .u8 53, .int .i64 0, .int .i64 0, .int .i64 0, .int .i64 0, .int .i64 0]] W fun e w' =>
      ∃ g, e = .returned (.tuple #[.slice (some ⟨g, 0, none⟩) 512 512, .int .i64 0]) ∧ H.Own W w' g hdD) := fun W b => hdD_w W (hL.below b)
  have k1 := recL_len 103 all (by omega)
  have k2 := recL_len 120 own (by omega)
  have a1 := recL_allB 103 all (by omega)
  have a2 := recL_allB 120 own (by omega)
  have k3 := hdD_len
  have a3 := hdD_allB
  generalize recL 103 all = P1 at *
  generalize recL 120 own = P2 at *
  generalize hdD = zd at *
  obtain ⟨Z, hZ⟩ : ∃ Z, Z = List.replicate 1024 (0 : Int) := ⟨_, rfl⟩
  have hZl : Z.length = 1024 := by rw [hZ]; exact List.length_replicate
  have hZ0 : ∀ x ∈ Z, x = 0 := fun x hx => by rw [hZ] at hx; exact List.eq_of_mem_replicate hx
  have HZ : Hid (Z = List.replicate 1024 (0 : Int)) := hZ
  rw [← hZ] at hfi
  clear hZ
  have hml : ∀ j : Nat, (P1 ++ P2 ++ (List.replicate j zd).flatten).length = 2048 + 512 * j := fun j => by
    have : ∀ j : Nat, (List.replicate j zd).flatten.length = 512 * j := fun j => by rw [List.length_flatten, List.map_replicate, List.sum_replicate_nat, k3]; omega
    rw [List.length_append, List.length_append, k1, k2, this]
  have HML : Hid _ := hml
  have HFP : Hid (∀ W v, Below w.heap.size w W → RIn .u8 W v (P1 ++ P2 ++ (List.replicate n zd).flatten ++ Z) → Calls Tryz.prog 11 #[v, .slice none 0 0] W fun e w' => ∃ tv, e = .returned (.tuple #[.agg (arC tv (finA (P1 ++ P2 ++ (List.replicate n zd).flatten ++ Z))), .bool true]) ∧ ThS w' tv (finA (P1 ++ P2 ++ (List.replicate n zd).flatten ++ Z)).ts ∧ Below W.heap.size W w' ∧ ∀ k, tv.ownBlock = some k → W.heap.size ≤ k) := fun W v b h =>
    fed_w W _ _ _ [] h (.inl ⟨rfl, rfl⟩) (fun x hx => by
      simp only [List.mem_append] at hx
      rcases hx with ((q | q) | q) | q
      · exact a1 x q
      · exact a2 x q
      · obtain ⟨l, hl, hx⟩ := List.mem_flatten.1 q
        rw [List.eq_of_mem_replicate hl] at hx
        exact a3 x hx
      · rw [hZ0 x q]; omega) (by rw [List.length_append, hml n, hZl]; omega) (by simp) (hL.below b) (hF.below b)
  generalize finA (P1 ++ P2 ++ (List.replicate n zd).flatten ++ Z) = AA at *
  obtain ⟨ts, hAA, hts, hus⟩ := hfi
  have HAA : Hid _ := hAA
  have HUS : Hid (∀ (i : Nat) (h : i < ts.length), ts[i].e.user = if i = 0 then own else all) := hus
  have HTS : Hid (ts.length = n) := hts
  have HK1 : Hid (P1.length = 1024) := k1
  have HK2 : Hid (P2.length = 1024) := k2
  have HK3 : Hid (zd.length = 512) := k3
  have hzne : zd ≠ [] := fun e => by rw [e] at k3; simp at k3
  have HZN : Hid (zd ≠ []) := hzne
  have hzz := zeroHdr
  unfold H.hcells at hzz
  have hzA := zeroAr
  have hzT := zeroTh
  have hsz := sizeAr
  clear hL hF hAA hts hus k1 k2 k3 a1 a2 a3 hZl hZ0 hml hzne
  go_enter Tryz.func7, Tryz.ntmps7
  go_upto_region 6 with (go_at_call 10; refine q0.mono ?_; rintro e w1 ⟨rfl, b1⟩)
  go_upto_region 7 with (first
    | (go_at_call 21; refine (HR2.out _ (b1.trans (b2.mono b1.size))).mono ?_; rintro e w3 ⟨a3, c3, rfl, o3, b3, n3⟩)
    | (go_at_call 21; refine (HR1.out _ b1).mono ?_; rintro e w2 ⟨a2, c2, rfl, o2, b2, n2⟩)
    | (at_builtin; refine wpList_append_u8s rfl _ _ rfl (xs := P1) (ks := P2) _ rfl (own_moved o2 fun k hk => b3.block k (own_lt o2 hk).1) _ rfl (own_rin o3) (by rw [HK1.out, HK2.out]; omega) w1.heap.size (Nat.le_trans b2.size b3.size) n2 ?_; intro v4 w4 o4 b4 n4))
  have hl4 : (P1 ++ P2).length = 2048 + 512 * 0 := by rw [List.length_append, HK1.out, HK2.out]
  rw [hl4] at o4
  obtain ⟨a4, c4, rfl, _⟩ := own_sl o4
  have hm0 : P1 ++ P2 ++ (List.replicate 0 zd).flatten = P1 ++ P2 := by simp
  have O0 : Hid (w4.ownsRow 0 5 1 (.slice a4 (2048 + 512 * 0) c4) (P1 ++ P2 ++ (List.replicate 0 zd).flatten).length ((P1 ++ P2 ++ (List.replicate 0 zd).flatten).map fun z => Value.int .u8 z)) := by rw [hm0, hl4]; exact o4
  have HB4 : Hid (Below w.heap.size w w4) := ((b1.trans (b2.mono b1.size)).trans (b3.mono (Nat.le_trans b1.size b2.size))).trans (b4.mono b1.size)
  have HN4 : Hid (∀ k, (Value.slice a4 (2048 + 512 * 0) c4).ownBlock = some k → w.heap.size ≤ k) := fun k hk => Nat.le_trans b1.size (n4 k hk)
  clear o2 b2 n2 o3 b3 n3 o4 b4 n4 hl4 hm0 HR1 HR2 HK1 HK2 b1
  go_wp2_with fail
  go_loopg [8, 49] n (fun gk t8 t49 W => ∃ (Wn : World) (j : Nat) (ad : Option Addr) (c : Nat), Wn = W ∧ j ≤ n ∧ n - j ≤ gk ∧ t8 = .slice ad (2048 + 512 * j) c ∧ t49 = .int .i64 (j : Int) ∧ Hid (W.ownsRow 0 5 1 (.slice ad (2048 + 512 * j) c) (P1 ++ P2 ++ (List.replicate j zd).flatten).length ((P1 ++ P2 ++ (List.replicate j zd).flatten).map fun z => Value.int .u8 z)) ∧ Hid (Below w.heap.size w W) ∧ Hid (∀ k, (Value.slice ad (2048 + 512 * j) c).ownBlock = some k → w.heap.size ≤ k))
  case atStart => exact ⟨_, 0, a4, c4, rfl, Nat.zero_le _, by omega, rfl, rfl, O0, HB4, HN4⟩
  case round =>
    obtain ⟨W, j, ad, c, rfl, hj0, hgk, rfl, rfl, hO, hBW, hNW⟩ := hrel
    clear O0 HB4 HN4
    by_cases hlt : j < n
    · have hlt1 : (j : Int) < (n : Int) := by omega
      clear HFP HP HAA HUS HTS HZ hzA hzT
      go_upto_region 10 with (go_at_call 20; refine (HE.out _ hBW.out).mono ?_; rintro e w2 ⟨g, rfl, o2⟩)
      have B2 : Hid (Below w.heap.size w w2) := hBW.out.trans (o2.below.mono hBW.out.size)
      have hcs := own_cells o2 HZN.out
      have HO2 : Hid (w2.ownsRow 0 5 1 (.slice ad (2048 + 512 * j) c) (P1 ++ P2 ++ (List.replicate j zd).flatten).length ((P1 ++ P2 ++ (List.replicate j zd).flatten).map fun z => Value.int .u8 z)) := own_moved hO.out fun k hk => o2.below.block k (own_lt hO.out hk).1
      have HRZ : Hid (RIn .u8 w2 (.slice (some ⟨g, 0, none⟩) 512 512) zd) := .inr ⟨⟨g, 0, none⟩, 512, by rw [HK3.out], by rw [HK3.out]; omega, by decide, hcs⟩
      have hs2 := B2.out.size
      have hrep : P1 ++ P2 ++ (List.replicate j zd).flatten ++ zd = P1 ++ P2 ++ (List.replicate (j + 1) zd).flatten := by rw [List.replicate_succ', List.flatten_append, List.append_assoc (P1 ++ P2)]; simp
      have HREP : Hid _ := hrep
      have hl1 : (P1 ++ P2 ++ (List.replicate j zd).flatten).length + zd.length ≤ 1000000 := by rw [HML.out j, HK3.out]; omega
      have HL1 : Hid _ := hl1
      clear o2 hcs hrep hO hl1 HE
      go_wp2_with (at_builtin; refine wpList_append_u8s rfl _ _ rfl (xs := P1 ++ P2 ++ (List.replicate j zd).flatten) (ks := zd) _ rfl HO2.out _ rfl HRZ.out HL1.out w.heap.size hs2 hNW.out ?_; intro v4 w4 o4 b4 n4; rw [HREP.out] at o4; have HO4 : Hid _ := o4; have HB4 : Hid (Below w.heap.size w w4) := B2.out.trans b4; have HN4 : Hid _ := n4; clear o4 b4 n4)
      obtain ⟨a4, c4, rfl, _⟩ := own_sl HO4.out
      have hl4 := HML.out (j + 1)
      have O5 : Hid (w4.ownsRow 0 5 1 (.slice a4 (2048 + 512 * (j + 1)) c4) (P1 ++ P2 ++ (List.replicate (j + 1) zd).flatten).length ((P1 ++ P2 ++ (List.replicate (j + 1) zd).flatten).map fun z => Value.int .u8 z)) := by
        have h := HO4.out
        rw [hl4] at h ⊢
        exact h
      have N5 : Hid (∀ k, (Value.slice a4 (2048 + 512 * (j + 1)) c4).ownBlock = some k → w.heap.size ≤ k) := by
        have h := HN4.out
        rw [hl4] at h
        exact h
      rw [hl4]
      clear HO4 HN4 hl4 B2 HO2 HRZ HREP HL1
      go_roundg (n - (j + 1))
      case rel => exact ⟨_, j + 1, a4, c4, rfl, by omega, Nat.le_refl _, rfl, by simp, O5, HB4, N5⟩
      case measure => omega
    · have hje : j = n := by omega
      subst hje
      have hlj := HML.out j
      have hne : P1 ++ P2 ++ (List.replicate j zd).flatten ≠ [] := fun e => by rw [e] at hlj; simp at hlj; omega
      have hFO : FO W w.heap.size (.slice ad (2048 + 512 * j) c) (P1 ++ P2 ++ (List.replicate j zd).flatten) := .inl ⟨hO.out, hne, hNW.out⟩
      have HFO : Hid _ := hFO
      have hl1 : (P1 ++ P2 ++ (List.replicate j zd).flatten).length + 1024 ≤ 1000000 := by omega
      have HL1 : Hid _ := hl1
      have hsW := hBW.out.size
      clear hlj hne hFO hl1 hO hNW HE
      go_upto_region 13 with (first
        | (at_builtin; refine wpList_fo_zeros rfl _ _ rfl _ rfl HFO.out 1024 (by omega) rfl HL1.out hsW ?_; intro v6 w6 r6 b6; rw [← HZ.out] at r6)
        | (go_at_call 11; refine Calls.mono (HFP.out w6 v6 (hBW.out.trans b6) r6) ?_; rintro e7 w7 ⟨tv, rfl, o7, b7, n7⟩)
        | (refine wpList_store_row rfl 27 _ _ rfl _ (arC tv AA) rfl rfl 27 _ (heap_alloc_new w7 _) hsz rfl (arC_one _ (own_one o7)) ?_))
      rw [HAA.out] at o7 ⊢
      have B7 : Below w.heap.size w w7 := (hBW.out.trans b6).trans (b7.mono (hBW.out.trans b6).size)
      obtain ⟨s1, s2, s3⟩ := stored w7 (arC tv (⟨ts, false, true, true, 0, 0⟩ : AcE))
      have B8 := B7.trans (s2.mono B7.size)
      have o8 : ThS ((w7.alloc (.cells zAr 27)).setRow w7.heap.size (arC tv (⟨ts, false, true, true, 0, 0⟩ : AcE))) tv ts := own_moved o7 fun k hk => s2.block k (own_lt o7 hk).1
      generalize World.setRow _ _ _ = w8 at *
      generalize w7.heap.size = p9 at *
      obtain ⟨G, cG, rfl, hG, hrw⟩ := o8.row 0 (by have := HTS.out; omega)
      clear hrw
      rw [HTS.out] at s1
      have HS8 : Hid _ := s1
      have HO8 : Hid (ThS w8 (.slice (some ⟨G, 0, none⟩) ts.length cG) ts) := o8
      have HB8 : Hid (Below w.heap.size w w8) := B8
      have y9 : ∀ i, w8.cell? ⟨p9, i, none⟩ = (#[.slice (some ⟨G, 0, none⟩) j cG, .bool true, .int .i64 0, .int .i64 0] : Array Value)[i]? := bx2 s1
      have hsT := sizeTh
      have HB88 : Hid (Below w8.heap.size w8 w8) := Below.refl _ _
      clear s1 s2 s3 B7 B8 o7 o8 b6 b7 n7 r6 HFP HFO hBW HL1 HML HZ HZN
      rw [HTS.out]
      go_wp2_with fail
      go_loopg [83] j (fun gk t83 W => ∃ (Wn : World) (i : Nat), Wn = W ∧ i ≤ j ∧ j - i ≤ gk ∧ t83 = .int .i64 (i : Int) ∧ Hid (Below w8.heap.size w8 W))
      case atStart => exact ⟨_, 0, rfl, Nat.zero_le _, by omega, rfl, HB88⟩
      case round =>
        obtain ⟨W, i, rfl, hi0, hgk, rfl, HBW⟩ := hrel
        clear HB88 y9
        by_cases hlt : i < j
        · have hlt1 : (i : Int) < (j : Int) := by omega
          have hit : i < ts.length := by have := HTS.out; omega
          obtain ⟨G2, d2, e2, g2, r2⟩ := HO8.out.row i hit
          cases e2
          have m2 : Hid (W.rangeAt G (i * 13) (thCells ts[i])) := range_moved r2 (HBW.out.block G g2)
          have hu := HUS.out i hit
          generalize ts[i] = t at *
          clear r2 HP HUS HO8 HS8
          go_upto_region 18 with (first
            | (refine wpList_load_mid rfl 35 _ rfl G _ rfl (thCells t) _ m2.out Tryz.underlying35 rfl hsT ?_)
            | (refine wpList_store_row rfl 35 _ _ rfl _ (thCells t).toArray rfl rfl 35 _ (heap_alloc_new W _) hsT rfl (th_all2 t) ?_))
          obtain ⟨s1, s2, s3⟩ := storedT2 W (thCells t).toArray
          have B6 := HBW.out.trans (s2.mono HBW.out.size)
          have y8 : ∀ k v, (thCells t).toArray[k]? = some v → ((W.alloc (.cells zTh2 35)).setRow W.heap.size (thCells t).toArray).cell? ⟨W.heap.size, k, none⟩ = some v := fun k v h => by rw [bx2 s1, h]
          have yu := y8 8 _ (th_user t)
          rw [hu] at yu
          generalize World.setRow _ _ _ = w6 at *
          generalize W.heap.size = q1 at *
          have HB6 : Hid (Below w8.heap.size w8 w6) := B6
          clear s1 s2 s3 B6 m2 y8 hu
          by_cases hi : i = 0
          · subst hi
            rw [if_pos rfl] at yu
            go_wp2_with fail
            go_roundg (j - (0 + 1))
            case rel => exact ⟨_, 0 + 1, rfl, by omega, Nat.le_refl _, by simp, HB6⟩
            case measure => omega
          · rw [if_neg hi] at yu
            have hi1 : ¬ (i : Int) = 0 := by omega
            have hi2 : (0 : Int) < (i : Int) := by omega
            go_wp2_with fail
            go_roundg (j - (i + 1))
            case rel => exact ⟨_, i + 1, rfl, by omega, Nat.le_refl _, by simp, HB6⟩
            case measure => omega
        · have hie : i = j := by omega
          subst hie
          have F := HP.out W (HB8.out.trans (HBW.out.mono HB8.out.size))
          have HF : Hid _ := F
          clear HP F
          go_wp2_with fail
          exact HF.out
end Go.Proofs.YtnmmaedngdibeaaGreatDoor

