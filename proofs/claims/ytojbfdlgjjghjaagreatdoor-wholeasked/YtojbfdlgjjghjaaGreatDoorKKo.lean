/-
  Plain: what was written as a line is read as it was.
-/
import Derived.Test.YtojbfdlgjjghjaaGreatDoorKKj
namespace Go.Proofs.YtojbfdlgjjghjaaGreatDoor.K
open Go.RowKit
open Go.Lib hiding intOf
set_option linter.unusedVariables false
set_option linter.unusedSimpArgs false

/-- the text behind the first word's blank -/
def tailN : List Nat → Ak → Option ByteArray → ByteArray
  | [], _, _ => ⟨#[]⟩
  | [f], a, none => num (a.get f)
  | [f], a, some r => num (a.get f) ++ (sps ++ r)
  | f :: g :: fs, a, e => num (a.get f) ++ (sps ++ tailN (g :: fs) a e)
def setAll : List Nat → Ak → Ak → Ak
  | [], b, _ => b
  | f :: fs, b, a => setAll fs (b.set f (a.get f)) a
def endE : Option ByteArray → ByteArray
  | none => ⟨#[]⟩
  | some r => sps ++ r

theorem numP_get {v : Int} (h0 : 0 ≤ v) (h1 : v ≤ 1048576) : numP (num v) = .inr v ∧ NB (num v) := by
  obtain ⟨n, rfl⟩ : ∃ n : Nat, v = n := ⟨v.toNat, by omega⟩
  exact ⟨by rw [numP_num n (by omega), if_neg (by omega)], num_nb n⟩

theorem goP_fwd : ∀ (fs : List Nat), fs ≠ [] → ∀ (a b : Ak) (e : Option ByteArray), (∀ f ∈ fs, 0 ≤ a.get f ∧ a.get f ≤ 1048576) → goP fs b (tailN fs a e) = .inr (setAll fs b a, e.getD ⟨#[]⟩)
  | [], h, _, _, _, _ => absurd rfl h
  | [f], _, a, b, none, hr => by
    obtain ⟨h0, h1⟩ := hr f (by simp)
    obtain ⟨n1, n2⟩ := numP_get h0 h1
    obtain ⟨c1, c2⟩ := cut_no n2
    simp only [tailN, goP, c1, c2, n1, setAll, Option.getD]
  | [f], _, a, b, some r, hr => by
    obtain ⟨h0, h1⟩ := hr f (by simp)
    obtain ⟨n1, n2⟩ := numP_get h0 h1
    obtain ⟨c1, c2⟩ := cut_app n2 r
    simp only [tailN, goP, c1, c2, n1, setAll, Option.getD]
  | f :: g :: fs, _, a, b, e, hr => by
    obtain ⟨h0, h1⟩ := hr f (by simp)
    obtain ⟨n1, n2⟩ := numP_get h0 h1
    obtain ⟨c1, c2⟩ := cut_app n2 (tailN (g :: fs) a e)
    have ih := goP_fwd (g :: fs) (by simp) a (b.set f (a.get f)) e (fun x hx => hr x (by simp at hx ⊢; exact .inr hx))
    simp only [tailN]
    rw [goP, c1, c2, n1]
    simp only
    rw [ih]
    simp only [setAll]

theorem app_nil (x : ByteArray) : x ++ ⟨#[]⟩ = x := by
  apply ByteArray.ext
  simp [ByteArray.data_append]
theorem app_assoc (a b c : ByteArray) : (a ++ b) ++ c = a ++ (b ++ c) := ByteArray.append_assoc
theorem encN_tail : ∀ (fs : List Nat), fs ≠ [] → ∀ (a : Ak) (P : ByteArray) (e : Option ByteArray), encN fs a P ++ endE e = P ++ (sps ++ tailN fs a e)
  | [], h, _, _, _ => absurd rfl h
  | [f], _, a, P, none => by simp only [encN, tailN, endE]; exact app_nil _
  | [f], _, a, P, some r => by simp only [encN, tailN, endE]; simp [ByteArray.append_assoc]
  | f :: g :: fs, _, a, P, e => by
    have ih := encN_tail (g :: fs) (by simp) a (P ++ (sps ++ num (a.get f))) e
    rw [encN, ih, tailN]
    simp [ByteArray.append_assoc]

theorem flds_ne (k : Nat) (h : 1 ≤ k ∧ k ≤ 11) : flds (k : Int) ≠ [] := by
  unfold flds
  (repeat' split) <;> first | (simp; done) | (exfalso; omega)

/-- digits of bytes, read -/
theorem hx_dgs (i : Nat) (h : i < 16) : hx (dgs.getD i 0) = i := by
  match i, h with
  | 0, _ | 1, _ | 2, _ | 3, _ | 4, _ | 5, _ | 6, _ | 7, _ | 8, _ | 9, _ | 10, _ | 11, _ | 12, _ | 13, _ | 14, _ | 15, _ => decide
  | n + 16, h' => exact absurd h' (by omega)
theorem unsp_sp : ∀ bs : List UInt8, unsp (sp bs) = some bs
  | [] => rfl
  | c :: r => by
    have hc : c.toNat < 256 := c.toNat_lt
    have h1 := hx_dgs (c.toNat / 16) (by omega)
    have h2 := hx_dgs (c.toNat % 16) (by omega)
    rw [sp, unsp, h1, h2, if_neg (by omega), unsp_sp r]
    simp only [Option.map_some, Int.toNat_natCast]
    have e : UInt8.ofNat (16 * (c.toNat / 16) + c.toNat % 16) = c := by
      rw [show 16 * (c.toNat / 16) + c.toNat % 16 = c.toNat by omega]
      simp
    rw [e]

theorem dec_tail (k : Nat) (h : 1 ≤ k ∧ k ≤ 11) (a : Ak) (e : Option ByteArray) (hr : ∀ f ∈ flds (k : Int), 0 ≤ a.get f ∧ a.get f ≤ 1048576) (hs : (encN (flds k) a (wd k) ++ endE e).size ≤ 16384) :
    decP (encN (flds k) a (wd k) ++ endE e) = endP k (.inr (setAll (flds k) ⟨k, 0, 0, 0, ⟨#[]⟩⟩ a, e.getD ⟨#[]⟩)) := by
  rw [encN_tail _ (flds_ne k h)] at hs ⊢
  rw [dec_word k h _ hs, goP_fwd _ (flds_ne k h) a _ e hr]

/-- what was written as a line is read as it was -/
theorem dec_enc (k : Nat) (h : 1 ≤ k ∧ k ≤ 11) (a : Ak) (bs : List UInt8) (hr : ∀ f ∈ flds (k : Int), 0 ≤ a.get f ∧ a.get f ≤ 1048576) (hset : setAll (flds k) ⟨k, 0, 0, 0, ⟨#[]⟩⟩ a = { a with p := ⟨#[]⟩ })
    (hp : (k = 5 ∨ k = 6 ∨ k = 7 ∨ k = 8) ∨ a.p = ⟨#[]⟩) (hb : k = 2 ∨ bs = []) (hs : (encP k a bs).size ≤ 16384) : decP (encP k a bs) = .inr (a, bs) := by
  have ea : ∀ p, p = a.p → ({ ({ a with p := ⟨#[]⟩ } : Ak) with p := p } : Ak) = a := fun p hp => by subst hp; rfl
  unfold encP at hs ⊢
  by_cases c : restP k a.p bs = ⟨#[]⟩
  · rw [if_pos c] at hs ⊢
    have h0 : encN (flds k) a (wd k) = encN (flds k) a (wd k) ++ endE none := (app_nil _).symm
    rw [h0] at hs ⊢
    rw [dec_tail k h a none hr hs, hset]
    simp only [endP, Option.getD]
    unfold restP at c
    unfold lastP
    by_cases c1 : k = 5 ∨ k = 6 ∨ k = 7 ∨ k = 8
    · rw [if_pos c1] at c
      rw [if_pos c1]
      simp only
      have hbs : bs = [] := by rcases hb with h | h; omega; exact h
      rw [hbs, ea _ c.symm]
    · rw [if_neg c1] at c
      have hpe : a.p = ⟨#[]⟩ := by rcases hp with h | h; exact absurd h c1; exact h
      rw [if_neg c1]
      by_cases c2 : k = 2
      · rw [if_pos c2] at c
        rw [if_pos c2]
        have hbs : bs = [] := by
          have := congrArg (fun x : ByteArray => x.data.toList.length) c
          have h2 : (sp bs).length = 0 := this
          rw [sp_length] at h2
          exact List.eq_nil_of_length_eq_zero (by omega)
        subst hbs
        show Sum.inr _ = _
        rw [ea _ hpe.symm]
      · rw [if_neg c2, if_pos rfl]
        have hbs : bs = [] := by rcases hb with h | h; omega; exact h
        simp only
        rw [hbs, ea _ hpe.symm]
  · rw [if_neg c] at hs ⊢
    have h0 : encN (flds k) a (wd k) ++ sps ++ restP k a.p bs = encN (flds k) a (wd k) ++ endE (some (restP k a.p bs)) := by simp [endE, ByteArray.append_assoc]
    rw [h0] at hs ⊢
    rw [dec_tail k h a _ hr hs, hset]
    simp only [endP, Option.getD]
    unfold restP at c ⊢
    unfold lastP
    by_cases c1 : k = 5 ∨ k = 6 ∨ k = 7 ∨ k = 8
    · rw [if_pos c1, if_pos c1]
      simp only
      have hbs : bs = [] := by rcases hb with h | h; omega; exact h
      rw [hbs]
      try rfl
    · have hpe : a.p = ⟨#[]⟩ := by rcases hp with h | h; exact absurd h c1; exact h
      by_cases c2 : k = 2
      · rw [if_neg c1, if_pos c2, if_neg c1, if_pos c2]
        have e2 : (⟨(sp bs).toArray⟩ : ByteArray).data.toList = sp bs := rfl
        rw [e2, unsp_sp]
        simp only [Option.map_some]
        rw [ea _ hpe.symm]
      · rw [if_neg c1, if_neg c2] at c
        exact absurd rfl c

/-- all of an even number of digits -/
theorem unsp_all : ∀ l : List UInt8, l.length % 2 = 0 → ((∀ x ∈ l, 0 ≤ hx x) → ∃ b, unsp l = some b) ∧ ((∃ x ∈ l, hx x < 0) → unsp l = none)
  | [], _ => ⟨fun _ => ⟨[], rfl⟩, fun ⟨x, hx, _⟩ => by cases hx⟩
  | [a], h => by simp at h
  | a :: b :: r, h => by
    obtain ⟨i1, i2⟩ := unsp_all r (by simp at h; omega)
    refine ⟨fun hall => ?_, fun hex => ?_⟩
    · obtain ⟨t, ht⟩ := i1 fun x hx => hall x (by simp [hx])
      have h1 := hall a (by simp)
      have h2 := hall b (by simp)
      exact ⟨_, by rw [unsp, if_neg (by omega), ht]; rfl⟩
    · obtain ⟨x, hxm, hxn⟩ := hex
      rw [unsp]
      by_cases c : hx a < 0 ∨ hx b < 0
      · rw [if_pos c]
      · rw [if_neg c]
        simp at hxm
        rcases hxm with rfl | rfl | hm
        · exact absurd (.inl hxn) c
        · exact absurd (.inr hxn) c
        · rw [i2 ⟨x, hm, hxn⟩]; rfl
theorem sp_hex : ∀ bs : List UInt8, ∀ x ∈ sp bs, 0 ≤ hx x
  | [], x, h => by cases h
  | c :: r, x, h => by
    have hc : c.toNat < 256 := c.toNat_lt
    simp only [sp, List.mem_cons] at h
    rcases h with rfl | rfl | h
    · rw [hx_dgs _ (by omega)]; omega
    · rw [hx_dgs _ (by omega)]; omega
    · exact sp_hex r x h

end Go.Proofs.YtojbfdlgjjghjaaGreatDoor.K
