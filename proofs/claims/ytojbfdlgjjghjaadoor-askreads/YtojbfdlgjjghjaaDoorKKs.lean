/-
  Plain: blanks at a line's end.
-/
import Derived.Test.YtojbfdlgjjghjaaDoorKKr
namespace Go.Proofs.YtojbfdlgjjghjaaDoor.K
open Go.RowKit
open Go.Lib hiding intOf
set_option linter.unusedVariables false
set_option linter.unusedSimpArgs false

def stripL (l : List UInt8) : List UInt8 := (l.reverse.dropWhile (fun x => x == 32)).reverse
theorem stripL_snoc (l : List UInt8) : stripL (l ++ [32]) = stripL l := by simp [stripL]
theorem stripL_end (l : List UInt8) (c : UInt8) (h : c ≠ 32) : stripL (l ++ [c]) = l ++ [c] := by
  have hc : (c == 32) = false := by simpa using h
  simp [stripL, List.dropWhile, hc]
theorem stripL_nil : stripL [] = [] := rfl
theorem stripL_len (l : List UInt8) : (stripL l).length ≤ l.length := by
  unfold stripL
  rw [List.length_reverse]
  have : ∀ m : List UInt8, (m.dropWhile (fun x => x == 32)).length ≤ m.length := fun m => by
    induction m with
    | nil => simp
    | cons a m ih =>
      rw [List.dropWhile_cons]
      split
      · simp; omega
      · simp
  have := this l.reverse
  rw [List.length_reverse] at this
  exact this

/-- a text that ends with no blank -/
def EndOk (t : ByteArray) : Prop := ∃ x c, t.data.toList = x ++ [c] ∧ c ≠ 32
theorem EndOk.strip {t : ByteArray} (h : EndOk t) : stripL t.data.toList = t.data.toList := by
  obtain ⟨x, c, e, hc⟩ := h
  rw [e, stripL_end x c hc]
theorem EndOk.app {t : ByteArray} (h : EndOk t) (l : ByteArray) : EndOk (l ++ t) := by
  obtain ⟨x, c, e, hc⟩ := h
  exact ⟨l.data.toList ++ x, c, by rw [ByteArray.data_append, Array.toList_append, e, List.append_assoc], hc⟩
theorem end_list {l : List UInt8} (hne : l ≠ []) (h : ∀ x ∈ l, x ≠ 32) : EndOk ⟨l.toArray⟩ :=
  ⟨l.dropLast, l.getLast hne, (List.dropLast_concat_getLast hne).symm, h _ (List.getLast_mem hne)⟩
theorem num_end (v : Int) (h : 0 ≤ v) : EndOk (num v) := by
  obtain ⟨n, rfl⟩ : ∃ n : Nat, v = n := ⟨v.toNat, by omega⟩
  have e : num (n : Int) = ⟨(Lib.decDigits n).toArray⟩ := by unfold num; rw [itoa_nat]
  rw [e]
  exact end_list (dec_ne n) fun x hx e => by
    have := dig_range n x hx
    subst e
    exact absurd this.1 (by decide)
theorem sp_end (bs : List UInt8) (h : sp bs ≠ []) : EndOk ⟨(sp bs).toArray⟩ :=
  end_list h fun x hx e => by
    have h1 := sp_hex bs x hx
    subst e
    exact absurd h1 (by decide)
theorem encN_end (a : Ak) : ∀ (fs : List Nat), fs ≠ [] → (∀ f ∈ fs, 0 ≤ a.get f) → ∀ l, EndOk (encN fs a l)
  | [], h, _, _ => absurd rfl h
  | [f], _, hr, l => by
    simp only [encN]
    exact ((num_end _ (hr f (by simp))).app _).app _
  | f :: g :: fs, _, hr, l => by
    rw [encN]
    exact encN_end a (g :: fs) (by simp) (fun x hx => hr x (by simp at hx ⊢; exact .inr hx)) _

/-- a line without blanks at its end, where no path is asked -/
def finB (a : Ak) (s : ByteArray) : ByteArray := if a.p = ⟨#[]⟩ then ⟨(stripL s.data.toList).toArray⟩ else s
theorem arr_eta (s : ByteArray) : (⟨s.data.toList.toArray⟩ : ByteArray) = s := by cases s; rfl
theorem finB_size (a : Ak) (s : ByteArray) : (finB a s).size ≤ s.size := by
  unfold finB
  split
  · show (stripL s.data.toList).toArray.size ≤ _
    rw [List.size_toArray]
    exact stripL_len _
  · exact Nat.le_refl _
theorem fin_enc {s : ByteArray} {a : Ak} {bs : List UInt8} {k : Nat} {e : Option ByteArray} (hk : 1 ≤ k ∧ k ≤ 11) (hr : ∀ f ∈ flds (k : Int), 0 ≤ a.get f ∧ a.get f ≤ 1048576)
    (hp : (k = 5 ∨ k = 6 ∨ k = 7 ∨ k = 8) ∨ a.p = ⟨#[]⟩) (hs : s = encN (flds k) a (wd k) ++ endE e) (hrest : restP k a.p bs = e.getD ⟨#[]⟩) : finB a s = encP k a bs := by
  have hL := encN_end a (flds (k : Int)) (flds_ne k hk) (fun f hf => (hr f hf).1) (wd k)
  unfold encP
  generalize encN (flds (k : Int)) a (wd k) = L at *
  cases e with
  | none =>
    have h0 : restP k a.p bs = ⟨#[]⟩ := hrest
    rw [if_pos h0]
    have e1 : s = L := by rw [hs]; exact app_nil L
    unfold finB
    split
    · rw [e1, hL.strip, arr_eta]
    · exact e1
  | some r =>
    have h0 : restP k a.p bs = r := hrest
    by_cases c : r = ⟨#[]⟩
    · rw [if_pos (by rw [h0]; exact c)]
      have hpe : a.p = ⟨#[]⟩ := by
        rcases hp with h | h
        · unfold restP at h0; rw [if_pos h] at h0; rw [h0]; exact c
        · exact h
      unfold finB
      rw [if_pos hpe]
      have e1 : s.data.toList = L.data.toList ++ [32] := by
        rw [hs, c]
        simp [endE, ByteArray.data_append, sps]
      rw [e1, stripL_snoc, hL.strip, arr_eta]
    · rw [if_neg (by rw [h0]; exact c), h0]
      have e1 : s = L ++ sps ++ r := by rw [hs, endE, ByteArray.append_assoc]
      unfold finB
      by_cases hpe : a.p = ⟨#[]⟩
      · rw [if_pos hpe]
        have hE : EndOk r := by
          unfold restP at h0
          by_cases q1 : k = 5 ∨ k = 6 ∨ k = 7 ∨ k = 8
          · rw [if_pos q1] at h0
            rw [← h0] at c
            exact absurd hpe c
          · rw [if_neg q1] at h0
            by_cases q2 : k = 2
            · rw [if_pos q2] at h0
              rw [← h0]
              refine sp_end bs fun hn => c ?_
              rw [← h0, hn]
            · rw [if_neg q2] at h0
              exact absurd h0.symm c
        rw [e1, (hE.app (L ++ sps)).strip, arr_eta]
      · rw [if_neg hpe]
        exact e1

/-- two lines that ask the same are the same, but for blanks at an end -/
theorem one_plain {s1 s2 : ByteArray} {a1 a2 : Ak} {b1 b2 : List UInt8} (h1 : decP s1 = .inr (a1, b1)) (h2 : decP s2 = .inr (a2, b2)) : finB a1 s1 = finB a2 s2 ↔ a1 = a2 ∧ b1 = b2 := by
  obtain ⟨k1, e1, k1a, k1b, k1c, k1d, k1e, k1f, k1g, k1h, k1i⟩ := dec_back h1
  obtain ⟨k2, e2, k2a, k2b, k2c, k2d, k2e, k2f, k2g, k2h, k2i⟩ := dec_back h2
  have f1 := fin_enc (bs := b1) k1a k1c k1e k1g k1h
  have f2 := fin_enc (bs := b2) k2a k2c k2e k2g k2h
  have z1 := finB_size a1 s1
  have z2 := finB_size a2 s2
  constructor
  · intro he
    have d1 := dec_enc k1 k1a a1 b1 k1c k1d k1e k1f (by rw [← f1]; omega)
    have d2 := dec_enc k2 k2a a2 b2 k2c k2d k2e k2f (by rw [← f2]; omega)
    rw [← f1, he, f2, d2] at d1
    injection d1 with d1
    injection d1 with q1 q2
    exact ⟨q1.symm, q2.symm⟩
  · rintro ⟨rfl, rfl⟩
    have hk : k1 = k2 := by rw [k1b] at k2b; omega
    subst hk
    rw [f1, f2]
theorem dec_err {s : ByteArray} {x : Int} (h : decP s = .inl x) : x = 2 ∨ x = 200 ∨ x = 1 := by
  unfold decP at h
  split at h
  · injection h with h; exact .inl h.symm
  · split at h
    · injection h with h; exact .inr (.inl h.symm)
    · split at h
      · rename_i e hg
        injection h with h
        subst h
        have : ∀ (fs : List Nat) (b : Ak) (r : ByteArray) (x : Int), goP fs b r = .inl x → x = 200 ∨ x = 1 := by
          intro fs
          induction fs with
          | nil => intro b r x h; simp only [goP] at h; cases h
          | cons f fs ih =>
            intro b r x h
            rw [goP] at h
            cases hx : numP (cutW r) with
            | inl e => rw [hx] at h; injection h with h; subst h; exact numP_bad hx
            | inr v => rw [hx] at h; exact ih _ _ _ h
        rcases this _ _ _ _ hg with h | h
        · exact .inr (.inl h)
        · exact .inr (.inr h)
      · split at h
        · injection h with h; exact .inr (.inl h.symm)
        · cases h

/-- where a line stands while blanks are taken -/
def Stb (a : Ak) (s s' : ByteArray) : Prop := (s' = s ∨ a.p = ⟨#[]⟩) ∧ (a.p = ⟨#[]⟩ → stripL s'.data.toList = stripL s.data.toList) ∧ s'.size ≤ s.size
theorem Stb.start (a : Ak) (s : ByteArray) : Stb a s s := ⟨.inl rfl, fun _ => rfl, Nat.le_refl _⟩
theorem ext_take (s : ByteArray) (i : Nat) : (s.extract 0 i).data.toList = s.data.toList.take i := by simp [ByteArray.data_extract]
theorem snoc_of (s : ByteArray) (h : 0 < s.size) : s.data.toList = (s.extract 0 (s.size - 1)).data.toList ++ [s.data.toList[s.size - 1]'(by show s.size - 1 < s.size; omega)] := by
  have hl : s.data.toList.length = s.size := rfl
  have e1 := ext_take s (s.size - 1)
  rw [e1, List.take_append_getElem (by rw [hl]; omega), show s.size - 1 + 1 = s.data.toList.length by rw [hl]; omega, List.take_length]
theorem Stb.next {a : Ak} {s s' : ByteArray} (h : Stb a s s') (hz : 0 < s'.size) (hc : s'.data.toList[s'.size - 1]'(by show s'.size - 1 < s'.size; omega) = 32) (hp : a.p = ⟨#[]⟩) : Stb a s (s'.extract 0 (s'.size - 1)) := by
  refine ⟨.inr hp, fun _ => ?_, ?_⟩
  · rw [← h.2.1 hp]
    have := snoc_of s' hz
    rw [hc] at this
    rw [this, stripL_snoc]
  · rw [ByteArray.size_extract]; have := h.2.2; omega
theorem Stb.none {a : Ak} {s s' : ByteArray} (h : Stb a s s') (hz : s'.size = 0) : s' = finB a s := by
  unfold finB
  split
  · rename_i hp
    rw [← h.2.1 hp]
    have : s'.data.toList = [] := List.eq_nil_of_length_eq_zero hz
    rw [this, stripL_nil]
    have e2 := arr_eta s'
    rw [this] at e2
    exact e2.symm
  · rename_i hp
    rcases h.1 with h1 | h1
    · exact h1
    · exact absurd h1 hp
theorem Stb.other {a : Ak} {s s' : ByteArray} (h : Stb a s s') (hz : 0 < s'.size) (hc : s'.data.toList[s'.size - 1]'(by show s'.size - 1 < s'.size; omega) ≠ 32) : s' = finB a s := by
  unfold finB
  split
  · rename_i hp
    rw [← h.2.1 hp, snoc_of s' hz, stripL_end _ _ hc, ← snoc_of s' hz, arr_eta]
  · rename_i hp
    rcases h.1 with h1 | h1
    · exact h1
    · exact absurd h1 hp
theorem Stb.path {a : Ak} {s s' : ByteArray} (h : Stb a s s') (hp : ¬ a.p = ⟨#[]⟩) : s' = finB a s := by
  unfold finB
  rw [if_neg hp]
  rcases h.1 with h1 | h1
  · exact h1
  · exact absurd h1 hp

end Go.Proofs.YtojbfdlgjjghjaaDoor.K
