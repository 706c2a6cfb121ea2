/-
  Plain: a line that is read is the one that would be written, but for blanks at its end.
-/
import Derived.Test.YtojbfdlgjjghjaaDoorKKo
namespace Go.Proofs.YtojbfdlgjjghjaaDoor.K
open Go.RowKit
open Go.Lib hiding intOf
set_option linter.unusedVariables false
set_option linter.unusedSimpArgs false

theorem index_neg (c : UInt8) : ∀ l : List UInt8, Lib.indexByte l c < 0 → c ∉ l
  | [], _ => by simp
  | b :: l, h => by
    have hg := indexByte_ge c l
    unfold Lib.indexByte at h
    split at h
    · omega
    · rename_i hb
      split at h
      · rename_i hn
        have h1 : Lib.indexByte l c = -1 := by simpa using hn
        have := index_neg c l (by omega)
        have hb' : ¬ b = c := by simpa using hb
        intro hm
        rcases List.mem_cons.1 hm with e | e
        · exact hb' e.symm
        · exact this e
      · rename_i hn
        have h1 : ¬ Lib.indexByte l c = -1 := by simpa using hn
        omega
theorem index_split (c : UInt8) : ∀ (l : List UInt8) (i : Nat), Lib.indexByte l c = i → l = l.take i ++ c :: l.drop (i + 1) ∧ c ∉ l.take i ∧ i < l.length
  | [], i, h => by simp [Lib.indexByte] at h
  | b :: l, i, h => by
    have hg := indexByte_ge c l
    unfold Lib.indexByte at h
    split at h
    · rename_i hb
      obtain rfl : i = 0 := by omega
      have hb' : b = c := by simpa using hb
      subst hb'
      simp
    · rename_i hb
      have hb' : ¬ b = c := by simpa using hb
      split at h
      · omega
      · rename_i hn
        have hn2 : ¬ Lib.indexByte l c = -1 := by simpa using hn
        obtain ⟨j, rfl⟩ : ∃ j, i = j + 1 := ⟨i - 1, by omega⟩
        obtain ⟨h1, h2, h3⟩ := index_split c l j (by omega)
        refine ⟨?_, ?_, by simp; omega⟩
        · simp only [List.take_succ_cons, List.drop_succ_cons, List.cons_append]
          rw [← h1]
        · simp only [List.take_succ_cons, List.mem_cons, not_or]
          exact ⟨fun e => hb' e.symm, h2⟩

theorem cut_or (s : ByteArray) : NB (cutW s) ∧ ((s = cutW s ∧ cutR s = ⟨#[]⟩) ∨ s = cutW s ++ (sps ++ cutR s)) := by
  unfold cutW cutR
  by_cases c : bl s < 0
  · rw [if_pos c, if_pos c]
    exact ⟨index_neg 32 _ c, .inl ⟨rfl, rfl⟩⟩
  · rw [if_neg c, if_neg c]
    obtain ⟨i, hi⟩ : ∃ i : Nat, bl s = i := ⟨(bl s).toNat, by omega⟩
    obtain ⟨h1, h2, h3⟩ := index_split 32 s.data.toList i hi
    rw [hi, Int.toNat_natCast]
    have e1 : (s.extract 0 i).data.toList = s.data.toList.take i := by simp [ByteArray.data_extract]
    have e2 : (s.extract (i + 1) s.size).data.toList = s.data.toList.drop (i + 1) := by
      rw [ByteArray.data_extract, Array.toList_extract, List.extract_eq_take_drop]
      exact List.take_of_length_le (by rw [List.length_drop]; exact Nat.le_refl _)
    refine ⟨?_, .inr ?_⟩
    · unfold NB; rw [e1]; exact h2
    · apply ByteArray.ext
      apply Array.ext'
      simp only [ByteArray.data_append, Array.toList_append]
      rw [e1, e2]
      have e3 : sps.data.toList = [32] := rfl
      rw [e3, List.singleton_append]
      exact h1

theorem numP_nil : numP ⟨#[]⟩ = .inl 200 := by kernel_rfl
theorem cutW_nil : cutW ⟨#[]⟩ = ⟨#[]⟩ := by kernel_rfl

theorem Ak.get_set (a : Ak) (f g : Nat) (v : Int) (hf : f = 1 ∨ f = 2 ∨ f = 3) (hg : g = 1 ∨ g = 2 ∨ g = 3) : (a.set f v).get g = if g = f then v else a.get g := by
  rcases hf with rfl | rfl | rfl <;> rcases hg with rfl | rfl | rfl <;> rfl
theorem setAll_get (a : Ak) (f : Nat) (hf : f = 1 ∨ f = 2 ∨ f = 3) : ∀ (fs : List Nat) (b : Ak), (∀ g ∈ fs, g = 1 ∨ g = 2 ∨ g = 3) → f ∉ fs → (setAll fs b a).get f = b.get f
  | [], b, _, _ => rfl
  | g :: fs, b, hg, hn => by
    rw [setAll, setAll_get a f hf fs _ (fun x hx => hg x (by simp [hx])) (fun h => hn (by simp [h])), Ak.get_set b g f _ (hg g (by simp)) hf, if_neg (fun e => hn (by simp [e]))]

theorem goP_back : ∀ (fs : List Nat), fs.Nodup → (∀ g ∈ fs, g = 1 ∨ g = 2 ∨ g = 3) → ∀ (b : Ak) (r : ByteArray) (a' : Ak) (r' : ByteArray), goP fs b r = .inr (a', r') →
    (∀ f ∈ fs, 0 ≤ a'.get f ∧ a'.get f ≤ 1048576) ∧ a' = setAll fs b a' ∧ (fs ≠ [] → ∃ e : Option ByteArray, r = tailN fs a' e ∧ r' = e.getD ⟨#[]⟩)
  | [], _, _, b, r, a', r', h => by
    simp only [goP] at h
    injection h with h
    injection h with h1 h2
    exact ⟨fun f hf => (by cases hf), h1.symm, fun h => absurd rfl h⟩
  | f :: fs, hnd, hg, b, r, a', r', h => by
    obtain ⟨hf, hnd'⟩ := List.nodup_cons.1 hnd
    rw [goP] at h
    cases hx : numP (cutW r) with
    | inl e => rw [hx] at h; cases h
    | inr v =>
      rw [hx] at h
      simp only at h
      obtain ⟨i1, i2, i3⟩ := goP_back fs hnd' (fun x hx => hg x (by simp [hx])) _ _ _ _ h
      obtain ⟨v1, v2, v3⟩ := numP_ok hx
      have hfv : a'.get f = v := by
        rw [i2, setAll_get a' f (hg f (by simp)) fs _ (fun x hx => hg x (by simp [hx])) hf, Ak.get_set b f f v (hg f (by simp)) (hg f (by simp)), if_pos rfl]
      refine ⟨fun g hgm => ?_, by rw [setAll, hfv]; exact i2, fun _ => ?_⟩
      · rcases List.mem_cons.1 hgm with rfl | h2
        · rw [hfv]; exact ⟨v2, v3⟩
        · exact i1 g h2
      · obtain ⟨_, hc⟩ := cut_or r
        cases fs with
        | nil =>
          simp only [goP] at h
          injection h with h
          injection h with h1 h2
          rcases hc with ⟨c1, c2⟩ | c1
          · exact ⟨none, by rw [tailN, hfv, v1]; exact c1, by rw [← h2, c2]; rfl⟩
          · exact ⟨some (cutR r), by rw [tailN, hfv, v1]; exact c1, h2.symm⟩
        | cons g fs' =>
          obtain ⟨e, e1, e2⟩ := i3 (by simp)
          rcases hc with ⟨c1, c2⟩ | c1
          · rw [c2, goP, cutW_nil, numP_nil] at h
            cases h
          · exact ⟨e, by rw [tailN, hfv, v1, ← e1]; exact c1, e2⟩

theorem flds_nodup (k : Int) : (flds k).Nodup := by
  unfold flds
  (repeat' split) <;> simp

/-- digits are the bytes' own -/
theorem dgs_hx (x : UInt8) (h : 0 ≤ hx x) : dgs.getD (hx x).toNat 0 = x := by
  have H : ∀ n : Fin 256, 0 ≤ hx (UInt8.ofNat n.val) → dgs.getD (hx (UInt8.ofNat n.val)).toNat 0 = UInt8.ofNat n.val := by decide +kernel
  have := H ⟨x.toNat, x.toNat_lt⟩
  simp only [UInt8.ofNat_toNat] at this
  exact this h
theorem sp_unsp : ∀ (l bs : List UInt8), unsp l = some bs → l = sp bs
  | [], bs, h => by simp only [unsp] at h; cases h; rfl
  | [a], bs, h => by simp only [unsp] at h; cases h
  | a :: b :: r, bs, h => by
    rw [unsp] at h
    split at h
    · cases h
    · rename_i hn
      cases hu : unsp r with
      | none => rw [hu] at h; cases h
      | some t =>
        rw [hu] at h
        simp only [Option.map_some] at h
        injection h with h
        subst h
        have ha := hx_ge a
        have hb := hx_ge b
        have e1 := dgs_hx a (by omega)
        have e2 := dgs_hx b (by omega)
        have hz : (UInt8.ofNat (16 * (hx a).toNat + (hx b).toNat)).toNat = 16 * (hx a).toNat + (hx b).toNat := by rw [UInt8.toNat_ofNat']; omega
        rw [sp, hz, show (16 * (hx a).toNat + (hx b).toNat) / 16 = (hx a).toNat by omega, show (16 * (hx a).toNat + (hx b).toNat) % 16 = (hx b).toNat by omega, e1, e2, ← sp_unsp r t hu]

theorem encN_p (a : Ak) (p : ByteArray) : ∀ (fs : List Nat) (l : ByteArray), encN fs { a with p := p } l = encN fs a l
  | [], l => rfl
  | f :: fs, l => by rw [encN, encN, encN_p a p fs]; rfl
theorem wd_kind {t : ByteArray} {k : Nat} (h : kindP t = k) (hk : k ≠ 0) : t = wd k := by
  have : ∀ (f j : Nat), kindFrom f j t ≠ 0 → t = wd (kindFrom f j t) := by
    intro f
    induction f with
    | zero => intro j h; exact absurd rfl h
    | succ f ih =>
      intro j h
      unfold kindFrom at h ⊢
      split
      · rename_i e; exact e.symm
      · rename_i e
        rw [if_neg e] at h
        exact ih (j + 1) h
  have h2 := this 11 1 (by unfold kindP at h; rw [h]; exact hk)
  unfold kindP at h
  rw [h] at h2
  exact h2

/-- what a line that is read is -/
theorem dec_back {s : ByteArray} {a : Ak} {bs : List UInt8} (h : decP s = .inr (a, bs)) :
    ∃ (k : Nat) (e : Option ByteArray), (1 ≤ k ∧ k ≤ 11) ∧ a.k = (k : Int) ∧ (∀ f ∈ flds (k : Int), 0 ≤ a.get f ∧ a.get f ≤ 1048576) ∧ setAll (flds k) ⟨k, 0, 0, 0, ⟨#[]⟩⟩ a = { a with p := ⟨#[]⟩ } ∧
      ((k = 5 ∨ k = 6 ∨ k = 7 ∨ k = 8) ∨ a.p = ⟨#[]⟩) ∧ (k = 2 ∨ bs = []) ∧ s = encN (flds k) a (wd k) ++ endE e ∧ restP k a.p bs = e.getD ⟨#[]⟩ ∧ s.size ≤ 16384 := by
  unfold decP at h
  by_cases c0 : 16384 < s.size
  · rw [if_pos c0] at h; cases h
  rw [if_neg c0] at h
  by_cases c1 : kindP (cutW s) = 0
  · rw [if_pos c1] at h; cases h
  rw [if_neg c1] at h
  obtain ⟨k, hk⟩ : ∃ k, kindP (cutW s) = k := ⟨_, rfl⟩
  have hle := kindP_le (cutW s)
  rw [hk] at h c1 hle
  have hw := wd_kind hk c1
  cases hg : goP (flds (k : Int)) { Ak.zero with k := (k : Int) } (cutR s) with
  | inl e => rw [hg] at h; cases h
  | inr q =>
    obtain ⟨a1, r⟩ := q
    rw [hg] at h
    simp only at h
    obtain ⟨g1, g2, g3⟩ := goP_back _ (flds_nodup k) (flds_mem k) _ _ _ _ hg
    obtain ⟨e, e1, e2⟩ := g3 (flds_ne k (by omega))
    cases hl : lastP k r with
    | none => rw [hl] at h; cases h
    | some pb =>
      obtain ⟨p, b⟩ := pb
      rw [hl] at h
      simp only at h
      injection h with h
      injection h with h1 h2
      subst h1 h2
      have hk1 : a1.k = (k : Int) ∧ a1.p = ⟨#[]⟩ := by
        have S : ∀ (fs : List Nat) (b0 : Ak), (setAll fs b0 a1).k = b0.k ∧ (setAll fs b0 a1).p = b0.p := by
          intro fs
          induction fs with
          | nil => intro b0; exact ⟨rfl, rfl⟩
          | cons f fs ih => intro b0; rw [setAll]; have := ih (b0.set f (a1.get f)); rw [this.1, this.2, Ak.set_k, Ak.set_p]; exact ⟨rfl, rfl⟩
        have := S (flds k) { Ak.zero with k := (k : Int) }
        rw [← g2] at this
        exact this
      have hset : setAll (flds k) ⟨k, 0, 0, 0, ⟨#[]⟩⟩ ({ a1 with p := p } : Ak) = { ({ a1 with p := p } : Ak) with p := ⟨#[]⟩ } := by
        have S : ∀ (fs : List Nat) (b0 : Ak), setAll fs b0 ({ a1 with p := p } : Ak) = setAll fs b0 a1 := by
          intro fs
          induction fs with
          | nil => intro b0; rfl
          | cons f fs ih => intro b0; rw [setAll, setAll]; exact ih _
        rw [S]
        have e3 : ({ ({ a1 with p := p } : Ak) with p := ⟨#[]⟩ } : Ak) = a1 := by
          obtain ⟨k', t, n, c, p'⟩ := a1
          simp only at hk1
          rw [hk1.2]
        rw [e3]
        exact g2.symm
      have hs : s = encN (flds k) ({ a1 with p := p } : Ak) (wd k) ++ endE e := by
        rw [encN_p, encN_tail _ (flds_ne k (by omega)), ← e1, ← hw]
        rcases (cut_or s).2 with ⟨d1, d2⟩ | d1
        · exfalso
          rw [d2] at hg
          obtain ⟨f, fs, hff⟩ := List.exists_cons_of_ne_nil (flds_ne k (by omega))
          rw [hff, goP, cutW_nil, numP_nil] at hg
          cases hg
        · exact d1
      refine ⟨k, e, by omega, hk1.1, g1, hset, ?_, ?_, hs, ?_, by omega⟩
      all_goals
        unfold lastP at hl
        by_cases q1 : k = 5 ∨ k = 6 ∨ k = 7 ∨ k = 8
        · rw [if_pos q1] at hl
          injection hl with hl
          injection hl with l1 l2
          first
            | exact .inl q1
            | exact .inr l2.symm
            | (unfold restP; rw [if_pos q1, ← e2, ← l1])
        · rw [if_neg q1] at hl
          by_cases q2 : k = 2
          · rw [if_pos q2] at hl
            cases hu : unsp r.data.toList with
            | none => rw [hu] at hl; cases hl
            | some t =>
              rw [hu] at hl
              simp only [Option.map_some] at hl
              injection hl with hl
              injection hl with l1 l2
              first
                | exact .inr l1.symm
                | exact .inl q2
                | (unfold restP
                   rw [if_neg q1, if_pos q2, ← e2, ← l2, ← sp_unsp _ _ hu])
          · rw [if_neg q2] at hl
            by_cases q3 : r = ⟨#[]⟩
            · rw [if_pos q3] at hl
              injection hl with hl
              injection hl with l1 l2
              first
                | exact .inr l1.symm
                | exact .inr l2.symm
                | (unfold restP; rw [if_neg q1, if_neg q2, ← e2, q3])
            · rw [if_neg q3] at hl; cases hl

end Go.Proofs.YtojbfdlgjjghjaaDoor.K
