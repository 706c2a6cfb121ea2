/-
  Contract: path.Up; plain: what lies in what.
-/
import Derived.Test.YtpgiibpalmhhlaaGreatDoorFns
namespace Go.Proofs.YtpgiibpalmhhlaaGreatDoor
open Go.RowKit
open Go.Lib hiding intOf
set_option linter.unusedVariables false
set_option linter.unusedSimpArgs false

theorem spl_append : ∀ a b : List UInt8, spl (a ++ 47 :: b) = spl a ++ spl b
  | [], b => spl_slash b
  | c :: l, b => by
    by_cases e : c = 47
    · subst e; rw [List.cons_append, spl_slash, spl_slash, spl_append l b]; rfl
    · obtain ⟨x, r, h1, h2⟩ := spl_other c (l ++ 47 :: b) e
      obtain ⟨y, t, h3, h4⟩ := spl_other c l e
      rw [List.cons_append, h2, h4]
      rw [spl_append l b, h3] at h1
      obtain ⟨rfl, rfl⟩ := List.cons.inj h1
      rfl

theorem jn_nil_iff (ps : List (List UInt8)) (h : ∀ p ∈ ps, Good p) : jn ps = [] ↔ ps = [] := by
  cases ps with
  | nil => simp [jn_nil]
  | cons p r => simp only [reduceCtorEq, iff_false]; exact jn_ne p r (h p (by simp)).1

theorem jn_inj (a b : List (List UInt8)) (ha : ∀ p ∈ a, Good p) (hb : ∀ p ∈ b, Good p) (h : jn a = jn b) : a = b := by
  have h1 := prt_jn a ha
  have h2 := prt_jn b hb
  rw [h, h2] at h1
  exact h1.symm

theorem und_jn (m l : List (List UInt8)) (hm : ∀ p ∈ m, Good p) (hl : ∀ p ∈ l, Good p) : und (jn m) (jn l) = decide (m <+: l) := by
  rw [Bool.eq_iff_iff, decide_eq_true_iff]
  unfold und Lib.hasPrefix
  simp only [Bool.and_eq_true, Bool.or_eq_true, List.isPrefixOf_iff_prefix, List.isEmpty_iff, decide_eq_true_eq]
  constructor
  · rintro ⟨⟨rest, h1⟩, h2⟩
    rw [← h1, List.drop_left] at h2
    by_cases hmn : m = []
    · subst hmn; exact List.nil_prefix
    · have hj : jn m ≠ [] := fun e => hmn ((jn_nil_iff m hm).1 e)
      have hln : l ≠ [] := by
        rintro rfl
        rw [jn_nil] at h1
        exact hj (List.append_eq_nil_iff.1 h1).1
      rcases h2 with (h2 | h2) | h2
      · exact absurd h2 hj
      · subst h2
        rw [List.append_nil] at h1
        rw [jn_inj m l hm hl h1]
        exact List.prefix_rfl
      · cases rest with
        | nil => simp at h2
        | cons c r =>
          simp at h2
          subst h2
          have e := congrArg spl h1
          rw [spl_append, spl_jn m hmn (fun p hp => (hm p hp).snd.1), spl_jn l hln (fun p hp => (hl p hp).snd.1)] at e
          exact ⟨_, e⟩
  · rintro ⟨t, rfl⟩
    by_cases hmn : m = []
    · subst hmn; exact ⟨List.nil_prefix, .inl (.inl jn_nil)⟩
    · by_cases ht : t = []
      · subst ht
        rw [List.append_nil]
        exact ⟨List.prefix_rfl, .inl (.inr (by simp))⟩
      · rw [jn_append m t hmn ht]
        exact ⟨⟨_, rfl⟩, .inr (by rw [List.drop_left]; rfl)⟩

/-- all of a text ahead of its last slash -/
def upL (l : List UInt8) : List UInt8 := l.take (Lib.lastIndexByte (bs l) 47).toNat

theorem last_none (l : List UInt8) (h : 47 ∉ l) : Lib.lastIndexByte (bs l) 47 = -1 := by
  rcases Lib.lastIdx_spec (bs l) 47 (bs l).size with ⟨h1, _⟩ | ⟨i, hi, _, h2, _⟩
  · exact h1
  · exfalso
    have hi' : i < l.length := by rw [← bs_size]; exact hi
    have e : ((bs l).data[i]!) = l[i] := by simp [bs, hi']
    rw [e] at h2
    have : l[i] = 47 := UInt8.toNat_inj.1 (show l[i].toNat = 47 by omega)
    exact h (this ▸ List.getElem_mem hi')

theorem last_at (a b : List UInt8) (h : 47 ∉ b) : Lib.lastIndexByte (bs (a ++ 47 :: b)) 47 = a.length := by
  have hget : ∀ j (hj : j < (a ++ 47 :: b).length), ((bs (a ++ 47 :: b)).data[j]!) = (a ++ 47 :: b)[j] := fun j hj => by
    have : j < (a ++ 47 :: b).toArray.size := by simpa using hj
    simp only [bs]
    rw [getElem!_pos (a ++ 47 :: b).toArray j this]
    simp
  have hlen : (bs (a ++ 47 :: b)).size = a.length + (b.length + 1) := by rw [bs_size]; simp
  rcases Lib.lastIdx_spec (bs (a ++ 47 :: b)) 47 (bs (a ++ 47 :: b)).size with ⟨_, h1⟩ | ⟨i, hi, h1, h2, h3⟩
  · exfalso
    refine h1 a.length (by omega) ?_
    rw [hget a.length (by simp)]
    simp
  · have : i = a.length := by
      by_cases c : i < a.length
      · exfalso
        refine h3 a.length c (by omega) ?_
        rw [hget a.length (by simp)]
        simp
      · by_cases c2 : i = a.length
        · exact c2
        · exfalso
          rw [hlen] at hi
          have hi' : i < (a ++ 47 :: b).length := by simp; omega
          rw [hget i hi'] at h2
          have e : (a ++ 47 :: b)[i] = b[i - a.length - 1]'(by omega) := by
            rw [List.getElem_append_right (by omega)]
            rw [List.getElem_cons]
            rw [dif_neg (by omega)]
          rw [e] at h2
          have e2 : b[i - a.length - 1]'(by omega) = 47 := UInt8.toNat_inj.1 (show (b[i - a.length - 1]'(by omega)).toNat = 47 by omega)
          exact h (e2 ▸ List.getElem_mem _)
    unfold Lib.lastIndexByte
    rw [h1, this]

theorem up_jn (ps : List (List UInt8)) (h : ∀ p ∈ ps, Good p) (hne : ps ≠ []) : upL (jn ps) = jn ps.dropLast := by
  obtain ⟨a, p, rfl⟩ : ∃ a p, ps = a ++ [p] := ⟨ps.dropLast, ps.getLast hne, (List.dropLast_concat_getLast hne).symm⟩
  have hp := h p (by simp)
  rw [List.dropLast_concat]
  unfold upL
  by_cases ha : a = []
  · subst ha
    rw [List.nil_append, jn_one, last_none p hp.snd.1]
    rfl
  · rw [jn_append a [p] ha (by simp), jn_one, last_at _ _ hp.snd.1]
    simp

theorem up_root (w : World) : Calls Tryz.prog 60 #[.string (bs [])] w fun e w' => e = .returned (.tuple #[.string (bs []), .bool false]) ∧ w' = w := by
  have ht := bs_toList []
  go_enter Tryz.func60, Tryz.ntmps60
  go_wp2_with fail
  go_ret2
  exact ⟨rfl, rfl⟩

theorem last_w (l : List UInt8) (hl : l.length < 4611686018427387904) (w : World) : Calls Tryz.prog 85 #[.string (bs l), .string ⟨#[47]⟩] w fun e w' => e = .returned (.int .i64 (Lib.lastIndexByte (bs l) 47)) ∧ w' = w :=
  Tryz.strings_LastIndex_one (bs l) ⟨#[47]⟩ rfl (by rw [bs_size]; exact hl) w

theorem ext_take (l : List UInt8) (k : Nat) : (bs l).extract 0 k = bs (l.take k) := by
  rw [bs_of ((bs l).extract 0 k), Lib.extract_from_zero, bs_data]

theorem up_some (l : List UInt8) (hne : l ≠ []) (hl : l.length ≤ 4611686018427387903) (w : World) : Calls Tryz.prog 60 #[.string (bs l)] w fun e w' => e = .returned (.tuple #[.string (bs (upL l)), .bool true]) ∧ w' = w := by
  have ht := bs_toList l
  have hE : l.isEmpty = false := by simpa using hne
  have q := last_w l (by omega) w
  have HU : Hid (upL l = l.take (Lib.lastIndexByte (bs l) 47).toNat) := rfl
  have hx := fun k => ext_take l k
  have hz := bs_size l
  rcases Lib.lastIdx_spec (bs l) 47 (bs l).size with ⟨h1, _⟩ | ⟨i, hi, h1, _, _⟩
  · have h1' : Lib.lastIndexByte (bs l) 47 = -1 := h1
    rw [h1'] at q HU
    clear h1 h1'
    go_enter Tryz.func60, Tryz.ntmps60
    go_wp2_with (go_at_call 85; refine q.mono ?_; rintro e w' ⟨rfl, hw⟩; rw [hw])
    go_ret2
    refine ⟨?_, rfl⟩
    rw [HU.out]
    rfl
  · have h1' : Lib.lastIndexByte (bs l) 47 = i := h1
    rw [h1'] at q HU
    clear h1 h1'
    go_enter Tryz.func60, Tryz.ntmps60
    go_wp2_with (go_at_call 85; refine q.mono ?_; rintro e w' ⟨rfl, hw⟩; rw [hw])
    go_ret2
    refine ⟨?_, rfl⟩
    rw [HU.out]
    first | rfl | simp

end Go.Proofs.YtpgiibpalmhhlaaGreatDoor
