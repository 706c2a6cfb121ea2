/-
  Plain: Add and Link, over rows.
-/
import Derived.Test.YtojnniacmmcddaaDoorP3
namespace Go.Proofs.YtojnniacmmcddaaDoor
open Go.RowKit
open Go.Lib hiding intOf
set_option linter.unusedVariables false
set_option linter.unusedSimpArgs false

/-- Add: the rows, the next number, the error -/
def addP (L : List Rw) (nx : Int) (s : List UInt8) (kd md sz : Int) (mk : Bool) : List Rw × Int × Int :=
  if s = [] then (L, nx, 100)
  else if fd L s then
    if decide ((atR L s).kind = 4) ≠ decide (kd = 4) then (L, nx, 130)
    else if kd = 4 then (putL L ⟨s, (atR L s).id, kd, md, sz, mk⟩, nx, 0)
    else (putL L ⟨s, nx, kd, md, sz, mk⟩, nx + 1, 0)
  else if cls L s then (L, nx, 130)
  else (putL (wpR L nx s) ⟨s, nx + ((mdL L s).length : Int), kd, md, sz, mk⟩, nx + ((mdL L s).length : Int) + 1, 0)

/-- Link: the rows, the next number, the error -/
def linkP (L : List Rw) (nx : Int) (s tt : List UInt8) : List Rw × Int × Int :=
  if s = [] then (L, nx, 100)
  else if fd L tt = false then (L, nx, 4)
  else if (atR L tt).kind ≠ 1 then (L, nx, 130)
  else if (atR L s).kind = 4 then (L, nx, 130)
  else if cls L s then (L, nx, 130)
  else (putL (wpR L nx s) { atR L tt with p := s }, nx + ((mdL L s).length : Int), 0)

/-- in a tree a thing's directory is there -/
theorem Sd.there {L : List Rw} {nx : Int} {s : List UInt8} (h : Sd L nx) (hf : fd L s = true) : mdL L s = [] ∧ cls L s = false := by
  obtain ⟨hm, hp⟩ := atR_mem hf
  rcases h.up _ hm with e | ⟨q, hq, e, k⟩
  · rw [hp] at e
    unfold mdL cls stL
    rw [e, chain_nil]
    exact ⟨rfl, rfl⟩
  · rw [hp] at e
    have hne : upL s ≠ [] := by rw [← e]; exact (h.cp q hq).ne
    have hf2 : fd L (upL s) = true := by rw [← e]; exact fd_of h.srt hq
    have hat : atR L (upL s) = q := by rw [← e]; exact atR_of h.srt hq
    unfold mdL cls stL
    rw [chain_cons hne, List.takeWhile_cons, List.dropWhile_cons, hf2]
    refine ⟨rfl, ?_⟩
    show decide ((atR L (upL s)).kind ≠ 4) = false
    rw [hat, k]
    rfl

theorem Sd.upOf {L : List Rw} {nx : Int} {s : List UInt8} (h : Sd L nx) (hf : fd L s = true) : upL s = [] ∨ ∃ q ∈ L, q.p = upL s ∧ q.kind = 4 := by
  obtain ⟨hm, hp⟩ := atR_mem hf
  have := h.up _ hm
  rwa [hp] at this

theorem md_length (L : List Rw) {s : List UInt8} : (mdL L s).length ≤ s.length := by
  have h1 : (mdL L s).length ≤ (chain (upL s)).length := (List.takeWhile_sublist _).length_le
  have h2 := chain_len (upL s)
  by_cases e : s = []
  · subst e
    have : upL [] = [] := rfl
    rw [this, chain_nil] at h1
    simpa using h1
  · have := up_len e
    omega

theorem Sd.add {L : List Rw} {nx : Int} {s : List UInt8} {kd md sz : Int} {mk : Bool} (h : Sd L nx) (hs : s = [] ∨ Cp s) (hl : s.length ≤ 1000) (hz : 0 ≤ sz ∧ sz ≤ 1048576) :
    Sd (addP L nx s kd md sz mk).1 (addP L nx s kd md sz mk).2.1 := by
  have hnn := h.nn
  unfold addP
  by_cases e0 : s = []
  · rw [if_pos e0]; exact h
  · have hc : Cp s := hs.resolve_left e0
    rw [if_neg e0]
    by_cases hf : fd L s = true
    · rw [if_pos hf]
      obtain ⟨hm, hp⟩ := atR_mem hf
      by_cases c1 : decide ((atR L s).kind = 4) ≠ decide (kd = 4)
      · rw [if_pos c1]; exact h
      · rw [if_neg c1]
        have c2 : (atR L s).kind = 4 ↔ kd = 4 := by
          have : decide ((atR L s).kind = 4) = decide (kd = 4) := Classical.not_not.1 c1
          simpa using this
        by_cases c3 : kd = 4
        · rw [if_pos c3]
          have hid := h.id _ hm
          refine h.put _ (Int.le_refl _) hc (h.upOf hf) hid ⟨hl, hz⟩ (fun _ _ _ _ => c3) ?_
          intro q hq hne e
          rcases h.one q hq _ hm e with e2 | ⟨_, e2, _⟩
          · exact absurd (by rw [e2, hp]) hne
          · rw [c2.2 c3] at e2; omega
        · rw [if_neg c3]
          refine h.put _ (by show nx ≤ nx + 1; omega) hc (h.upOf hf) ⟨hnn, by show nx < nx + 1; omega⟩ ⟨hl, hz⟩ ?_ ?_
          · intro q hq e k
            have : q = atR L s := h.srt.uniq hq hm (by rw [hp]; exact e)
            rw [this] at k
            exact absurd (c2.1 k) c3
          · intro q hq _ e
            have := h.id q hq
            have e2 : q.id = nx := e
            omega
    · have hf : fd L s = false := by simpa using hf
      rw [hf, if_neg (by simp)]
      by_cases hcl : cls L s = true
      · rw [if_pos hcl]; exact h
      · have hcl : cls L s = false := by simpa using hcl
        rw [hcl, if_neg (by simp)]
        obtain ⟨hw, hu⟩ := h.wp hc hl hcl
        have hn2 := hw.nn
        refine hw.put _ (by show nx + ((mdL L s).length : Int) ≤ nx + ((mdL L s).length : Int) + 1; omega) hc hu ⟨hn2, by show nx + ((mdL L s).length : Int) < nx + ((mdL L s).length : Int) + 1; omega⟩ ⟨hl, hz⟩ ?_ ?_
        · intro q hq e _
          exfalso
          have e : q.p = s := e
          rcases wpR_mem.1 hq with hq | hq
          · exact not_there h.srt hf q hq e
          · obtain ⟨i, x, hx, rfl⟩ := (mkAll_get _ _ _).1 hq
            have hxm : x ∈ mdL L s := List.mem_reverse.1 (List.mem_of_getElem? hx)
            have := (chain_le _ x (md_chain hxm)).1
            have := up_len e0
            have e3 : x.length = s.length := congrArg List.length e
            omega
        · intro q hq _ e
          have := hw.id q hq
          have e2 : q.id = nx + ((mdL L s).length : Int) := e
          omega

theorem mem_link {L : List Rw} {nx : Int} {s : List UInt8} {r : Rw} (h : Sd L nx) (hr : r ∈ L) : r ∈ wpR L nx s := wpR_mem.2 (.inl hr)

theorem Sd.link {L : List Rw} {nx : Int} {s tt : List UInt8} (h : Sd L nx) (hs : s = [] ∨ Cp s) (hl : s.length ≤ 1000) :
    Sd (linkP L nx s tt).1 (linkP L nx s tt).2.1 := by
  have hnn := h.nn
  unfold linkP
  by_cases e0 : s = []
  · rw [if_pos e0]; exact h
  · have hc : Cp s := hs.resolve_left e0
    rw [if_neg e0]
    by_cases hf : fd L tt = false
    · rw [if_pos hf]; exact h
    · rw [if_neg hf]
      have hf : fd L tt = true := by simpa using hf
      obtain ⟨hm, hp⟩ := atR_mem hf
      by_cases c1 : (atR L tt).kind ≠ 1
      · rw [if_pos c1]; exact h
      · rw [if_neg c1]
        have c1 : (atR L tt).kind = 1 := Classical.not_not.1 c1
        by_cases c2 : (atR L s).kind = 4
        · rw [if_pos c2]; exact h
        · rw [if_neg c2]
          by_cases hcl : cls L s = true
          · rw [if_pos hcl]; exact h
          · have hcl : cls L s = false := by simpa using hcl
            rw [hcl, if_neg (by simp)]
            obtain ⟨hw, hu⟩ := h.wp hc hl hcl
            have hm2 : atR L tt ∈ wpR L nx s := mem_link h hm
            have hid := hw.id _ hm2
            have hok := hw.ok _ hm2
            refine hw.put _ (Int.le_refl _) hc hu hid ⟨hl, hok.2⟩ ?_ ?_
            · intro q hq e k
              exfalso
              have e : q.p = s := e
              rcases wpR_mem.1 hq with hq | hq
              · have : atR L s = q := by rw [← e]; exact atR_of h.srt hq
                exact c2 (by rw [this]; exact k)
              · obtain ⟨i, x, hx, rfl⟩ := (mkAll_get _ _ _).1 hq
                have hxm : x ∈ mdL L s := List.mem_reverse.1 (List.mem_of_getElem? hx)
                have := (chain_le _ x (md_chain hxm)).1
                have := up_len e0
                have e3 : x.length = s.length := congrArg List.length e
                omega
            · intro q hq hne e
              rcases hw.one q hq _ hm2 e with e2 | ⟨k1, k2, k3⟩
              · exact ⟨c1, by rw [e2]; exact c1, by rw [e2]⟩
              · exact ⟨k2, k1, k3.symm⟩

theorem add_length {L : List Rw} {nx : Int} {s : List UInt8} {kd md sz : Int} {mk : Bool} : (addP L nx s kd md sz mk).1.length ≤ L.length + s.length + 1 ∧ (addP L nx s kd md sz mk).2.1 ≤ nx + (s.length : Int) + 1 := by
  have h1 := md_length L (s := s)
  unfold addP
  split
  · exact ⟨by show L.length ≤ _; omega, by show nx ≤ _; omega⟩
  · split
    · split
      · exact ⟨by show L.length ≤ _; omega, by show nx ≤ _; omega⟩
      · split
        · have := put_length L ⟨s, (atR L s).id, kd, md, sz, mk⟩
          exact ⟨by show (putL L _).length ≤ _; omega, by show nx ≤ _; omega⟩
        · have := put_length L ⟨s, nx, kd, md, sz, mk⟩
          exact ⟨by show (putL L _).length ≤ _; omega, by show nx + 1 ≤ _; omega⟩
    · split
      · exact ⟨by show L.length ≤ _; omega, by show nx ≤ _; omega⟩
      · have := put_length (wpR L nx s) ⟨s, nx + ((mdL L s).length : Int), kd, md, sz, mk⟩
        rw [wpR_length] at this
        exact ⟨by show (putL _ _).length ≤ _; omega, by show nx + ((mdL L s).length : Int) + 1 ≤ _; omega⟩

theorem link_length {L : List Rw} {nx : Int} {s tt : List UInt8} : (linkP L nx s tt).1.length ≤ L.length + s.length + 1 ∧ (linkP L nx s tt).2.1 ≤ nx + (s.length : Int) + 1 := by
  have h1 := md_length L (s := s)
  unfold linkP
  repeat' split
  all_goals first
    | exact ⟨by show L.length ≤ _; omega, by show nx ≤ _; omega⟩
    | (have := put_length (wpR L nx s) { atR L tt with p := s }
       rw [wpR_length] at this
       exact ⟨by show (putL _ _).length ≤ _; omega, by show nx + ((mdL L s).length : Int) ≤ _; omega⟩)

end Go.Proofs.YtojnniacmmcddaaDoor
