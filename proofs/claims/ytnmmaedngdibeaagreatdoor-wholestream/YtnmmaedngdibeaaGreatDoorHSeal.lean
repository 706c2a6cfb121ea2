/-
  Contracts: sum.Plain, sum.Signed, sum.Right, sum.Seal.
-/
import Derived.Test.YtnmmaedngdibeaaGreatDoorHAdd
import Derived.Test.YtnmmaedngdibeaaGreatDoorHOwnRow
namespace Go.Proofs.YtnmmaedngdibeaaGreatDoor.H
open Go.RowKit
set_option linter.unusedVariables false
set_option linter.unusedSimpArgs false

theorem plain_w (ad : Addr) (cap : Nat) (zs : List Int) (w : World) (hb : Hid (AllB zs)) (hl : zs.length ≤ 2000) (hs : Src w (some ad) zs) :
    Calls Tryz.prog 51 #[.slice (some ad) zs.length cap] w fun e w' => e = .returned (.int .i64 (plainS zs)) ∧ w = w' := by
  have q := add_plain ad cap zs w hb hl hs
  clear hs hb
  go_enter Tryz.func51, Tryz.ntmps51
  go_wp2_with fail
  refine q.mono ?_
  rintro e w' ⟨rfl, rfl⟩
  go_wp2
  go_ret
  exact ⟨rfl, rfl⟩

theorem signed_w (ad : Addr) (cap : Nat) (zs : List Int) (w : World) (hb : Hid (AllB zs)) (hl : zs.length ≤ 2000) (hs : Src w (some ad) zs) :
    Calls Tryz.prog 93 #[.slice (some ad) zs.length cap] w fun e w' => e = .returned (.int .i64 (signedS zs)) ∧ w = w' := by
  have q := add_signed ad cap zs w hb hl hs
  clear hs hb
  go_enter Tryz.func93, Tryz.ntmps93
  go_wp2_with fail
  refine q.mono ?_
  rintro e w' ⟨rfl, rfl⟩
  go_wp2
  go_ret
  exact ⟨rfl, rfl⟩

theorem right_no (a : Option Addr) (n cap : Nat) (w : World) (h : n ≠ 512) (h1 : n ≤ 9223372036854775807) :
    Calls Tryz.prog 74 #[.slice a n cap] w fun e w' => e = .returned (.bool false) ∧ w = w' := by
  have h2 : ¬ (n : Int) = 512 := by omega
  go_enter Tryz.func74, Tryz.ntmps74
  go_wp2
  go_ret
  exact ⟨rfl, rfl⟩

set_option maxHeartbeats 1000000 in
theorem right_yes (ad : Addr) (cap : Nat) (zs : List Int) (w : World) (hb : Hid (AllB zs)) (hl : Hid (zs.length = 512)) (hc : 512 ≤ cap) (hc2 : cap ≤ 9223372036854775807) (hs : Src w (some ad) zs) :
    Calls Tryz.prog 74 #[.slice (some ad) 512 cap] w fun e w' => e = .returned (.bool (rightB zs)) ∧ w = w' := by
  have q1 := plain_w ad cap zs w hb (by have := hl.out; omega) hs
  have q2 := signed_w ad cap zs w hb (by have := hl.out; omega) hs
  have hf : (fieldOf zs).length = 8 := by simp [fieldOf, hl.out]
  have q3 := parse_w (some ⟨ad.block, ad.off + 148, none⟩) (cap - 148) (fieldOf zs) w (by omega) (by omega) (bytes_cut hs hb hl)
  rw [hf] at q3
  rw [hl.out] at q1 q2
  have hcut := run_cut w ad 512 cap 148 156 (by omega) (by omega) (by omega) (by omega)
  have hR : rightB zs = rightO (parseO (fieldOf zs)) (plainS zs) (signedS zs) := by simp [rightB, hl.out]
  rw [hR]
  have hpb := plain_bound zs hb
  have hsb := signed_bound zs hb
  rw [hl.out] at hpb hsb
  clear hs hb hl hf hR
  generalize plainS zs = p at *
  generalize signedS zs = s at *
  generalize parseO (fieldOf zs) = o at *
  cases o with
  | none =>
    simp only [resN, resE, Option.getD_none, Option.isSome_none] at q3
    go_enter Tryz.func74, Tryz.ntmps74
    go_wp2_with fail
    refine q3.mono ?_
    rintro e w' ⟨rfl, rfl⟩
    go_wp2
    go_ret
    exact ⟨rfl, rfl⟩
  | some n =>
    simp only [resN, resE, Option.getD_some, Option.isSome_some, if_true] at q3
    go_enter Tryz.func74, Tryz.ntmps74
    go_wp2_with fail
    refine q3.mono ?_
    rintro e w' ⟨rfl, rfl⟩
    go_wp2_with fail
    refine q1.mono ?_
    rintro e w' ⟨rfl, rfl⟩
    by_cases c : n = p
    · subst c
      go_wp2
      go_ret
      exact ⟨by simp [rightO], rfl⟩
    · go_wp2_with fail
      refine q2.mono ?_
      rintro e w' ⟨rfl, rfl⟩
      go_wp2
      go_ret
      have c' : (n == p) = false := by simpa using c
      exact ⟨by by_cases h : n = s <;> simp [rightO, c, c', h], rfl⟩

theorem seal_no (a : Option Addr) (n cap : Nat) (w : World) (h : n ≠ 512) (h1 : n ≤ 9223372036854775807) :
    Calls Tryz.prog 34 #[.slice a n cap] w fun e w' => e = .returned (.tuple #[.slice none 0 0, .int .i64 1]) ∧ w = w' := by
  have h2 : ¬ (n : Int) = 512 := by omega
  go_enter Tryz.func34, Tryz.ntmps34
  go_wp2
  go_ret2
  exact ⟨rfl, rfl⟩

theorem seal_list (zs : List Int) (h : zs.length = 512) : (splice (splice (List.replicate 512 0) 0 zs) 148 (octs (plainS zs) 6 ++ [0])).set 155 32 = sealL zs := by
  have e1 : splice (List.replicate 512 0) 0 zs = zs := by
    unfold splice
    rw [List.take_zero, List.nil_append, Nat.zero_add, List.drop_of_length_le (by rw [List.length_replicate]; omega), List.append_nil]
  rw [e1]
  unfold splice sealL putL endF
  have e2 : (zs.take 148).length = 148 := by simp [h]
  have e3 : (octs (plainS zs) 6).length = 6 := octs_length _ _
  have e4 : zs.drop 155 = zs[155] :: zs.drop 156 := List.drop_eq_getElem_cons (by omega)
  simp only [List.length_append, List.length_cons, List.length_nil, e3]
  rw [show 148 + (6 + (0 + 1)) = 155 from rfl, e4]
  rw [List.append_assoc, List.append_assoc, List.append_assoc, List.set_append_right _ _ (by omega), List.set_append_right _ _ (by omega), List.set_append_right _ _ (by simp [e2, e3])]
  simp [e2, e3]
  rw [e4]
  rfl

theorem make512 (w : World) : (Instr.makeSlice 22 (.int .i64 512) (.int .i64 512)).run Tryz.prog w = .ok (.slice (some ⟨w.heap.size, 0, none⟩) 512 512) (w.alloc (.cells (row (List.replicate 512 0)) 5)) := by
  obtain ⟨i, hi, hs, hb, hz⟩ := info5
  have h := run_make (P := Tryz.prog) w 22 5 i _ Tryz.underlying22 hi hz .i64 .i64 512 512 (by omega) (by omega) (by rw [hb]; omega) (by omega)
  rw [h, hs]
  exact congrArg (fun c => Result.ok _ (w.alloc (.cells c 5))) (made_row 512)

theorem run_from (w : World) (g : Nat) : (Instr.slice 22 (.slice (some ⟨g, 0, none⟩) 512 512) (some (.int .i64 148)) none none).run Tryz.prog w = .ok (.slice (some ⟨g, 148, none⟩) 364 364) w := by
  have hi := inf5
  cases hq : Tryz.prog.info? 5 with
  | none => simp [hq] at hi
  | some i =>
    have hs : i.size = 1 := by simpa [hq] using hi
    have hb : (Instr.sliceBound (.int .i64 148) 512 .sliceB).run Tryz.prog w = .ok 148 w := by
      have := run_sliceBound (P := Tryz.prog) w .i64 148 512 .sliceB (by omega) (by omega)
      simpa using this
    simp [Instr.slice, run_underlying Tryz.underlying22, Instr.sliceBounds, sizeOf, typeInfo, hq, hs, hb, Addr.add]

set_option maxHeartbeats 1000000 in
theorem seal_yes (ad : Addr) (cap : Nat) (zs : List Int) (w : World) (hb : Hid (AllB zs)) (hl : Hid (zs.length = 512)) (hs : Src w (some ad) zs) :
    Calls Tryz.prog 34 #[.slice (some ad) 512 cap] w fun e w' => ∃ g, e = .returned (.tuple #[.slice (some ⟨g, 0, none⟩) 512 512, .int .i64 0]) ∧ Own w w' g (sealL zs) := by
  have q1 := plain_w ad cap zs w hb (by have := hl.out; omega) hs
  have hps := plain_small zs hl hb
  have hfit : fitsB (plainS zs) 7 = true := (fits_iff _ 7 (by omega) (by omega)).2 ⟨hps.1, by rw [show (8 : Int) ^ ((7 : Int) - 1).toNat = 262144 by decide]; omega⟩
  have q2 := format_yes (plainS zs) 7 w hps.1 (by omega) (by omega) (by omega) hfit
  rw [hl.out] at q1
  have hls := seal_list zs hl
  have hmk := make512 (w.alloc (.cells (row (octs (plainS zs) (7 - 1) ++ [0])) 5))
  have o1 := own_alloc w (octs (plainS zs) 6 ++ [0])
  have o2 := own_alloc (w.alloc (.cells (row (octs (plainS zs) 6 ++ [0])) 5)) (List.replicate 512 0)
  obtain ⟨w3, c3, o3, k3⟩ := copy_own o2 0 512 512 (some ad) zs cap ((hs.grow o1.below).grow o2.below) (by have := hl.out; omega) (by have := hl.out; rw [List.length_replicate]; omega)
  have s3 := (o1.src.grow o2.below).moved (w' := w3) fun a e => by cases e; exact k3 _ (by simp)
  have l7 : (octs (plainS zs) 6 ++ [0]).length = 7 := by rw [List.length_append, octs_length]; rfl
  obtain ⟨w4, c4, o4, k4⟩ := copy_own o3 148 364 364 _ _ 7 s3 (by omega) (by rw [length_splice _ _ _ (by have := hl.out; rw [List.length_replicate]; omega), List.length_replicate]; omega)
  have hlen4 : 155 < (splice (splice (List.replicate 512 0) 0 zs) 148 (octs (plainS zs) 6 ++ [0])).length := by
    have : (sealL zs).length = 512 := sealL_length zs hl
    rw [← hls] at this
    simp only [List.length_set] at this
    omega
  have ce4 := o4.cell 155 hlen4
  have fr4 := o4.frozen 155
  have o5 := o4.set 155 hlen4 32
  rw [hls] at o5
  have o6 : Own w (w4.setCell ⟨(w.alloc (.cells (row (octs (plainS zs) 6 ++ [0])) 5)).heap.size, 155, none⟩ (.int .u8 32)) _ (sealL zs) := o1.newer o5
  replace c3 := c3 3
  replace c4 := c4 3
  have hrf := run_from w3 (w.heap.size + 1)
  rw [hl.out] at c3
  rw [l7] at c4
  simp only [World.size_alloc] at c3 c4 hmk fr4 ce4 o6
  clear o2 o3 o4 o5 o1 s3 k3 k4 hls hb hl hs hlen4 hfit l7
  generalize sealL zs = S at *
  generalize plainS zs = p at *
  generalize hZ : row (List.replicate 512 0) = Z at *
  clear hZ
  generalize ((splice (splice (List.replicate 512 0) 0 zs) 148 (octs p 6 ++ [0]))[155]?.getD 0) = z155 at *
  generalize octs p 6 ++ [0] = F at *
  go_enter Tryz.func34, Tryz.ntmps34
  go_wp2_with fail
  refine q1.mono ?_
  rintro e w' ⟨rfl, rfl⟩
  go_wp2_with fail
  refine q2.mono ?_
  rintro e w' ⟨rfl, rfl⟩
  go_wp2
  go_ret2
  exact ⟨_, rfl, o6⟩

end Go.Proofs.YtnmmaedngdibeaaGreatDoor.H
