/-
  The law ExtentReads returns true for every bytes, every place and every length; no condition.
-/
import Derived.Test.YtpjfhfbjdcgbjabRows
import Derived.Test.YtpjfhfbjdcgbjabReadBad
import Derived.BigQuiet
import Derived.ProofKit
import Derived.OpenShut
import Derived.ShutString
import Derived.ChangeOld
import Derived.Below
namespace Go.Proofs.Ytpjfhfbjdcgbjab.extentReads
open Go.ChangeShapes Go.WideShapes Go.ChangeAt Go.RowKit
set_option linter.unusedVariables false
set_option linter.unusedSimpArgs false


set_option maxRecDepth 100000 in
set_option maxHeartbeats 8000000 in
theorem walk_bad (a : Option Addr) (cap : Nat) (zs : List Int) (at_ n : Int) (w : World) (hl : zs.length ≤ 2000) (hc : zs.length ≤ cap) (hc2 : cap ≤ 9223372036854775807) (hs : Src w a zs) (halt : 0 < zs.length → ∀ ad, a = some ad → ad.block < w.heap.size)
    (ha : -9223372036854775808 ≤ at_ ∧ at_ ≤ 9223372036854775807) (hn : -9223372036854775808 ≤ n ∧ n ≤ 9223372036854775807) (h : at_ < 0 ∨ (zs.length : Int) < at_ ∨ n < 0 ∨ (zs.length : Int) - at_ < n) :
    Calls Try.prog 8 #[.slice a zs.length cap, .int .i64 at_, .int .i64 n] w fun e w' => e = .returned (.bool true) ∧ Below w.heap.size w w' := by
  have hl' : ¬ (2000 : Int) < (zs.length : Int) := by omega
  go_enter Try.func8, Try.ntmps8
  go_wp2_with fail
  refine (keeps_ok w).mono ?_
  rintro e w1 ⟨rfl, b1⟩
  go_wp2_with fail
  refine (new_yes 100 w1 (by decide)).mono ?_
  rintro e w2 ⟨p, S, F, rfl, A2, B2, gp, gS, gF⟩
  obtain ⟨lp, lS, lF⟩ := A2.lt
  have s1 := b1.size
  have b2 : Below w.heap.size w w2 := b1.trans (B2.mono s1)
  have I2 : Inv (blank 100) (down 100) [([], [])] := (blank_inv 100 _ A2.good).begin
  have hs2 := hs.grow b2
  have hcan : canCode (blank 100) (down 100) [] ([] : List Int).length zs.length = 0 := I2.can zs.length (by simp; omega) (by rw [down_len]; have : isShared (blank 100) [] ([] : List Int).length = false := (by decide +kernel); rw [this]; simp [need]; omega)
  have q := app_inv A2 I2 none 0 0 (own_nil _ _) a zs cap hc hc2 hs2 (fun h0 ad e => by subst e; have := hs2.lt h0; have := halt h0 ad rfl; exact ⟨by omega, by omega, by omega⟩) hcan
  simp only [List.length_nil, List.nil_append, Int.natCast_zero] at q
  clear hcan I2
  go_wp2_with fail
  refine q.mono ?_
  rintro e w3 ⟨a3, c3, ids3, ss3, fr3, rfl, O3, A3, K3, I3, _⟩
  clear q A2
  have g4 := heap_alloc_new w3 (.cells #[.slice a3 ids3.length c3, .int .i64 (zs.length : Int)] 35)
  have bx := below_box w3 (.cells #[.slice a3 ids3.length c3, .int .i64 (zs.length : Int)] 35)
  have A4 := A3.grow bx
  have O4 := O3.grow bx
  have b3 : Below w.heap.size w w3 := b2.trans (K3.below b2.size (by omega) (by omega) (by omega))
  have b4 := b3.trans (bx.mono b3.size)
  have s4 : w3.heap.size + 1 ≤ (w3.alloc (.cells #[.slice a3 ids3.length c3, .int .i64 (zs.length : Int)] 35)).heap.size := by simp
  generalize hv4 : w3.alloc (.cells #[.slice a3 ids3.length c3, .int .i64 (zs.length : Int)] 35) = w4 at *
  obtain ⟨k0, k1, k2, k3⟩ := two_cells g4
  have HL : Hid _ := (I3.lies (ids3, zs) (by simp))
  clear I3 A3 O3 K3 b2 b3 bx hs2
  have q := extRead_range (.pointer (some ⟨p, 0, none⟩)) a3 ids3.length c3 (zs.length : Int) at_ n w4 ha hn (.inr h)
  go_wp2_with fail
  refine q.mono ?_
  rintro e w5 ⟨rfl, b5⟩
  clear q k0 k1 k2 k3 hv4
  have b6 := b4.trans (b5.mono b4.size)
  clear A4 O4 g4 HL hs
  by_cases c1 : at_ < 0
  · go_wp2
    go_ret
    exact ⟨rfl, b6⟩
  by_cases c2 : (zs.length : Int) < at_
  · go_wp2
    go_ret
    exact ⟨rfl, b6⟩
  by_cases c3 : n < 0
  · go_wp2
    go_ret
    exact ⟨rfl, b6⟩
  have c4 : (zs.length : Int) - at_ < n := by omega
  go_wp2
  go_ret
  exact ⟨rfl, b6⟩

set_option maxRecDepth 100000 in
set_option maxHeartbeats 8000000 in
theorem walk_good (a : Option Addr) (cap : Nat) (zs : List Int) (at_ n : Nat) (w : World) (hl : zs.length ≤ 2000) (hc : zs.length ≤ cap) (hc2 : cap ≤ 9223372036854775807) (hs : Src w a zs) (halt : 0 < zs.length → ∀ ad, a = some ad → ad.block < w.heap.size) (h : at_ + n ≤ zs.length) :
    Calls Try.prog 8 #[.slice a zs.length cap, .int .i64 (at_ : Int), .int .i64 (n : Int)] w fun e w' => e = .returned (.bool true) ∧ Below w.heap.size w w' := by
  have hl' : ¬ (2000 : Int) < (zs.length : Int) := by omega
  have d1 : decide ((at_ : Int) < 0) = false := decide_eq_false (by omega)
  have d2 : decide ((zs.length : Int) < (at_ : Int)) = false := decide_eq_false (by omega)
  have d2n : decide (zs.length < at_) = false := decide_eq_false (by omega)
  have d3 : decide ((n : Int) < 0) = false := decide_eq_false (by omega)
  have d4 : decide ((zs.length : Int) - (at_ : Int) < (n : Int)) = false := decide_eq_false (by omega)
  go_enter Try.func8, Try.ntmps8
  go_wp2_with fail
  refine (keeps_ok w).mono ?_
  rintro e w1 ⟨rfl, b1⟩
  go_wp2_with fail
  refine (new_yes 100 w1 (by decide)).mono ?_
  rintro e w2 ⟨p, S, F, rfl, A2, B2, gp, gS, gF⟩
  obtain ⟨lp, lS, lF⟩ := A2.lt
  have s1 := b1.size
  have b2 : Below w.heap.size w w2 := b1.trans (B2.mono s1)
  have I2 : Inv (blank 100) (down 100) [([], [])] := (blank_inv 100 _ A2.good).begin
  have hs2 := hs.grow b2
  have hcan : canCode (blank 100) (down 100) [] ([] : List Int).length zs.length = 0 := I2.can zs.length (by simp; omega) (by rw [down_len]; have : isShared (blank 100) [] ([] : List Int).length = false := (by decide +kernel); rw [this]; simp [need]; omega)
  have q := app_inv A2 I2 none 0 0 (own_nil _ _) a zs cap hc hc2 hs2 (fun h0 ad e => by subst e; have := hs2.lt h0; have := halt h0 ad rfl; exact ⟨by omega, by omega, by omega⟩) hcan
  simp only [List.length_nil, List.nil_append, Int.natCast_zero] at q
  clear hcan I2
  go_wp2_with fail
  refine q.mono ?_
  rintro e w3 ⟨a3, c3, ids3, ss3, fr3, rfl, O3, A3, K3, I3, _⟩
  clear q A2
  have g4 := heap_alloc_new w3 (.cells #[.slice a3 ids3.length c3, .int .i64 (zs.length : Int)] 35)
  have bx := below_box w3 (.cells #[.slice a3 ids3.length c3, .int .i64 (zs.length : Int)] 35)
  have A4 := A3.grow bx
  have O4 := O3.grow bx
  have b3 : Below w.heap.size w w3 := b2.trans (K3.below b2.size (by omega) (by omega) (by omega))
  have b4 := b3.trans (bx.mono b3.size)
  have s4 : w3.heap.size + 1 ≤ (w3.alloc (.cells #[.slice a3 ids3.length c3, .int .i64 (zs.length : Int)] 35)).heap.size := by simp
  generalize hv4 : w3.alloc (.cells #[.slice a3 ids3.length c3, .int .i64 (zs.length : Int)] 35) = w4 at *
  obtain ⟨k0, k1, k2, k3⟩ := two_cells g4
  have HL : Hid _ := (I3.lies (ids3, zs) (by simp))
  clear I3 A3 O3 K3 b2 b3 bx hs2
  have q := read_ext A4 a3 c3 ids3 zs HL.out O4.use.2.1 (by omega) at_ n h
  go_wp2_with fail
  refine q.mono ?_
  rintro e w5 ⟨g, c5, rfl, R5, hc5, b5⟩
  clear q k0 k1 k2 k3 hv4
  have HR : Hid (OwnB w5 (w4.heap.size + 1) (.slice (some ⟨g, 0, none⟩) n c5) (part zs at_ n)) := R5
  have hSum : (at_ : Int) + (n : Int) = ((at_ + n : Nat) : Int) := by omega
  have b45 := b4.trans (b5.mono b4.size)
  have r1 : ∀ W, (Instr.slice 30 (.slice a zs.length cap) (some (.int .i64 (at_ : Int))) (some (.int .i64 ((at_ : Int) + (n : Int)))) none).run Try.prog W = .ok (.slice (lowAt a cap at_) n (cap - at_)) W := fun W => by
    rw [hSum]
    have := run_mid W a zs.length cap at_ (at_ + n) (by omega) (by omega)
    rw [show at_ + n - at_ = n by omega] at this
    exact this
  clear hSum
  have hpl : (part zs at_ n).length = n := part_length _ _ _ (by omega)
  have v1 := fun nq => conv_src (w5.drewN nq) (some ⟨g, 0, none⟩) (part zs at_ n) n c5 hpl (R5.use.2.moved fun _ _ => rfl)
  have v2 := fun nq => conv_src (w5.drewN nq) (lowAt a cap at_) (part zs at_ n) n (cap - at_) hpl (src_high (src_low ((hs.grow b45).moved (w' := w5.drewN nq) fun _ _ => rfl) cap at_ hc) n)
  have b2i : (0 : Int) ≤ (at_ : Int) := by omega
  generalize hSS : strOf (part zs at_ n) = SS at *
  clear R5
  go_wp2_with fail
  go_quiet (fail)
  have b5' : Below w4.heap.size w4 (w5.drewN nq) := ⟨b5.os, b5.tape, b5.output, b5.size, b5.block⟩
  have R5' : OwnB (w5.drewN nq) (w4.heap.size + 1) (.slice (some ⟨g, 0, none⟩) n c5) (part zs at_ n) := HR.out.moved fun _ _ _ => rfl
  clear v1 v2 HR b45 b5
  generalize w5.drewN nq = w6 at *
  have hst : ∃ ys : List Int, ys.length = n ∧ OwnB w6 (w4.heap.size + 1) (.slice (some ⟨g, 0, none⟩) n c5) ys := ⟨_, hpl, R5'⟩
  go_wp2_with fail
  go_loopw [91] (fun x wr => ∃ m : Nat, m ≤ n ∧ x = .int .i64 (m : Int) ∧ Below w4.heap.size w4 wr ∧ ∃ ys : List Int, ys.length = n ∧ OwnB wr (w4.heap.size + 1) (.slice (some ⟨g, 0, none⟩) n c5) ys) (fun x _ => n - (intOf x).toNat)
  case atStart => exact ⟨0, by omega, rfl, b5', hst⟩
  case round =>
    clear b5' hst R5'
    obtain ⟨m, hm, rfl, bb, ys, hy, R⟩ := hrel
    by_cases hlt : m < n
    · obtain ⟨⟨z, cz⟩, fz⟩ := R.cell m hlt
      have st := R.set m hlt (IntKind.u8.wrap (z + 1))
      have hgb := st.2
      have bb' : Below w4.heap.size w4 (wr.setCell ⟨g, m, none⟩ (.int .u8 (IntKind.u8.wrap (z + 1)))) := bb.setCell (by show w4.heap.size ≤ g; omega) _
      have HST : Hid _ := st.1
      clear R st bb r1 g4 A4 O4 HL hs
      go_wp2
      go_roundw
      case rel => exact ⟨m + 1, by omega, by go_num, bb', _, by rw [List.length_set]; exact hy, HST.out⟩
      case measure => simp [intOf]; omega
    · obtain rfl : m = n := by omega
      have A7 := A4.grow bb
      have g7 := heap_below bb g4
      have O7 := O4.grow bb
      have b7 := b4.trans (bb.mono b4.size)
      obtain ⟨k0, k1, k2, k3⟩ := two_cells g7
      have q := read_ext A7 a3 c3 ids3 zs HL.out O7.use.2.1 (by omega) at_ m h
      clear R A7 g7 O7
      go_wp2_with fail
      refine q.mono ?_
      rintro e w8 ⟨g8, c8, rfl, R8, hc8, b8⟩
      clear q k0 k1 k2 k3
      have b78 := b7.trans (b8.mono b7.size)
      have v1 := fun nq => conv_src (w8.drewN nq) (some ⟨g8, 0, none⟩) (part zs at_ m) m c8 hpl (R8.use.2.moved fun _ _ => rfl)
      have v2 := fun nq => conv_src (w8.drewN nq) (lowAt a cap at_) (part zs at_ m) m (cap - at_) hpl (src_high (src_low ((hs.grow b78).moved (w' := w8.drewN nq) fun _ _ => rfl) cap at_ hc) m)
      rw [hSS] at v1 v2
      clear R8 A4 O4 g4 HL hs
      go_wp2_with fail
      go_quiet (fail)
      go_wp2
      go_ret
      exact ⟨by simp, b78.os, b78.tape, b78.output, b78.size, b78.block⟩

theorem walk_long (a : Option Addr) (n cap : Nat) (at_ m : Int) (w : World) (h : 2000 < n) (h1 : n ≤ 9223372036854775807) :
    Calls Try.prog 8 #[.slice a n cap, .int .i64 at_, .int .i64 m] w fun e w' => e = .returned (.bool true) ∧ Below w.heap.size w w' := by
  have h2 : (2000 : Int) < (n : Int) := by omega
  go_enter Try.func8, Try.ntmps8
  go_wp2_with (go_at_call 9; refine (keeps_ok _).mono ?_; rintro e w1 ⟨rfl, hb1⟩)
  go_ret
  exact ⟨rfl, hb1⟩

theorem walk (a : Option Addr) (l cap : Nat) (zs : List Int) (at_ n : Int) (w : World) (hr : IsRow .u8 w a l cap zs) (wa : (Lit.int .i64 at_).wf = true) (wn : (Lit.int .i64 n).wf = true) :
    Calls Try.prog 8 #[.slice a l cap, .int .i64 at_, .int .i64 n] w fun e w' => e = .returned (.bool true) ∧ Below w.heap.size w w' := by
  obtain ⟨hs, hl, hcap, hmax⟩ := row_src hr
  by_cases c : 2000 < l
  · exact walk_long a l cap at_ n w c (by omega)
  · have halt : 0 < (zs.take l).length → ∀ ad, a = some ad → ad.block < w.heap.size := fun h0 ad e => by subst e; exact hs.lt h0
    by_cases c2 : at_ < 0 ∨ (l : Int) < at_ ∨ n < 0 ∨ (l : Int) - at_ < n
    · have := walk_bad a cap (zs.take l) at_ n w (by omega) (by omega) hmax hs halt (bounds_i64 wa) (bounds_i64 wn) (by rw [hl]; exact c2)
      rw [hl] at this
      exact this
    · obtain ⟨i, rfl⟩ : ∃ i : Nat, at_ = (i : Int) := ⟨at_.toNat, by omega⟩
      obtain ⟨j, rfl⟩ : ∃ j : Nat, n = (j : Int) := ⟨n.toNat, by omega⟩
      have := walk_good a cap (zs.take l) i j w (by omega) (by omega) hmax hs halt (by rw [hl]; omega)
      rw [hl] at this
      exact this

theorem own : ownKnob Try.prog.godebug = none := by kernel_rfl
theorem laidOut : laidOutB Try.prog = true := by kernel_rfl
set_option maxRecDepth 100000 in
theorem lifted (os : Os) (started : os.Started) (H : Type) (enc : TypeId × Value → H) :
    ReturnsInHanded {} Try.checked os 8 .any (Rows.extentReadsSpec.pre6 enc Try.prog Try.f8 Rows.extentReadsRow.domain false) (Rows.extentReadsSpec.post enc Try.prog Try.f8 false true false false) := by
  refine returnsInHanded_of_change (C := Try.checked) own started (by kernel_rfl) Try.func8
    (ChangeSpec.witness6 (enc := enc) (C := Try.checked) false ⟨#[], #[.slice none 0 0, .int .i64 0, .int .i64 0], []⟩ 8 (by kernel_rfl) (by kernel_rfl) (by kernel_rfl) (by kernel_rfl)) ?_
  intro W base args ds gs before hval0 hW hcnd _
  have hval : ∀ (j : Nat) t v, Try.f8.params[j]? = some t → args[j]? = some v → Value.okWide Try.prog W .any base t v := hval0
  have hW' := hW
  obtain ⟨p, q, hA0, hV, rfl, hfz, hnd⟩ := hW
  have hA : DataW.TrodAll enc Try.prog W 0 (fun _ => true) true Try.f8.params.toList args.toList ds p := hA0
  rw [Try.params8] at hA hval
  obtain ⟨v0, vs0, d0, ds0, p0, q0, hargs, rfl, rfl, h0, r0⟩ := trodAll_cons hA
  obtain ⟨v1, vs1, d1, ds1, p1, q1, rfl, rfl, rfl, h1, r1⟩ := trodAll_cons r0
  obtain ⟨v2, vs2, d2, ds2, p2, q2, rfl, rfl, rfl, h2, r2⟩ := trodAll_cons r1
  obtain ⟨rfl, rfl, rfl⟩ := trodAll_nil r2
  obtain rfl : args = #[v0, v1, v2] := by cases args; simp_all
  obtain ⟨rfl, rfl⟩ := trodVars_none hV
  obtain ⟨a0, len0, cap0, rfl⟩ := okWide_slice Try.underlying30 (hval 0 30 v0 rfl rfl)
  have k0 := h0
  have lt0 : ∀ x ∈ p0, x.block < W.heap.size := by obtain ⟨m, hm⟩ := k0; exact DataW.trod_lt m _ _ _ hm
  obtain ⟨z0, w0⟩ : ∃ zs, IsRow .u8 W a0 len0 cap0 zs := by
    obtain ⟨fuel, hf⟩ := h0
    rcases open_ints Try.underlying30 Try.underlying5 (by kernel_rfl) hf with ⟨hcs, _⟩ | ⟨x, l, c, zs, hcs, _, hl, hm, hz, _, hcell, hwz⟩
    · simp [Value.cells] at hcs
      obtain ⟨rfl, rfl, rfl⟩ := hcs
      exact ⟨[], .inl ⟨rfl, rfl, rfl, rfl⟩⟩
    · simp [Value.cells] at hcs
      obtain ⟨rfl, rfl, rfl⟩ := hcs
      exact ⟨zs, .inr ⟨_, rfl, hl, hm, by simpa using hz, hcell, hwz⟩⟩
  obtain ⟨a1, rfl, rfl, rfl, w1⟩ := open_int Try.underlying3 (hval 1 3 v1 rfl rfl) h1
  obtain ⟨a2, rfl, rfl, rfl, w2⟩ := open_int Try.underlying3 (hval 2 3 v2 rfl rfl) h2
  clear hA0 hval0
  refine (walk a0 len0 cap0 z0 a1 a2 W w0 w1 w2).mono fun e W' ⟨he, bel⟩ => ?_
  subst he
  exact ⟨_, rfl, _, _, _, [], _, [], hW', trodAll_mk1 (shut_bool Try.underlying4 _), (trodAll_cons_mk (Below.trod laidOut (by kernel_rfl) (of_decide_eq_true (by kernel_rfl)) k0 bel lt0) (trodAll_cons_mk (shut_int Try.underlying3 w1) (trodAll_cons_mk (shut_int Try.underlying3 w2) trodAll_mk0))), rfl, bel.frame _, fun h => by cases h⟩

theorem over : Rows.extentReadsRow.holds Try.pinned (OpenSpec.ofChange Rows.extentReadsSpec) :=
  OpenClaim.holds_of_wide 8 Try.f8 rfl rfl rfl rfl rfl rfl rfl ⟨rfl, rfl, rfl, rfl, rfl⟩ rfl rfl rfl rfl rfl (by kernel_rfl) Try.func8 (by kernel_rfl)
    (of_decide_eq_true (by kernel_rfl)) (by unfold Func.isWrapper; first | (rw [if_pos (by decide +kernel)]; kernel_rfl) | (rw [if_neg (by decide +kernel)]; exact ⟨rfl, rfl⟩))
    (fun os started H enc _ => lifted os started H enc)

end Go.Proofs.Ytpjfhfbjdcgbjab.extentReads
namespace Go.Proofs.Ytpjfhfbjdcgbjab
theorem extentReads_holds : Rows.ExtentReadsSaid := extentReads.over
#print axioms extentReads_holds
end Go.Proofs.Ytpjfhfbjdcgbjab
