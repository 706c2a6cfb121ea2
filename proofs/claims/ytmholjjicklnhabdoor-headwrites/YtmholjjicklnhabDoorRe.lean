/-
  Contract of the document's answer for headers: pannierref06.Encode.
-/
import Derived.Test.YtmholjjicklnhabDoorRep
import Derived.Deep.RegionWith
import Derived.RegionCalls
namespace Go.Proofs.YtmholjjicklnhabDoor
open Go.RowKit
set_option linter.unusedVariables false
set_option linter.unusedSimpArgs false

theorem belowN {B : Nat} {a w : World} (h : Below B a w) (n : Nat) : Below B a (w.drewN n) := h.trans ⟨rfl, rfl, rfl, Nat.le_refl _, fun _ _ => rfl⟩

theorem app_s8 (X : List Int) (s : ByteArray) : strOf X ++ s = strOf (X ++ s8 s) := by
  conv => lhs; rhs; rw [← strOf_s8 s]
  rw [strOf_append]

def nz (x : Int) : ByteArray := strOf (List.replicate x.toNat 0)
theorem nz_size (x : Int) : (nz x).size = x.toNat := by unfold nz; rw [strOf_size]; simp
theorem app_nz (X : List Int) (x : Int) : strOf X ++ nz x = strOf (X ++ List.replicate x.toNat 0) := by unfold nz; rw [strOf_append]
theorem s8_nz (s : ByteArray) (x : Int) : s ++ nz x = strOf (s8 s ++ List.replicate x.toNat 0) := by
  conv => lhs; lhs; rw [← strOf_s8 s]
  rw [app_nz]
theorem allB_app {X Y : List Int} (h1 : AllB X) (h2 : AllB Y) : AllB (X ++ Y) := fun z hz => by
  rcases List.mem_append.1 hz with h | h
  · exact h1 z h
  · exact h2 z h
theorem allB_rep (k : Nat) : AllB (rep k) := fun z hz => by have := List.eq_of_mem_replicate hz; omega
theorem allB_nums (ns : Nat → Int) : ∀ k, AllB (numsL ns k)
  | 0 => fun z hz => by simp [numsL] at hz
  | k + 1 => by
    unfold numsL
    refine allB_app (allB_nums ns k) (fun z hz => ?_)
    simp only [numL, List.mem_append, List.mem_cons, List.not_mem_nil, or_false] at hz
    rcases hz with h | rfl
    · have := octs_mem _ _ z h; omega
    · omega
theorem noughtsI (x : Int) (w : World) (h0 : 0 ≤ x) (h1 : x ≤ 1000) : Calls Tryd.prog 31 #[.int .i64 x] w fun e w' => e = .returned (.string (nz x)) ∧ w' = w := by
  have := noughts_w x.toNat w (by omega)
  rw [Int.toNat_of_nonneg h0] at this
  exact this.mono fun e w' h => ⟨h.1, h.2.symm⟩

def tS (n l p u r : ByteArray) : Nat → ByteArray | 0 => n | 1 => l | 2 => p | 3 => u | _ => r
def rm : Nat → Nat | 0 => 100 | 1 => 100 | 2 => 155 | 3 => 31 | _ => 31
theorem five {P : Nat → Prop} (h0 : P 0) (h1 : P 1) (h2 : P 2) (h3 : P 3) (h4 : P 4) : ∀ k, k < 5 → P k := by
  intro k hk
  rcases (show k = 0 ∨ k = 1 ∨ k = 2 ∨ k = 3 ∨ k = 4 by omega) with rfl | rfl | rfl | rfl | rfl <;> assumption
theorem tcell (f : Int) (n l p u r : ByteArray) (ty a b c d m : Int) : ∀ k, k < 5 → (#[.int .i64 f, .int .u8 ty, .string n, .string l, .string p, .string u, .string r, .int .i64 a, .int .i64 b, .int .i64 c, .int .i64 d, .int .i64 m] : Array Value)[2 + k]? = some (.string (tS n l p u r k)) := five rfl rfl rfl rfl rfl
theorem ncell (f : Int) (n l p u r : ByteArray) (ty a b c d m : Int) : ∀ k, k < 5 → (#[.int .i64 f, .int .u8 ty, .string n, .string l, .string p, .string u, .string r, .int .i64 a, .int .i64 b, .int .i64 c, .int .i64 d, .int .i64 m] : Array Value)[7 + k]? = some (.int .i64 (numsF a b c d m k)) := five rfl rfl rfl rfl rfl
theorem rcell : ∀ k, k < 5 → (#[.int .i64 100, .int .i64 100, .int .i64 155, .int .i64 31, .int .i64 31] : Array Value)[k]? = some (.int .i64 (rm k)) := five rfl rfl rfl rfl rfl
theorem wcell : ∀ k, k < 5 → (#[.int .i64 8, .int .i64 8, .int .i64 8, .int .i64 12, .int .i64 12] : Array Value)[k]? = some (.int .i64 ((numE k - numB k : Nat) : Int)) := five rfl rfl rfl rfl rfl
theorem wid_le : ∀ k, k < 5 → 2 ≤ numE k - numB k ∧ numE k - numB k ≤ 24 := five (by decide) (by decide) (by decide) (by decide) (by decide)
theorem texts_all (n l p u r : ByteArray) : textsB n l p u r = true ↔ ∀ k, k < 5 → fitsT (tS n l p u r k) (rm k) = true := by
  unfold textsB
  simp only [Bool.and_eq_true]
  constructor
  · rintro ⟨⟨⟨⟨h0, h1⟩, h2⟩, h3⟩, h4⟩
    exact five h0 h1 h2 h3 h4
  · intro h
    exact ⟨⟨⟨⟨h 0 (by omega), h 1 (by omega)⟩, h 2 (by omega)⟩, h 3 (by omega)⟩, h 4 (by omega)⟩

/-- what the document's Encode answers -/
def ReNo (n l p u r : ByteArray) (e : Ending) : Prop := textsB n l p u r = false ∧ e = .returned (.tuple #[.string ⟨#[]⟩, .int .i64 2])
def ReBad (n l p u r : ByteArray) (ns : Nat → Int) (e : Ending) : Prop := textsB n l p u r = true ∧ (∃ k, k < 5 ∧ numFit ns k = false) ∧ e = .returned (.tuple #[.string ⟨#[]⟩, .int .i64 20])
def ReYes (n l p u r : ByteArray) (ty : Int) (ns : Nat → Int) (e : Ending) : Prop := textsB n l p u r = true ∧ (∀ k, k < 5 → numFit ns k = true) ∧ e = .returned (.tuple #[.string (strOf (sealL (encL n l p u r ty ns))), .int .i64 0])

set_option maxRecDepth 100000 in
set_option maxHeartbeats 4000000 in
theorem re_w (f : Int) (n l p u r : ByteArray) (ty a b c d m : Int) (w : World) (hty : 0 ≤ ty ∧ ty ≤ 255) (hns : ∀ k, k < 5 → -9223372036854775808 ≤ numsF a b c d m k ∧ numsF a b c d m k ≤ 9223372036854775807) :
    Calls Tryd.prog 15 #[.agg #[.int .i64 f, .int .u8 ty, .string n, .string l, .string p, .string u, .string r, .int .i64 a, .int .i64 b, .int .i64 c, .int .i64 d, .int .i64 m]] w fun e w' => (ReNo n l p u r e ∨ ReBad n l p u r (numsF a b c d m) e ∨ ReYes n l p u r ty (numsF a b c d m) e) ∧ Below w.heap.size w w' := by
  generalize hPP : (fun (e : Ending) (w' : World) => (ReNo n l p u r e ∨ ReBad n l p u r (numsF a b c d m) e ∨ ReYes n l p u r ty (numsF a b c d m) e) ∧ Below w.heap.size w w') = PP
  have HPN : Hid (∀ w', textsB n l p u r = false → Below w.heap.size w w' → PP (.returned (.tuple #[.string ⟨#[]⟩, .int .i64 2])) w') := by subst hPP; exact fun w' h hb => ⟨.inl ⟨h, rfl⟩, hb⟩
  have HPB : Hid (∀ w', textsB n l p u r = true → (∃ k, k < 5 ∧ numFit (numsF a b c d m) k = false) → Below w.heap.size w w' → PP (.returned (.tuple #[.string ⟨#[]⟩, .int .i64 20])) w') := by subst hPP; exact fun w' h h2 hb => ⟨.inr (.inl ⟨h, h2, rfl⟩), hb⟩
  have HPY : Hid (∀ w' X, textsB n l p u r = true → (∀ k, k < 5 → numFit (numsF a b c d m) k = true) → X = strOf (sealL (encL n l p u r ty (numsF a b c d m))) → Below w.heap.size w w' → PP (.returned (.tuple #[.string X, .int .i64 0])) w') := by subst hPP; exact fun w' X h h2 hX hb => ⟨.inr (.inr ⟨h, h2, by rw [hX]⟩), hb⟩
  clear hPP
  have h0 : ((w.alloc (.cells #[.int .i64 f, .int .u8 ty, .string n, .string l, .string p, .string u, .string r, .int .i64 a, .int .i64 b, .int .i64 c, .int .i64 d, .int .i64 m] 32)).alloc (.cells #[.int .i64 100, .int .i64 100, .int .i64 155, .int .i64 31, .int .i64 31] 3)).heap[w.heap.size]? = some (.cells #[.int .i64 f, .int .u8 ty, .string n, .string l, .string p, .string u, .string r, .int .i64 a, .int .i64 b, .int .i64 c, .int .i64 d, .int .i64 m] 32 (0, 0)) := by rw [Below.heap_alloc _ _ _ (by simp)]; exact heap_alloc_new w _
  have h1 : ((w.alloc (.cells #[.int .i64 f, .int .u8 ty, .string n, .string l, .string p, .string u, .string r, .int .i64 a, .int .i64 b, .int .i64 c, .int .i64 d, .int .i64 m] 32)).alloc (.cells #[.int .i64 100, .int .i64 100, .int .i64 155, .int .i64 31, .int .i64 31] 3)).heap[w.heap.size + 1]? = some (.cells #[.int .i64 100, .int .i64 100, .int .i64 155, .int .i64 31, .int .i64 31] 3 (0, 0)) := heap_alloc2_new _ _ _
  have b0 : Below w.heap.size w ((w.alloc (.cells #[.int .i64 f, .int .u8 ty, .string n, .string l, .string p, .string u, .string r, .int .i64 a, .int .i64 b, .int .i64 c, .int .i64 d, .int .i64 m] 32)).alloc (.cells #[.int .i64 100, .int .i64 100, .int .i64 155, .int .i64 31, .int .i64 31] 3)) := ((Below.refl _ w).alloc (Nat.le_refl _) _).alloc (by simp) _
  go_enter Tryd.func15, Tryd.ntmps15
  go_wp2
  generalize (w.alloc (.cells #[.int .i64 f, .int .u8 ty, .string n, .string l, .string p, .string u, .string r, .int .i64 a, .int .i64 b, .int .i64 c, .int .i64 d, .int .i64 m] 32)).alloc (.cells #[.int .i64 100, .int .i64 100, .int .i64 155, .int .i64 31, .int .i64 31] 3) = W0 at *
  generalize hLP : (fun (W : World) => W.heap[w.heap.size]? = some (.cells #[.int .i64 f, .int .u8 ty, .string n, .string l, .string p, .string u, .string r, .int .i64 a, .int .i64 b, .int .i64 c, .int .i64 d, .int .i64 m] 32 (0, 0)) ∧ W.heap[w.heap.size + 1]? = some (.cells #[.int .i64 100, .int .i64 100, .int .i64 155, .int .i64 31, .int .i64 31] 3 (0, 0)) ∧ Below w.heap.size w W) = LP
  have HL0 : Hid (LP W0) := by subst hLP; exact ⟨h0, h1, b0⟩
  have HLg : Hid (∀ W W', LP W → Below W.heap.size W W' → LP W') := by subst hLP; exact fun W W' h hb => ⟨by rw [hb.block _ (lt_of_heap h.1)]; exact h.1, by rw [hb.block _ (lt_of_heap h.2.1)]; exact h.2.1, h.2.2.trans (hb.mono h.2.2.size)⟩
  have HLt : Hid (∀ W k, LP W → k < 5 → W.cell? ⟨w.heap.size, 2 + k, none⟩ = some (.string (tS n l p u r k)) ∧ W.cell? ⟨w.heap.size + 1, k, none⟩ = some (.int .i64 (rm k))) := by subst hLP; exact fun W k h hk => ⟨by simp only [World.cell?, h.1]; exact tcell f n l p u r ty a b c d m k hk, by simp only [World.cell?, h.2.1]; exact rcell k hk⟩
  have HLn : Hid (∀ W k, LP W → k < 5 → W.cell? ⟨w.heap.size, 7 + k, none⟩ = some (.int .i64 (numsF a b c d m k))) := by subst hLP; exact fun W k h hk => by simp only [World.cell?, h.1]; exact ncell f n l p u r ty a b c d m k hk
  have HLb : Hid (∀ W, LP W → Below w.heap.size w W ∧ W.cell? ⟨w.heap.size, 1, none⟩ = some (.int .u8 ty) ∧ W.cell? ⟨w.heap.size, 2, none⟩ = some (.string n) ∧ W.cell? ⟨w.heap.size, 3, none⟩ = some (.string l) ∧ W.cell? ⟨w.heap.size, 4, none⟩ = some (.string p) ∧ W.cell? ⟨w.heap.size, 5, none⟩ = some (.string u) ∧ W.cell? ⟨w.heap.size, 6, none⟩ = some (.string r)) := by subst hLP; exact fun W h => ⟨h.2.2, by simp only [World.cell?, h.1]; rfl, by simp only [World.cell?, h.1]; rfl, by simp only [World.cell?, h.1]; rfl, by simp only [World.cell?, h.1]; rfl, by simp only [World.cell?, h.1]; rfl, by simp only [World.cell?, h.1]; rfl⟩
  clear hLP h0 h1 b0
  go_loopw [5] (fun i wr => ∃ k : Nat, k ≤ 5 ∧ i = .int .i64 k ∧ Hid (LP wr) ∧ Hid (∀ j, j < k → fitsT (tS n l p u r j) (rm j) = true)) (fun i _ => 5 - (intOf i).toNat)
  case atStart => exact ⟨0, by omega, rfl, HL0, fun j hj => by omega⟩
  case round =>
    obtain ⟨k, hk, rfl, HL, HF⟩ := hrel
    by_cases hk5 : k < 5
    · obtain ⟨c0, c1⟩ := HLt.out wr k HL.out hk5
      have hrm : rm k ≤ 155 := (five (P := fun k => rm k ≤ 155) (by decide) (by decide) (by decide) (by decide) (by decide)) k hk5
      have HNo : Hid (fitsT (tS n l p u r k) (rm k) = false → textsB n l p u r = false) := fun h => by
        cases hh : textsB n l p u r with
        | false => rfl
        | true => rw [(texts_all n l p u r).1 hh k hk5] at h; cases h
      have HFn : Hid (fitsT (tS n l p u r k) (rm k) = true → ∀ j, j < k + 1 → fitsT (tS n l p u r j) (rm j) = true) := fun h j hj => by
        by_cases c : j = k
        · subst c; exact h
        · exact HF.out j (by omega)
      have hk5i : (k : Int) < 5 := by omega
      generalize tS n l p u r k = X at *
      generalize rm k = R at *
      have HLg' : Hid (∀ m, LP (wr.drewN m)) := fun m => HLg.out _ _ HL.out (belowN (Below.refl _ wr) m)
      by_cases hsz : X.size ≤ R
      · have hs1 : ¬ (R : Int) < (X.size : Int) := by omega
        have hs2 : decide ((R : Int) < (X.size : Int)) = false := decide_eq_false hs1
        cases hN : hasN X with
        | true =>
          have hb := beq_of_size (Nat.ne_of_lt (txS_nul X hN))
          have hb2 : ((txS X).toList != X.toList) = true := by simp [bne, hb]
          have HT : Hid (textsB n l p u r = false) := HNo.out (by unfold fitsT; rw [hN]; simp)
          have q := fun W => text_w X W (by omega)
          generalize txS X = T at *
          have HQ : Hid (∀ W, Calls Tryd.prog 27 #[.string X] W fun e w' => e = .returned (.string T) ∧ w' = W) := fun W => (q W).mono fun e w' h => ⟨h.1, h.2.symm⟩
          clear q hN HNo HFn
          go_upto_region 5 with fail
          go_quiet ((go_at_call 27; exact Calls.quiet_of_same (HQ.out _)))
          have HB : Hid _ := (HLb.out _ (HLg'.out nq)).1
          generalize wr.drewN nq = w7 at *
          go_wp2
          exact HPN.out _ HT.out HB.out
        | false =>
          have HFt : Hid _ := HFn.out (by unfold fitsT; rw [hN]; simp; omega)
          have q := fun W => text_w X W (by omega)
          rw [txS_no X hN] at q
          have HQ : Hid (∀ W, Calls Tryd.prog 27 #[.string X] W fun e w' => e = .returned (.string X) ∧ w' = W) := fun W => (q W).mono fun e w' h => ⟨h.1, h.2.symm⟩
          clear q hN HNo HFn
          go_upto_region 5 with fail
          go_quiet ((go_at_call 27; exact Calls.quiet_of_same (HQ.out _)))
          have HL7 : Hid _ := HLg'.out nq
          generalize wr.drewN nq = w7 at *
          go_wp2
          go_roundw
          case rel => exact ⟨k + 1, by omega, by go_num, HL7, HFt⟩
          case measure => simp [intOf]; omega
      · have hs1 : (R : Int) < (X.size : Int) := by omega
        have hs2 : decide ((R : Int) < (X.size : Int)) = true := decide_eq_true hs1
        have HT : Hid (textsB n l p u r = false) := HNo.out (by unfold fitsT; rw [decide_eq_false (by omega)]; rfl)
        clear HNo HFn
        go_upto_region 5 with fail
        go_quiet (fail)
        have HB : Hid _ := (HLb.out _ (HLg'.out nq)).1
        generalize wr.drewN nq = w7 at *
        go_wp2
        exact HPN.out _ HT.out HB.out
    · have HTX : Hid (textsB n l p u r = true) := (texts_all n l p u r).2 (fun j hj => HF.out j (by omega))
      clear HPN HF HLt HL0
      have hsz := texts_sizes HTX.out
      obtain ⟨s1, s2, s3, s4, s5⟩ := hsz
      have HLw : Hid (LP (wr.alloc (.cells #[.int .i64 8, .int .i64 8, .int .i64 8, .int .i64 12, .int .i64 12] 3)) ∧ (wr.alloc (.cells #[.int .i64 8, .int .i64 8, .int .i64 8, .int .i64 12, .int .i64 12] 3)).heap[wr.heap.size]? = some (.cells #[.int .i64 8, .int .i64 8, .int .i64 8, .int .i64 12, .int .i64 12] 3 (0, 0))) := ⟨HLg.out _ _ HL.out ((Below.refl _ wr).alloc (Nat.le_refl _) _), heap_alloc_new wr _⟩
      have hA0 : n ++ nz (100 - (n.size : Int)) = strOf (bA n (numsF a b c d m) 0) := by
        unfold bA padT nz rep numsL
        conv => lhs; lhs; rw [← strOf_s8 n]
        rw [strOf_append, List.append_nil, show (100 - (n.size : Int)).toNat = 100 - n.size by omega]
      have hA0s : (strOf (bA n (numsF a b c d m) 0)).size = 100 := by
        rw [strOf_size]; unfold bA; rw [List.length_append, padT_length n 100 s1]; rfl
      have HA0 : Hid _ := hA0
      have hnz : (nz (100 - (n.size : Int))).size ≤ 100 := by rw [nz_size]; omega
      go_upto_region 8 with fail
      generalize hG : wr.heap.size = G at *
      clear hG
      generalize wr.alloc (.cells #[.int .i64 8, .int .i64 8, .int .i64 8, .int .i64 12, .int .i64 12] 3) = W3 at *
      obtain ⟨_, _, q2, _, _, _, _⟩ := HLb.out W3 HLw.out.1
      generalize hA00 : strOf (bA n (numsF a b c d m) 0) = A0 at *
      have HA00 : Hid (strOf (bA n (numsF a b c d m) 0) = A0) := hA00
      clear hA00
      go_quiet ((go_at_call 31; exact Calls.quiet_of_same (noughtsI _ _ (by omega) (by omega))))
      have HL3 : Hid _ := HLg.out _ _ HLw.out.1 (belowN (Below.refl _ W3) nq)
      have HG3 : Hid ((W3.drewN nq).heap[G]? = some (.cells #[.int .i64 8, .int .i64 8, .int .i64 8, .int .i64 12, .int .i64 12] 3 (0, 0))) := HLw.out.2
      generalize W3.drewN nq = W4 at *
      clear HLw HL q2 hnz hA0
      generalize hLQ : (fun (W : World) => LP W ∧ W.heap[G]? = some (.cells #[.int .i64 8, .int .i64 8, .int .i64 8, .int .i64 12, .int .i64 12] 3 (0, 0))) = LQ
      have HQ0 : Hid (LQ W4) := by subst hLQ; exact ⟨HL3.out, HG3.out⟩
      have HQg : Hid (∀ W W', LQ W → Below W.heap.size W W' → LQ W') := by subst hLQ; exact fun W W' h hb => ⟨HLg.out _ _ h.1 hb, by rw [hb.block _ (lt_of_heap h.2)]; exact h.2⟩
      have HQc : Hid (∀ W k, LQ W → k < 5 → LQ W ∧ W.cell? ⟨w.heap.size, 7 + k, none⟩ = some (.int .i64 (numsF a b c d m k)) ∧ W.cell? ⟨G, k, none⟩ = some (.int .i64 ((numE k - numB k : Nat) : Int))) := by subst hLQ; exact fun W k h hk => ⟨h, HLn.out W k h.1 hk, by simp only [World.cell?, h.2]; exact wcell k hk⟩
      have HQl : Hid (∀ W, LQ W → LP W) := by subst hLQ; exact fun W h => h.1
      have HAs : Hid (∀ k, k ≤ 5 → (strOf (bA n (numsF a b c d m) k)).size ≤ 148) := fun k hk => by
        rw [strOf_size]
        unfold bA
        rw [List.length_append, padT_length n 100 s1]
        have : ∀ j, j ≤ 5 → (numsL (numsF a b c d m) j).length ≤ 48 := by
          intro j hj
          rcases (show j = 0 ∨ j = 1 ∨ j = 2 ∨ j = 3 ∨ j = 4 ∨ j = 5 by omega) with rfl | rfl | rfl | rfl | rfl | rfl <;> simp only [numsL, List.length_append, numL_length, List.length_nil, numB, numE] <;> omega
        have := this k hk
        omega
      clear hLQ HL3 HG3 HLn hA0s
      go_wp2
      go_loopw [7, 8] (fun s i wr => ∃ k : Nat, k ≤ 5 ∧ i = .int .i64 k ∧ s = .string (strOf (bA n (numsF a b c d m) k)) ∧ Hid (LQ wr) ∧ Hid (∀ j, j < k → numFit (numsF a b c d m) j = true)) (fun _ i _ => 5 - (intOf i).toNat)
      case atStart => exact ⟨0, by omega, rfl, by rw [HA00.out], HQ0, fun j hj => by omega⟩
      case round =>
        obtain ⟨j, hj, rfl, rfl, HQ, HF⟩ := hrel
        by_cases hj5 : j < 5
        · have h0 := HQc.out _ j (HQg.out _ _ HQ.out (Below.refl _ wr).drew) hj5
          have HSS : Hid _ := fun W h => HQc.out W j h hj5
          have hwd := wid_le j hj5
          have hnj := hns j hj5
          have hj5i : (j : Int) < 5 := by omega
          have ha1 := HAs.out j (by omega)
          have ha2 := HAs.out (j + 1) (by omega)
          have HAp : Hid (strOf (bA n (numsF a b c d m) j) ++ strOf (numL (numsF a b c d m j) j) = strOf (bA n (numsF a b c d m) (j + 1))) := by
            show _ = _
            rw [strOf_append]; unfold bA; rw [numsL, List.append_assoc]
          have hnl : (strOf (numL (numsF a b c d m j) j)).size ≤ 24 := by rw [strOf_size, numL_length]; omega
          cases hfit : numFit (numsF a b c d m) j with
          | true =>
            have h00 : 0 ≤ numsF a b c d m j := (of_decide_eq_true hfit).1
            have q := fun W => ref_yes (numsF a b c d m j) (numE j - numB j) W h00 hnj.2 hwd.1 hwd.2 hfit
            have q' : ∀ W, Calls Tryd.prog 32 #[.int .i64 (numsF a b c d m j), .int .i64 ((numE j - numB j : Nat) : Int)] W fun e w' => e = .returned (.tuple #[.string (strOf (numL (numsF a b c d m j) j)), .int .i64 0]) ∧ Below W.heap.size W w' := q
            have HQ' : Hid _ := q'
            have HFn : Hid (∀ i, i < j + 1 → numFit (numsF a b c d m) i = true) := fun i hi => by
              by_cases c : i = j
              · subst c; exact hfit
              · exact HF.out i (by omega)
            have hap := HAp.out
            clear q q' hfit h00
            generalize strOf (bA n (numsF a b c d m) j) = X1 at *
            generalize hX2 : strOf (bA n (numsF a b c d m) (j + 1)) = X2 at *
            have HX2 : Hid _ := hX2
            clear hX2
            generalize strOf (numL (numsF a b c d m j) j) = X3 at *
            generalize ((numE j - numB j : Nat) : Int) = wd at *
            generalize numsF a b c d m j = xj at *
            go_upto_region 12 with fail
            go_region_held3 (fun W => LQ W ∧ W.cell? ⟨w.heap.size, 7 + j, none⟩ = some (.int .i64 xj) ∧ W.cell? ⟨G, j, none⟩ = some (.int .i64 wd)) (first | assumption | go_keep) (first | (go_at_call 32; refine (HQ'.out _).mono ?_; rintro e wb ⟨rfl, bb⟩; have hsb := HSS.out wb (HQg.out _ _ (And.left (by assumption)) bb); clear bb))
            have HQb : Hid (LQ wb) := hsb.1
            clear hsb h0
            go_wp2
            go_roundw
            case rel => exact ⟨j + 1, by omega, by go_num, by rw [HX2.out], HQb, HFn⟩
            case measure => simp [intOf]; omega
          | false =>
            have q := fun W => ref_no (numsF a b c d m j) (numE j - numB j) W hnj.2 hwd.1 hwd.2 hfit
            have HQ' : Hid _ := q
            have HBad : Hid (∃ k, k < 5 ∧ numFit (numsF a b c d m) k = false) := ⟨j, hj5, hfit⟩
            clear q hfit HAp
            generalize strOf (bA n (numsF a b c d m) j) = X1 at *
            generalize ((numE j - numB j : Nat) : Int) = wd at *
            generalize numsF a b c d m j = xj at *
            go_upto_region 12 with fail
            go_region_held3 (fun W => LQ W ∧ W.cell? ⟨w.heap.size, 7 + j, none⟩ = some (.int .i64 xj) ∧ W.cell? ⟨G, j, none⟩ = some (.int .i64 wd)) (first | assumption | go_keep) (first | (go_at_call 32; refine (HQ'.out _).mono ?_; rintro e wb ⟨rfl, bb⟩; have hsb := HSS.out wb (HQg.out _ _ (And.left (by assumption)) bb); clear bb))
            have HBb : Hid _ := (HLb.out _ (HQl.out _ hsb.1)).1
            clear hsb h0
            go_wp2
            exact HPB.out _ HTX.out HBad.out HBb.out
        · obtain rfl : j = 5 := by omega
          have HAll : Hid (∀ k, k < 5 → numFit (numsF a b c d m) k = true) := HF
          obtain ⟨_, x1, x2, x3, x4, x5, x6⟩ := HLb.out _ (HQl.out _ HQ.out)
          clear x1 x2 x3 x4 x5 x6
          have HSS : Hid (∀ W, LQ W → LQ W ∧ W.cell? ⟨w.heap.size, 1, none⟩ = some (.int .u8 ty) ∧ W.cell? ⟨w.heap.size, 3, none⟩ = some (.string l)) := fun W h => by
            obtain ⟨_, y1, y2, y3, y4, y5, y6⟩ := HLb.out _ (HQl.out _ h)
            exact ⟨h, y1, y3⟩
          have h0 := HSS.out _ (HQg.out _ _ HQ.out (Below.refl _ wr).drew)
          have hc := conv_one
          have wl : IntKind.i64.wrap (100 - (l.size : Int)) = 100 - (l.size : Int) := by rw [IntKind.wrap_i64]; omega
          have wu : IntKind.i64.wrap (32 - (u.size : Int)) = 32 - (u.size : Int) := by rw [IntKind.wrap_i64]; omega
          have wr' : IntKind.i64.wrap (32 - (r.size : Int)) = 32 - (r.size : Int) := by rw [IntKind.wrap_i64]; omega
          have wp : IntKind.i64.wrap (155 - (p.size : Int)) = 155 - (p.size : Int) := by rw [IntKind.wrap_i64]; omega
          have r1 : (⟨#[32, 32, 32, 32, 32, 32, 32, 32]⟩ : ByteArray) ++ strOf [ty] = strOf (List.replicate 8 32 ++ [ty]) := by rw [show (⟨#[32, 32, 32, 32, 32, 32, 32, 32]⟩ : ByteArray) = strOf (List.replicate 8 32) from rfl, strOf_append]
          have r2 := app_s8 (List.replicate 8 32 ++ [ty]) l
          have r3 := app_nz (List.replicate 8 32 ++ [ty] ++ s8 l) (100 - (l.size : Int))
          have r4 := app_s8 (List.replicate 8 32 ++ [ty] ++ s8 l ++ List.replicate (100 - (l.size : Int)).toNat 0) ⟨#[117, 115, 116, 97, 114, 0, 48, 48]⟩
          have r5 := strOf_append (bA n (numsF a b c d m) 5) (List.replicate 8 32 ++ [ty] ++ s8 l ++ List.replicate (100 - (l.size : Int)).toNat 0 ++ s8 ⟨#[117, 115, 116, 97, 114, 0, 48, 48]⟩)
          have z0 : (strOf [ty]).size = 1 := by rw [strOf_size]; rfl
          have z1 : (strOf (List.replicate 8 32 ++ [ty])).size ≤ 9 := by rw [strOf_size]; simp
          have z2 : (strOf (List.replicate 8 32 ++ [ty] ++ s8 l)).size ≤ 109 := by rw [strOf_size]; simp only [List.length_append, List.length_replicate, s8_length, List.length_singleton]; omega
          have z3 : (nz (100 - (l.size : Int))).size ≤ 100 := by rw [nz_size]; omega
          have z4 : (strOf (List.replicate 8 32 ++ [ty] ++ s8 l ++ List.replicate (100 - (l.size : Int)).toNat 0)).size ≤ 109 := by rw [strOf_size]; simp only [List.length_append, List.length_replicate, s8_length, List.length_singleton]; omega
          have z5 : (strOf (List.replicate 8 32 ++ [ty] ++ s8 l ++ List.replicate (100 - (l.size : Int)).toNat 0 ++ s8 ⟨#[117, 115, 116, 97, 114, 0, 48, 48]⟩)).size ≤ 117 := by rw [strOf_size]; simp only [List.length_append, List.length_replicate, s8_length, List.length_singleton]; show 8 + 1 + l.size + (100 - (l.size : Int)).toNat + 8 ≤ 117; omega
          have za := HAs.out 5 (by omega)
          have y1 : ¬ 9223372036854775807 < (⟨#[32, 32, 32, 32, 32, 32, 32, 32]⟩ : ByteArray).size + (strOf [ty]).size := by rw [z0]; show ¬ 9223372036854775807 < 8 + 1; omega
          have y2 : ¬ 9223372036854775807 < (strOf (List.replicate 8 32 ++ [ty])).size + l.size := by omega
          have y3 : ¬ 9223372036854775807 < (strOf (List.replicate 8 32 ++ [ty] ++ s8 l)).size + (nz (100 - (l.size : Int))).size := by omega
          have y4 : ¬ 9223372036854775807 < (strOf (List.replicate 8 32 ++ [ty] ++ s8 l ++ List.replicate (100 - (l.size : Int)).toNat 0)).size + 8 := by omega
          have y5 : ¬ 9223372036854775807 < (strOf (bA n (numsF a b c d m) 5)).size + (strOf (List.replicate 8 32 ++ [ty] ++ s8 l ++ List.replicate (100 - (l.size : Int)).toNat 0 ++ s8 ⟨#[117, 115, 116, 97, 114, 0, 48, 48]⟩)).size := by omega
          have HL5 : Hid (bA n (numsF a b c d m) 5 ++ (List.replicate 8 32 ++ [ty] ++ s8 l ++ List.replicate (100 - (l.size : Int)).toNat 0 ++ s8 ⟨#[117, 115, 116, 97, 114, 0, 48, 48]⟩) = bA n (numsF a b c d m) 5 ++ List.replicate 8 32 ++ ([ty] ++ padT l 100 ++ ustarL)) := by
            show _ = _
            unfold padT rep
            rw [show (100 - (l.size : Int)).toNat = 100 - l.size by omega, show s8 ⟨#[117, 115, 116, 97, 114, 0, 48, 48]⟩ = ustarL from rfl]
            simp only [List.append_assoc]
          rw [HL5.out] at r5
          clear HL5
          generalize strOf (List.replicate 8 32 ++ [ty] ++ s8 l ++ List.replicate (100 - (l.size : Int)).toNat 0 ++ s8 ⟨#[117, 115, 116, 97, 114, 0, 48, 48]⟩) = S4 at *
          generalize strOf (List.replicate 8 32 ++ [ty] ++ s8 l ++ List.replicate (100 - (l.size : Int)).toNat 0) = S3 at *
          generalize strOf (List.replicate 8 32 ++ [ty] ++ s8 l) = S2 at *
          generalize strOf (List.replicate 8 32 ++ [ty]) = S1 at *
          generalize hS5 : strOf (bA n (numsF a b c d m) 5 ++ List.replicate 8 32 ++ ([ty] ++ padT l 100 ++ ustarL)) = S5 at *
          generalize hX1 : strOf (bA n (numsF a b c d m) 5) = X1 at *
          have HS5 : Hid _ := hS5
          have HX1 : Hid _ := hX1
          clear hS5 hX1
          go_upto_region 16 with fail
          go_cut [7] (fun s7 wx => s7 = .string S5 ∧ Hid (LQ wx))
          case first =>
            have hcd : ∀ c, (convert 22 9 (.slice (some ⟨wr.heap.size, 0, none⟩) 1 1)).run Tryd.prog (wr.alloc (.cells #[.int .u8 c] 5)).drew = .ok (.string (strOf [c])) (wr.alloc (.cells #[.int .u8 c] 5)).drew := fun c => conv_one wr.drew c
            have hSa : ∀ c, LQ (wr.alloc (.cells #[.int .u8 c] 5)).drew ∧ (wr.alloc (.cells #[.int .u8 c] 5)).drew.cell? ⟨w.heap.size, 1, none⟩ = some (.int .u8 ty) ∧ (wr.alloc (.cells #[.int .u8 c] 5)).drew.cell? ⟨w.heap.size, 3, none⟩ = some (.string l) := fun c => HSS.out _ (HQg.out _ _ HQ.out (((Below.refl _ wr).alloc (Nat.le_refl _) _).drew))
            have HSa : Hid _ := hSa
            clear hc hSa
            have HQa : Hid (LQ (wr.alloc (.cells #[.int .u8 ty] 5)).drew) := (HSa.out ty).1
            refine wp_region_held_drew (S := (fun W => LQ W ∧ W.cell? ⟨w.heap.size, 1, none⟩ = some (.int .u8 ty) ∧ W.cell? ⟨w.heap.size, 3, none⟩ = some (.string l))) (by kernel_rfl) h0 (fun hHeld => ?_)
            refine wpAnyH_take (i := 0) (oi := { dst := some 73, op := Op.move (Operand.tmp 7), type := 9, pos := "ref.go:93", after := #[], guard := none }) (v := ?_) rfl (by kernel_rfl) (by kernel_rfl) (by kernel_rfl) (fun _ _ _ h => h) (Or.inl ⟨by rfl, ?_⟩) (by assumption) ?_
            rotate_left 1
            · (intro W hSw; obtain ⟨_, _, _⟩ := hSw; go_simp; try with_reducible rfl)
            try simp only [Act.put, List.setIfInBounds_toArray, List.set_cons_zero, List.set_cons_succ]
            refine wpAnyH_take (i := 1) (oi := { dst := some 74, op := Op.fieldAddr 32 (Operand.tmp 1) 1, type := 0, pos := "ref.go:93", after := #[], guard := none }) (v := ?_) rfl (by kernel_rfl) (by kernel_rfl) (by kernel_rfl) (fun _ _ _ h => h) (Or.inl ⟨by rfl, ?_⟩) (by assumption) ?_
            rotate_left 1
            · (intro W hSw; obtain ⟨_, _, _⟩ := hSw; go_simp; try with_reducible rfl)
            try simp only [Act.put, List.setIfInBounds_toArray, List.set_cons_zero, List.set_cons_succ]
            refine wpAnyH_take (i := 2) (oi := { dst := some 75, op := Op.load 5 (Operand.tmp 74), type := 5, pos := "ref.go:93", after := #[{ on := 1, ground := Ground.data }], guard := none }) (v := ?_) rfl (by kernel_rfl) (by kernel_rfl) (by kernel_rfl) (fun _ _ _ h => h) (Or.inl ⟨by rfl, ?_⟩) (by assumption) ?_
            rotate_left 1
            · (intro W hSw; obtain ⟨_, _, _⟩ := hSw; go_simp; try with_reducible rfl)
            try simp only [Act.put, List.setIfInBounds_toArray, List.set_cons_zero, List.set_cons_succ]
            refine wpAnyH_take (i := 6) (oi := { dst := some 79, op := Op.fieldAddr 32 (Operand.tmp 1) 2, type := 0, pos := "ref.go:93", after := #[], guard := none }) (v := ?_) rfl (by kernel_rfl) (by kernel_rfl) (by kernel_rfl) (fun _ _ _ h => h) (Or.inl ⟨by rfl, ?_⟩) (by assumption) ?_
            rotate_left 1
            · (intro W hSw; obtain ⟨_, _, _⟩ := hSw; go_simp; try with_reducible rfl)
            try simp only [Act.put, List.setIfInBounds_toArray, List.set_cons_zero, List.set_cons_succ]
            refine wpAnyH_take (i := 7) (oi := { dst := some 80, op := Op.indexAddr 29 (Operand.tmp 79) (Operand.const (Value.int IntKind.i64 1)), type := 0, pos := "ref.go:93", after := #[{ on := 6, ground := Ground.data }], guard := none }) (v := ?_) rfl (by kernel_rfl) (by kernel_rfl) (by kernel_rfl) (fun _ _ _ h => h) (Or.inl ⟨by rfl, ?_⟩) (by assumption) ?_
            rotate_left 1
            · (intro W hSw; obtain ⟨_, _, _⟩ := hSw; go_simp; try with_reducible rfl)
            try simp only [Act.put, List.setIfInBounds_toArray, List.set_cons_zero, List.set_cons_succ]
            refine wpAnyH_take (i := 8) (oi := { dst := some 81, op := Op.load 9 (Operand.tmp 80), type := 9, pos := "ref.go:93", after := #[{ on := 7, ground := Ground.data }], guard := none }) (v := ?_) rfl (by kernel_rfl) (by kernel_rfl) (by kernel_rfl) (fun _ _ _ h => h) (Or.inl ⟨by rfl, ?_⟩) (by assumption) ?_
            rotate_left 1
            · (intro W hSw; obtain ⟨_, _, _⟩ := hSw; go_simp; try with_reducible rfl)
            try simp only [Act.put, List.setIfInBounds_toArray, List.set_cons_zero, List.set_cons_succ]
            refine wpAnyH_take (i := 10) (oi := { dst := some 83, op := Op.fieldAddr 32 (Operand.tmp 1) 2, type := 0, pos := "ref.go:93", after := #[], guard := none }) (v := ?_) rfl (by kernel_rfl) (by kernel_rfl) (by kernel_rfl) (fun _ _ _ h => h) (Or.inl ⟨by rfl, ?_⟩) (by assumption) ?_
            rotate_left 1
            · (intro W hSw; obtain ⟨_, _, _⟩ := hSw; go_simp; try with_reducible rfl)
            try simp only [Act.put, List.setIfInBounds_toArray, List.set_cons_zero, List.set_cons_succ]
            refine wpAnyH_take (i := 11) (oi := { dst := some 84, op := Op.indexAddr 29 (Operand.tmp 83) (Operand.const (Value.int IntKind.i64 1)), type := 0, pos := "ref.go:93", after := #[{ on := 10, ground := Ground.data }], guard := none }) (v := ?_) rfl (by kernel_rfl) (by kernel_rfl) (by kernel_rfl) (fun _ _ _ h => h) (Or.inl ⟨by rfl, ?_⟩) (by assumption) ?_
            rotate_left 1
            · (intro W hSw; obtain ⟨_, _, _⟩ := hSw; go_simp; try with_reducible rfl)
            try simp only [Act.put, List.setIfInBounds_toArray, List.set_cons_zero, List.set_cons_succ]
            refine wpAnyH_take (i := 12) (oi := { dst := some 85, op := Op.load 9 (Operand.tmp 84), type := 9, pos := "ref.go:93", after := #[{ on := 11, ground := Ground.data }], guard := none }) (v := ?_) rfl (by kernel_rfl) (by kernel_rfl) (by kernel_rfl) (fun _ _ _ h => h) (Or.inl ⟨by rfl, ?_⟩) (by assumption) ?_
            rotate_left 1
            · (intro W hSw; obtain ⟨_, _, _⟩ := hSw; go_simp; try with_reducible rfl)
            try simp only [Act.put, List.setIfInBounds_toArray, List.set_cons_zero, List.set_cons_succ]
            refine wpAnyH_take (i := 13) (oi := { dst := some 86, op := Op.call { callee := Callee.builtin Builtin.len, args := #[Operand.tmp 85], argTypes := #[9] }, type := 3, pos := "ref.go:93", after := #[{ on := 12, ground := Ground.data }], guard := none }) (v := ?_) rfl (by kernel_rfl) (by kernel_rfl) (by kernel_rfl) (fun _ _ _ h => h) (Or.inl ⟨by rfl, ?_⟩) (by assumption) ?_
            rotate_left 1
            · (intro W hSw; obtain ⟨_, _, _⟩ := hSw; go_simp; try with_reducible rfl)
            try simp only [Act.put, List.setIfInBounds_toArray, List.set_cons_zero, List.set_cons_succ]
            refine wpAnyH_take (i := 14) (oi := { dst := some 87, op := Op.binOp BinOp.sub 3 (Operand.const (Value.int IntKind.i64 100)) (Operand.tmp 86) 3, type := 3, pos := "ref.go:93", after := #[{ on := 13, ground := Ground.data }], guard := none }) (v := ?_) rfl (by kernel_rfl) (by kernel_rfl) (by kernel_rfl) (fun _ _ _ h => h) (Or.inl ⟨by rfl, ?_⟩) (by assumption) ?_
            rotate_left 1
            · (intro W hSw; obtain ⟨_, _, _⟩ := hSw; go_simp; try with_reducible rfl)
            try simp only [Act.put, List.setIfInBounds_toArray, List.set_cons_zero, List.set_cons_succ]
            refine wpAnyH_ready (rs := [3, 15]) (by kernel_rfl) (by simp) ?_
            refine AllReadyH.cons (o := { dst := some 76, op := Op.buildSlice 22 1 #[(0, Operand.tmp 75)], type := 22, pos := "ref.go:93", after := #[{ on := 2, ground := Ground.data }], guard := none }) rfl (fun K hK => ?_) (AllReadyH.cons (o := { dst := some 88, op := Op.call { callee := Callee.value (Operand.func 31), args := #[Operand.tmp 87], argTypes := #[3] }, type := 9, pos := "ref.go:93", after := #[{ on := 14, ground := Ground.data }], guard := none }) rfl (fun K hK => ?_) AllReadyH.nil)
            · go_simp
              refine hK.out _ _ (by first | exact HSa.out _ | exact h0) (fun hHeld => ?_)
              clear hK K
              try simp only [Act.put, List.setIfInBounds_toArray, List.set_cons_zero, List.set_cons_succ]
              refine wpAnyH_ready (rs := [4, 15]) (by kernel_rfl) (by simp) ?_
              refine AllReadyH.cons (o := { dst := some 77, op := Op.convert 22 9 (Operand.tmp 76), type := 9, pos := "ref.go:93", after := #[{ on := 3, ground := Ground.data }], guard := none }) rfl (fun K hK => ?_) (AllReadyH.cons (o := { dst := some 88, op := Op.call { callee := Callee.value (Operand.func 31), args := #[Operand.tmp 87], argTypes := #[3] }, type := 9, pos := "ref.go:93", after := #[{ on := 14, ground := Ground.data }], guard := none }) rfl (fun K hK => ?_) AllReadyH.nil)
              · go_simp
                refine hK.out _ _ (by first | exact HSa.out _ | exact h0) (fun hHeld => ?_)
                clear hK K
                try simp only [Act.put, List.setIfInBounds_toArray, List.set_cons_zero, List.set_cons_succ]
                refine wpAnyH_take (i := 5) (oi := { dst := some 78, op := Op.binOp BinOp.add 9 (Operand.const (Value.string { data := #[32, 32, 32, 32, 32, 32, 32, 32] })) (Operand.tmp 77) 9, type := 9, pos := "ref.go:93", after := #[{ on := 4, ground := Ground.data }], guard := none }) (v := ?_) rfl (by kernel_rfl) (by kernel_rfl) (by kernel_rfl) (fun _ _ _ h => h) (Or.inl ⟨by rfl, ?_⟩) (by assumption) ?_
                rotate_left 1
                · (intro W hSw; obtain ⟨_, _, _⟩ := hSw; go_simp; try with_reducible rfl)
                try simp only [Act.put, List.setIfInBounds_toArray, List.set_cons_zero, List.set_cons_succ]
                refine wpAnyH_take (i := 9) (oi := { dst := some 82, op := Op.binOp BinOp.add 9 (Operand.tmp 78) (Operand.tmp 81) 9, type := 9, pos := "ref.go:93", after := #[{ on := 5, ground := Ground.data }, { on := 8, ground := Ground.data }], guard := none }) (v := ?_) rfl (by kernel_rfl) (by kernel_rfl) (by kernel_rfl) (fun _ _ _ h => h) (Or.inl ⟨by rfl, ?_⟩) (by assumption) ?_
                rotate_left 1
                · (intro W hSw; obtain ⟨_, _, _⟩ := hSw; go_simp; try with_reducible rfl)
                try simp only [Act.put, List.setIfInBounds_toArray, List.set_cons_zero, List.set_cons_succ]
                refine wpAnyH_ready (rs := [15]) (by kernel_rfl) (by simp) ?_
                refine AllReadyH.cons (o := { dst := some 88, op := Op.call { callee := Callee.value (Operand.func 31), args := #[Operand.tmp 87], argTypes := #[3] }, type := 9, pos := "ref.go:93", after := #[{ on := 14, ground := Ground.data }], guard := none }) rfl (fun K hK => ?_) AllReadyH.nil
                · go_simp
                  go_at_call 31
                  refine (noughtsI _ _ (by omega) (by omega)).mono ?_
                  rintro e wc ⟨rfl, rfl⟩
                  go_wp2_with fail
                  refine hK.out _ _ (by first | exact HSa.out _ | exact h0) (fun hHeld => ?_)
                  clear hK K
                  try simp only [Act.put, List.setIfInBounds_toArray, List.set_cons_zero, List.set_cons_succ]
                  refine wpAnyH_take (i := 16) (oi := { dst := some 89, op := Op.binOp BinOp.add 9 (Operand.tmp 82) (Operand.tmp 88) 9, type := 9, pos := "ref.go:93", after := #[{ on := 9, ground := Ground.data }, { on := 15, ground := Ground.data }], guard := none }) (v := ?_) rfl (by kernel_rfl) (by kernel_rfl) (by kernel_rfl) (fun _ _ _ h => h) (Or.inl ⟨by rfl, ?_⟩) (by assumption) ?_
                  rotate_left 1
                  · (intro W hSw; obtain ⟨_, _, _⟩ := hSw; go_simp; try with_reducible rfl)
                  try simp only [Act.put, List.setIfInBounds_toArray, List.set_cons_zero, List.set_cons_succ]
                  refine wpAnyH_take (i := 17) (oi := { dst := some 90, op := Op.binOp BinOp.add 9 (Operand.tmp 89) (Operand.const (Value.string { data := #[117, 115, 116, 97, 114, 0, 48, 48] })) 9, type := 9, pos := "ref.go:93", after := #[{ on := 16, ground := Ground.data }], guard := none }) (v := ?_) rfl (by kernel_rfl) (by kernel_rfl) (by kernel_rfl) (fun _ _ _ h => h) (Or.inl ⟨by rfl, ?_⟩) (by assumption) ?_
                  rotate_left 1
                  · (intro W hSw; obtain ⟨_, _, _⟩ := hSw; go_simp; try with_reducible rfl)
                  try simp only [Act.put, List.setIfInBounds_toArray, List.set_cons_zero, List.set_cons_succ]
                  refine wpAnyH_take (i := 18) (oi := { dst := some 91, op := Op.binOp BinOp.add 9 (Operand.tmp 73) (Operand.tmp 90) 9, type := 9, pos := "ref.go:93", after := #[{ on := 0, ground := Ground.data }, { on := 17, ground := Ground.data }], guard := none }) (v := ?_) rfl (by kernel_rfl) (by kernel_rfl) (by kernel_rfl) (fun _ _ _ h => h) (Or.inl ⟨by rfl, ?_⟩) (by assumption) ?_
                  rotate_left 1
                  · (intro W hSw; obtain ⟨_, _, _⟩ := hSw; go_simp; try with_reducible rfl)
                  try simp only [Act.put, List.setIfInBounds_toArray, List.set_cons_zero, List.set_cons_succ]
                  refine wpAnyH_take (i := 19) (oi := { dst := some 7, op := Op.assign (Operand.tmp 91), type := 9, pos := "ref.go:93", after := #[{ on := 18, ground := Ground.data }, { on := 15, ground := Ground.chain }, { on := 0, ground := Ground.phase }, { on := 1, ground := Ground.phase }, { on := 2, ground := Ground.phase }, { on := 3, ground := Ground.phase }, { on := 4, ground := Ground.phase }, { on := 5, ground := Ground.phase }, { on := 6, ground := Ground.phase }, { on := 7, ground := Ground.phase }, { on := 8, ground := Ground.phase }, { on := 9, ground := Ground.phase }, { on := 10, ground := Ground.phase }, { on := 11, ground := Ground.phase }, { on := 12, ground := Ground.phase }, { on := 13, ground := Ground.phase }, { on := 14, ground := Ground.phase }, { on := 15, ground := Ground.phase }, { on := 16, ground := Ground.phase }, { on := 17, ground := Ground.phase }, { on := 18, ground := Ground.phase }], guard := none }) (v := ?_) rfl (by kernel_rfl) (by kernel_rfl) (by kernel_rfl) (fun _ _ _ h => h) (Or.inl ⟨by rfl, ?_⟩) (by assumption) ?_
                  rotate_left 1
                  · (intro W hSw; obtain ⟨_, _, _⟩ := hSw; go_simp; try with_reducible rfl)
                  try simp only [Act.put, List.setIfInBounds_toArray, List.set_cons_zero, List.set_cons_succ]
                  refine wpAnyH_done (by kernel_rfl) ?_ _
                  go_wp2_with fail
                  go_meet
                  exact ⟨rfl, HQa⟩
              · go_simp
                go_at_call 31
                refine (noughtsI _ _ (by omega) (by omega)).mono ?_
                rintro e wc ⟨rfl, rfl⟩
                go_wp2_with fail
                refine hK.out _ _ (by first | exact HSa.out _ | exact h0) (fun hHeld => ?_)
                clear hK K
                try simp only [Act.put, List.setIfInBounds_toArray, List.set_cons_zero, List.set_cons_succ]
                refine wpAnyH_ready (rs := [4]) (by kernel_rfl) (by simp) ?_
                refine AllReadyH.cons (o := { dst := some 77, op := Op.convert 22 9 (Operand.tmp 76), type := 9, pos := "ref.go:93", after := #[{ on := 3, ground := Ground.data }], guard := none }) rfl (fun K hK => ?_) AllReadyH.nil
                · go_simp
                  refine hK.out _ _ (by first | exact HSa.out _ | exact h0) (fun hHeld => ?_)
                  clear hK K
                  try simp only [Act.put, List.setIfInBounds_toArray, List.set_cons_zero, List.set_cons_succ]
                  refine wpAnyH_take (i := 5) (oi := { dst := some 78, op := Op.binOp BinOp.add 9 (Operand.const (Value.string { data := #[32, 32, 32, 32, 32, 32, 32, 32] })) (Operand.tmp 77) 9, type := 9, pos := "ref.go:93", after := #[{ on := 4, ground := Ground.data }], guard := none }) (v := ?_) rfl (by kernel_rfl) (by kernel_rfl) (by kernel_rfl) (fun _ _ _ h => h) (Or.inl ⟨by rfl, ?_⟩) (by assumption) ?_
                  rotate_left 1
                  · (intro W hSw; obtain ⟨_, _, _⟩ := hSw; go_simp; try with_reducible rfl)
                  try simp only [Act.put, List.setIfInBounds_toArray, List.set_cons_zero, List.set_cons_succ]
                  refine wpAnyH_take (i := 9) (oi := { dst := some 82, op := Op.binOp BinOp.add 9 (Operand.tmp 78) (Operand.tmp 81) 9, type := 9, pos := "ref.go:93", after := #[{ on := 5, ground := Ground.data }, { on := 8, ground := Ground.data }], guard := none }) (v := ?_) rfl (by kernel_rfl) (by kernel_rfl) (by kernel_rfl) (fun _ _ _ h => h) (Or.inl ⟨by rfl, ?_⟩) (by assumption) ?_
                  rotate_left 1
                  · (intro W hSw; obtain ⟨_, _, _⟩ := hSw; go_simp; try with_reducible rfl)
                  try simp only [Act.put, List.setIfInBounds_toArray, List.set_cons_zero, List.set_cons_succ]
                  refine wpAnyH_take (i := 16) (oi := { dst := some 89, op := Op.binOp BinOp.add 9 (Operand.tmp 82) (Operand.tmp 88) 9, type := 9, pos := "ref.go:93", after := #[{ on := 9, ground := Ground.data }, { on := 15, ground := Ground.data }], guard := none }) (v := ?_) rfl (by kernel_rfl) (by kernel_rfl) (by kernel_rfl) (fun _ _ _ h => h) (Or.inl ⟨by rfl, ?_⟩) (by assumption) ?_
                  rotate_left 1
                  · (intro W hSw; obtain ⟨_, _, _⟩ := hSw; go_simp; try with_reducible rfl)
                  try simp only [Act.put, List.setIfInBounds_toArray, List.set_cons_zero, List.set_cons_succ]
                  refine wpAnyH_take (i := 17) (oi := { dst := some 90, op := Op.binOp BinOp.add 9 (Operand.tmp 89) (Operand.const (Value.string { data := #[117, 115, 116, 97, 114, 0, 48, 48] })) 9, type := 9, pos := "ref.go:93", after := #[{ on := 16, ground := Ground.data }], guard := none }) (v := ?_) rfl (by kernel_rfl) (by kernel_rfl) (by kernel_rfl) (fun _ _ _ h => h) (Or.inl ⟨by rfl, ?_⟩) (by assumption) ?_
                  rotate_left 1
                  · (intro W hSw; obtain ⟨_, _, _⟩ := hSw; go_simp; try with_reducible rfl)
                  try simp only [Act.put, List.setIfInBounds_toArray, List.set_cons_zero, List.set_cons_succ]
                  refine wpAnyH_take (i := 18) (oi := { dst := some 91, op := Op.binOp BinOp.add 9 (Operand.tmp 73) (Operand.tmp 90) 9, type := 9, pos := "ref.go:93", after := #[{ on := 0, ground := Ground.data }, { on := 17, ground := Ground.data }], guard := none }) (v := ?_) rfl (by kernel_rfl) (by kernel_rfl) (by kernel_rfl) (fun _ _ _ h => h) (Or.inl ⟨by rfl, ?_⟩) (by assumption) ?_
                  rotate_left 1
                  · (intro W hSw; obtain ⟨_, _, _⟩ := hSw; go_simp; try with_reducible rfl)
                  try simp only [Act.put, List.setIfInBounds_toArray, List.set_cons_zero, List.set_cons_succ]
                  refine wpAnyH_take (i := 19) (oi := { dst := some 7, op := Op.assign (Operand.tmp 91), type := 9, pos := "ref.go:93", after := #[{ on := 18, ground := Ground.data }, { on := 15, ground := Ground.chain }, { on := 0, ground := Ground.phase }, { on := 1, ground := Ground.phase }, { on := 2, ground := Ground.phase }, { on := 3, ground := Ground.phase }, { on := 4, ground := Ground.phase }, { on := 5, ground := Ground.phase }, { on := 6, ground := Ground.phase }, { on := 7, ground := Ground.phase }, { on := 8, ground := Ground.phase }, { on := 9, ground := Ground.phase }, { on := 10, ground := Ground.phase }, { on := 11, ground := Ground.phase }, { on := 12, ground := Ground.phase }, { on := 13, ground := Ground.phase }, { on := 14, ground := Ground.phase }, { on := 15, ground := Ground.phase }, { on := 16, ground := Ground.phase }, { on := 17, ground := Ground.phase }, { on := 18, ground := Ground.phase }], guard := none }) (v := ?_) rfl (by kernel_rfl) (by kernel_rfl) (by kernel_rfl) (fun _ _ _ h => h) (Or.inl ⟨by rfl, ?_⟩) (by assumption) ?_
                  rotate_left 1
                  · (intro W hSw; obtain ⟨_, _, _⟩ := hSw; go_simp; try with_reducible rfl)
                  try simp only [Act.put, List.setIfInBounds_toArray, List.set_cons_zero, List.set_cons_succ]
                  refine wpAnyH_done (by kernel_rfl) ?_ _
                  go_wp2_with fail
                  go_meet
                  exact ⟨rfl, HQa⟩
            · go_simp
              go_at_call 31
              refine (noughtsI _ _ (by omega) (by omega)).mono ?_
              rintro e wc ⟨rfl, rfl⟩
              go_wp2_with fail
              refine hK.out _ _ (by first | exact HSa.out _ | exact h0) (fun hHeld => ?_)
              clear hK K
              try simp only [Act.put, List.setIfInBounds_toArray, List.set_cons_zero, List.set_cons_succ]
              refine wpAnyH_ready (rs := [3]) (by kernel_rfl) (by simp) ?_
              refine AllReadyH.cons (o := { dst := some 76, op := Op.buildSlice 22 1 #[(0, Operand.tmp 75)], type := 22, pos := "ref.go:93", after := #[{ on := 2, ground := Ground.data }], guard := none }) rfl (fun K hK => ?_) AllReadyH.nil
              · go_simp
                refine hK.out _ _ (by first | exact HSa.out _ | exact h0) (fun hHeld => ?_)
                clear hK K
                try simp only [Act.put, List.setIfInBounds_toArray, List.set_cons_zero, List.set_cons_succ]
                refine wpAnyH_ready (rs := [4]) (by kernel_rfl) (by simp) ?_
                refine AllReadyH.cons (o := { dst := some 77, op := Op.convert 22 9 (Operand.tmp 76), type := 9, pos := "ref.go:93", after := #[{ on := 3, ground := Ground.data }], guard := none }) rfl (fun K hK => ?_) AllReadyH.nil
                · go_simp
                  refine hK.out _ _ (by first | exact HSa.out _ | exact h0) (fun hHeld => ?_)
                  clear hK K
                  try simp only [Act.put, List.setIfInBounds_toArray, List.set_cons_zero, List.set_cons_succ]
                  refine wpAnyH_take (i := 5) (oi := { dst := some 78, op := Op.binOp BinOp.add 9 (Operand.const (Value.string { data := #[32, 32, 32, 32, 32, 32, 32, 32] })) (Operand.tmp 77) 9, type := 9, pos := "ref.go:93", after := #[{ on := 4, ground := Ground.data }], guard := none }) (v := ?_) rfl (by kernel_rfl) (by kernel_rfl) (by kernel_rfl) (fun _ _ _ h => h) (Or.inl ⟨by rfl, ?_⟩) (by assumption) ?_
                  rotate_left 1
                  · (intro W hSw; obtain ⟨_, _, _⟩ := hSw; go_simp; try with_reducible rfl)
                  try simp only [Act.put, List.setIfInBounds_toArray, List.set_cons_zero, List.set_cons_succ]
                  refine wpAnyH_take (i := 9) (oi := { dst := some 82, op := Op.binOp BinOp.add 9 (Operand.tmp 78) (Operand.tmp 81) 9, type := 9, pos := "ref.go:93", after := #[{ on := 5, ground := Ground.data }, { on := 8, ground := Ground.data }], guard := none }) (v := ?_) rfl (by kernel_rfl) (by kernel_rfl) (by kernel_rfl) (fun _ _ _ h => h) (Or.inl ⟨by rfl, ?_⟩) (by assumption) ?_
                  rotate_left 1
                  · (intro W hSw; obtain ⟨_, _, _⟩ := hSw; go_simp; try with_reducible rfl)
                  try simp only [Act.put, List.setIfInBounds_toArray, List.set_cons_zero, List.set_cons_succ]
                  refine wpAnyH_take (i := 16) (oi := { dst := some 89, op := Op.binOp BinOp.add 9 (Operand.tmp 82) (Operand.tmp 88) 9, type := 9, pos := "ref.go:93", after := #[{ on := 9, ground := Ground.data }, { on := 15, ground := Ground.data }], guard := none }) (v := ?_) rfl (by kernel_rfl) (by kernel_rfl) (by kernel_rfl) (fun _ _ _ h => h) (Or.inl ⟨by rfl, ?_⟩) (by assumption) ?_
                  rotate_left 1
                  · (intro W hSw; obtain ⟨_, _, _⟩ := hSw; go_simp; try with_reducible rfl)
                  try simp only [Act.put, List.setIfInBounds_toArray, List.set_cons_zero, List.set_cons_succ]
                  refine wpAnyH_take (i := 17) (oi := { dst := some 90, op := Op.binOp BinOp.add 9 (Operand.tmp 89) (Operand.const (Value.string { data := #[117, 115, 116, 97, 114, 0, 48, 48] })) 9, type := 9, pos := "ref.go:93", after := #[{ on := 16, ground := Ground.data }], guard := none }) (v := ?_) rfl (by kernel_rfl) (by kernel_rfl) (by kernel_rfl) (fun _ _ _ h => h) (Or.inl ⟨by rfl, ?_⟩) (by assumption) ?_
                  rotate_left 1
                  · (intro W hSw; obtain ⟨_, _, _⟩ := hSw; go_simp; try with_reducible rfl)
                  try simp only [Act.put, List.setIfInBounds_toArray, List.set_cons_zero, List.set_cons_succ]
                  refine wpAnyH_take (i := 18) (oi := { dst := some 91, op := Op.binOp BinOp.add 9 (Operand.tmp 73) (Operand.tmp 90) 9, type := 9, pos := "ref.go:93", after := #[{ on := 0, ground := Ground.data }, { on := 17, ground := Ground.data }], guard := none }) (v := ?_) rfl (by kernel_rfl) (by kernel_rfl) (by kernel_rfl) (fun _ _ _ h => h) (Or.inl ⟨by rfl, ?_⟩) (by assumption) ?_
                  rotate_left 1
                  · (intro W hSw; obtain ⟨_, _, _⟩ := hSw; go_simp; try with_reducible rfl)
                  try simp only [Act.put, List.setIfInBounds_toArray, List.set_cons_zero, List.set_cons_succ]
                  refine wpAnyH_take (i := 19) (oi := { dst := some 7, op := Op.assign (Operand.tmp 91), type := 9, pos := "ref.go:93", after := #[{ on := 18, ground := Ground.data }, { on := 15, ground := Ground.chain }, { on := 0, ground := Ground.phase }, { on := 1, ground := Ground.phase }, { on := 2, ground := Ground.phase }, { on := 3, ground := Ground.phase }, { on := 4, ground := Ground.phase }, { on := 5, ground := Ground.phase }, { on := 6, ground := Ground.phase }, { on := 7, ground := Ground.phase }, { on := 8, ground := Ground.phase }, { on := 9, ground := Ground.phase }, { on := 10, ground := Ground.phase }, { on := 11, ground := Ground.phase }, { on := 12, ground := Ground.phase }, { on := 13, ground := Ground.phase }, { on := 14, ground := Ground.phase }, { on := 15, ground := Ground.phase }, { on := 16, ground := Ground.phase }, { on := 17, ground := Ground.phase }, { on := 18, ground := Ground.phase }], guard := none }) (v := ?_) rfl (by kernel_rfl) (by kernel_rfl) (by kernel_rfl) (fun _ _ _ h => h) (Or.inl ⟨by rfl, ?_⟩) (by assumption) ?_
                  rotate_left 1
                  · (intro W hSw; obtain ⟨_, _, _⟩ := hSw; go_simp; try with_reducible rfl)
                  try simp only [Act.put, List.setIfInBounds_toArray, List.set_cons_zero, List.set_cons_succ]
                  refine wpAnyH_done (by kernel_rfl) ?_ _
                  go_wp2_with fail
                  go_meet
                  exact ⟨rfl, HQa⟩
          case rest =>
            obtain ⟨rfl, HQ6⟩ := hcut
            rename_i KK hgo
            refine hgo _ _ ?_
            clear r1 r2 r3 r4 r5 z0 z1 z2 z3 z4 z5 y1 y2 y3 y4 y5 hc h0 HSS
            obtain ⟨_, x1, x2, x3, x4, x5, x6⟩ := HLb.out _ (HQl.out _ HQ6.out)
            have r1 := s8_nz u (32 - (u.size : Int))
            have r2 := app_s8 (s8 u ++ List.replicate (32 - (u.size : Int)).toNat 0) r
            have r3 := app_nz (s8 u ++ List.replicate (32 - (u.size : Int)).toNat 0 ++ s8 r) (32 - (r.size : Int))
            have r4 := app_nz (s8 u ++ List.replicate (32 - (u.size : Int)).toNat 0 ++ s8 r ++ List.replicate (32 - (r.size : Int)).toNat 0) 16
            have HL5 : Hid (s8 u ++ List.replicate (32 - (u.size : Int)).toNat 0 ++ s8 r ++ List.replicate (32 - (r.size : Int)).toNat 0 ++ List.replicate (16 : Int).toNat 0 = padT u 32 ++ padT r 32 ++ rep 16) := by
              show _ = _
              unfold padT rep
              rw [show (32 - (u.size : Int)).toNat = 32 - u.size by omega, show (32 - (r.size : Int)).toNat = 32 - r.size by omega, show (16 : Int).toNat = 16 from rfl]
              simp only [List.append_assoc]
            rw [HL5.out] at r4
            have r5 : S5 ++ strOf (padT u 32 ++ padT r 32 ++ rep 16) = strOf (bA n (numsF a b c d m) 5 ++ List.replicate 8 32 ++ ([ty] ++ padT l 100 ++ ustarL) ++ (padT u 32 ++ padT r 32 ++ rep 16)) := by rw [← HS5.out, strOf_append]
            have lu : (padT u 32).length = 32 := padT_length u 32 (by omega)
            have lr : (padT r 32).length = 32 := padT_length r 32 (by omega)
            have ll : (padT l 100).length = 100 := padT_length l 100 (by omega)
            have lp : (padT p 155).length = 155 := padT_length p 155 (by omega)
            have lA : (bA n (numsF a b c d m) 5).length = 148 := by unfold bA; rw [List.length_append, padT_length n 100 s1, numsL_length]
            have z0 : (nz (32 - (u.size : Int))).size ≤ 32 := by rw [nz_size]; omega
            have z1 : (strOf (s8 u ++ List.replicate (32 - (u.size : Int)).toNat 0)).size ≤ 32 := by rw [strOf_size]; simp only [List.length_append, List.length_replicate, s8_length]; omega
            have z2 : (strOf (s8 u ++ List.replicate (32 - (u.size : Int)).toNat 0 ++ s8 r)).size ≤ 64 := by rw [strOf_size]; simp only [List.length_append, List.length_replicate, s8_length]; omega
            have z3 : (nz (32 - (r.size : Int))).size ≤ 32 := by rw [nz_size]; omega
            have z4 : (strOf (s8 u ++ List.replicate (32 - (u.size : Int)).toNat 0 ++ s8 r ++ List.replicate (32 - (r.size : Int)).toNat 0)).size ≤ 64 := by rw [strOf_size]; simp only [List.length_append, List.length_replicate, s8_length]; omega
            have z5 : (nz 16).size = 16 := nz_size 16
            have z6 : (strOf (padT u 32 ++ padT r 32 ++ rep 16)).size = 80 := by rw [strOf_size]; simp only [List.length_append, lu, lr, rep, List.length_replicate]
            have z7 : S5.size = 265 := by rw [← HS5.out, strOf_size]; simp only [List.length_append, ll, lA, List.length_replicate, List.length_singleton]; rfl
            have z8 : (strOf (bA n (numsF a b c d m) 5 ++ List.replicate 8 32 ++ ([ty] ++ padT l 100 ++ ustarL) ++ (padT u 32 ++ padT r 32 ++ rep 16))).size = 345 := by rw [strOf_size]; simp only [List.length_append, ll, lA, lu, lr, rep, List.length_replicate, List.length_singleton]; rfl
            have y1 : ¬ 9223372036854775807 < u.size + (nz (32 - (u.size : Int))).size := by omega
            have y2 : ¬ 9223372036854775807 < (strOf (s8 u ++ List.replicate (32 - (u.size : Int)).toNat 0)).size + r.size := by omega
            have y3 : ¬ 9223372036854775807 < (strOf (s8 u ++ List.replicate (32 - (u.size : Int)).toNat 0 ++ s8 r)).size + (nz (32 - (r.size : Int))).size := by omega
            have y4 : ¬ 9223372036854775807 < (strOf (s8 u ++ List.replicate (32 - (u.size : Int)).toNat 0 ++ s8 r ++ List.replicate (32 - (r.size : Int)).toNat 0)).size + (nz 16).size := by omega
            have y5 : ¬ 9223372036854775807 < S5.size + (strOf (padT u 32 ++ padT r 32 ++ rep 16)).size := by omega
            generalize strOf (padT u 32 ++ padT r 32 ++ rep 16) = U4 at *
            generalize strOf (s8 u ++ List.replicate (32 - (u.size : Int)).toNat 0 ++ s8 r ++ List.replicate (32 - (r.size : Int)).toNat 0) = U3 at *
            generalize strOf (s8 u ++ List.replicate (32 - (u.size : Int)).toNat 0 ++ s8 r) = U2 at *
            generalize strOf (s8 u ++ List.replicate (32 - (u.size : Int)).toNat 0) = U1 at *
            generalize hS6 : strOf (bA n (numsF a b c d m) 5 ++ List.replicate 8 32 ++ ([ty] ++ padT l 100 ++ ustarL) ++ (padT u 32 ++ padT r 32 ++ rep 16)) = S6 at *
            have HS6 : Hid _ := hS6
            clear hS6 HL5
            go_upto_region 17 with fail
            go_quiet ((go_at_call 31; exact Calls.quiet_of_same (noughtsI _ _ (by omega) (by omega))))
            have HQ7 : Hid (LQ (wc.drewN nq)) := HQg.out _ _ HQ6.out (belowN (Below.refl _ wc) nq)
            generalize wc.drewN nq = w7 at *
            clear r1 r2 r3 r4 r5 z0 z1 z2 z3 z4 z5 z6 z7 y1 y2 y3 y4 y5 x1 x2 x3 x4 x5 x6
            obtain ⟨_, x1, x2, x3, x4, x5, x6⟩ := HLb.out _ (HQl.out _ HQ7.out)
            have r1 := s8_nz p (155 - (p.size : Int))
            have r2 := app_nz (s8 p ++ List.replicate (155 - (p.size : Int)).toNat 0) 12
            have HL6 : Hid (s8 p ++ List.replicate (155 - (p.size : Int)).toNat 0 ++ List.replicate (12 : Int).toNat 0 = padT p 155 ++ rep 12) := by
              show _ = _
              unfold padT rep
              rw [show (155 - (p.size : Int)).toNat = 155 - p.size by omega, show (12 : Int).toNat = 12 from rfl]
            rw [HL6.out] at r2
            have HZ7 : Hid (bA n (numsF a b c d m) 5 ++ List.replicate 8 32 ++ ([ty] ++ padT l 100 ++ ustarL) ++ (padT u 32 ++ padT r 32 ++ rep 16) ++ (padT p 155 ++ rep 12) = bA n (numsF a b c d m) 5 ++ List.replicate 8 32 ++ bB l p u r ty) := by
              show _ = _
              unfold bB
              simp only [List.append_assoc]
            have r3 : S6 ++ strOf (padT p 155 ++ rep 12) = strOf (bA n (numsF a b c d m) 5 ++ List.replicate 8 32 ++ bB l p u r ty) := by rw [← HS6.out, strOf_append, HZ7.out]
            have z0 : (nz (155 - (p.size : Int))).size ≤ 155 := by rw [nz_size]; omega
            have z1 : (strOf (s8 p ++ List.replicate (155 - (p.size : Int)).toNat 0)).size ≤ 155 := by rw [strOf_size]; simp only [List.length_append, List.length_replicate, s8_length]; omega
            have z2 : (nz 12).size = 12 := nz_size 12
            have z3 : (strOf (padT p 155 ++ rep 12)).size = 167 := by rw [strOf_size]; simp only [List.length_append, lp, rep, List.length_replicate]
            have lB : (bB l p u r ty).length = 356 := by unfold bB; simp only [List.length_append, ll, lu, lr, lp, rep, List.length_replicate, List.length_singleton]; rfl
            have l7 : (bA n (numsF a b c d m) 5 ++ List.replicate 8 32 ++ bB l p u r ty).length = 512 := by simp only [List.length_append, lA, lB, List.length_replicate]
            have z7 : (strOf (bA n (numsF a b c d m) 5 ++ List.replicate 8 32 ++ bB l p u r ty)).size = 512 := by rw [strOf_size, l7]
            have y1 : ¬ 9223372036854775807 < p.size + (nz (155 - (p.size : Int))).size := by omega
            have y2 : ¬ 9223372036854775807 < (strOf (s8 p ++ List.replicate (155 - (p.size : Int)).toNat 0)).size + (nz 12).size := by omega
            have y3 : ¬ 9223372036854775807 < S6.size + (strOf (padT p 155 ++ rep 12)).size := by omega
            have HC1 : Hid ((strOf (bA n (numsF a b c d m) 5 ++ List.replicate 8 32 ++ bB l p u r ty)).extract 0 148 = strOf (bA n (numsF a b c d m) 5)) := by
              show _ = _
              rw [str_cut _ 0 148 (by omega) (by omega), List.drop_zero, List.append_assoc, List.take_left' (by omega)]
            have HC2 : Hid ((strOf (bA n (numsF a b c d m) 5 ++ List.replicate 8 32 ++ bB l p u r ty)).extract 156 512 = strOf (bB l p u r ty)) := by
              show _ = _
              rw [str_cut _ 156 512 (by omega) (by omega), List.drop_left' (by simp only [List.length_append, lA, List.length_replicate]), List.take_of_length_le (by omega)]
            have hAB : AllB (bA n (numsF a b c d m) 5 ++ List.replicate 8 32 ++ bB l p u r ty) := by
              refine allB_app (allB_app (allB_app (allB_app (s8_allB n) (allB_rep _)) (allB_nums _ 5)) (fun z hz => by have := List.eq_of_mem_replicate hz; omega)) ?_
              unfold bB
              refine allB_app (allB_app (allB_app (allB_app (allB_app (allB_app (allB_app ?_ (allB_app (s8_allB l) (allB_rep _))) ?_) (allB_app (s8_allB u) (allB_rep _))) (allB_app (s8_allB r) (allB_rep _))) (allB_rep _)) (allB_app (s8_allB p) (allB_rep _))) (allB_rep _)
              · intro z hz; have : z = ty := by simpa using hz
                omega
              · intro z hz; simp [ustarL] at hz; omega
            have hpb := plain_small _ l7 hAB
            have HFin : Hid (strOf (bA n (numsF a b c d m) 5) ++ strOf (octs (plainS (bA n (numsF a b c d m) 5 ++ List.replicate 8 32 ++ bB l p u r ty)) 6 ++ [0]) ++ ⟨#[32]⟩ ++ strOf (bB l p u r ty) = strOf (sealL (encL n l p u r ty (numsF a b c d m)))) := by
              show _ = _
              rw [show (⟨#[32]⟩ : ByteArray) = strOf [32] from rfl, strOf_append, strOf_append, strOf_append, block_same n l p u r ty _ HTX.out HAll.out]
            have q33 := fun W => refplain_w (bA n (numsF a b c d m) 5 ++ List.replicate 8 32 ++ bB l p u r ty) W hAB (by omega)
            have hf7 : fitsB (plainS (bA n (numsF a b c d m) 5 ++ List.replicate 8 32 ++ bB l p u r ty)) 7 = true := (fits_iff _ 7 (by omega) (by omega)).2 ⟨hpb.1, by rw [show (8 : Int) ^ ((7 : Int) - 1).toNat = 262144 by decide]; omega⟩
            have q32 := fun W => ref_yes (plainS (bA n (numsF a b c d m) 5 ++ List.replicate 8 32 ++ bB l p u r ty)) 7 W hpb.1 (by omega) (by omega) (by omega) hf7
            have zF : (strOf (octs (plainS (bA n (numsF a b c d m) 5 ++ List.replicate 8 32 ++ bB l p u r ty)) (7 - 1) ++ [0])).size = 7 := by rw [strOf_size, List.length_append, octs_length]; rfl
            have zB : (strOf (bB l p u r ty)).size = 356 := by rw [strOf_size, lB]
            have zA : (strOf (bA n (numsF a b c d m) 5)).size = 148 := by rw [strOf_size, lA]
            have Q33 : Hid _ := q33
            have Q32 : Hid _ := q32
            clear q33 q32 hf7 hAB HL6 HZ7 HS6 HS5 l7 lB ll lu lr lp lA
            generalize plainS (bA n (numsF a b c d m) 5 ++ List.replicate 8 32 ++ bB l p u r ty) = PS at *
            generalize strOf (bA n (numsF a b c d m) 5 ++ List.replicate 8 32 ++ bB l p u r ty) = S7 at *
            generalize strOf (padT p 155 ++ rep 12) = P2 at *
            generalize strOf (s8 p ++ List.replicate (155 - (p.size : Int)).toNat 0) = P1 at *
            go_upto_region 18 with fail
            go_quiet ((go_at_call 31; exact Calls.quiet_of_same (noughtsI _ _ (by omega) (by omega))))
            have HB8 : Hid (Below w.heap.size w (w7.drewN nq)) := (HLb.out _ (HQl.out _ (HQg.out _ _ HQ7.out (belowN (Below.refl _ w7) nq)))).1
            generalize w7.drewN nq = w8 at *
            clear r1 r2 r3 z0 z1 z2 z3 z8 y1 y2 y3 x1 x2 x3 x4 x5 x6
            have r1 := HC1.out
            have r2 := HC2.out
            generalize strOf (bA n (numsF a b c d m) 5) = XA at *
            generalize strOf (bB l p u r ty) = XB at *
            rw [show (7 - 1 : Nat) = 6 from rfl] at zF
            have Q32' : Hid (∀ W, Calls Tryd.prog 32 #[.int .i64 PS, .int .i64 7] W fun e w' => e = .returned (.tuple #[.string (strOf (octs PS 6 ++ [0])), .int .i64 0]) ∧ Below W.heap.size W w') := Q32.out
            clear Q32 HC1 HC2
            generalize strOf (octs PS 6 ++ [0]) = FF at *
            go_upto_region 20 with (first | (go_at_call 33; refine (Q33.out _).mono ?_; rintro e w9 ⟨rfl, b9⟩; have HB9 : Hid (Below w.heap.size w w9) := HB8.out.trans (b9.mono HB8.out.size); clear b9) | (go_at_call 32; refine (Q32'.out _).mono ?_; rintro e w10 ⟨rfl, b10⟩; have HB10 : Hid (Below w.heap.size w w10) := HB9.out.trans (b10.mono HB9.out.size); clear b10))
            have zAF : (XA ++ FF).size = 155 := by rw [ByteArray.size_append, zA, zF]
            have zAG : (XA ++ FF ++ ⟨#[32]⟩).size = 156 := by rw [ByteArray.size_append, zAF]; rfl
            go_quiet (fail)
            have HB11 : Hid (Below w.heap.size w (w10.drewN nq)) := belowN HB10.out nq
            generalize w10.drewN nq = w11 at *
            go_wp2
            exact HPY.out _ _ HTX.out HAll.out HFin.out HB11.out

end Go.Proofs.YtmholjjicklnhabDoor
