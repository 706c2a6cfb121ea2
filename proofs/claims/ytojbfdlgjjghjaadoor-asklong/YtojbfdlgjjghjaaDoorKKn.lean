/-
  The laws' walks: AskLong.
-/
import Derived.Test.YtojbfdlgjjghjaaDoorKKl
import Derived.Lib.SlBytesConst
import Derived.Lib.AppendZeros
namespace Go.Proofs.YtojbfdlgjjghjaaDoor.K
open Go.RowKit
open Go.Lib hiding intOf
set_option linter.unusedVariables false
set_option linter.unusedSimpArgs false

/-- the line so far -/
def ll (m : Nat) : List UInt8 := [108, 105, 115, 116, 32, 48, 32] ++ List.replicate (m - 7) 97
theorem ll_length (m : Nat) (h : 7 ≤ m) : (ll m).length = m := by simp [ll]; omega
theorem ll_next (m : Nat) (h : 7 ≤ m) : Lib.byteCells (ll (m + 1)) = Lib.byteCells (ll m) ++ [.int .u8 97] := by
  have e : m + 1 - 7 = (m - 7) + 1 := by omega
  unfold ll
  rw [e, List.replicate_succ']
  simp [Lib.byteCells]

/-- the line so far, in memory -/
def LB (B : Nat) (W : World) (v : Value) (m : Nat) : Prop :=
  (m = 7 ∧ ∃ g, v = .slice (some ⟨g, 0, none⟩) 7 7 ∧ ∀ j u, (Lib.byteCells (ll 7))[j]? = some u → W.cell? ((⟨g, 0, none⟩ : Addr).add j) = some u) ∨ (7 < m ∧ W.ownsRow B 5 1 v m (Lib.byteCells (ll m)))
theorem LB.shape {B : Nat} {W : World} {v : Value} {m : Nat} (h : LB B W v m) : ∃ g c, v = .slice (some ⟨g, 0, none⟩) m c ∧ ∀ j u, (Lib.byteCells (ll m))[j]? = some u → W.cell? ((⟨g, 0, none⟩ : Addr).add j) = some u := by
  rcases h with ⟨rfl, g, rfl, hc⟩ | ⟨h7, ho⟩
  · exact ⟨g, 7, rfl, hc⟩
  · rcases id ho.2 with ⟨e1, e2⟩ | ⟨g, cap, cur, e1, e2⟩
    · omega
    · subst e1
      exact ⟨g, cap, rfl, ho.cells (g := g) rfl⟩

theorem LB.step {B : Nat} {W : World} {v : Value} {m : Nat} (h : LB B W v m) (h7 : 7 ≤ m) (hm : m ≤ 16400) (hB : B ≤ W.heap.size) (ty : TypeId) :
    ∃ v' W', (Builtin.append_ #[23, 23] ty #[v, .slice (some ⟨W.heap.size, 0, none⟩) 1 1]).run Tryd.prog (W.alloc (.cells #[.int .u8 97] 5)) = .ok v' W' ∧ LB B W' v' (m + 1) ∧ Below B W W' := by
  obtain ⟨i0, hi, hz0, hz1, hz2⟩ := info_parts info_u8
  have hnews : ∀ j u, ([.int .u8 97] : List Value)[j]? = some u → (W.alloc (.cells #[.int .u8 97] 5)).cell? ((⟨W.heap.size, 0, none⟩ : Addr).add j) = some u := by
    intro j u hj
    match j, hj with
    | 0, hj => simp at hj; subst hj; simp [Addr.add]
  have b0 : Below B W (W.alloc (.cells #[.int .u8 97] 5)) := (Below.refl B W).alloc hB _
  rcases h with ⟨rfl, g, rfl, hc⟩ | ⟨h8, ho⟩
  · have hc' : ∀ j u, (Lib.byteCells (ll 7))[j]? = some u → (W.alloc (.cells #[.int .u8 97] 5)).cell? ((⟨g, 0, none⟩ : Addr).add j) = some u := fun j u hj => by
      have := hc j u hj
      have hlt := Lib.lt_of_cell this
      rw [World.cell?_alloc_lt _ _ _ hlt]
      exact this
    have hr := run_append_grow (P := Tryd.prog) (w := W.alloc (.cells #[.int .u8 97] 5)) 23 ty 5 i0 (.int .u8 0) Tryd.underlying23 hi hz0 ⟨g, 0, none⟩ 7 7 (Lib.byteCells (ll 7)) (by rw [hz1]; rfl) hc' ⟨W.heap.size, 0, none⟩ 1 1 [.int .u8 97] (by rw [hz1]; rfl) hnews (by omega) (by decide) (by rw [hz2]; decide)
    refine ⟨_, _, hr, .inr ⟨by omega, ?_⟩, (b0.drew).alloc (by simp; omega) _⟩
    have hge := grownCap_ge (W.alloc (.cells #[.int .u8 97] 5)) 8 7 5
    have hcm2 := grownCap_le_maxLen (W.alloc (.cells #[.int .u8 97] 5)) 8 7 5 (by unfold maxLen; omega)
    refine ⟨by rfl, .inr ⟨_, _, _, rfl, by simp; omega, heap_alloc_new _ _, hge, hcm2, ?_, ?_⟩⟩
    · simp only [Array.size_append, List.size_toArray]
      have hs : (Lib.byteCells (ll 7)).length = 7 := rfl
      rw [hs]
      simp [size_zeroCells, Value.cells]
      omega
    · have e : Lib.byteCells (ll (7 + 1)) = Lib.byteCells (ll 7) ++ [.int .u8 97] := ll_next 7 (by omega)
      rw [e]
      simp only [Array.toList_append, List.append_assoc]
      rw [← List.append_assoc]
      have e8 : (7 + 1) * 1 = (Lib.byteCells (ll 7) ++ [Value.int .u8 97]).length := rfl
      rw [e8]
      exact List.take_left
  · obtain ⟨v', w', hr, h2, h3, h4⟩ := run_append_own (P := Tryd.prog) (w := W.alloc (.cells #[.int .u8 97] 5)) B 23 ty 5 i0 (.int .u8 0) 1 1 Tryd.underlying23 hi hz0 hz1 hz2 rfl (by decide) v m _ (ho.alloc _) ⟨W.heap.size, 0, none⟩ 1 1 [.int .u8 97] rfl hnews (by intro u hu; simp at hu; subst hu; rfl) (by unfold maxLen; omega) (by omega) (by simp; omega)
    refine ⟨v', w', hr, .inr ⟨by omega, by rw [ll_next m h7]; exact h2⟩, b0.grown h3 (by simp; omega) (fun k hk => ?_)⟩
    exact (ho.lt k hk).1

theorem list_lit : wd 5 ++ (sps ++ (num 0 ++ sps)) = ⟨#[108, 105, 115, 116, 32, 48, 32]⟩ := by kernel_rfl
theorem dec_ll (m : Nat) (h7 : 7 ≤ m) : decP ⟨(ll m).toArray⟩ = if 16384 < m then .inl 2 else .inr (⟨5, 0, 0, 0, ⟨(List.replicate (m - 7) 97).toArray⟩⟩, []) := by
  have hs : (⟨(ll m).toArray⟩ : ByteArray).size = m := by show (ll m).toArray.size = m; rw [List.size_toArray, ll_length m h7]
  by_cases c : 16384 < m
  · rw [if_pos c]
    unfold decP
    rw [if_pos (by omega)]
  · rw [if_neg c]
    have e : (⟨(ll m).toArray⟩ : ByteArray) = wd 5 ++ (sps ++ (num ((0 : Nat) : Int) ++ (sps ++ ⟨(List.replicate (m - 7) 97).toArray⟩))) := by
      have := list_lit
      have e2 : wd 5 ++ (sps ++ (num ((0 : Nat) : Int) ++ (sps ++ ⟨(List.replicate (m - 7) 97).toArray⟩))) = (wd 5 ++ (sps ++ (num 0 ++ sps))) ++ ⟨(List.replicate (m - 7) 97).toArray⟩ := by simp [ByteArray.append_assoc]
      rw [e2, this]
      apply ByteArray.ext
      simp [ll, ByteArray.data_append]
    rw [e] at hs ⊢
    exact dec_path 5 (by omega) 0 (by omega) _ (by omega)

set_option maxRecDepth 20000 in
set_option maxHeartbeats 4000000 in
theorem long_in (n : Nat) (h1 : 16370 ≤ n) (h2 : n ≤ 16400) (w : World) (ht : Vs w) :
    Calls Tryd.prog 8 #[.int .i64 (n : Int)] w fun e w' => e = .returned (.bool true) ∧ Below w.heap.size w w' := by
  have q0 := asks_w w ht
  have HD : Hid (∀ W, Below w.heap.size w W → Calls Tryd.prog 10 #[.string ⟨(ll n).toArray⟩] W fun e w' => DecOk W w' e (if 16384 < n then .inl 2 else .inr (⟨5, 0, 0, 0, ⟨(List.replicate (n - 7) 97).toArray⟩⟩, [])) ∧ Below W.heap.size W w') := fun W b => by
    have := decode_w ⟨(ll n).toArray⟩ (by show (ll n).toArray.size ≤ _; rw [List.size_toArray, ll_length n (by omega)]; omega) W (ht.below b)
    rw [dec_ll n (by omega)] at this
    exact this
  have hk := fun (W : World) => Lib.run_convert_bytes_const (P := Tryd.prog) W 23 5 #[.int .u8 108, .int .u8 105, .int .u8 115, .int .u8 116, .int .u8 32, .int .u8 48, .int .u8 32] 7 7 Tryd.underlying23 Tryd.underlying5
  go_enter Tryd.func8, Tryd.ntmps8
  go_upto_region 5 with (go_at_call 9; refine q0.mono ?_; rintro e w1 ⟨rfl, b1⟩)
  go_wp2_with fail
  generalize hB : w1.heap.size = B at *
  have L0 : Hid (LB B (w1.alloc (.cells #[.int .u8 108, .int .u8 105, .int .u8 115, .int .u8 116, .int .u8 32, .int .u8 48, .int .u8 32] 5 (7, 8))) (.slice (some ⟨B, 0, none⟩) 7 7) 7) := by
    refine .inl ⟨rfl, B, rfl, fun j u hj => ?_⟩
    have e9 : (⟨B, 0, none⟩ : Addr).add j = ⟨B, j, none⟩ := by unfold Addr.add; split <;> simp_all
    rw [e9, ← hB]
    have hh : (w1.alloc (.cells #[.int .u8 108, .int .u8 105, .int .u8 115, .int .u8 116, .int .u8 32, .int .u8 48, .int .u8 32] 5 (7, 8))).heap[w1.heap.size]? = some _ := heap_alloc_new w1 _
    simp only [World.cell?, hh]
    match j, hj with
    | 0, hj | 1, hj | 2, hj | 3, hj | 4, hj | 5, hj | 6, hj => simpa [Lib.byteCells, ll] using hj
    | j + 7, hj => simp [Lib.byteCells, ll] at hj
  have b2 : Below w.heap.size w (w1.alloc (.cells #[.int .u8 108, .int .u8 105, .int .u8 115, .int .u8 116, .int .u8 32, .int .u8 48, .int .u8 32] 5 (7, 8))) := b1.alloc b1.size _
  have hBs : B ≤ (w1.alloc (.cells #[.int .u8 108, .int .u8 105, .int .u8 115, .int .u8 116, .int .u8 32, .int .u8 48, .int .u8 32] 5 (7, 8))).heap.size := by simp; omega
  have hBw : w.heap.size ≤ B := by rw [← hB]; exact b1.size
  generalize hW2 : World.alloc _ _ = W2 at *
  clear hW2 hk q0 b1
  go_loopg [3] n (fun g u wr => ∃ m : Nat, m + g = n + 7 ∧ 7 ≤ m ∧ m ≤ n ∧ Hid (LB B wr u m) ∧ Below w.heap.size w wr ∧ B ≤ wr.heap.size)
  case atStart => exact ⟨7, by omega, by omega, by omega, L0, b2, hBs⟩
  case round =>
    obtain ⟨m, hmg, h7, hmn, hL, hb, hBr⟩ := hrel
    clear L0 b2 hBs
    obtain ⟨g, c, rfl, hc⟩ := hL.out.shape
    by_cases hlt : m < n
    · obtain ⟨v', W', hr, hL2, hB2⟩ := hL.out.step h7 (by omega) hBr 23
      have hb2 : Below w.heap.size w W' := hb.trans (hB2.mono hBw)
      have hBs2 : B ≤ W'.heap.size := by have := hB2.size; omega
      obtain ⟨g', c', rfl, _⟩ := hL2.shape
      have HL2 : Hid _ := hL2
      clear hL hL2 hB2 hc
      go_wp2_with (at_builtin; refine Lib.wpList_append_run _ rfl _ _ 23 23 rfl _ _ rfl rfl _ W' hr ?_)
      go_roundg (n + 7 - (m + 1))
      case rel => exact ⟨m + 1, by omega, by omega, by omega, HL2, hb2, hBs2⟩
      case measure => omega
    · obtain rfl : m = n := by omega
      have hcv : (convert 23 9 (.slice (some ⟨g, 0, none⟩) m c)).run Tryd.prog wr = .ok (.string ⟨(ll m).toArray⟩) wr := by
        have := bytes_str (w := wr) (g := g) (o := 0) (l := ll m) (fun i hi => by
          have hx := hc i (.int .u8 ((ll m)[i].toNat : Int)) (by simp [Lib.byteCells, hi])
          have e9 : (⟨g, 0, none⟩ : Addr).add i = ⟨g, 0 + i, none⟩ := by unfold Addr.add; split <;> simp_all
          rw [e9] at hx
          exact hx) c
        rw [ll_length m h7] at this
        exact this
      have qd := HD.out _ hb
      clear hL hc HD
      generalize (⟨(ll m).toArray⟩ : ByteArray) = line at *
      by_cases hc2 : 16384 < m
      · rw [if_pos hc2] at qd
        simp only [DecOk, Ak.cells, Ak.zero] at qd
        have hc3 : (16384 : Int) < m := by omega
        go_wp2_with (go_at_call 10; refine qd.mono ?_; rintro e w5 ⟨rfl, b5⟩)
        go_ret
        exact ⟨rfl, (hb.trans (b5.mono hb.size)).alloc (hb.trans (b5.mono hb.size)).size _⟩
      · rw [if_neg hc2] at qd
        simp only [DecOk, Ak.cells] at qd
        have hc3 : ¬ (16384 : Int) < m := by omega
        have hps : ((⟨(List.replicate (m - 7) 97).toArray⟩ : ByteArray).size : Int) = (m : Int) - 7 := by
          show ((List.replicate (m - 7) (97 : UInt8)).toArray.size : Int) = _
          simp; omega
        generalize (⟨(List.replicate (m - 7) 97).toArray⟩ : ByteArray) = p at *
        go_wp2_with (go_at_call 10; refine qd.mono ?_; rintro e w5 ⟨⟨d, rfl, hd⟩, b5⟩; obtain ⟨ad, rfl⟩ := hd.nil)
        go_ret
        exact ⟨by simp [hps], (hb.trans (b5.mono hb.size)).alloc (hb.trans (b5.mono hb.size)).size _⟩

/-- AskLong -/
theorem long_walk (n : Int) (w : World) (ht : Vs w) :
    Calls Tryd.prog 8 #[.int .i64 n] w fun e w' => e = .returned (.bool true) ∧ Below w.heap.size w w' := by
  by_cases hg : 16370 ≤ n ∧ n ≤ 16400
  · obtain ⟨m, rfl⟩ : ∃ m : Nat, n = m := ⟨n.toNat, by omega⟩
    exact long_in m (by omega) (by omega) w ht
  · have q0 := asks_w w ht
    clear ht
    have HG : n < 16370 ∨ (¬ n < 16370 ∧ 16400 < n) := by omega
    clear hg
    rcases HG with h1 | ⟨h1, h2⟩
    all_goals
      go_enter Tryd.func8, Tryd.ntmps8
      go_wp2_with (go_at_call 9; refine q0.mono ?_; rintro e w1 ⟨rfl, b1⟩)
      go_ret
      exact ⟨rfl, b1⟩
end Go.Proofs.YtojbfdlgjjghjaaDoor.K
