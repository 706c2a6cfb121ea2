/-
  pannierlaw06.plain; a header of the document's is itself.
-/
import Derived.Test.YtmholjjicklnhabDoorRd
import Derived.ChangeKeysEq
namespace Go.Proofs.YtmholjjicklnhabDoor
open Go.RowKit
set_option linter.unusedVariables false
set_option linter.unusedSimpArgs false

set_option maxHeartbeats 1000000 in
theorem plainh_w (f : Int) (n l p u r : ByteArray) (ty a b c d m : Int) (w : World) : Calls Tryd.prog 12 #[.agg #[.int .i64 f, .string n, .string l, .string p, .string u, .string r, .int .u8 ty, .int .i64 a, .int .i64 b, .int .i64 c, .int .i64 d, .int .i64 m]] w fun e w' => e = .returned (.agg #[.int .i64 f, .int .u8 ty, .string n, .string l, .string p, .string u, .string r, .int .i64 a, .int .i64 b, .int .i64 c, .int .i64 d, .int .i64 m]) ∧ Below w.heap.size w w' := by
  have b1 : Below w.heap.size w ((w.alloc (.cells #[.int .i64 f, .string n, .string l, .string p, .string u, .string r, .int .u8 ty, .int .i64 a, .int .i64 b, .int .i64 c, .int .i64 d, .int .i64 m] 25)).alloc (.cells #[.int .i64 f, .int .u8 ty, .string n, .string l, .string p, .string u, .string r, .int .i64 a, .int .i64 b, .int .i64 c, .int .i64 d, .int .i64 m] 32)) := ((Below.refl _ w).alloc (Nat.le_refl _) _).alloc (by simp) _
  have r3 : ((w.alloc (.cells #[.int .i64 f, .string n, .string l, .string p, .string u, .string r, .int .u8 ty, .int .i64 a, .int .i64 b, .int .i64 c, .int .i64 d, .int .i64 m] 25)).alloc (.cells #[.int .i64 f, .int .u8 ty, .string n, .string l, .string p, .string u, .string r, .int .i64 a, .int .i64 b, .int .i64 c, .int .i64 d, .int .i64 m] 32)).heap[w.heap.size + 1]? = some (.cells #[.int .i64 f, .int .u8 ty, .string n, .string l, .string p, .string u, .string r, .int .i64 a, .int .i64 b, .int .i64 c, .int .i64 d, .int .i64 m] 32 (0, 0)) := heap_alloc2_new _ _ _
  go_enter Tryd.func12, Tryd.ntmps12
  go_wp2
  exact bodyPost_ret (results_cell_row rfl _ _ (w.heap.size + 1) 32 _ (0, 0) _ rfl r3 Tryd.underlying32 rfl inf32) rfl ⟨rfl, b1⟩

theorem eqItems_self (d : Nat) (e : TypeId) (n : Nat) (xs : Array Value) (W : World) : ∀ is : List Nat, (∀ i ∈ is, ∃ v, (part e xs (i * n)).run Tryd.prog W = .ok v W ∧ (Op.equalIn d e v v).run Tryd.prog W = .ok true W) → (Op.eqItems d e n xs xs is).run Tryd.prog W = .ok true W
  | [], _ => by simp [Op.eqItems]
  | i :: is, h => by
    obtain ⟨v, h1, h2⟩ := h i (by simp)
    have ih := eqItems_self d e n xs W is (fun j hj => h j (by simp [hj]))
    simp only [Op.eqItems, Sem.run_bind, h1, h2, Result.andThen_ok]
    simpa using ih

theorem cells9 : Tryd.prog.cellsOf 9 = 1 := by kernel_rfl
theorem cells2 : Tryd.prog.cellsOf 2 = 1 := by kernel_rfl

theorem eq32 (f : Int) (n l p u r : ByteArray) (ty a b c d m : Int) (W : World) : (Op.equalIn 10000 32 (.agg #[.int .i64 f, .int .u8 ty, .string n, .string l, .string p, .string u, .string r, .int .i64 a, .int .i64 b, .int .i64 c, .int .i64 d, .int .i64 m]) (.agg #[.int .i64 f, .int .u8 ty, .string n, .string l, .string p, .string u, .string r, .int .i64 a, .int .i64 b, .int .i64 c, .int .i64 d, .int .i64 m])).run Tryd.prog W = .ok true W := by
  rw [run_equalIn_struct W 9999 32 _ _ (by kernel_rfl) (by kernel_rfl)]
  rw [show (Tryd.prog.fieldsOf 32) = _ from by unfold Program.fieldsOf; rw [Tryd.underlying32]]
  have x0 : (part 3 #[.int .i64 f, .int .u8 ty, .string n, .string l, .string p, .string u, .string r, .int .i64 a, .int .i64 b, .int .i64 c, .int .i64 d, .int .i64 m] 0).run Tryd.prog W = .ok (.int .i64 f) W := by kernel_rfl
  have x1 : (part 5 #[.int .i64 f, .int .u8 ty, .string n, .string l, .string p, .string u, .string r, .int .i64 a, .int .i64 b, .int .i64 c, .int .i64 d, .int .i64 m] 1).run Tryd.prog W = .ok (.int .u8 ty) W := by kernel_rfl
  have x2 : (part 29 #[.int .i64 f, .int .u8 ty, .string n, .string l, .string p, .string u, .string r, .int .i64 a, .int .i64 b, .int .i64 c, .int .i64 d, .int .i64 m] 2).run Tryd.prog W = .ok (.agg #[.string n, .string l, .string p, .string u, .string r]) W := by kernel_rfl
  have x3 : (part 30 #[.int .i64 f, .int .u8 ty, .string n, .string l, .string p, .string u, .string r, .int .i64 a, .int .i64 b, .int .i64 c, .int .i64 d, .int .i64 m] 7).run Tryd.prog W = .ok (.agg #[.int .i64 a, .int .i64 b, .int .i64 c, .int .i64 d, .int .i64 m]) W := by kernel_rfl
  have e0 : (Op.equalIn 9999 3 (.int .i64 f) (.int .i64 f)).run Tryd.prog W = .ok true W := by rw [run_equalIn_int W 9998 3 _ _ _ _ Tryd.underlying3]; simp
  have e1 : (Op.equalIn 9999 5 (.int .u8 ty) (.int .u8 ty)).run Tryd.prog W = .ok true W := by rw [run_equalIn_int W 9998 5 _ _ _ _ Tryd.underlying5]; simp
  have s9 : ∀ s : ByteArray, (Op.equalIn 9998 9 (.string s) (.string s)).run Tryd.prog W = .ok true W := fun s => by rw [run_equalIn_string W 9997 9 _ _ Tryd.underlying9]; simp
  have s2 : ∀ s : Int, (Op.equalIn 9998 2 (.int .i64 s) (.int .i64 s)).run Tryd.prog W = .ok true W := fun s => by rw [run_equalIn_int W 9997 2 _ _ _ _ Tryd.underlying2]; simp
  obtain ⟨i9, hi9⟩ : ∃ i, Tryd.prog.info? 9 = some i := Option.isSome_iff_exists.1 (by kernel_rfl)
  obtain ⟨i2, hi2⟩ : ∃ i, Tryd.prog.info? 2 = some i := Option.isSome_iff_exists.1 (by kernel_rfl)
  have e2 : (Op.equalIn 9999 29 (.agg #[.string n, .string l, .string p, .string u, .string r]) (.agg #[.string n, .string l, .string p, .string u, .string r])).run Tryd.prog W = .ok true W := by
    rw [run_equalIn_array W 9998 _ _ Tryd.underlying29 hi9, cells9]
    refine eqItems_self 9998 9 1 _ W _ (fun i hi => ?_)
    have hi5 : i < 5 := by simpa using hi
    rcases (show i = 0 ∨ i = 1 ∨ i = 2 ∨ i = 3 ∨ i = 4 by omega) with rfl | rfl | rfl | rfl | rfl
    · exact ⟨.string n, by kernel_rfl, s9 n⟩
    · exact ⟨.string l, by kernel_rfl, s9 l⟩
    · exact ⟨.string p, by kernel_rfl, s9 p⟩
    · exact ⟨.string u, by kernel_rfl, s9 u⟩
    · exact ⟨.string r, by kernel_rfl, s9 r⟩
  have e3 : (Op.equalIn 9999 30 (.agg #[.int .i64 a, .int .i64 b, .int .i64 c, .int .i64 d, .int .i64 m]) (.agg #[.int .i64 a, .int .i64 b, .int .i64 c, .int .i64 d, .int .i64 m])).run Tryd.prog W = .ok true W := by
    rw [run_equalIn_array W 9998 _ _ Tryd.underlying30 hi2, cells2]
    refine eqItems_self 9998 2 1 _ W _ (fun i hi => ?_)
    have hi5 : i < 5 := by simpa using hi
    rcases (show i = 0 ∨ i = 1 ∨ i = 2 ∨ i = 3 ∨ i = 4 by omega) with rfl | rfl | rfl | rfl | rfl
    · exact ⟨.int .i64 a, by kernel_rfl, s2 a⟩
    · exact ⟨.int .i64 b, by kernel_rfl, s2 b⟩
    · exact ⟨.int .i64 c, by kernel_rfl, s2 c⟩
    · exact ⟨.int .i64 d, by kernel_rfl, s2 d⟩
    · exact ⟨.int .i64 m, by kernel_rfl, s2 m⟩
  simp only [Op.eqFields]
  rw [if_pos (by decide), Sem.run_bind, x0, Result.andThen_ok, Sem.run_bind, x0, Result.andThen_ok, Sem.run_bind, e0, Result.andThen_ok, Sem.run_ite, if_neg (by decide)]
  rw [if_pos (by decide), Sem.run_bind, x1, Result.andThen_ok, Sem.run_bind, x1, Result.andThen_ok, Sem.run_bind, e1, Result.andThen_ok, Sem.run_ite, if_neg (by decide)]
  rw [if_pos (by decide), Sem.run_bind, x2, Result.andThen_ok, Sem.run_bind, x2, Result.andThen_ok, Sem.run_bind, e2, Result.andThen_ok, Sem.run_ite, if_neg (by decide)]
  rw [if_pos (by decide), Sem.run_bind, x3, Result.andThen_ok, Sem.run_bind, x3, Result.andThen_ok, Sem.run_bind, e3, Result.andThen_ok, Sem.run_ite, if_neg (by decide), Sem.run_pure]

theorem held_step {w6 W W' : World} {R : Prop} (h : Below w6.heap.size w6 W ∧ R) (b : Below W.heap.size W W') : Below w6.heap.size w6 W' := h.1.trans (b.mono h.1.size)

/-- whether the first k bytes of a block are 0 -/
def blkB (zs : List Int) (k : Nat) : Bool := decide (zs.length = 512) && (zs.take k).all (fun z => z == 0)
theorem blkB_zero (zs : List Int) : blkB zs 0 = decide (zs.length = 512) := by simp [blkB]
theorem blkB_next (zs : List Int) (k : Nat) (h : k < zs.length) : blkB zs (k + 1) = (blkB zs k && (zs[k]?.getD 0 == 0)) := by
  unfold blkB
  rw [List.take_succ_eq_append_getElem h, List.all_append, List.getElem?_eq_getElem h]
  simp [Bool.and_assoc]
theorem blkB_all (zs : List Int) (h : zs.length = 512) : blkB zs zs.length = blankB zs := by
  unfold blkB blankB
  rw [List.take_of_length_le (Nat.le_refl _), decide_eq_true h, Bool.true_and]

set_option maxRecDepth 100000 in
set_option maxHeartbeats 2000000 in
theorem hr_walk (ad : Option Addr) (N cap : Nat) (zs : List Int) (w : World) (L : Laid w) (hl : Hid (zs.length = N)) (hN : N ≤ 2000) (hs : Src w ad zs) (f : Int) (n l p u r : ByteArray) (ty a b c d m : Int) (code : Int)
    (hD : ∀ W, Below w.heap.size w W → Calls Tryd.prog 10 #[.slice ad N cap] W fun e w' => e = .returned (.tuple #[.agg #[.int .i64 f, .string n, .string l, .string p, .string u, .string r, .int .u8 ty, .int .i64 a, .int .i64 b, .int .i64 c, .int .i64 d, .int .i64 m], .int .i64 code]) ∧ Below W.heap.size W w')
    (hR : ∀ W, Calls Tryd.prog 11 #[.string (strOf zs)] W fun e w' => e = .returned (.tuple #[.agg #[.int .i64 f, .int .u8 ty, .string n, .string l, .string p, .string u, .string r, .int .i64 a, .int .i64 b, .int .i64 c, .int .i64 d, .int .i64 m], .int .i64 code]) ∧ Below W.heap.size W w')
    (hB : ∀ W, Below w.heap.size w W → Calls Tryd.prog 13 #[.slice ad N cap] W fun e w' => e = .returned (.bool (blkB zs N)) ∧ W = w') :
    Calls Tryd.prog 3 #[.slice ad N cap] w fun e w' => e = .returned (.bool true) ∧ Below w.heap.size w w' := by
  have q := reads_ok w L
  have c1 : ¬ (2000 : Int) < (N : Int) := by omega
  have HD : Hid _ := hD
  have HR : Hid _ := hR
  have HB : Hid _ := hB
  have HV : Hid (∀ W, Below w.heap.size w W → (convert 22 9 (.slice ad N cap)).run Tryd.prog W = .ok (.string (strOf zs)) W) := fun W hw => conv_src W ad zs N cap hl.out (hs.grow hw)
  have HC : Hid (∀ W, Below w.heap.size w W → Src W ad zs) := fun W hw => hs.grow hw
  have heq := eq32 f n l p u r ty a b c d m
  have HEQ : Hid _ := heq
  clear hD hR hB hs heq
  generalize strOf zs = S at *
  have hB0 : (decide ((N : Int) = 512)) = blkB zs 0 := by rw [blkB_zero, hl.out]; simp; omega
  go_enter Tryd.func3, Tryd.ntmps3
  go_wp2_with (first | (go_at_call 9; refine q.mono ?_; rintro e w1 ⟨rfl, b1⟩; have HB1 : Hid _ := b1; clear b1) | (go_at_call 10; refine (HD.out _ HB1.out).mono ?_; rintro e w2 ⟨rfl, b2⟩; have HB2 : Hid (Below w.heap.size w w2) := HB1.out.trans (b2.mono HB1.out.size); have HB3 : Hid (Below w.heap.size w (w2.alloc (.cells #[.int .i64 f, .string n, .string l, .string p, .string u, .string r, .int .u8 ty, .int .i64 a, .int .i64 b, .int .i64 c, .int .i64 d, .int .i64 m] 25))) := HB2.out.alloc HB2.out.size _; have hcv := HV.out _ HB3.out; clear b2) | (go_at_call 11; refine (HR.out _).mono ?_; rintro e w4 ⟨rfl, b4⟩; have HB4 : Hid (Below w.heap.size w w4) := HB3.out.trans (b4.mono HB3.out.size); have HH4 : Hid (w4.heap[w2.heap.size]? = some (.cells #[.int .i64 f, .string n, .string l, .string p, .string u, .string r, .int .u8 ty, .int .i64 a, .int .i64 b, .int .i64 c, .int .i64 d, .int .i64 m] 25 (0, 0))) := (by show _ = _; rw [b4.block _ (by simp)]; exact heap_alloc_new w2 _); clear b4))
  have HB5' : Hid (Below w.heap.size w (w4.alloc (.cells #[.int .i64 f, .int .u8 ty, .string n, .string l, .string p, .string u, .string r, .int .i64 a, .int .i64 b, .int .i64 c, .int .i64 d, .int .i64 m] 32))) := HB4.out.alloc HB4.out.size _
  have HW5 : Hid ((w4.alloc (.cells #[.int .i64 f, .int .u8 ty, .string n, .string l, .string p, .string u, .string r, .int .i64 a, .int .i64 b, .int .i64 c, .int .i64 d, .int .i64 m] 32)).heap[w4.heap.size]? = some (.cells #[.int .i64 f, .int .u8 ty, .string n, .string l, .string p, .string u, .string r, .int .i64 a, .int .i64 b, .int .i64 c, .int .i64 d, .int .i64 m] 32 (0, 0))) := heap_alloc_new w4 _
  have HH5 : Hid ((w4.alloc (.cells #[.int .i64 f, .int .u8 ty, .string n, .string l, .string p, .string u, .string r, .int .i64 a, .int .i64 b, .int .i64 c, .int .i64 d, .int .i64 m] 32)).heap[w2.heap.size]? = some (.cells #[.int .i64 f, .string n, .string l, .string p, .string u, .string r, .int .u8 ty, .int .i64 a, .int .i64 b, .int .i64 c, .int .i64 d, .int .i64 m] 25 (0, 0))) := by show _ = _; rw [Below.heap_alloc _ _ _ (lt_of_heap HH4.out)]; exact HH4.out
  generalize w4.alloc (.cells #[.int .i64 f, .int .u8 ty, .string n, .string l, .string p, .string u, .string r, .int .i64 a, .int .i64 b, .int .i64 c, .int .i64 d, .int .i64 m] 32) = W5 at *
  generalize w2.heap.size = HB5 at *
  generalize w4.heap.size = WB5 at *
  have HSr : Hid (Src W5 ad zs) := HC.out _ HB5'.out
  have HSS : Hid (∀ W, Below W5.heap.size W5 W → Below W5.heap.size W5 W ∧ W.cell? ⟨HB5, 0, none⟩ = some (.int .i64 f) ∧ W.cell? ⟨HB5, 1, none⟩ = some (.string n) ∧ W.cell? ⟨HB5, 2, none⟩ = some (.string l) ∧ W.cell? ⟨HB5, 3, none⟩ = some (.string p) ∧ W.cell? ⟨HB5, 4, none⟩ = some (.string u) ∧ W.cell? ⟨HB5, 5, none⟩ = some (.string r) ∧ W.cell? ⟨HB5, 6, none⟩ = some (.int .u8 ty) ∧ W.cell? ⟨HB5, 7, none⟩ = some (.int .i64 a) ∧ W.cell? ⟨HB5, 8, none⟩ = some (.int .i64 b) ∧ W.cell? ⟨HB5, 9, none⟩ = some (.int .i64 c) ∧ W.cell? ⟨HB5, 10, none⟩ = some (.int .i64 d) ∧ W.cell? ⟨HB5, 11, none⟩ = some (.int .i64 m) ∧ W.cell? ⟨WB5, 0, none⟩ = some (.int .i64 f) ∧ W.cell? ⟨WB5, 1, none⟩ = some (.int .u8 ty) ∧ W.cell? ⟨WB5, 2, none⟩ = some (.string n) ∧ W.cell? ⟨WB5, 3, none⟩ = some (.string l) ∧ W.cell? ⟨WB5, 4, none⟩ = some (.string p) ∧ W.cell? ⟨WB5, 5, none⟩ = some (.string u) ∧ W.cell? ⟨WB5, 6, none⟩ = some (.string r) ∧ W.cell? ⟨WB5, 7, none⟩ = some (.int .i64 a) ∧ W.cell? ⟨WB5, 8, none⟩ = some (.int .i64 b) ∧ W.cell? ⟨WB5, 9, none⟩ = some (.int .i64 c) ∧ W.cell? ⟨WB5, 10, none⟩ = some (.int .i64 d) ∧ W.cell? ⟨WB5, 11, none⟩ = some (.int .i64 m)) := fun W hw => by
    have h1 : W.heap[HB5]? = some (.cells #[.int .i64 f, .string n, .string l, .string p, .string u, .string r, .int .u8 ty, .int .i64 a, .int .i64 b, .int .i64 c, .int .i64 d, .int .i64 m] 25 (0, 0)) := by rw [hw.block _ (lt_of_heap HH5.out)]; exact HH5.out
    have h2 : W.heap[WB5]? = some (.cells #[.int .i64 f, .int .u8 ty, .string n, .string l, .string p, .string u, .string r, .int .i64 a, .int .i64 b, .int .i64 c, .int .i64 d, .int .i64 m] 32 (0, 0)) := by rw [hw.block _ (lt_of_heap HW5.out)]; exact HW5.out
    refine ⟨hw, ?_, ?_, ?_, ?_, ?_, ?_, ?_, ?_, ?_, ?_, ?_, ?_, ?_, ?_, ?_, ?_, ?_, ?_, ?_, ?_, ?_, ?_, ?_, ?_⟩ <;> simp only [World.cell?, h1, h2] <;> rfl
  clear HH4 HB4 HB3 HB2 HB1 HH5 HW5 hcv HV HD HR q
  go_loopw [7, 31] (fun bb i wr => ∃ k : Nat, k ≤ N ∧ i = .int .i64 k ∧ bb = .bool (blkB zs k) ∧ wr = W5) (fun _ i _ => N - (intOf i).toNat)
  case atStart => exact ⟨0, by omega, rfl, by rw [← hB0]; first | rfl | simp, rfl⟩
  case round =>
    obtain ⟨k, hk, rfl, rfl, rfl⟩ := hrel
    by_cases hlt : k < N
    · obtain ⟨adr, rfl⟩ := HSr.out.has (by rw [hl.out]; omega)
      have hc := HSr.out.cell k (by rw [hl.out]; exact hlt)
      have HN : Hid (blkB zs (k + 1) = (blkB zs k && (zs[k]?.getD 0 == 0))) := blkB_next zs k (by rw [hl.out]; exact hlt)
      generalize zs[k]?.getD 0 = z at *
      generalize blkB zs k = bk at *
      clear hB0
      cases bk
      · go_wp2
        go_roundw
        case rel => exact ⟨k + 1, by omega, by go_num, by rw [HN.out]; rfl, by first | rfl | trivial⟩
        case measure => simp [intOf]; omega
      · by_cases hz : z = 0
        · have hz2 : (z == 0) = true := by simpa using hz
          go_wp2
          go_roundw
          case rel => exact ⟨k + 1, by omega, by go_num, by rw [HN.out]; simp [hz], by first | rfl | trivial⟩
          case measure => simp [intOf]; omega
        · have hz2 : (z == 0) = false := by simpa using hz
          go_wp2
          go_roundw
          case rel => exact ⟨k + 1, by omega, by go_num, by rw [HN.out, hz2]; rfl, by first | rfl | trivial⟩
          case measure => simp [intOf]; omega
    · obtain rfl : k = N := by omega
      have h0 := HSS.out _ (Below.refl _ wr).drew
      have HQ : Hid (∀ W, Below wr.heap.size wr W → Calls Tryd.prog 13 #[.slice ad k cap] W fun e w' => e = .returned (.bool (blkB zs k)) ∧ W = w') := fun W hw => HB.out W (HB5'.out.trans (hw.mono HB5'.out.size))
      generalize blkB zs k = bk at *
      clear hB0 HB HSr HC
      have heq := HEQ.out
      go_upto_region 13 with fail
      go_region_held3 (fun W => Below wr.heap.size wr W ∧ W.cell? ⟨HB5, 0, none⟩ = some (.int .i64 f) ∧ W.cell? ⟨HB5, 1, none⟩ = some (.string n) ∧ W.cell? ⟨HB5, 2, none⟩ = some (.string l) ∧ W.cell? ⟨HB5, 3, none⟩ = some (.string p) ∧ W.cell? ⟨HB5, 4, none⟩ = some (.string u) ∧ W.cell? ⟨HB5, 5, none⟩ = some (.string r) ∧ W.cell? ⟨HB5, 6, none⟩ = some (.int .u8 ty) ∧ W.cell? ⟨HB5, 7, none⟩ = some (.int .i64 a) ∧ W.cell? ⟨HB5, 8, none⟩ = some (.int .i64 b) ∧ W.cell? ⟨HB5, 9, none⟩ = some (.int .i64 c) ∧ W.cell? ⟨HB5, 10, none⟩ = some (.int .i64 d) ∧ W.cell? ⟨HB5, 11, none⟩ = some (.int .i64 m) ∧ W.cell? ⟨WB5, 0, none⟩ = some (.int .i64 f) ∧ W.cell? ⟨WB5, 1, none⟩ = some (.int .u8 ty) ∧ W.cell? ⟨WB5, 2, none⟩ = some (.string n) ∧ W.cell? ⟨WB5, 3, none⟩ = some (.string l) ∧ W.cell? ⟨WB5, 4, none⟩ = some (.string p) ∧ W.cell? ⟨WB5, 5, none⟩ = some (.string u) ∧ W.cell? ⟨WB5, 6, none⟩ = some (.string r) ∧ W.cell? ⟨WB5, 7, none⟩ = some (.int .i64 a) ∧ W.cell? ⟨WB5, 8, none⟩ = some (.int .i64 b) ∧ W.cell? ⟨WB5, 9, none⟩ = some (.int .i64 c) ∧ W.cell? ⟨WB5, 10, none⟩ = some (.int .i64 d) ∧ W.cell? ⟨WB5, 11, none⟩ = some (.int .i64 m)) (first | assumption | go_keep) (first | (go_at_call 12; refine (plainh_w _ _ _ _ _ _ _ _ _ _ _ _ _).mono ?_; rintro e wa ⟨rfl, ba⟩; have hsa := HSS.out wa (held_step (by assumption) ba); clear ba) | (go_at_call 13; refine (HQ.out _ (And.left (by assumption))).mono ?_; rintro e wc ⟨rfl, rfl⟩))
      have HBE : Hid (Below w.heap.size w wa) := HB5'.out.trans (hsa.1.mono HB5'.out.size)
      go_wp2
      all_goals go_ret
      all_goals exact ⟨by first | rfl | simp, HBE.out⟩

theorem hr_long (ad : Option Addr) (N cap : Nat) (w : World) (L : Laid w) (hN : 2000 < N) (h1 : N ≤ 9223372036854775807) :
    Calls Tryd.prog 3 #[.slice ad N cap] w fun e w' => e = .returned (.bool true) ∧ Below w.heap.size w w' := by
  have q := reads_ok w L
  have c1 : (2000 : Int) < (N : Int) := by omega
  go_enter Tryd.func3, Tryd.ntmps3
  go_wp2_with (go_at_call 9; refine q.mono ?_; rintro e w1 ⟨rfl, b1⟩; have HB1 : Hid _ := b1; clear b1)
  all_goals go_ret
  all_goals exact ⟨by first | rfl | simp, HB1.out⟩

theorem eN_two (zs : List Int) (k : Nat) : eN zs k = 0 ∨ eN zs k = 20 := by
  unfold eN resE
  split
  · exact .inl rfl
  · exact .inr rfl

theorem hr_all (ad : Option Addr) (N cap : Nat) (zs : List Int) (w : World) (L : Laid w) (hl : zs.length = N) (hb : AllB zs) (hc : N ≤ cap) (hc2 : cap ≤ 9223372036854775807) (hnone : ad = none → N = 0 ∧ cap = 0) (hs : Src w ad zs) :
    Calls Tryd.prog 3 #[.slice ad N cap] w fun e w' => e = .returned (.bool true) ∧ Below w.heap.size w w' := by
  by_cases hN : N ≤ 2000
  · by_cases h5 : N = 512
    · subst h5
      obtain ⟨adr, rfl⟩ : ∃ adr, ad = some adr := by
        cases ad with
        | none => have := hnone rfl; omega
        | some adr => exact ⟨adr, rfl⟩
      have hB : ∀ W, Below w.heap.size w W → Calls Tryd.prog 13 #[.slice (some adr) 512 cap] W fun e w' => e = .returned (.bool (blkB zs 512)) ∧ W = w' := fun W hw => by
        rw [show blkB zs 512 = blankB zs by have := blkB_all zs hl; rwa [hl] at this]
        exact blank_yes adr cap zs W hl (hs.grow hw)
      cases hr : rightB zs with
      | false => exact hr_walk (some adr) 512 cap zs w L hl hN hs 0 ⟨#[]⟩ ⟨#[]⟩ ⟨#[]⟩ ⟨#[]⟩ ⟨#[]⟩ 0 0 0 0 0 0 50 (fun W hw => dec_sum adr cap zs W hb hl hc hc2 (hs.grow hw) hr) (fun W => rdec_sum zs W hb hl hr) hB
      | true =>
        by_cases hall : ∀ j, j < 5 → eN zs j = 0
        · refine hr_walk (some adr) 512 cap zs w L hl hN hs (formL zs) (tx zs 0 100) (tx zs 157 257) (if isU zs then tx zs 345 500 else ⟨#[]⟩) (if notOld zs then tx zs 265 297 else ⟨#[]⟩) (if notOld zs then tx zs 297 329 else ⟨#[]⟩) (zs[156]?.getD 0) (vN zs 0) (vN zs 1) (vN zs 2) (vN zs 3) (vN zs 4) 0 (fun W hw => (dec_yes adr cap zs W hb hl hc hc2 (hs.grow hw) hr (L.grow hw)).mono fun e w' h => ⟨?_, h.2⟩) (fun W => (rdec_yes zs W hb hl hr).mono fun e w' h => ⟨?_, h.2⟩) hB
          · rcases h.1 with ⟨k, hk, _, hne, _⟩ | ⟨_, he⟩
            · exact absurd (hall k hk) hne
            · exact he
          · rcases h.1 with ⟨k, hk, _, hne, _⟩ | ⟨_, he⟩
            · exact absurd (hall k hk) hne
            · exact he
        · refine hr_walk (some adr) 512 cap zs w L hl hN hs 0 ⟨#[]⟩ ⟨#[]⟩ ⟨#[]⟩ ⟨#[]⟩ ⟨#[]⟩ 0 0 0 0 0 0 20 (fun W hw => (dec_yes adr cap zs W hb hl hc hc2 (hs.grow hw) hr (L.grow hw)).mono fun e w' h => ⟨?_, h.2⟩) (fun W => (rdec_yes zs W hb hl hr).mono fun e w' h => ⟨?_, h.2⟩) hB
          · rcases h.1 with ⟨k, hk, _, hne, he⟩ | ⟨h0, _⟩
            · rw [(eN_two zs k).resolve_left hne] at he
              exact he
            · exact absurd h0 hall
          · rcases h.1 with ⟨k, hk, _, hne, he⟩ | ⟨h0, _⟩
            · rw [(eN_two zs k).resolve_left hne] at he
              exact he
            · exact absurd h0 hall
    · have hl5 : zs.length ≠ 512 := by omega
      refine hr_walk ad N cap zs w L hl hN hs 0 ⟨#[]⟩ ⟨#[]⟩ ⟨#[]⟩ ⟨#[]⟩ ⟨#[]⟩ 0 0 0 0 0 0 1 (fun W hw => dec_short ad N cap W h5 (by omega)) (fun W => rdec_short zs W hl5 (by omega)) (fun W hw => ?_)
      rw [show blkB zs N = false by unfold blkB; rw [decide_eq_false hl5, Bool.false_and]]
      exact blank_no ad N cap W h5 (by omega)
  · exact hr_long ad N cap w L (by omega) (by omega)

end Go.Proofs.YtmholjjicklnhabDoor
