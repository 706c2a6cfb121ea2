/-
  Contract: pax.Encode.
-/
import Derived.Test.YtnmmaedngdibeaaGreatDoorXMa
import Derived.Lib.AppendStr
import Derived.Lib.UnsafeStr
namespace Go.Proofs.YtnmmaedngdibeaaGreatDoor.X
open Go.RowKit
set_option linter.unusedVariables false
set_option linter.unusedSimpArgs false

theorem decode_none (ad : Option Addr) (cap : Nat) (w : World) :
    Calls Tryz.prog 101 #[.slice ad 0 cap] w fun e w' => e = .returned (.tuple #[.slice none 0 0, .int .i64 0]) ∧ w = w' := by
  go_enter Tryz.func101, Tryz.ntmps101
  go_wp2_with fail
  refine wp_loop_rounds 1 ?_
  rw [rounds_succ]
  go_wp2
  go_ret2
  exact ⟨rfl, rfl⟩

/-- what stands behind a record's digits -/
def bodyS (k v : ByteArray) : ByteArray := ((((⟨#[32]⟩ : ByteArray) ++ k) ++ ⟨#[61]⟩) ++ v) ++ ⟨#[10]⟩

theorem bodyS_size (k v : ByteArray) : (bodyS k v).size = k.size + v.size + 3 := by
  simp only [bodyS, ByteArray.size_append]
  have h1 : (⟨#[32]⟩ : ByteArray).size = 1 := rfl
  have h2 : (⟨#[61]⟩ : ByteArray).size = 1 := rfl
  have h3 : (⟨#[10]⟩ : ByteArray).size = 1 := rfl
  omega

/-- a record's bytes -/
def recB (k v : ByteArray) : List UInt8 := Lib.itoa (plen (bodyS k v).size : Int) ++ (bodyS k v).data.toList

def encL (K V : Nat → ByteArray) : Nat → List UInt8
  | 0 => []
  | i + 1 => encL K V i ++ recB (K i) (V i)

def errTo (K V : Nat → ByteArray) : Nat → Int
  | 0 => 0
  | i + 1 => if errTo K V i = 0 then chk (K i) (V i) else errTo K V i

theorem errTo_first {K V : Nat → ByteArray} {i : Nat} (h0 : errTo K V i = 0) (h1 : ¬ chk (K i) (V i) = 0) : ∀ n, i < n → errTo K V n = chk (K i) (V i)
  | 0, h => absurd h (Nat.not_lt_zero _)
  | n + 1, h => by
    by_cases e : i = n
    · subst e; simp [errTo, h0]
    · have := errTo_first h0 h1 n (by omega)
      simp [errTo, this, h1]

theorem enc_many (ad : Option Addr) (n cap : Nat) (w : World) (hn : 64 < n) (hm : n ≤ 281474976710656) :
    Calls Tryz.prog 22 #[.slice ad n cap] w fun e w' => e = .returned (.tuple #[.slice none 0 0, .int .i64 2]) ∧ w = w' := by
  go_enter Tryz.func22, Tryz.ntmps22
  go_wp2
  go_ret2
  exact ⟨rfl, rfl⟩

theorem enc_none (ad : Option Addr) (cap : Nat) (w : World) :
    Calls Tryz.prog 22 #[.slice ad 0 cap] w fun e w' => e = .returned (.tuple #[.slice none 0 0, .int .i64 0]) ∧ w = w' := by
  go_enter Tryz.func22, Tryz.ntmps22
  go_wp2_with fail
  refine wp_loop_rounds 1 ?_
  rw [rounds_succ]
  go_wp2_with fail
  refine wp_loop_rounds 1 ?_
  rw [rounds_succ]
  go_wp2
  go_ret2
  exact ⟨rfl, rfl⟩

theorem info5c : (Tryz.prog.info? 5).map (fun i => (i.zero, i.size, i.bytes)) = some (some (.int .u8 0), 1, 1) := by kernel_rfl

theorem plen_small (n : Nat) (h : n ≤ 300000) : plen n ≤ 400000 := by
  have h1 := plen_le n
  have h2 := nDigits_mono n 300000 h
  have h3 : Lib.nDigits 300000 = 6 := Lib.nDigits_unique 5 _ (by decide) (by decide)
  omega

theorem recB_len (k v : ByteArray) (hk : k.size ≤ 100000) (hv : v.size ≤ 100000) : (recB k v).length ≤ 400000 := by
  have h1 := bodyS_size k v
  have h2 := plen_eq (bodyS k v).size
  have h3 := plen_small (bodyS k v).size (by omega)
  unfold recB
  rw [List.length_append, itoa_len, ← Lib.size_eq]
  omega

theorem encL_len (K V : Nat → ByteArray) : ∀ n : Nat, (∀ i, i < n → (K i).size ≤ 100000 ∧ (V i).size ≤ 100000) → (encL K V n).length ≤ 400000 * n
  | 0, _ => by simp [encL]
  | n + 1, h => by
    have ih := encL_len K V n (fun i hi => h i (by omega))
    have := recB_len (K n) (V n) (h n (by omega)).1 (h n (by omega)).2
    simp only [encL, List.length_append]
    omega

set_option maxRecDepth 20000 in
set_option maxHeartbeats 4000000 in
theorem enc_w (b off n cap : Nat) (K V : Nat → ByteArray) (w : World) (hR : RecsAt w b off K V n) (hn : n ≤ 64) (hS : ∀ i, i < n → (K i).size ≤ 100000 ∧ (V i).size ≤ 100000) (ht : Vs w) :
    Calls Tryz.prog 22 #[.slice (some ⟨b, off, none⟩) n cap] w fun e w' => ((errTo K V n = 0 ∧ (∃ v, e = .returned (.tuple #[v, .int .i64 0]) ∧ w'.ownsRow w.heap.size 5 1 v (encL K V n).length (Lib.byteCells (encL K V n)))) ∨ (¬ errTo K V n = 0 ∧ e = .returned (.tuple #[.slice none 0 0, .int .i64 (errTo K V n)]))) ∧ Below w.heap.size w w' := by
  obtain ⟨i0, hi, hz0, hz1, hz2⟩ := info_parts info5c
  have HR : Hid (∀ W, Below w.heap.size w W → RecsAt W b off K V n) := fun W h => hR.below h
  have HS : Hid (∀ i, i < n → (K i).size ≤ 100000 ∧ (V i).size ≤ 100000) := hS
  have HV : Hid (∀ W, Below w.heap.size w W → Vs W) := fun W h => ht.below h
  clear hR hS ht
  go_enter Tryz.func22, Tryz.ntmps22
  go_wp2
  go_loopw [16] (fun t wr => ∃ i : Nat, i ≤ n ∧ t = .int .i64 i ∧ Below w.heap.size w wr ∧ Hid (errTo K V i = 0)) (fun t _ => n - (intOf t).toNat)
  case atStart => exact ⟨0, Nat.zero_le _, rfl, Below.refl _ _, rfl⟩
  case round =>
    obtain ⟨i, hi', rfl, bb, hE⟩ := hrel
    by_cases hlt : i < n
    · obtain ⟨hc0, hc1⟩ := HR.out _ bb i hlt
      have s := HS.out i hlt
      have qc := fun W => check_any (K i) (V i) (by omega) (by omega) W
      by_cases c : chk (K i) (V i) = 0
      · have HE : Hid (errTo K V (i + 1) = 0) := by
          have h0 := hE.out
          show (if errTo K V i = 0 then chk (K i) (V i) else errTo K V i) = 0
          rw [if_pos h0, c]
        rw [c] at qc
        clear c hE
        generalize K i = k at *
        generalize V i = v at *
        go_wp2_with (go_at_call 35; refine (qc _).mono ?_; rintro e w4 ⟨rfl, b4⟩; obtain ⟨g0, g1, b5⟩ := alloc2 _ _ _ _ b4)
        go_roundw
        case rel => exact ⟨i + 1, by omega, by simp, bb.trans (b5.mono bb.size), HE.out⟩
        case measure => simp [intOf]; omega
      · have HE : Hid (errTo K V n = chk (K i) (V i)) := errTo_first hE.out c n hlt
        clear hE
        generalize K i = k at *
        generalize V i = v at *
        generalize chk k v = z at *
        go_wp2_with (go_at_call 35; refine (qc _).mono ?_; rintro e w4 ⟨rfl, b4⟩; obtain ⟨g0, g1, b5⟩ := alloc2 _ _ _ _ b4)
        go_ret2
        have h := HE.out
        refine ⟨.inr ⟨by rw [h]; exact c, by rw [h]; rfl⟩, bb.trans (b5.mono bb.size)⟩
    · obtain rfl : i = n := by omega
      have HE : Hid (errTo K V i = 0) := hE
      have HLE : Hid (∀ j, j ≤ i → (encL K V j).length ≤ 400000 * i) := fun j hj => by
        have := encL_len K V j (fun k hk => HS.out k (by omega))
        have : 400000 * j ≤ 400000 * i := Nat.mul_le_mul_left _ hj
        omega
      have bb0 := bb
      clear hE bb
      go_wp2_with fail
      go_loopw [7, 28] (fun tv t wr => ∃ j : Nat, j ≤ i ∧ t = .int .i64 j ∧ Below w.heap.size w wr ∧ wr.ownsRow w.heap.size 5 1 tv (encL K V j).length (Lib.byteCells (encL K V j))) (fun _ t _ => i - (intOf t).toNat)
      case atStart => exact ⟨0, Nat.zero_le _, rfl, bb0, World.ownsRow_nil _ _ _ _⟩
      case round =>
        obtain ⟨j, hj, rfl, bb, hown⟩ := hrel
        by_cases hlt : j < i
        · obtain ⟨hc0, hc1⟩ := HR.out _ bb j hlt
          have s := HS.out j hlt
          have hle := HLE.out j (by omega)
          have HX : Hid (encL K V (j + 1) = encL K V j ++ (Lib.itoa (plen (bodyS (K j) (V j)).size : Int) ++ (bodyS (K j) (V j)).data.toList)) := rfl
          have hbs := bodyS_size (K j) (V j)
          have hps := plen_small (bodyS (K j) (V j)).size (by omega)
          have hdl : (Lib.itoa (plen (bodyS (K j) (V j)).size : Int)).length = Lib.nDigits (plen (bodyS (K j) (V j)).size) := itoa_len _
          have hpe := plen_eq (bodyS (K j) (V j)).size
          have ql := fun W hv => length_w (bodyS (K j) (V j)).size (by omega) W hv
          have hbd : ((((⟨#[32]⟩ : ByteArray) ++ K j) ++ ⟨#[61]⟩) ++ V j) ++ ⟨#[10]⟩ = bodyS (K j) (V j) := rfl
          generalize K j = k at *
          generalize V j = v at *
          rw [hbs] at ql hps hpe hdl HX
          rw [show ((k.size + v.size + 3 : Nat) : Int) = (k.size : Int) + (v.size : Int) + 3 by omega] at ql
          have hbs2 : (bodyS k v).size ≤ 200003 := by omega
          have HBS : Hid ((bodyS k v).size = k.size + v.size + 3) := hbs
          have HDL : Hid ((Lib.itoa (plen (k.size + v.size + 3) : Int)).length ≤ 400000) := by
            show _ ≤ _
            omega
          clear hdl hpe
          generalize plen (k.size + v.size + 3) = P at *
          have HOw : Hid (wr.ownsRow w.heap.size 5 1 u7 (encL K V j).length (Lib.byteCells (encL K V j))) := hown
          clear hown
          go_wp2_with fail
          have b5 : Below wr.heap.size wr (wr.alloc (.cells #[.string k, .string v] 59)) := (Below.refl _ _).alloc (Nat.le_refl _) _
          generalize wr.alloc (.cells #[.string k, .string v] 59) = w5 at *
          have bb5 : Below w.heap.size w w5 := bb.trans (b5.mono bb.size)
          refine (ql w5 (HV.out _ bb5)).mono ?_
          rintro e w6 ⟨rfl, b6⟩
          have bb6 : Below w.heap.size w w6 := bb5.trans (b6.mono bb5.size)
          have o6 := own_below (own_below HOw.out b5) b6
          have hdl := HDL.out
          have qa := Tryz.strconv_AppendInt_10 w.heap.size (encL K V j).length (P : Int) (by omega) (by omega) u7 _ w6 o6 bb6.size (by omega) (fun W hW => (HV.out W (bb6.trans hW)).tab)
          clear o6 hdl
          go_wp2_with fail
          refine qa.mono ?_
          rintro e w7 ⟨v7, rfl, o7, b7, _⟩
          have bb7 : Below w.heap.size w w7 := bb6.trans b7
          have hdl := HDL.out
          clear qa b6 b5
          generalize hds : Lib.itoa (P : Int) = ds at *
          have O7 : Hid (w7.ownsRow w.heap.size 5 1 v7 ((encL K V j).length + ds.length) (Lib.byteCells (encL K V j) ++ Lib.byteCells ds)) := o7
          clear o7
          go_wp2_with (at_builtin; refine Lib.wpList_append_own_string _ rfl _ _ 22 9 rfl w.heap.size 5 i0 Tryz.underlying22 Tryz.underlying9 hi hz0 hz1 hz2 _ _ _ rfl O7.out (bodyS k v) rfl ?e1 ?e2 ?e3 ?_)
          case e1 => unfold maxLen; omega
          case e2 => omega
          case e3 => exact bb7.size
          intro v8 w8 o8 g8 h8
          have bb8 : Below w.heap.size w w8 := bb7.grown g8 bb7.size fun k hk => (O7.out.lt k hk).1
          have oo : w8.ownsRow w.heap.size 5 1 v8 (encL K V (j + 1)).length (Lib.byteCells (encL K V (j + 1))) := by
            rw [HX.out, ← List.append_assoc, Lib.byteCells_append, Lib.byteCells_append, ← Lib.strCells_eq, List.length_append, List.length_append, ← Lib.size_eq, HBS.out, List.append_assoc]
            exact o8
          clear o8 g8 h8
          go_wp2
          go_roundw
          case rel => exact ⟨j + 1, by omega, by simp, bb8, oo⟩
          case measure => simp [intOf]; omega
        · obtain rfl : j = i := by omega
          go_wp2
          go_ret2
          exact ⟨.inl ⟨HE.out, _, rfl, hown⟩, bb⟩

end Go.Proofs.YtnmmaedngdibeaaGreatDoor.X
