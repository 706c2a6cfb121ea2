/-
  Contracts: ask.unspell, ask.last.
-/
import Derived.Test.YtojbfdlgjjghjaaGreatDoorKKb
import Derived.Laws.CopyRow
import Derived.Deep.OwnRows
import Derived.Laws.BytesString
namespace Go.Proofs.YtojbfdlgjjghjaaGreatDoor.K
open Go.RowKit
open Go.Lib hiding intOf
set_option linter.unusedVariables false
set_option linter.unusedSimpArgs false

def bcs (l : List UInt8) : List Value := l.map fun c => .int .u8 (c.toNat : Int)
/-- the bytes of a block -/
def By (w : World) (g : Nat) (l : List UInt8) : Prop := w.heap[g]? = some (.cells (bcs l).toArray 5 (0, 0))
theorem By.cell {w : World} {g : Nat} {l : List UInt8} (h : By w g l) (m : Nat) (hm : m < l.length) : w.cell? ⟨g, m, none⟩ = some (.int .u8 (l[m].toNat : Int)) := by
  unfold By at h
  simp [World.cell?, h, bcs, hm]
theorem By.frozen {w : World} {g : Nat} {l : List UInt8} (h : By w g l) (m : Nat) : w.frozen? ⟨g, m, none⟩ = false := by
  unfold By at h
  simp [World.frozen?, h]
theorem By.set {w : World} {g : Nat} {l : List UInt8} (h : By w g l) (m : Nat) (c : UInt8) : By (w.setCell ⟨g, m, none⟩ (.int .u8 (c.toNat : Int))) g (l.set m c) := by
  unfold By at h ⊢
  rw [setCell_eq_setRow w g m _ _ _ _ h, setRow_heap _ _ _ _ _ _ h]
  simp [bcs, List.map_set]
theorem By.fresh (w : World) (n : Nat) : By (w.alloc (.cells (madeCells #[.int .u8 0] n) 5)) w.heap.size (List.replicate n 0) := by
  unfold By
  have e : madeCells #[.int .u8 0] n = (bcs (List.replicate n 0)).toArray := by
    apply Array.ext
    · simp [bcs, madeCells]
    · intro i h1 h2
      simp [bcs, madeCells, Nat.mod_one]
  rw [e]
  show (w.heap.push _)[w.heap.size]? = _
  simp
theorem info_u8 : (Tryz.prog.info? 5).map (fun i => (i.zero, i.size, i.bytes)) = some (some (.int .u8 0), 1, 1) := by kernel_rfl

/-- a digit's number -/
def dgs : List UInt8 := [48, 49, 50, 51, 52, 53, 54, 55, 56, 57, 97, 98, 99, 100, 101, 102]
def hx (b : UInt8) : Int := Lib.indexByte dgs b
theorem hx_ge (b : UInt8) : -1 ≤ hx b ∧ hx b < 16 := indexByte_ge b dgs

/-- two digits a byte -/
def unsp : List UInt8 → Option (List UInt8)
  | [] => some []
  | [_] => none
  | a :: b :: r => if hx a < 0 ∨ hx b < 0 then none else (unsp r).map fun t => UInt8.ofNat (16 * (hx a).toNat + (hx b).toNat) :: t

set_option maxRecDepth 20000 in
theorem ib_w (x : Int) (w : World) : Calls Tryz.prog 54 #[.string ⟨#[48, 49, 50, 51, 52, 53, 54, 55, 56, 57, 97, 98, 99, 100, 101, 102]⟩, .int .u8 x] w fun e w' => e = .returned (.int .i64 (hx x.toNat.toUInt8)) ∧ w = w' := by
  have q : Calls Tryz.prog 63 #[.string ⟨#[48, 49, 50, 51, 52, 53, 54, 55, 56, 57, 97, 98, 99, 100, 101, 102]⟩, .int .u8 x] w fun e w' => e = .returned (.int .i64 (hx x.toNat.toUInt8)) ∧ w = w' := by
    go_enter Tryz.func63, Tryz.ntmps63
    go_wp2
    rw [run_callFunc_extern Tryz.func81 (by kernel_rfl) (by kernel_rfl) (by kernel_rfl) (e := Extern.BytealgIndexByte.indexByte) (by kernel_rfl), Lib.run_indexByteString]
    simp only [Result.andThen]
    rw [Oper.upon_value]
    go_wp2
    go_ret
    exact ⟨rfl, rfl⟩
  generalize hx x.toNat.toUInt8 = z at *
  go_enter Tryz.func54, Tryz.ntmps54
  go_wp2_with fail
  refine q.mono ?_
  rintro e w' ⟨rfl, rfl⟩
  go_wp2
  go_ret
  exact ⟨rfl, rfl⟩

theorem nat_join4 (x y : Nat) (hx : x % 16 = 0) (hy : y < 16) : x ||| y = x + y := by
  obtain ⟨k, rfl⟩ : ∃ k, x = k * 16 := ⟨x / 16, by omega⟩
  have := Nat.shiftLeft_add_eq_or_of_lt (i := 4) (b := y) (by omega) k
  rw [Nat.shiftLeft_eq] at this
  exact this.symm
theorem join_hex (x y : Int) (hx0 : 0 ≤ x) (hx1 : x < 16) (hy0 : 0 ≤ y) (hy1 : y < 16) : bits .or .i64 (x * 16) y = x * 16 + y := by
  have e : bits .or .i64 (x * 16) y = IntKind.i64.wrap (((BitVec.ofInt 64 (x * 16)).toNat ||| (BitVec.ofInt 64 y).toNat : Nat) : Int) := by
    show IntKind.i64.wrap ((BitVec.ofInt 64 (x * 16) ||| BitVec.ofInt 64 y).toNat : Int) = _
    rw [BitVec.toNat_or]
  have e64 : ∀ z : Int, (BitVec.ofInt 64 z).toNat = (z % 18446744073709551616).toNat := fun z => by simp [BitVec.toNat_ofInt]
  rw [e, e64, e64, nat_join4 _ _ (by omega) (by omega), IntKind.wrap_i64]
  omega

theorem bel_drewN {B : Nat} {w W : World} (b : Below B w W) (n : Nat) : Below B w (W.drewN n) := ⟨b.os, b.tape, b.output, b.size, b.block⟩

/-- bytes that are handed on -/
def DatAt (w : World) (d : Value) (bs : List UInt8) : Prop :=
  (bs = [] ∧ d = .slice none 0 0) ∨ ∃ B, d = .slice (some ⟨B, 0, none⟩) bs.length bs.length ∧ By w B bs
theorem DatAt.below {w w' : World} {d : Value} {bs : List UInt8} (h : DatAt w d bs) (hb : Below w.heap.size w w') : DatAt w' d bs := by
  rcases h with h | ⟨B, h1, h2⟩
  · exact .inl h
  · refine .inr ⟨B, h1, ?_⟩
    unfold By at h2 ⊢
    rw [hb.block B (Array.getElem?_eq_some_iff.1 h2).1]
    exact h2

theorem DatAt.shape {w : World} {d : Value} {bs : List UInt8} (h : DatAt w d bs) : ∃ ad n, d = .slice ad n n := by
  rcases h with ⟨_, rfl⟩ | ⟨B, rfl, _⟩
  · exact ⟨_, _, rfl⟩
  · exact ⟨_, _, rfl⟩

theorem unsp_odd : ∀ l : List UInt8, l.length % 2 = 1 → unsp l = none
  | [], h => by simp at h
  | [_], _ => rfl
  | a :: b :: r, h => by
    unfold unsp
    rw [unsp_odd r (by simp at h; omega)]
    split <;> rfl
theorem unsp_step (l : List UInt8) (i : Nat) (h : 2 * i + 1 < l.length) : unsp (l.drop (2 * i)) = if hx l[2 * i] < 0 ∨ hx l[2 * i + 1] < 0 then none else (unsp (l.drop (2 * (i + 1)))).map fun t => UInt8.ofNat (16 * (hx l[2 * i]).toNat + (hx l[2 * i + 1]).toNat) :: t := by
  rw [List.drop_eq_getElem_cons (by omega : 2 * i < l.length), List.drop_eq_getElem_cons (by omega : 2 * i + 1 < l.length)]
  rw [unsp]
  rfl
/-- so far it has been read -/
def Sofar (l : List UInt8) (i : Nat) (ds : List UInt8) : Prop := ds.length = i ∧ unsp l = (unsp (l.drop (2 * i))).map (ds ++ ·)
theorem sofar_0 (l : List UInt8) : Sofar l 0 [] := ⟨rfl, by simp⟩
theorem Sofar.bad {l ds : List UInt8} {i : Nat} (h : Sofar l i ds) (hi : 2 * i + 1 < l.length) (hb : hx l[2 * i] < 0 ∨ hx l[2 * i + 1] < 0) : unsp l = none := by
  rw [h.2, unsp_step l i hi, if_pos hb]; rfl
theorem Sofar.next {l ds : List UInt8} {i : Nat} (h : Sofar l i ds) (hi : 2 * i + 1 < l.length) (hb : ¬ (hx l[2 * i] < 0 ∨ hx l[2 * i + 1] < 0)) : Sofar l (i + 1) (ds ++ [UInt8.ofNat (16 * (hx l[2 * i]).toNat + (hx l[2 * i + 1]).toNat)]) := by
  refine ⟨by rw [List.length_append, h.1]; rfl, ?_⟩
  rw [h.2, unsp_step l i hi, if_neg hb, Option.map_map]
  congr 1
  funext t
  simp
theorem Sofar.done {l ds : List UInt8} {i : Nat} (h : Sofar l i ds) (hi : l.length = 2 * i) : unsp l = some ds := by
  rw [h.2, List.drop_eq_nil_of_le (by omega)]
  simp [unsp]

theorem set_pad (ds : List UInt8) (n : Nat) (c : UInt8) (h : ds.length < n) : (ds ++ List.replicate (n - ds.length) 0).set ds.length c = (ds ++ [c]) ++ List.replicate (n - (ds ++ [c]).length) 0 := by
  obtain ⟨k, hk⟩ : ∃ k, n - ds.length = k + 1 := ⟨n - ds.length - 1, by omega⟩
  have e : n - (ds ++ [c]).length = k := by simp; omega
  rw [e, hk, List.replicate_succ, List.set_append_right _ _ (Nat.le_refl _)]
  simp

set_option maxRecDepth 20000 in
set_option maxHeartbeats 4000000 in
theorem unspell_w (s : ByteArray) (hs : s.size ≤ 281474976710656) (w : World) :
    Calls Tryz.prog 34 #[.string s] w fun e w' => (match unsp s.data.toList with
      | none => e = .returned (.tuple #[.slice none 0 0, .bool false])
      | some bs => ∃ d, e = .returned (.tuple #[d, .bool true]) ∧ DatAt w' d bs) ∧ Below w.heap.size w w' := by
  have hlen : s.data.toList.length = s.size := rfl
  by_cases c : s.size % 2 = 0
  · have c' : ((s.size : Int) % 2 == 0) = true := by simp; omega
    obtain ⟨n, hn⟩ : ∃ n : Nat, s.size = 2 * n := ⟨s.size / 2, by omega⟩
    suffices HH : ∀ (PP : Ending → World → Prop), (unsp s.data.toList = none → ∀ W, Below w.heap.size w W → PP (.returned (.tuple #[.slice none 0 0, .bool false])) W) → (∀ ds, unsp s.data.toList = some ds → ∀ W d, DatAt W d ds → Below w.heap.size w W → PP (.returned (.tuple #[d, .bool true])) W) → Calls Tryz.prog 34 #[.string s] w PP from HH _ (fun h W b => by rw [h]; exact ⟨rfl, b⟩) (fun ds h W d h1 b => by rw [h]; exact ⟨⟨d, rfl, h1⟩, b⟩)
    intro PP H1 H2
    have HB : Hid (unsp s.data.toList = none → ∀ W, Below w.heap.size w W → PP (.returned (.tuple #[.slice none 0 0, .bool false])) W) := H1
    have HG : Hid (∀ ds, unsp s.data.toList = some ds → ∀ W d, DatAt W d ds → Below w.heap.size w W → PP (.returned (.tuple #[d, .bool true])) W) := H2
    clear H1 H2
    have HN : Hid (s.size = 2 * n) := hn
    have hq : (s.size : Int) / 2 = n := by omega
    have hq2 : Int.tdiv (s.size : Int) 2 = n := by rw [Int.tdiv_eq_ediv_of_nonneg (by omega)]; exact hq
    have hmk := fun W => run_make_row' (P := Tryz.prog) 22 5 (.int .u8 0) 1 Tryz.underlying22 info_u8 rfl .i64 .i64 n (by omega) (by omega) W
    have f0 : Hid (By (w.alloc (.cells (madeCells #[.int .u8 0] n) 5)) w.heap.size ([] ++ List.replicate (n - ([] : List UInt8).length) 0)) := By.fresh w n
    have b01 := (Below.refl w.heap.size w).alloc (Nat.le_refl _) (.cells (madeCells #[.int .u8 0] n) 5)
    have hG : w.heap.size ≤ w.heap.size := Nat.le_refl _
    have S0 : Hid (Sofar s.data.toList 0 []) := sofar_0 _
    generalize hWW : w.heap.size = B0 at *
    go_enter Tryz.func34, Tryz.ntmps34
    go_wp2_with fail
    generalize hW1 : w.alloc (.cells (madeCells #[.int .u8 0] n) 5) = W1 at *
    clear hW1 hmk
    go_loopg [18] n (fun g u wr => ∃ (i : Nat) (ds : List UInt8), i + g = n ∧ u = .int .i64 i ∧ Hid (By wr B0 (ds ++ List.replicate (n - ds.length) 0)) ∧ Hid (Sofar s.data.toList i ds) ∧ Below B0 w wr)
    case atStart => exact ⟨0, [], by omega, rfl, f0, S0, b01⟩
    case round =>
      obtain ⟨i, ds, hig, rfl, hby, hso, hbe⟩ := hrel
      clear f0 b01 S0
      by_cases hlt : i < n
      · have i1 : 2 * i + 1 < s.data.toList.length := by rw [hlen]; omega
        obtain ⟨m, hm⟩ : ∃ m : Nat, m = 2 * i := ⟨_, rfl⟩
        have hw1 : IntKind.i64.wrap (2 * (i : Int)) = (m : Int) := by rw [IntKind.wrap_i64]; omega
        have hm1 : (m : Int) + 1 < (s.size : Int) := by omega
        have hm2 : (m : Int) + 1 ≤ 281474976710656 := by omega
        obtain ⟨b0, hb0⟩ : ∃ b : UInt8, s.data.toList[2 * i]'(by omega) = b := ⟨_, rfl⟩
        obtain ⟨b1, hb1⟩ : ∃ b : UInt8, s.data.toList[2 * i + 1]'(by omega) = b := ⟨_, rfl⟩
        have gt : ∀ j (hj : j < s.data.toList.length) (hj2 : j < s.size), s[j]'hj2 = s.data.toList[j]'hj := fun j hj hj2 => by simp [ByteArray.getElem_eq_getElem_data]
        have hx0 : ∀ W, (Instr.index 9 (.string s) (.int .i64 (m : Int))).run Tryz.prog W = .ok (.int .u8 (b0.toNat : Int)) W := fun W => by
          rw [run_index_string W 9 s .i64 (m : Int) Tryz.underlying9, dif_pos ⟨by omega, by omega⟩, ← hb0]
          simp only [Int.toNat_natCast, hm]
          rw [gt]
        have hx1 : ∀ W, (Instr.index 9 (.string s) (.int .i64 ((m : Int) + 1))).run Tryz.prog W = .ok (.int .u8 (b1.toNat : Int)) W := fun W => by
          rw [run_index_string W 9 s .i64 ((m : Int) + 1) Tryz.underlying9, dif_pos ⟨by omega, by omega⟩, ← hb1]
          simp only [show ((m : Int) + 1).toNat = 2 * i + 1 by omega]
          rw [gt]
        have hib := fun (b : UInt8) W => ib_w (b.toNat : Int) W
        have eb : ∀ b : UInt8, (b.toNat : Int).toNat.toUInt8 = b := fun b => by simp
        simp only [eb] at hib
        have HM : Hid (m = 2 * i) := hm
        clear hm
        go_upto_region 7 with fail
        go_quiet ((go_at_call 54; exact Calls.quiet_of_same ((hib _ _).mono fun _ _ ⟨h1, h2⟩ => ⟨h1, h2.symm⟩)))
        have b7 := bel_drewN hbe nq
        have hby7 : Hid (By (wr.drewN nq) B0 (ds ++ List.replicate (n - ds.length) 0)) := hby.out
        have hdl : ds.length = i := hso.out.1
        have hg0 := hx_ge b0
        have hg1 := hx_ge b1
        clear hby hx0 hx1 hib hbe
        generalize wr.drewN nq = w7 at *
        by_cases h0 : hx b0 < 0
        · have F := HB.out (hso.out.bad i1 (.inl (by rw [hb0]; exact h0))) w7 b7
          clear HB HG hso hby7
          generalize hx b0 = x at *
          generalize hx b1 = y at *
          go_wp2
          exact F
        by_cases h1 : hx b1 < 0
        · have F := HB.out (hso.out.bad i1 (.inr (by rw [hb1]; exact h1))) w7 b7
          clear HB HG hso hby7
          generalize hx b0 = x at *
          generalize hx b1 = y at *
          go_wp2
          exact F
        · have hn := hso.out.next i1 (by rw [hb0, hb1]; intro h; rcases h with h | h; exact h0 h; exact h1 h)
          rw [hb0, hb1] at hn
          have HN : Hid _ := hn
          have hj := join_hex (hx b0) (hx b1) (by omega) hg0.2 (by omega) hg1.2
          have hcell := hby7.out.cell i (by simp; omega)
          have hfz := hby7.out.frozen i
          have Hset := hby7.out.set i (UInt8.ofNat (16 * (hx b0).toNat + (hx b1).toNat))
          rw [← hdl, set_pad ds n _ (by omega), hdl] at Hset
          have hcv : ((UInt8.ofNat (16 * (hx b0).toNat + (hx b1).toNat)).toNat : Int) = hx b0 * 16 + hx b1 := by
            rw [UInt8.toNat_ofNat']; omega
          rw [hcv] at Hset
          have HS : Hid _ := Hset
          have b8 := b7.setCell (p := ⟨B0, i, none⟩) (Nat.le_refl _) (.int .u8 (hx b0 * 16 + hx b1))
          clear hn Hset hcv HB HG hso hby7
          generalize ds ++ [UInt8.ofNat (16 * (hx b0).toNat + (hx b1).toNat)] = ds2 at *
          generalize hx b0 = x at *
          generalize hx b1 = y at *
          go_wp2_with fail
          go_roundg (n - (i + 1))
          case rel => exact ⟨i + 1, ds2, by omega, by simp, HS, HN, b8⟩
          case measure => omega
      · have F := HG.out ds (hso.out.done (by rw [hlen]; have := HN.out; omega)) wr (.slice (some ⟨B0, 0, none⟩) n n) (.inr ⟨B0, by rw [hso.out.1, show i = n by omega], by have := hby.out; rw [hso.out.1, show n - i = 0 by omega] at this; simpa using this⟩) hbe
        obtain rfl : i = n := by omega
        clear HB HG hso hby
        go_wp2
        exact F
  · have c' : ((s.size : Int) % 2 == 0) = false := by simp; omega
    have hu := unsp_odd s.data.toList (by rw [hlen]; omega)
    rw [hu]
    go_enter Tryz.func34, Tryz.ntmps34
    go_wp2
    go_ret2
    exact ⟨rfl, Below.refl _ _⟩

end Go.Proofs.YtojbfdlgjjghjaaGreatDoor.K
