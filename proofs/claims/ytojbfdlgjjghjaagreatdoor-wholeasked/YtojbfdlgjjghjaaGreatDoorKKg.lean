/-
  Contracts: ask.Decode whole; a builder's WriteByte; ask.spell.
-/
import Derived.Test.YtojbfdlgjjghjaaGreatDoorKKf
import Derived.Lib.Builder
import Derived.Lib.AppendStr
import Derived.Laws.AppendOwn
namespace Go.Proofs.YtojbfdlgjjghjaaGreatDoor.K
open Go.RowKit
open Go.Lib hiding intOf
set_option linter.unusedVariables false
set_option linter.unusedSimpArgs false

/-- ask.Decode as one contract -/
theorem decode_w (s : ByteArray) (h : s.size ≤ 9223372036854775807) (w : World) (ht : Vs w) :
    Calls Tryz.prog 4 #[.string s] w fun e w' => DecOk w w' e (decP s) ∧ Below w.heap.size w w' := by
  unfold decP
  by_cases c1 : 16384 < s.size
  · rw [if_pos c1]; exact decode_long s c1 h w
  · rw [if_neg c1]
    by_cases c2 : kindP (cutW s) = 0
    · rw [if_pos c2]; exact decode_word s (by omega) c2 w ht
    · rw [if_neg c2]
      have := decode_kind s (by omega) (kindP (cutW s)) rfl (by omega) w ht
      exact this

theorem sizeBuilder : (Tryz.prog.info? 85).map (·.size) = some 2 := by kernel_rfl
theorem liesBuilder : liesAt Tryz.prog Tryz.prog.depth 85 (2 / Tryz.prog.cellsOf 85) 0 85 1 = true := by kernel_rfl

set_option maxRecDepth 100000 in
set_option maxHeartbeats 1000000 in
theorem check_used (b : Nat) (w : World) (h0 : w.cell? ⟨b, 0, none⟩ = some (.pointer (some ⟨b, 0, none⟩))) :
    Calls Tryz.prog 57 #[.pointer (some ⟨b, 0, none⟩)] w fun e w' => e = .returned (.tuple #[]) ∧ w' = w := by
  obtain ⟨j, hj, _⟩ := Option.map_eq_some_iff.1 sizeBuilder
  go_enter Tryz.func57, Tryz.ntmps57
  go_wp2
  rw [Lib.run_neq_ptr_same w _ Tryz.underlying83 hj]
  go_wp2
  go_end0
  exact ⟨rfl, rfl⟩

set_option maxRecDepth 100000 in
set_option maxHeartbeats 1000000 in
theorem check_fresh (b : Nat) (w : World) (h0 : w.cell? ⟨b, 0, none⟩ = some (.pointer none)) (hsh : w.shape? b = some (85, 2)) (hfz : w.frozen? ⟨b, 0, none⟩ = false) :
    Calls Tryz.prog 57 #[.pointer (some ⟨b, 0, none⟩)] w fun e w' => e = .returned (.tuple #[]) ∧ w' = w.setCell ⟨b, 0, none⟩ (.pointer (some ⟨b, 0, none⟩)) := by
  obtain ⟨j, hj, hjs⟩ := Option.map_eq_some_iff.1 sizeBuilder
  go_enter Tryz.func57, Tryz.ntmps57
  go_wp2
  rw [Lib.run_to_unsafe w ⟨b, 0, none⟩ Tryz.underlying83 Tryz.underlying70 hj (by rw [hjs]; decide) hsh (Nat.zero_lt_succ 1)]
  simp only [Result.andThen]
  rw [Oper.upon_value]
  go_wp2
  rw [run_callFunc_extern Tryz.func76 (by kernel_rfl) (by kernel_rfl) (by kernel_rfl) (e := Extern.AbiNoEscape.same) (by kernel_rfl)]
  rw [Lib.run_noEscape]
  simp only [Result.andThen]
  rw [Oper.upon_value]
  go_wp2
  rw [Lib.run_from_unsafe w ⟨b, 0, none⟩ Tryz.underlying70 Tryz.underlying83 hj hsh liesBuilder]
  simp only [Result.andThen]
  rw [Oper.upon_value]
  go_wp2
  go_end0
  exact ⟨rfl, rfl⟩

theorem check_w (B b : Nat) (bs : List Value) (w : World) (h : Lib.IsBuilder 85 5 B b bs w) :
    Calls Tryz.prog 57 #[.pointer (some ⟨b, 0, none⟩)] w fun e w' => e = .returned (.tuple #[]) ∧ (Lib.BuilderAt 85 5 B b (.pointer (some ⟨b, 0, none⟩)) bs w' ∧ Below B w w') := by
  rcases h with h | h
  · refine (check_fresh b w h.cell0 h.shape h.frozen0).mono ?_
    rintro e w' ⟨rfl, rfl⟩
    exact ⟨rfl, h.used _, (Below.refl B w).setCell (p := ⟨b, 0, none⟩) h.1 _⟩
  · refine (check_used b w h.cell0).mono ?_
    rintro e w' ⟨rfl, rfl⟩
    exact ⟨rfl, h, Below.refl B _⟩

set_option maxRecDepth 100000 in
set_option maxHeartbeats 1000000 in
theorem wbyte_w (B b : Nat) (bs : List Value) (c : Int) (w : World) (h : Lib.IsBuilder 85 5 B b bs w) (hlen : bs.length + 1 ≤ 140737488355328) (hBw : B ≤ w.heap.size) :
    Calls Tryz.prog 41 #[.pointer (some ⟨b, 0, none⟩), .int .u8 c] w fun e w' => e = .returned .nilIface ∧ (Lib.IsBuilder 85 5 B b (bs ++ [.int .u8 c]) w' ∧ Below B w w') := by
  obtain ⟨i0, hi, hz0, hz1, hz2⟩ := info_parts info_u8
  go_enter Tryz.func41, Tryz.ntmps41
  go_wp2_with (go_at_call 57; refine (check_w B b bs _ h).mono ?_)
  rintro e w1 ⟨rfl, h1, hb1⟩
  obtain ⟨hB, v, hbk, hown, hne⟩ := h1
  have c0 : w1.cell? ⟨b, 0, none⟩ = some (.pointer (some ⟨b, 0, none⟩)) := by rw [Lib.cell_of_heap hbk]; rfl
  have c1 : w1.cell? ⟨b, 1, none⟩ = some v := by rw [Lib.cell_of_heap hbk]; rfl
  go_wp2_with (at_builtin; refine wpList_append_own _ rfl _ _ 22 rfl B 5 i0 (.int .u8 0) 1 1 Tryz.underlying22 hi hz0 hz1 hz2 rfl (by decide) _ _ _ rfl (hown.alloc _) ⟨w1.heap.size, 0, none⟩ 1 1 [.int .u8 c] rfl rfl ?c1 ?c2 ?c3 ?c4 ?c5 ?_)
  case c1 =>
    intro j u hj
    match j, hj with
    | 0, hj => simp at hj; subst hj; simp [Addr.add]
  case c2 => intro u hu; simp at hu; subst hu; rfl
  case c3 => unfold maxLen; omega
  case c4 => omega
  case c5 => have := hb1.size; simp; omega
  intro v' w2 hown' hgrow _
  have hlt : b < w1.heap.size := by
    rcases Nat.lt_or_ge b w1.heap.size with h' | h'
    · exact h'
    · simp [Array.getElem?_eq_none h'] at hbk
  have hb2 : w2.heap[b]? = some (.cells #[.pointer (some ⟨b, 0, none⟩), v] 85 (0, 0)) := by
    rw [hgrow.block b (by simp; omega) (fun e => hne e.symm), Lib.alloc_old w1 _ b hlt]
    exact hbk
  have d0 : w2.cell? ⟨b, 0, none⟩ = some (.pointer (some ⟨b, 0, none⟩)) := by rw [Lib.cell_of_heap hb2]; rfl
  have d1 : w2.cell? ⟨b, 1, none⟩ = some v := by rw [Lib.cell_of_heap hb2]; rfl
  have f1 : w2.frozen? ⟨b, 1, none⟩ = false := Lib.frozen_of_heap hb2 1
  obtain ⟨g, cap, rfl⟩ : ∃ g cap, v' = .slice (some ⟨g, 0, none⟩) (bs.length + 1) cap := by
    rcases hown'.2 with ⟨_, h0⟩ | ⟨g, cap, cur, hv, _⟩
    · omega
    · exact ⟨g, cap, hv⟩
  go_wp2
  go_ret
  refine ⟨rfl, .inr ?_, ?_⟩
  · exact Lib.BuilderAt.put (T := 85) (e := 5) hB hb2 (bs' := bs ++ [.int .u8 c]) (by simpa using hown') (by decide)
  · exact ((hb1.alloc (by have := hb1.size; omega) _).grown hgrow (by have := hb1.size; simp; omega) (fun k hk => (hown.lt k hk).1)).setCell (p := ⟨b, 1, none⟩) hB _

/-- bytes that came, wherever they lie -/
def BytesIn (w : World) (d : Value) (bs : List UInt8) : Prop :=
  (bs = [] ∧ ∃ ad c, d = .slice ad 0 c) ∨ ∃ B o c, d = .slice (some ⟨B, o, none⟩) bs.length c ∧ ∀ i (h : i < bs.length), w.cell? ⟨B, o + i, none⟩ = some (.int .u8 (bs[i].toNat : Int))
theorem BytesIn.below {w w' : World} {d : Value} {bs : List UInt8} (h : BytesIn w d bs) (hb : Below w.heap.size w w') : BytesIn w' d bs := by
  rcases h with h | ⟨B, o, c, h1, h2⟩
  · exact .inl h
  · exact .inr ⟨B, o, c, h1, fun i hi => (hb.cell (Lib.lt_of_cell (h2 i hi))).trans (h2 i hi)⟩
theorem DatAt.bytes {w : World} {d : Value} {bs : List UInt8} (h : DatAt w d bs) : BytesIn w d bs := by
  rcases h with ⟨h1, h2⟩ | ⟨B, h1, h2⟩
  · exact .inl ⟨h1, _, _, h2⟩
  · exact .inr ⟨B, 0, _, h1, fun i hi => by rw [Nat.zero_add]; exact h2.cell i hi⟩
theorem BytesIn.shape {w : World} {d : Value} {bs : List UInt8} (h : BytesIn w d bs) : ∃ ad c, d = .slice ad bs.length c := by
  rcases h with ⟨rfl, ad, c, rfl⟩ | ⟨B, o, c, rfl, _⟩
  · exact ⟨_, _, rfl⟩
  · exact ⟨_, _, rfl⟩

/-- two digits of each byte -/
def sp : List UInt8 → List UInt8
  | [] => []
  | c :: r => dgs.getD (c.toNat / 16) 0 :: dgs.getD (c.toNat % 16) 0 :: sp r
theorem sp_append : ∀ a b, sp (a ++ b) = sp a ++ sp b
  | [], b => rfl
  | c :: r, b => by simp [sp, sp_append r b]
theorem sp_length : ∀ a, (sp a).length = 2 * a.length
  | [] => rfl
  | c :: r => by simp [sp, sp_length r]; omega

theorem dgs_get (n : Nat) (h : n < (⟨#[48, 49, 50, 51, 52, 53, 54, 55, 56, 57, 97, 98, 99, 100, 101, 102]⟩ : ByteArray).size) : (⟨#[48, 49, 50, 51, 52, 53, 54, 55, 56, 57, 97, 98, 99, 100, 101, 102]⟩ : ByteArray)[n] = dgs.getD n 0 := by
  have h16 : n < 16 := h
  match n, h16 with
  | 0, _ | 1, _ | 2, _ | 3, _ | 4, _ | 5, _ | 6, _ | 7, _ | 8, _ | 9, _ | 10, _ | 11, _ | 12, _ | 13, _ | 14, _ | 15, _ => rfl
  | n + 16, h' => exact absurd h' (by omega)
theorem sp_next (bs : List UInt8) (i : Nat) (h : i < bs.length) : Lib.byteCells (sp (bs.take (i + 1))) = Lib.byteCells (sp (bs.take i)) ++ [.int .u8 ((dgs.getD (bs[i].toNat / 16) 0).toNat : Int)] ++ [.int .u8 ((dgs.getD (bs[i].toNat % 16) 0).toNat : Int)] := by
  rw [List.take_succ_eq_append_getElem h, sp_append]
  simp [Lib.byteCells, sp]
theorem zeroB (W : World) : (zeroValue 85).run Tryz.prog W = .ok (.agg #[.pointer none, .slice none 0 0]) W := by
  have b : (Tryz.prog.info? 85).bind (fun i => i.zero) = some (.agg #[.pointer none, .slice none 0 0]) := by kernel_rfl
  cases hq : Tryz.prog.info? 85 with
  | none => rw [hq] at b; simp at b
  | some i => rw [hq] at b; simp at b; simp [zeroValue, typeInfo, hq, b]

set_option maxRecDepth 20000 in
set_option maxHeartbeats 4000000 in
theorem spell_w (d : Value) (bs : List UInt8) (hl : bs.length ≤ 70368744177664) (w : World) (h : BytesIn w d bs) :
    Calls Tryz.prog 22 #[d] w fun e w' => e = .returned (.string ⟨(sp bs).toArray⟩) ∧ Below w.heap.size w w' := by
  have b0 : Below w.heap.size w (w.alloc (.cells #[.pointer none, .slice none 0 0] 85)) := (Below.refl _ w).alloc (Nat.le_refl _) _
  have i0 : Hid (Lib.IsBuilder 85 5 w.heap.size w.heap.size (Lib.byteCells (sp (bs.take 0))) (w.alloc (.cells #[.pointer none, .slice none 0 0] 85))) := Lib.fresh_isBuilder _ _ w
  have hz := zeroB
  obtain ⟨ad, c, rfl⟩ := h.shape
  have HC : Hid (∀ W, Below w.heap.size w W → ∀ i (hi : i < bs.length), ∃ B o, ad = some ⟨B, o, none⟩ ∧ W.cell? ⟨B, o + i, none⟩ = some (.int .u8 (bs[i].toNat : Int))) := fun W b i hi => by
    rcases h.below b with ⟨rfl, _⟩ | ⟨B, o, c', e, hc⟩
    · simp at hi
    · cases e
      exact ⟨B, o, rfl, hc i hi⟩
  clear h
  have hN : Hid (bs.length ≤ 70368744177664) := hl
  generalize hR : w.heap.size = R at *
  go_enter Tryz.func22, Tryz.ntmps22
  go_wp2
  generalize hW1 : World.alloc _ _ = W1 at *
  have hR1 : R ≤ W1.heap.size := by rw [← hW1]; simp; omega
  clear hW1
  go_loopg [8] bs.length (fun g u wr => ∃ i : Nat, i + g = bs.length ∧ u = .int .i64 i ∧ Hid (Lib.IsBuilder 85 5 R R (Lib.byteCells (sp (bs.take i))) wr) ∧ Below R w wr)
  case atStart => exact ⟨0, by omega, rfl, i0, b0⟩
  case round =>
    obtain ⟨i, hig, rfl, hb, hbe⟩ := hrel
    clear i0 b0
    by_cases hlt : i < bs.length
    · obtain ⟨B, o, rfl, hcell⟩ := HC.out wr hbe i hlt
      obtain ⟨b, hbb⟩ : ∃ b, bs[i]'hlt = b := ⟨_, rfl⟩
      rw [hbb] at hcell
      have hb256 : b.toNat < 256 := b.toNat_lt
      have hd0 : (b.toNat : Int) / 16 < 16 := by omega
      have hd1 : b.toNat % 16 < 16 := by omega
      have hsz : (Lib.byteCells (sp (bs.take i))).length + 2 ≤ 140737488355328 := by
        have := hN.out
        simp only [Lib.byteCells, List.length_map, sp_length, List.length_take]
        omega
      have HB1 := hid hsz
      have hbs := hbe.size
      have hRw : R ≤ wr.heap.size := by have := hbe.size; omega
      go_upto_region 6 with (go_at_call 41; refine (wbyte_w R R _ _ wr hb.out (by omega) hRw).mono ?_; rintro e w1 ⟨rfl, h1, b1⟩)
      have hRw1 : R ≤ w1.heap.size := by have := b1.size; omega
      have HB1 := hid h1
      have hl1 : ∀ X : Value, (Lib.byteCells (sp (bs.take i)) ++ [X]).length + 1 ≤ 140737488355328 := fun X => by simp only [List.length_append, List.length_singleton]; omega
      clear h1 hcell
      go_upto_region 7 with (go_at_call 41; refine (wbyte_w R R _ _ w1 HB1.out (hl1 _) hRw1).mono ?_; rintro e w2 ⟨rfl, h2, b2⟩)
      rw [dgs_get, dgs_get] at h2
      have hnx := sp_next bs i hlt
      rw [hbb] at hnx
      rw [← hnx] at h2
      have HB2 := hid h2
      clear h2 hnx
      go_wp2_with fail
      go_roundg (bs.length - (i + 1))
      case rel => exact ⟨i + 1, by omega, by simp, HB2, (hbe.trans (b1.trans b2))⟩
      case measure => omega
    · have q : Calls Tryz.prog 42 #[.pointer (some ⟨R, 0, none⟩)] wr fun e w' => e = .returned (.string ⟨(sp bs).toArray⟩) ∧ Below R wr w' := by
        have hb' := hb.out
        rw [List.take_of_length_le (by omega)] at hb'
        exact Tryz.Builder_String_any R R (sp bs) wr hb' (by have := hbe.size; omega)
      clear hb
      go_wp2_with (go_at_call 42; refine q.mono ?_; rintro e w3 ⟨rfl, b3⟩)
      go_ret
      exact ⟨rfl, hbe.trans b3⟩
end Go.Proofs.YtojbfdlgjjghjaaGreatDoor.K
