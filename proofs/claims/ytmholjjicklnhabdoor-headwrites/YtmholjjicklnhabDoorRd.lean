/-
  Contract of the document's answer for headers: pannierref06.Decode.
-/
import Derived.Test.YtmholjjicklnhabDoorRspl
import Derived.Test.YtmholjjicklnhabDoorRef5
import Derived.Deep.RegionHeld3
import Derived.Deep.DeepCutAuto
import Derived.BigQuiet
namespace Go.Proofs.YtmholjjicklnhabDoor
open Go.RowKit
set_option linter.unusedVariables false
set_option linter.unusedSimpArgs false

theorem s8_strOf (zs : List Int) (h : AllB zs) : s8 (strOf zs) = zs := by
  unfold s8
  rw [strOf_data, List.map_map]
  conv => rhs; rw [← List.map_id zs]
  apply List.map_congr_left
  intro z hz
  have := h z hz
  simp
  omega
theorem txS_strOf (l : List Int) (h : AllB l) : txS (strOf l) = strOf (txt l) := by unfold txS; rw [s8_strOf l h]

def z32 : Array Value := #[.int .i64 0, .int .u8 0, .string ⟨#[]⟩, .string ⟨#[]⟩, .string ⟨#[]⟩, .string ⟨#[]⟩, .string ⟨#[]⟩, .int .i64 0, .int .i64 0, .int .i64 0, .int .i64 0, .int .i64 0]
def r32 (fo ty : Int) (n l p u g : ByteArray) (a b c d m : Int) : Array Value := #[.int .i64 fo, .int .u8 ty, .string n, .string l, .string p, .string u, .string g, .int .i64 a, .int .i64 b, .int .i64 c, .int .i64 d, .int .i64 m]
theorem inf32 : (Tryd.prog.info? 32).map (·.size) = some 12 := by kernel_rfl

/-- the state of the document's Decode: the result's block, the header's block -/
structure Rs (w W : World) (R E : Nat) (cs : Array Value) : Prop where
  bel : Below w.heap.size w W
  ge : w.heap.size ≤ R
  lt : R < E
  res : W.heap[R]? = some (.cells z32 32 (0, 0))
  ent : W.heap[E]? = some (.cells cs 32 (0, 0))

theorem Rs.grow {w W W' : World} {R E : Nat} {cs : Array Value} (h : Rs w W R E cs) (b : Below W.heap.size W W') : Rs w W' R E cs :=
  ⟨h.bel.trans (b.mono h.bel.size), h.ge, h.lt, by rw [b.block _ (lt_of_heap h.res)]; exact h.res, by rw [b.block _ (lt_of_heap h.ent)]; exact h.ent⟩
theorem Rs.put {w W : World} {R E : Nat} {cs cs' : Array Value} (h : Rs w W R E cs) (m : Nat) (v : Value) (he : cs.setIfInBounds m v = cs') : Rs w (W.setCell ⟨E, m, none⟩ v) R E cs' := by
  refine ⟨h.bel.setCell (p := ⟨E, m, none⟩) (by show w.heap.size ≤ E; have := h.ge; have := h.lt; omega) v, h.ge, h.lt, ?_, ?_⟩
  · rw [Below.heap_setCell _ _ _ _ (by show R ≠ E; have := h.lt; omega)]; exact h.res
  · rw [setCell_eq_setRow W E m _ _ _ _ h.ent, setRow_heap _ _ _ _ _ _ h.ent, he]
theorem Rs.cell {w W : World} {R E : Nat} {cs : Array Value} (h : Rs w W R E cs) (m : Nat) : W.cell? ⟨E, m, none⟩ = cs[m]? := by simp [World.cell?, h.ent]
theorem Rs.frozen {w W : World} {R E : Nat} {cs : Array Value} (h : Rs w W R E cs) (m : Nat) : W.frozen? ⟨E, m, none⟩ = false := by simp [World.frozen?, h.ent]

/-- the header where k numbers are read -/
def rN (zs : List Int) (k : Nat) : Array Value := r32 0 (zs[156]?.getD 0) (tx zs 0 100) (tx zs 157 257) ⟨#[]⟩ ⟨#[]⟩ ⟨#[]⟩ (nvl zs k 0) (nvl zs k 1) (nvl zs k 2) (nvl zs k 3) (nvl zs k 4)
theorem rN_next (zs : List Int) (k : Nat) (h : k < 5) : (rN zs k).setIfInBounds (7 + k) (.int .i64 (vN zs k)) = rN zs (k + 1) := by
  rcases (show k = 0 ∨ k = 1 ∨ k = 2 ∨ k = 3 ∨ k = 4 by omega) with rfl | rfl | rfl | rfl | rfl <;> simp [rN, r32, nvl]

def RdNo (zs : List Int) (e : Ending) : Prop := ∃ k, k < 5 ∧ (∀ j, j < k → eN zs j = 0) ∧ eN zs k ≠ 0 ∧ e = .returned (.tuple #[.agg z32, .int .i64 (eN zs k)])
def rF (zs : List Int) : Array Value := r32 (formL zs) (zs[156]?.getD 0) (tx zs 0 100) (tx zs 157 257) (if isU zs then tx zs 345 500 else ⟨#[]⟩) (if notOld zs then tx zs 265 297 else ⟨#[]⟩) (if notOld zs then tx zs 297 329 else ⟨#[]⟩) (vN zs 0) (vN zs 1) (vN zs 2) (vN zs 3) (vN zs 4)
def RdYes (zs : List Int) (e : Ending) : Prop := (∀ j, j < 5 → eN zs j = 0) ∧ e = .returned (.tuple #[.agg (rF zs), .int .i64 0])

theorem fromB (k : Nat) (h : k < 5) : (#[.int .i64 100, .int .i64 108, .int .i64 116, .int .i64 124, .int .i64 136, .int .i64 148] : Array Value)[k]? = some (.int .i64 (numB k)) ∧ (#[.int .i64 100, .int .i64 108, .int .i64 116, .int .i64 124, .int .i64 136, .int .i64 148] : Array Value)[k + 1]? = some (.int .i64 (numE k)) := by
  rcases (show k = 0 ∨ k = 1 ∨ k = 2 ∨ k = 3 ∨ k = 4 by omega) with rfl | rfl | rfl | rfl | rfl <;> exact ⟨rfl, rfl⟩

theorem num_le (k : Nat) (h : k < 5) : numB k ≤ numE k ∧ numE k ≤ 148 ∧ 100 ≤ numB k := by
  rcases (show k = 0 ∨ k = 1 ∨ k = 2 ∨ k = 3 ∨ k = 4 by omega) with rfl | rfl | rfl | rfl | rfl <;> decide

set_option maxHeartbeats 1000000 in
theorem rdec_short (zs : List Int) (w : World) (h : zs.length ≠ 512) (h1 : zs.length ≤ 2000) :
    Calls Tryd.prog 11 #[.string (strOf zs)] w fun e w' => e = .returned (.tuple #[.agg z32, .int .i64 1]) ∧ Below w.heap.size w w' := by
  have hs := strOf_size zs
  have h2 : ¬ (zs.length : Int) = 512 := by omega
  have b1 : Below w.heap.size w (w.alloc (.cells z32 32)) := (Below.refl _ w).alloc (Nat.le_refl _) _
  have r1 : (w.alloc (.cells z32 32)).heap[w.heap.size]? = some (.cells z32 32 (0, 0)) := heap_alloc_new w _
  unfold z32 at *
  go_enter Tryd.func11, Tryd.ntmps11
  go_wp2
  exact bodyPost_ret (by rw [results_cell_tmp rfl]; simp [asAddr, run_loadVar_row _ _ _ 32 _ _ _ r1 Tryd.underlying32 rfl inf32]) rfl ⟨rfl, b1⟩

set_option maxHeartbeats 1000000 in
theorem rdec_sum (zs : List Int) (w : World) (hb : Hid (AllB zs)) (hl : Hid (zs.length = 512)) (hr : rightB zs = false) :
    Calls Tryd.prog 11 #[.string (strOf zs)] w fun e w' => e = .returned (.tuple #[.agg z32, .int .i64 50]) ∧ Below w.heap.size w w' := by
  have hs := strOf_size zs
  rw [hl.out] at hs
  have b1 : Below w.heap.size w (w.alloc (.cells z32 32)) := (Below.refl _ w).alloc (Nat.le_refl _) _
  have r1 : (w.alloc (.cells z32 32)).heap[w.heap.size]? = some (.cells z32 32 (0, 0)) := heap_alloc_new w _
  have q := refright_yes zs (w.alloc (.cells z32 32)) hb hl
  rw [hr] at q
  clear hb hl hr
  generalize strOf zs = S at *
  unfold z32 at *
  have HR1 : Hid _ := r1
  clear r1
  go_enter Tryd.func11, Tryd.ntmps11
  go_wp2_with (first | (go_at_call 26; refine q.mono ?_; rintro e w2 ⟨rfl, b2⟩; have HR2 : Hid (w2.heap[w.heap.size]? = some (.cells #[.int .i64 0, .int .u8 0, .string ⟨#[]⟩, .string ⟨#[]⟩, .string ⟨#[]⟩, .string ⟨#[]⟩, .string ⟨#[]⟩, .int .i64 0, .int .i64 0, .int .i64 0, .int .i64 0, .int .i64 0] 32 (0, 0))) := (by show _ = _; rw [b2.block _ (by simp)]; exact HR1.out)) | (refine wpList_store_row rfl 32 _ _ rfl _ _ rfl rfl 32 _ HR2.out rfl rfl (by simp [Value.oneCell']) ?_))
  have r3 := setRow_heap _ _ _ #[.int .i64 0, .int .u8 0, .string ⟨#[]⟩, .string ⟨#[]⟩, .string ⟨#[]⟩, .string ⟨#[]⟩, .string ⟨#[]⟩, .int .i64 0, .int .i64 0, .int .i64 0, .int .i64 0, .int .i64 0] _ _ HR2.out
  have hld := run_loadVar_row _ _ _ 32 _ _ _ r3 Tryd.underlying32 rfl inf32
  exact bodyPost_ret (by rw [results_cell_tmp rfl]; simp [asAddr, hld]) rfl ⟨rfl, below_setRow (b1.trans (b2.mono b1.size)) (Nat.le_refl _) _⟩

theorem run_cut9 (zs : List Int) (hl : zs.length = 512) (c d : Nat) (h1 : c ≤ d) (h2 : d ≤ 512) : (strOf zs).extract c d = strOf (fld zs c d) := str_cut zs c d h1 (by omega)

theorem text_fld (zs : List Int) (hb : AllB zs) (hl : zs.length = 512) (c d : Nat) (h1 : c ≤ d) (h2 : d ≤ 512) (W : World) : Calls Tryd.prog 27 #[.string ((strOf zs).extract c d)] W fun e w' => e = .returned (.string (tx zs c d)) ∧ W = w' := by
  rw [run_cut9 zs hl c d h1 h2]
  have := text_w (strOf (fld zs c d)) W (by rw [strOf_size, fld_length zs c d (by omega)]; omega)
  rw [txS_strOf _ (fld_allB zs c d hb)] at this
  exact this

set_option maxRecDepth 100000 in
set_option maxHeartbeats 4000000 in
theorem rdec_yes (zs : List Int) (w : World) (hb : Hid (AllB zs)) (hl : Hid (zs.length = 512)) (hr : rightB zs = true) :
    Calls Tryd.prog 11 #[.string (strOf zs)] w fun e w' => (RdNo zs e ∨ RdYes zs e) ∧ Below w.heap.size w w' := by
  have hs := strOf_size zs
  rw [hl.out] at hs
  have b1 : Below w.heap.size w (w.alloc (.cells z32 32)) := (Below.refl _ w).alloc (Nat.le_refl _) _
  have r1 : (w.alloc (.cells z32 32)).heap[w.heap.size]? = some (.cells z32 32 (0, 0)) := heap_alloc_new w _
  have q := refright_yes zs (w.alloc (.cells z32 32)) hb hl
  rw [hr] at q
  have t1 := text_fld zs hb hl 0 100 (by omega) (by omega)
  have t2 := text_fld zs hb hl 157 257 (by omega) (by omega)
  have t3 := text_fld zs hb hl 345 500 (by omega) (by omega)
  have t4 := text_fld zs hb hl 265 297 (by omega) (by omega)
  have t5 := text_fld zs hb hl 297 329 (by omega) (by omega)
  have T1 : Hid _ := t1
  have T2 : Hid _ := t2
  have T3 : Hid _ := t3
  have T4 : Hid _ := t4
  have T5 : Hid _ := t5
  have h156 : ((strOf zs)[156]'(by omega)).toNat = (zs[156]?.getD 0).toNat := by
    have := gD_s8 (strOf zs) 156 (by omega)
    rw [s8_strOf zs hb.out] at this
    unfold gD at this
    omega
  have h156b := byte_at zs hb.out 156
  have hidx : ∀ W : World, (Instr.index 9 (.string (strOf zs)) (.int .i64 156)).run Tryd.prog W = .ok (.int .u8 (zs[156]?.getD 0)) W := by
    intro W
    go_simp
    omega
  have hcut := fun (k : Nat) (hk : k < 5) (W : World) => run_strcut W (strOf zs) (numB k) (numE k) (by omega) (by have := num_le k hk; omega) (by have := num_le k hk; omega)
  have HP : Hid (∀ (k : Nat), k < 5 → ∀ W : World, Calls Tryd.prog 28 #[.string ((strOf zs).extract (numB k) (numE k))] W fun e w' => e = .returned (.tuple #[.int .i64 (vN zs k), .int .i64 (eN zs k)]) ∧ Below W.heap.size W w') := by
    intro k hk W
    have hn := num_le k hk
    rw [run_cut9 zs hl.out (numB k) (numE k) hn.1 (by omega)]
    exact refp_any (fld zs (numB k) (numE k)) W (fun z hz => fld_allB zs _ _ hb.out z hz) (by rw [fld_length zs _ _ (by rw [hl.out]; omega)]; omega)
  have HCUT : Hid _ := hcut
  have e1 := strOf_beq (fld zs 257 265) ustarL (fld_allB zs 257 265 hb.out) (by intro z hz; simp [ustarL] at hz; omega)
  have e2 := strOf_beq (fld zs 257 265) gnuL (fld_allB zs 257 265 hb.out) (by intro z hz; simp [gnuL] at hz; omega)
  rw [show (strOf ustarL).toList = [117, 115, 116, 97, 114, 0, 48, 48] by rw [ByteArray.toList_eq, strOf_data]; rfl, ← run_cut9 zs hl.out 257 265 (by omega) (by omega)] at e1
  rw [show (strOf gnuL).toList = [117, 115, 116, 97, 114, 32, 32, 0] by rw [ByteArray.toList_eq, strOf_data]; rfl, ← run_cut9 zs hl.out 257 265 (by omega) (by omega)] at e2
  have E1 : Hid _ := e1
  have E2 : Hid _ := e2
  have HF1 : Hid (rN zs 0 = #[.int .i64 0, .int .u8 (zs[156]?.getD 0), .string (tx zs 0 100), .string (tx zs 157 257), .string ⟨#[]⟩, .string ⟨#[]⟩, .string ⟨#[]⟩, .int .i64 0, .int .i64 0, .int .i64 0, .int .i64 0, .int .i64 0]) := by simp [rN, r32, nvl, Hid]
  clear e1 e2 t1 t2 t3 t4 t5 hcut h156 hb hl hr
  generalize hty : zs[156]?.getD 0 = ty at *
  generalize hX0 : tx zs 0 100 = X0 at *
  generalize hX1 : tx zs 157 257 = X1 at *
  have HTY : Hid (zs[156]?.getD 0 = ty) := hty
  have HX0 : Hid (tx zs 0 100 = X0) := hX0
  have HX1 : Hid (tx zs 157 257 = X1) := hX1
  clear hty hX0 hX1
  generalize strOf zs = S at *
  unfold z32 at *
  have HR1 : Hid _ := r1
  clear r1
  go_enter Tryd.func11, Tryd.ntmps11
  go_wp2_with (first | (go_at_call 26; refine q.mono ?_; rintro e w2 ⟨rfl, b2⟩; have HR2 : Hid (w2.heap[w.heap.size]? = some (.cells #[.int .i64 0, .int .u8 0, .string ⟨#[]⟩, .string ⟨#[]⟩, .string ⟨#[]⟩, .string ⟨#[]⟩, .string ⟨#[]⟩, .int .i64 0, .int .i64 0, .int .i64 0, .int .i64 0, .int .i64 0] 32 (0, 0))) := (by show _ = _; rw [b2.block _ (by simp)]; exact HR1.out); have HB2 : Hid _ := b1.trans (b2.mono b1.size); clear b2 q) | (have vd := t1done; go_at_call 27; refine (T2.out _).mono ?_; rintro e w4 ⟨rfl, rfl⟩) | (go_at_call 27; refine (T1.out _).mono ?_; rintro e w3 ⟨rfl, rfl⟩; have t1done : Hid True := True.intro))
  have hRs : Rs w ((w2.alloc (.cells #[.int .i64 0, .int .u8 ty, .string X0, .string X1, .string ⟨#[]⟩, .string ⟨#[]⟩, .string ⟨#[]⟩, .int .i64 0, .int .i64 0, .int .i64 0, .int .i64 0, .int .i64 0] 32)).alloc (.cells #[.int .i64 100, .int .i64 108, .int .i64 116, .int .i64 124, .int .i64 136, .int .i64 148] 3)) w.heap.size w2.heap.size (rN zs 0) := by
    have hlt : w.heap.size < w2.heap.size := lt_of_heap HR2.out
    refine ⟨(HB2.out.alloc HB2.out.size _).alloc (HB2.out.alloc HB2.out.size _).size _, Nat.le_refl _, hlt, ?_, ?_⟩
    · rw [Below.heap_alloc _ _ _ (by simp; omega), Below.heap_alloc _ _ _ hlt]; exact HR2.out
    · rw [Below.heap_alloc _ _ _ (by simp), HF1.out]; exact heap_alloc_new w2 _
  have hFr : ((w2.alloc (.cells #[.int .i64 0, .int .u8 ty, .string X0, .string X1, .string ⟨#[]⟩, .string ⟨#[]⟩, .string ⟨#[]⟩, .int .i64 0, .int .i64 0, .int .i64 0, .int .i64 0, .int .i64 0] 32)).alloc (.cells #[.int .i64 100, .int .i64 108, .int .i64 116, .int .i64 124, .int .i64 136, .int .i64 148] 3)).heap[w2.heap.size + 1]? = some (.cells #[.int .i64 100, .int .i64 108, .int .i64 116, .int .i64 124, .int .i64 136, .int .i64 148] 3 (0, 0)) := heap_alloc2_new _ _ _
  generalize (w2.alloc (.cells #[.int .i64 0, .int .u8 ty, .string X0, .string X1, .string ⟨#[]⟩, .string ⟨#[]⟩, .string ⟨#[]⟩, .int .i64 0, .int .i64 0, .int .i64 0, .int .i64 0, .int .i64 0] 32)).alloc (.cells #[.int .i64 100, .int .i64 108, .int .i64 116, .int .i64 124, .int .i64 136, .int .i64 148] 3) = W0 at *
  generalize w2.heap.size = E at *
  generalize hLP : (fun (W : World) (k : Nat) => Rs w W w.heap.size E (rN zs k) ∧ W.heap[E + 1]? = some (.cells #[.int .i64 100, .int .i64 108, .int .i64 116, .int .i64 124, .int .i64 136, .int .i64 148] 3 (0, 0))) = LP
  have HL0 : Hid (LP W0 0) := by subst hLP; exact ⟨hRs, hFr⟩
  have HLg : Hid (∀ W W' k, LP W k → Below W.heap.size W W' → LP W' k) := by subst hLP; exact fun W W' k h b => ⟨h.1.grow b, by rw [b.block _ (lt_of_heap h.2)]; exact h.2⟩
  have HLc : Hid (∀ W k, LP W k → k < 5 → W.cell? ⟨E + 1, k, none⟩ = some (.int .i64 (numB k)) ∧ W.cell? ⟨E + 1, k + 1, none⟩ = some (.int .i64 (numE k))) := by subst hLP; exact fun W k h hk => ⟨by simp only [World.cell?, h.2]; exact (fromB k hk).1, by simp only [World.cell?, h.2]; exact (fromB k hk).2⟩
  have HLp : Hid (∀ W k, LP W k → k < 5 → LP (W.setCell ⟨E, 7 + k, none⟩ (.int .i64 (vN zs k))) (k + 1) ∧ (∃ v, W.cell? ⟨E, 7 + k, none⟩ = some (.int .i64 v)) ∧ W.frozen? ⟨E, 7 + k, none⟩ = false) := by
    subst hLP
    intro W k h hk
    refine ⟨⟨h.1.put (7 + k) _ (rN_next zs k hk), ?_⟩, ?_, h.1.frozen _⟩
    · rw [Below.heap_setCell _ _ _ _ (by show E + 1 ≠ E; omega)]; exact h.2
    · rw [h.1.cell]
      rcases (show k = 0 ∨ k = 1 ∨ k = 2 ∨ k = 3 ∨ k = 4 by omega) with rfl | rfl | rfl | rfl | rfl <;> exact ⟨_, rfl⟩
  have HLr : Hid (∀ W k, LP W k → Rs w W w.heap.size E (rN zs k)) := by subst hLP; exact fun W k h => h.1
  clear hRs hFr hLP HR2 HB2 HF1 HR1 T1 T2 t1done vd b1 hidx
  go_loopw [6] (fun i wr => ∃ k : Nat, k ≤ 5 ∧ i = .int .i64 k ∧ Hid (LP wr k) ∧ Hid (∀ j, j < k → eN zs j = 0)) (fun i _ => 5 - (intOf i).toNat)
  case atStart => exact ⟨0, by omega, rfl, HL0, fun j hj => by omega⟩
  case round =>
    obtain ⟨k, hk, rfl, HL, HE⟩ := hrel
    by_cases hk5 : k < 5
    · obtain ⟨c0, c1⟩ := HLc.out wr k HL.out hk5
      have hsl := HCUT.out k hk5
      have HPk : Hid _ := HP.out k hk5
      have HSS : Hid (∀ W, LP W k → LP W k ∧ W.cell? ⟨E + 1, k, none⟩ = some (.int .i64 (numB k)) ∧ W.cell? ⟨E + 1, k + 1, none⟩ = some (.int .i64 (numE k))) := fun W h => ⟨h, HLc.out W k h hk5⟩
      have HPUT : Hid _ := fun W h => HLp.out W k h hk5
      have h0 := HSS.out _ (HLg.out _ _ _ HL.out (Below.refl _ wr).drew)
      have hnb : Hid (numB k = numB k) := rfl
      have hk6 : (k : Int) < 6 := by omega
      have hk7 : (k : Int) + 1 < 6 := by omega
      have hk8 : (0 : Int) ≤ (k : Int) + 1 := by omega
      have hwr : IntKind.i64.wrap ((k : Int) + 1) = (k : Int) + 1 := by rw [IntKind.wrap_i64]; omega
      have HNo : Hid (eN zs k ≠ 0 → RdNo zs (.returned (.tuple #[.agg z32, .int .i64 (eN zs k)]))) := fun h => ⟨k, hk5, HE.out, h, rfl⟩
      have HEn : Hid (eN zs k = 0 → ∀ j, j < k + 1 → eN zs j = 0) := fun h j hj => by
        by_cases c : j = k
        · subst c; exact h
        · exact HE.out j (by omega)
      rw [show ((numB k : Nat) : Int).toNat = numB k from rfl, show ((numE k : Nat) : Int).toNat = numE k from rfl] at hsl
      generalize S.extract (numB k) (numE k) = FK at *
      generalize numB k = nb at *
      generalize numE k = ne at *
      generalize vN zs k = vk at *
      generalize eN zs k = ek at *
      clear hnb HP HCUT HLc HLp HL0 T3 T4 T5 E1 E2
      by_cases he : ek = 0
      · subst he
        go_upto_region 12 with fail
        go_region_held3 (fun W => LP W k ∧ W.cell? ⟨E + 1, k, none⟩ = some (.int .i64 nb) ∧ W.cell? ⟨E + 1, k + 1, none⟩ = some (.int .i64 ne)) (first | assumption | go_keep) (first | (go_at_call 28; refine (HPk.out _).mono ?_; rintro e wb ⟨rfl, bb⟩; have hsb := HSS.out wb (HLg.out _ _ _ (And.left (by assumption)) bb); clear bb))
        obtain ⟨lp', ⟨vo, c7⟩, f7⟩ := HPUT.out wb hsb.1
        have HLP' : Hid _ := lp'
        have HE' : Hid (∀ j, j < k + 1 → eN zs j = 0) := HEn.out (by first | rfl | trivial)
        clear lp' hsb h0
        go_wp2
        go_roundw
        case rel => exact ⟨k + 1, by omega, by go_num, HLP', HE'⟩
        case measure => simp [intOf]; omega
      · have he2 : (ek != 0) = true := by simpa using he
        go_upto_region 12 with fail
        go_region_held3 (fun W => LP W k ∧ W.cell? ⟨E + 1, k, none⟩ = some (.int .i64 nb) ∧ W.cell? ⟨E + 1, k + 1, none⟩ = some (.int .i64 ne)) (first | assumption | go_keep) (first | (go_at_call 28; refine (HPk.out _).mono ?_; rintro e wb ⟨rfl, bb⟩; have hsb := HSS.out wb (HLg.out _ _ _ (And.left (by assumption)) bb); clear bb))
        have HRz : Hid (Rs w wb w.heap.size E (rN zs k)) := HLr.out _ _ hsb.1
        have HR2 : Hid (wb.heap[w.heap.size]? = some (.cells #[.int .i64 0, .int .u8 0, .string ⟨#[]⟩, .string ⟨#[]⟩, .string ⟨#[]⟩, .string ⟨#[]⟩, .string ⟨#[]⟩, .int .i64 0, .int .i64 0, .int .i64 0, .int .i64 0, .int .i64 0] 32 (0, 0))) := HRz.out.res
        clear hsb h0
        go_wp2_with (refine wpList_store_row rfl 32 _ _ rfl _ _ rfl rfl 32 _ HR2.out rfl rfl (by simp [Value.oneCell']) ?_)
        have r3 := setRow_heap _ _ _ #[.int .i64 0, .int .u8 0, .string ⟨#[]⟩, .string ⟨#[]⟩, .string ⟨#[]⟩, .string ⟨#[]⟩, .string ⟨#[]⟩, .int .i64 0, .int .i64 0, .int .i64 0, .int .i64 0, .int .i64 0] _ _ HR2.out
        have hld := run_loadVar_row _ _ _ 32 _ _ _ r3 Tryd.underlying32 rfl inf32
        exact bodyPost_ret (by rw [results_cell_tmp rfl]; simp [asAddr, hld, z32]) rfl ⟨.inl (HNo.out he), below_setRow HRz.out.bel (Nat.le_refl _) _⟩
    · obtain rfl : k = 5 := by omega
      have HP0 : Hid (Rs w wr w.heap.size E (rN zs 5)) := HLr.out _ _ HL.out
      have HC5 : Hid (rN zs 5 = r32 0 ty X0 X1 ⟨#[]⟩ ⟨#[]⟩ ⟨#[]⟩ (vN zs 0) (vN zs 1) (vN zs 2) (vN zs 3) (vN zs 4)) := by
        show _ = _
        simp only [rN, nvl]
        rw [HTY.out, HX0.out, HX1.out]
        rfl
      rw [HC5.out] at HP0
      have d0 := HP0.out.cell 0
      have d4 := HP0.out.cell 4
      have d5 := HP0.out.cell 5
      have d6 := HP0.out.cell 6
      have f0 := HP0.out.frozen 0
      have f4 := HP0.out.frozen 4
      have f5 := HP0.out.frozen 5
      have f6 := HP0.out.frozen 6
      have HY : Hid (∀ C, C = rF zs → RdYes zs (.returned (.tuple #[.agg C, .int .i64 0]))) := fun C h => ⟨HE.out, by rw [h]⟩
      have HYF : Hid (rF zs = r32 (formL zs) ty X0 X1 (if isU zs then tx zs 345 500 else ⟨#[]⟩) (if notOld zs then tx zs 265 297 else ⟨#[]⟩) (if notOld zs then tx zs 297 329 else ⟨#[]⟩) (vN zs 0) (vN zs 1) (vN zs 2) (vN zs 3) (vN zs 4)) := by
        show _ = _
        unfold rF
        rw [HTY.out, HX0.out, HX1.out]
      generalize vN zs 0 = v0 at *
      generalize vN zs 1 = v1 at *
      generalize vN zs 2 = v2 at *
      generalize vN zs 3 = v3 at *
      generalize vN zs 4 = v4 at *
      unfold r32 at d0 d4 d5 d6
      simp only [List.getElem?_toArray, List.getElem?_cons_zero, List.getElem?_cons_succ] at d0 d4 d5 d6
      clear HL HE HLg HLc HLp HLr HP HCUT HL0 HC5
      by_cases c1 : fld zs 257 265 = ustarL
      · have c2 : ¬ fld zs 257 265 = gnuL := by rw [c1]; decide
        have hform : formL zs = 1 := by unfold formL; rw [if_pos c1]
        have HYV : Hid (rF zs = r32 1 ty X0 X1 (tx zs 345 500) (tx zs 265 297) (tx zs 297 329) v0 v1 v2 v3 v4) := by
          show _ = _
          rw [HYF.out]; unfold isU notOld; rw [hform]; rfl
        have e1 := E1.out
        have e2 := E2.out
        rw [decide_eq_true c1] at e1
        rw [decide_eq_false c2] at e2
        clear E1 E2 c1 c2 hform HYF
        generalize tx zs 345 500 = X2 at *
        generalize tx zs 265 297 = X3 at *
        generalize tx zs 297 329 = X4 at *
        have hp0 := HP0.out.put 0 (.int .i64 1) rfl
        have hp1 := hp0.put 4 (.string X2) rfl
        have hp2 := hp1.put 5 (.string X3) rfl
        have hp3 := hp2.put 6 (.string X4) rfl
        have HPZ : Hid (Rs w ((((wr.setCell ⟨E, 0, none⟩ (.int .i64 1)).setCell ⟨E, 4, none⟩ (.string X2)).setCell ⟨E, 5, none⟩ (.string X3)).setCell ⟨E, 6, none⟩ (.string X4)) w.heap.size E (r32 1 ty X0 X1 X2 X3 X4 v0 v1 v2 v3 v4)) := hp3
        clear hp0 hp1 hp2 hp3
        have HC : Hid (r32 1 ty X0 X1 X2 X3 X4 v0 v1 v2 v3 v4 = rF zs) := HYV.out.symm
        have si : Hid ((Tryd.prog.info? 32).map (·.size) = some (r32 1 ty X0 X1 X2 X3 X4 v0 v1 v2 v3 v4).size) := inf32
        have sj : Hid (z32.size = (r32 1 ty X0 X1 X2 X3 X4 v0 v1 v2 v3 v4).size) := rfl
        have sk : Hid ((r32 1 ty X0 X1 X2 X3 X4 v0 v1 v2 v3 v4).all (·.oneCell') = true) := by simp [r32, Value.oneCell', Hid]
        clear HYV
        generalize r32 1 ty X0 X1 X2 X3 X4 v0 v1 v2 v3 v4 = C at *
        go_upto_region 24 with (first | (have vd := t4done; go_at_call 27; refine (T5.out _).mono ?_; rintro e w5 ⟨rfl, rfl⟩) | (have vd := t3done; go_at_call 27; refine (T4.out _).mono ?_; rintro e w4 ⟨rfl, rfl⟩; have t4done : Hid True := True.intro) | (go_at_call 27; refine (T3.out _).mono ?_; rintro e w3 ⟨rfl, rfl⟩; have t3done : Hid True := True.intro))
        have hent : Hid _ := HPZ.out.ent
        have hres : Hid _ := HPZ.out.res
        have hbel : Hid _ := HPZ.out.bel
        generalize (((wr.setCell ⟨E, 0, none⟩ (.int .i64 1)).setCell ⟨E, 4, none⟩ (.string X2)).setCell ⟨E, 5, none⟩ (.string X3)).setCell ⟨E, 6, none⟩ (.string X4) = W9 at *
        go_wp2_with (first | (refine wpList_load_row rfl 32 _ rfl E rfl 32 C _ _ hent.out Tryd.underlying32 rfl si.out ?_) | (refine wpList_store_row rfl 32 _ _ rfl _ C rfl rfl 32 _ hres.out si.out sj.out sk.out ?_))
        have r3 := setRow_heap _ _ _ C _ _ hres.out
        have hld := run_loadVar_row _ _ _ 32 _ _ _ r3 Tryd.underlying32 rfl si.out
        exact bodyPost_ret (by rw [results_cell_tmp rfl]; simp [asAddr, hld]) rfl ⟨.inr (HY.out C HC.out), below_setRow hbel.out (Nat.le_refl _) _⟩
      · have hn1 : ¬ formL zs = 1 := by
          unfold formL; rw [if_neg c1]; split <;> omega
        by_cases c2 : fld zs 257 265 = gnuL
        · have hform : formL zs = 2 := by unfold formL; rw [if_neg c1, if_pos c2]
          have HYV : Hid (rF zs = r32 2 ty X0 X1 ⟨#[]⟩ (tx zs 265 297) (tx zs 297 329) v0 v1 v2 v3 v4) := by
            show _ = _
            rw [HYF.out]; unfold isU notOld; rw [hform]; rfl
          have e1 := E1.out
          have e2 := E2.out
          rw [decide_eq_false c1] at e1
          rw [decide_eq_true c2] at e2
          clear E1 E2 c1 c2 hform HYF hn1 T3
          generalize tx zs 265 297 = X3 at *
          generalize tx zs 297 329 = X4 at *
          have hp0 := HP0.out.put 0 (.int .i64 2) rfl
          have hp2 := hp0.put 5 (.string X3) rfl
          have hp3 := hp2.put 6 (.string X4) rfl
          have HPZ : Hid (Rs w (((wr.setCell ⟨E, 0, none⟩ (.int .i64 2)).setCell ⟨E, 5, none⟩ (.string X3)).setCell ⟨E, 6, none⟩ (.string X4)) w.heap.size E (r32 2 ty X0 X1 ⟨#[]⟩ X3 X4 v0 v1 v2 v3 v4)) := hp3
          clear hp0 hp2 hp3
          have HC : Hid (r32 2 ty X0 X1 ⟨#[]⟩ X3 X4 v0 v1 v2 v3 v4 = rF zs) := HYV.out.symm
          have si : Hid ((Tryd.prog.info? 32).map (·.size) = some (r32 2 ty X0 X1 ⟨#[]⟩ X3 X4 v0 v1 v2 v3 v4).size) := inf32
          have sj : Hid (z32.size = (r32 2 ty X0 X1 ⟨#[]⟩ X3 X4 v0 v1 v2 v3 v4).size) := rfl
          have sk : Hid ((r32 2 ty X0 X1 ⟨#[]⟩ X3 X4 v0 v1 v2 v3 v4).all (·.oneCell') = true) := by simp [r32, Value.oneCell', Hid]
          clear HYV
          generalize r32 2 ty X0 X1 ⟨#[]⟩ X3 X4 v0 v1 v2 v3 v4 = C at *
          go_upto_region 24 with (first | (have vd := t4done; go_at_call 27; refine (T5.out _).mono ?_; rintro e w5 ⟨rfl, rfl⟩) | (go_at_call 27; refine (T4.out _).mono ?_; rintro e w4 ⟨rfl, rfl⟩; have t4done : Hid True := True.intro))
          have hent : Hid _ := HPZ.out.ent
          have hres : Hid _ := HPZ.out.res
          have hbel : Hid _ := HPZ.out.bel
          generalize ((wr.setCell ⟨E, 0, none⟩ (.int .i64 2)).setCell ⟨E, 5, none⟩ (.string X3)).setCell ⟨E, 6, none⟩ (.string X4) = W9 at *
          go_wp2_with (first | (refine wpList_load_row rfl 32 _ rfl E rfl 32 C _ _ hent.out Tryd.underlying32 rfl si.out ?_) | (refine wpList_store_row rfl 32 _ _ rfl _ C rfl rfl 32 _ hres.out si.out sj.out sk.out ?_))
          have r3 := setRow_heap _ _ _ C _ _ hres.out
          have hld := run_loadVar_row _ _ _ 32 _ _ _ r3 Tryd.underlying32 rfl si.out
          exact bodyPost_ret (by rw [results_cell_tmp rfl]; simp [asAddr, hld]) rfl ⟨.inr (HY.out C HC.out), below_setRow hbel.out (Nat.le_refl _) _⟩
        · have hform : formL zs = 0 := by unfold formL; rw [if_neg c1, if_neg c2]
          have HYV : Hid (rF zs = r32 0 ty X0 X1 ⟨#[]⟩ ⟨#[]⟩ ⟨#[]⟩ v0 v1 v2 v3 v4) := by
            show _ = _
            rw [HYF.out]; unfold isU notOld; rw [hform]; rfl
          have e1 := E1.out
          have e2 := E2.out
          rw [decide_eq_false c1] at e1
          rw [decide_eq_false c2] at e2
          clear E1 E2 c1 c2 hform HYF hn1 T3 T4 T5
          have HC : Hid (r32 0 ty X0 X1 ⟨#[]⟩ ⟨#[]⟩ ⟨#[]⟩ v0 v1 v2 v3 v4 = rF zs) := HYV.out.symm
          have si : Hid ((Tryd.prog.info? 32).map (·.size) = some (r32 0 ty X0 X1 ⟨#[]⟩ ⟨#[]⟩ ⟨#[]⟩ v0 v1 v2 v3 v4).size) := inf32
          have sj : Hid (z32.size = (r32 0 ty X0 X1 ⟨#[]⟩ ⟨#[]⟩ ⟨#[]⟩ v0 v1 v2 v3 v4).size) := rfl
          have sk : Hid ((r32 0 ty X0 X1 ⟨#[]⟩ ⟨#[]⟩ ⟨#[]⟩ v0 v1 v2 v3 v4).all (·.oneCell') = true) := by simp [r32, Value.oneCell', Hid]
          clear HYV
          generalize r32 0 ty X0 X1 ⟨#[]⟩ ⟨#[]⟩ ⟨#[]⟩ v0 v1 v2 v3 v4 = C at *
          go_wp2_with (first | (refine wpList_load_row rfl 32 _ rfl E rfl 32 C _ _ HP0.out.ent Tryd.underlying32 rfl si.out ?_) | (refine wpList_store_row rfl 32 _ _ rfl _ C rfl rfl 32 _ HP0.out.res si.out sj.out sk.out ?_))
          have r3 := setRow_heap _ _ _ C _ _ HP0.out.res
          have hld := run_loadVar_row _ _ _ 32 _ _ _ r3 Tryd.underlying32 rfl si.out
          exact bodyPost_ret (by rw [results_cell_tmp rfl]; simp [asAddr, hld]) rfl ⟨.inr (HY.out C HC.out), below_setRow HP0.out.bel (Nat.le_refl _) _⟩

end Go.Proofs.YtmholjjicklnhabDoor
