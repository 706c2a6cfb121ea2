/-
  The card of the law PaxLengths holds: it returns true for every number, the variables of the library that it lists being as the program text lays them.
-/
import Derived.Test.YtebnekkdkifgjaaDoorLaid
import Derived.Test.YtebnekkdkifgjaaDoorCards
import Derived.Test.YtebnekkdkifgjaaDoorTie
import Derived.Laws.MakeOwn
import Derived.ProofKit
import Derived.OpenShut
namespace Go.Proofs.YtebnekkdkifgjaaDoor.paxLengths
open Go.ChangeShapes Go.WideShapes Go.RowKit
set_option linter.unusedVariables false
set_option linter.unusedSimpArgs false

def kS : ByteArray := ⟨#[107]⟩
/-- so many bytes 0 -/
def zB (m : Nat) : ByteArray := ⟨(List.replicate m (0 : UInt8)).toArray⟩

theorem zB_size (m : Nat) : (zB m).size = m := by simp [zB, ByteArray.size]

theorem chk_k (m : Nat) (h : m ≤ 4095) : chk kS (zB m) = 0 := by
  unfold chk
  have h1 : ¬ (kS.size = 0 ∨ badKey kS = true) := by decide +kernel
  rw [if_neg h1, zB_size, if_neg (by show ¬ 4096 < 1 + m; omega)]

/-- the number that digits are -/
def dval (a : Nat) (l : List UInt8) : Nat := l.foldl (fun a x => 10 * a + (x.toNat - 48)) a

theorem dval_snoc (l : List UInt8) (a : Nat) (x : UInt8) : dval a (l ++ [x]) = 10 * dval a l + (x.toNat - 48) := by
  unfold dval
  rw [List.foldl_append]
  rfl

theorem dval_dec (u : Nat) : dval 0 (Lib.decDigits u) = u := by
  induction u using Nat.strongRecOn with
  | _ u ih =>
    rw [Lib.decDigits]
    split
    · rename_i h
      have e : (UInt8.ofNat (48 + u)).toNat = 48 + u := by simp; omega
      simp only [dval, List.foldl_cons, List.foldl_nil, e]
      omega
    · rename_i h
      have e : (UInt8.ofNat (48 + u % 10)).toNat = 48 + u % 10 := by simp; omega
      rw [dval_snoc, ih (u / 10) (by omega), e]
      omega

theorem dval_lt : ∀ (l : List UInt8), (∀ x ∈ l, 48 ≤ x.toNat ∧ x.toNat ≤ 57) → ∀ i, i ≤ l.length → dval 0 (l.take i) < 10 ^ i := by
  intro l hl i
  induction i with
  | zero => intro _; simp [dval]
  | succ i ih =>
    intro h
    have hi := ih (by omega)
    have hx := hl (l[i]'(by omega)) (List.getElem_mem _)
    rw [List.take_add_one, List.getElem?_eq_getElem (by omega)]
    simp only [Option.toList_some]
    rw [dval_snoc, Nat.pow_succ]
    omega

/-- the bytes of that record -/
def bsM (m : Nat) : List UInt8 := recB kS (zB m)

theorem bsM_eq (m : Nat) : bsM m = Lib.decDigits (plen (m + 4)) ++ (bodyS kS (zB m)).data.toList := by
  unfold bsM recB
  rw [bodyS_size, zB_size, show kS.size + m + 3 = m + 4 by show 1 + m + 3 = m + 4; omega, itoa_nat]

theorem plenM (m : Nat) (h : m ≤ 4095) : plen (m + 4) = m + 4 + Lib.nDigits (plen (m + 4)) ∧ Lib.nDigits (plen (m + 4)) ≤ 5 := by
  have h1 := plen_eq (m + 4)
  have h2 := plen_small (m + 4) (by omega)
  have h3 := plen_le (m + 4)
  have h4 := nDigits_small5 (m + 4) (by omega)
  have h5 := nDigits_small5 (plen (m + 4)) (by omega)
  exact ⟨h1, h5⟩

theorem bsM_len (m : Nat) (h : m ≤ 4095) : (bsM m).length = plen (m + 4) := by
  have h1 := (plenM m h).1
  rw [bsM_eq, List.length_append, Lib.decDigits_length, ← Lib.size_eq, bodyS_size, zB_size]
  have : kS.size = 1 := rfl
  omega

theorem bsM_dig (m i : Nat) (hi : i < (Lib.decDigits (plen (m + 4))).length) : (bsM m).getD i 0 = (Lib.decDigits (plen (m + 4)))[i] := by
  rw [bsM_eq, List.getD, List.getElem?_append_left hi, List.getElem?_eq_getElem hi]
  rfl

theorem bsM_blank (m : Nat) : (bsM m).getD (Lib.decDigits (plen (m + 4))).length 0 = 32 := by
  rw [bsM_eq, List.getD, List.getElem?_append_right (Nat.le_refl _), Nat.sub_self, body_list]
  rfl

theorem dec_more (m : Nat) (h : m ≤ 4095) : dec (bsM m ++ [10]).length [] (bsM m ++ [10]) = ([], 70) := by
  have hg : ∀ r ∈ [(kS, zB m)], Good r := by
    intro r hr
    simp at hr
    subst hr
    exact ⟨chk_k m h, by show (1 : Nat) ≤ 100000; omega, by rw [zB_size]; omega⟩
  have e : encR [(kS, zB m)] = bsM m := by simp [encR, bsM]
  have h1 := dec_encR [(kS, zB m)] (bsM m).length [] [10] hg (by simp)
  rw [e] at h1
  rw [List.length_append]
  have hl : ([10] : List UInt8).length = [(kS, zB m)].length := rfl
  rw [hl, h1]
  obtain ⟨f, hf⟩ : ∃ f, (bsM m).length = f + 1 := ⟨(bsM m).length - 1, by have := bsM_len m h; have := (plenM m h).1; omega⟩
  rw [hf, dec, if_neg (by simp)]
  have h0 : fn [10] = 0 := by decide +kernel
  rw [if_pos h0]

theorem dec_less (m : Nat) (h : m ≤ 4095) : dec ((bsM m).take (plen (m + 4) - 1)).length [] ((bsM m).take (plen (m + 4) - 1)) = ([], 70) := by
  have h1 := plenM m h
  have h2 := bsM_len m h
  have hl : ((bsM m).take (plen (m + 4) - 1)).length = plen (m + 4) - 1 := by rw [List.length_take]; omega
  have hdl := Lib.decDigits_length (plen (m + 4))
  have hbl : (bodyS kS (zB m)).data.toList.length = m + 4 := by rw [← Lib.size_eq, bodyS_size, zB_size]; show 1 + m + 3 = m + 4; omega
  obtain ⟨t, ht⟩ : ∃ t, (bsM m).take (plen (m + 4) - 1) = Lib.decDigits (plen (m + 4)) ++ 32 :: t := by
    rw [bsM_eq, List.take_append, List.take_of_length_le (by omega), body_list]
    obtain ⟨j, hj⟩ : ∃ j, plen (m + 4) - 1 - (Lib.decDigits (plen (m + 4))).length = j + 1 := ⟨plen (m + 4) - 2 - (Lib.decDigits (plen (m + 4))).length, by omega⟩
    rw [hj, List.take_succ_cons]
    exact ⟨_, rfl⟩
  have hdg : digs ((bsM m).take (plen (m + 4) - 1)) = Lib.decDigits (plen (m + 4)) := by
    unfold digs
    rw [ht, pos_append 32 _ _ (fun x hx e => by have := dig_range _ x hx; subst e; exact absurd this.1 (by decide))]
    simp
  have h0 : fn ((bsM m).take (plen (m + 4) - 1)) = 0 := by
    unfold fn firstP
    have hn := nval_itoa (plen (m + 4)) (by omega)
    rw [itoa_nat] at hn
    rw [hdg, hn]
    simp only
    rw [if_pos (.inr (by rw [hl]; omega))]
  rw [hl]
  obtain ⟨f, hf⟩ : ∃ f, plen (m + 4) - 1 = f + 1 := ⟨plen (m + 4) - 2, by omega⟩
  rw [hf, dec, if_neg (fun e => by have := congrArg List.length e; rw [← hf, hl] at this; simp at this; omega), ← hf, if_pos h0]

def zc (m : Nat) : Array Value := madeCells #[.int .u8 0] (m * 1)

theorem make_w (m : Nat) (hm : m ≤ 4095) (w : World) : (Instr.makeSlice 36 (.int .i64 m) (.int .i64 m)).run Tryd.prog w = .ok (.slice (some ⟨w.heap.size, 0, none⟩) m m) (w.alloc (.cells (zc m) 5)) := by
  obtain ⟨i, hi, h0, h1, h2⟩ := info_parts info5c
  have h := run_make (P := Tryd.prog) w 36 5 i _ Tryd.underlying36 hi h0 .i64 .i64 m m (by omega) (by omega) (by rw [h2]; omega) (by omega)
  rw [h, h1, Int.toNat_natCast]
  rfl

theorem zc_bytes (m : Nat) (w : World) : BytesAt (w.alloc (.cells (zc m) 5)) w.heap.size 0 (List.replicate m 0) := by
  intro i hi
  have hn := heap_alloc_new w (.cells (zc m) 5)
  have hi' : i < m := by simpa using hi
  have hz : (zc m)[i]? = some (.int .u8 0) := by
    unfold zc madeCells
    simp [hi', Nat.mod_one]
  simp only [World.cell?]
  rw [hn]
  simp [hz, hi', List.getD]

theorem conv_w (m : Nat) (w : World) : (convert 36 9 (.slice (some ⟨w.heap.size, 0, none⟩) m m)).run Tryd.prog (w.alloc (.cells (zc m) 5)) = .ok (.string (zB m)) (w.alloc (.cells (zc m) 5)) := by
  have := conv_str _ _ 0 m _ (zc_bytes m w)
  rwa [List.length_replicate] at this

theorem add0 (g j : Nat) : (⟨g, 0, none⟩ : Addr).add j = ⟨g, j, none⟩ := by
  unfold Addr.add
  by_cases h : j = 0
  · subst h; rfl
  · simp [h]

theorem one_cell (w : World) (x : Value) : ∀ j u, ([x] : List Value)[j]? = some u → (w.alloc (.cells #[x] 5)).cell? ((⟨w.heap.size, 0, none⟩ : Addr).add j) = some u := by
  intro j u h
  match j, h with
  | 0, h => cases h; simp [Addr.add]
  | j + 1, h => simp at h

set_option maxRecDepth 20000 in
set_option maxHeartbeats 8000000 in
theorem walk_in (m : Nat) (h1 : m ≤ 4095) (w : World) (ht : Vs w) :
    Calls Tryd.prog 5 #[.int .i64 (m : Int)] w fun e w' => e = .returned (.bool true) ∧ Below w.heap.size w w' := by
  obtain ⟨i0, hi, hz0, hz1, hz2⟩ := info_parts info5c
  have HV : Hid (∀ W, Below w.heap.size w W → Vs W) := fun W h => ht.below h
  have q0 := records_w w ht
  clear ht
  have mk := make_w m h1
  have cv := conv_w m
  go_enter Tryd.func5, Tryd.ntmps5
  go_wp2_with (go_at_call 9; refine q0.mono ?_; rintro e w1 ⟨rfl, b1⟩)
  have r1 : RecsAt ((w1.alloc (.cells (zc m) 5)).alloc (.cells #[.string kS, .string (zB m)] 28)) (w1.heap.size + 1) 0 (fun _ => kS) (fun _ => zB m) 1 := by
    intro j hj
    obtain rfl : j = 0 := by omega
    have hn := heap_alloc_new (w1.alloc (.cells (zc m) 5)) (.cells #[.string kS, .string (zB m)] 28)
    have hs : (w1.alloc (.cells (zc m) 5)).heap.size = w1.heap.size + 1 := by simp
    rw [hs] at hn
    exact ⟨by simp only [World.cell?]; rw [hn]; rfl, by simp only [World.cell?]; rw [hn]; rfl⟩
  have b2 : Below w.heap.size w ((w1.alloc (.cells (zc m) 5)).alloc (.cells #[.string kS, .string (zB m)] 28)) := (b1.alloc b1.size _).alloc (by have := b1.size; simp; omega) _
  have qe := enc_w (w1.heap.size + 1) 0 1 1 _ _ _ r1 (by omega) (fun j _ => ⟨by show (1 : Nat) ≤ 100000; omega, by rw [zB_size]; omega⟩) (HV.out _ b2)
  have he : errTo (fun _ => kS) (fun _ => zB m) 1 = 0 := by simp [errTo, chk_k m h1]
  have hl : encL (fun _ => kS) (fun _ => zB m) 1 = bsM m := by simp [encL, bsM]
  rw [hl] at qe
  rw [show kS = ⟨#[107]⟩ from rfl] at qe b2 he
  generalize (w1.alloc (.cells (zc m) 5)).alloc (.cells #[.string ⟨#[107]⟩, .string (zB m)] 28) = w2 at *
  refine qe.mono ?_
  rintro e w3 ⟨h, b3⟩
  rcases h with ⟨_, v, rfl, hown⟩ | ⟨h, _⟩
  rotate_left
  · exact absurd he h
  have hM := plenM m h1
  have hL := bsM_len m h1
  have hDl := Lib.decDigits_length (plen (m + 4))
  obtain ⟨g, cap, rfl, hB, hc1, hc2, hg1, hg2⟩ := own_bytesAt hown (by omega)
  have bb3 : Below w.heap.size w w3 := b2.trans (b3.mono b2.size)
  have HB : Hid (BytesAt w3 g 0 (bsM m)) := hB
  have HDM : Hid (dec (bsM m ++ [10]).length [] (bsM m ++ [10]) = ([], 70)) := dec_more m h1
  have HDL : Hid (dec ((bsM m).take (plen (m + 4) - 1)).length [] ((bsM m).take (plen (m + 4) - 1)) = ([], 70)) := dec_less m h1
  have HX : Hid (∀ i, i < (Lib.decDigits (plen (m + 4))).length → ∃ x : UInt8, (bsM m).getD i 0 = x ∧ 48 ≤ x.toNat ∧ x.toNat ≤ 57 ∧ dval 0 ((Lib.decDigits (plen (m + 4))).take (i + 1)) = 10 * dval 0 ((Lib.decDigits (plen (m + 4))).take i) + (x.toNat - 48) ∧ dval 0 ((Lib.decDigits (plen (m + 4))).take i) ≤ 100000) := fun i hi => by
    have hr := dig_range (plen (m + 4)) _ (List.getElem_mem hi)
    refine ⟨_, bsM_dig m i hi, hr.1, hr.2, ?_, ?_⟩
    · rw [List.take_add_one, List.getElem?_eq_getElem hi]
      simp only [Option.toList_some]
      rw [dval_snoc]
    · have := dval_lt _ (dig_range (plen (m + 4))) i (by omega)
      have : 10 ^ i ≤ 10 ^ 5 := Nat.pow_le_pow_right (by decide) (by omega)
      omega
  have HBL : Hid ((bsM m).getD (Lib.decDigits (plen (m + 4))).length 0 = 32) := bsM_blank m
  have HDV : Hid (dval 0 ((Lib.decDigits (plen (m + 4))).take (Lib.decDigits (plen (m + 4))).length) = plen (m + 4)) := by
    show _ = _
    rw [List.take_length, dval_dec]
  have HOw : Hid (w3.ownsRow w2.heap.size 5 1 (.slice (some ⟨g, 0, none⟩) (plen (m + 4)) cap) (plen (m + 4)) (Lib.byteCells (bsM m))) := by rw [← hL]; exact hown
  rw [hL] at hc1 ⊢
  have hD1 : (Lib.decDigits (plen (m + 4))).length < plen (m + 4) := by omega
  have hPs : plen (m + 4) ≤ 5000 := by omega
  clear hown hB hDl hM he hl qe r1
  generalize Lib.decDigits (plen (m + 4)) = ds at *
  generalize plen (m + 4) = P at *
  go_wp2_with fail
  go_loopw [5, 6] (fun ta tk wr => ∃ i : Nat, i ≤ ds.length ∧ ta = .int .i64 i ∧ tk = .int .i64 (dval 0 (ds.take i) : Int) ∧ wr = w3) (fun ta _ _ => ds.length - (intOf ta).toNat)
  case atStart => exact ⟨0, Nat.zero_le _, rfl, rfl, rfl⟩
  case round =>
    obtain ⟨i, hi', rfl, rfl, rfl⟩ := hrel
    by_cases hlt : i < ds.length
    · obtain ⟨x, hx, hx1, hx2, hx3, hx4⟩ := HX.out i hlt
      have hc := HB.out i (by rw [hL]; omega)
      rw [hx, Nat.zero_add] at hc
      have HD3 : Hid (dval 0 (ds.take (i + 1)) = 10 * dval 0 (ds.take i) + (x.toNat - 48)) := hx3
      clear hx3 hx
      generalize dval 0 (ds.take i) = a at *
      have w8 : IntKind.u8.wrap ((x.toNat : Int) - 48) = (x.toNat : Int) - 48 := by
        have e1 : IntKind.u8.signed = false := rfl
        simp [IntKind.wrap, e1, IntKind.bits]
        omega
      have n32 : ¬ (x.toNat : Int) = 32 := by omega
      go_wp2
      go_roundw
      case rel => exact ⟨i + 1, by omega, by simp, by rw [HD3.out]; congr 1; omega, by first | rfl | trivial⟩
      case measure => simp [intOf]; omega
    · obtain rfl : i = ds.length := by omega
      have hc := HB.out ds.length (by rw [hL]; omega)
      rw [HBL.out, Nat.zero_add] at hc
      rw [HDV.out]
      clear HX HBL HDV
      have hlit := World.ownsRow_lit (base := wr.heap.size) (e := 5) (size := 1) wr #[] 0 (Nat.le_refl _) (by decide) rfl
      go_wp2_with (at_builtin; refine wpList_append_own _ rfl (.tmp 53) (.tmp 54) 36 rfl wr.heap.size 5 i0 (.int .u8 0) 1 1 Tryd.underlying36 hi hz0 hz1 hz2 rfl (by decide) _ 0 _ rfl hlit ⟨g, 0, none⟩ P cap (Lib.byteCells (bsM m)) rfl ?f0 ?f1 ?f2 ?f3 ?f4 ?f5 ?_)
      case f0 => rw [Lib.byteCells_length, hL]
      case f1 => intro j u hj; have hq := HOw.out.cells (g := g) rfl j u hj; rwa [add0] at hq
      case f2 => exact Lib.byteCells_one _
      case f3 => unfold maxLen; omega
      case f4 => omega
      intro v4 w4 hown4 hg4 hh4
      have b4 : Below wr.heap.size wr w4 := ((Below.refl _ _).alloc (Nat.le_refl _) _).grown hg4 (by simp) fun k hk => (hlit.lt k hk).1
      have ho4 : w4.ownsRow wr.heap.size 5 1 v4 P (Lib.byteCells (bsM m)) := by simpa using hown4
      have HO4 : Hid (w4.ownsRow wr.heap.size 5 1 v4 P (Lib.byteCells (bsM m))) := ho4
      clear ho4
      clear hown4 hg4 hh4 hlit
      go_wp2_with (at_builtin; refine wpList_append_own _ rfl (.tmp 55) (.tmp 56) 36 rfl wr.heap.size 5 i0 (.int .u8 0) 1 1 Tryd.underlying36 hi hz0 hz1 hz2 rfl (by decide) _ _ _ rfl (HO4.out.alloc _) ⟨w4.heap.size, 0, none⟩ 1 1 [.int .u8 10] rfl rfl ?g1 ?g2 ?g3 ?g4 ?g5 ?_)
      case g1 => exact one_cell _ _
      case g2 => intro u hu; simp at hu; subst hu; rfl
      case g3 => unfold maxLen; omega
      case g4 => omega
      case g5 => have := b4.size; simp; omega
      intro v5 w5 hown5 hg5 hh5
      have b5 : Below wr.heap.size wr w5 := (b4.alloc b4.size _).grown hg5 (by have := b4.size; simp; omega) fun k hk => (HO4.out.lt k hk).1
      have bb5 : Below w.heap.size w w5 := bb3.trans (b5.mono bb3.size)
      have hl5 : (bsM m ++ [10]).length = P + 1 := by rw [List.length_append, hL]; rfl
      have O5 : w5.ownsRow wr.heap.size 5 1 v5 (bsM m ++ [10]).length (Lib.byteCells (bsM m ++ [10])) := by
        rw [hl5, Lib.byteCells_append]
        exact hown5
      obtain ⟨g5, cap5, rfl, hB5, hd1, hd2, _, _⟩ := own_bytesAt O5 (by omega)
      have qd := decode_w g5 0 cap5 _ w5 hB5 hd1 hd2 (by omega) (HV.out _ bb5)
      rw [HDM.out, hl5] at qd
      have HB5 : Hid (BytesAt w5 g 0 (bsM m)) := HB.out.below b5
      rw [hl5] at ⊢
      clear hown5 hg5 hh5 O5 hB5 HO4 HDM HB hc hd1 hl5
      go_wp2_with fail
      refine qd.mono ?_
      rintro e w6 ⟨v6, rfl, _, b6⟩
      have bb6 : Below w.heap.size w w6 := bb5.trans (b6.mono bb5.size)
      have hl7 : ((bsM m).take (P - 1)).length = P - 1 := by rw [List.length_take, hL]; omega
      have qd2 := decode_w g 0 cap _ w6 ((HB5.out.below b6).take (P - 1)) (by omega) hc2 (by omega) (HV.out _ bb6)
      rw [HDL.out, hl7] at qd2
      have rh := fun W => run_high W (some ⟨g, 0, none⟩) P cap (P - 1) (by omega)
      rw [show ((P - 1 : Nat) : Int) = (P : Int) - 1 by omega] at rh
      clear qd HB5 hl7 HDL
      go_wp2_with fail
      refine qd2.mono ?_
      rintro e w7 ⟨v7, rfl, _, b7⟩
      go_wp2
      go_ret
      exact ⟨rfl, bb6.trans (b7.mono bb6.size)⟩

theorem walk_out (n : Int) (h : n < 0 ∨ 4095 < n) (w : World) (ht : Vs w) :
    Calls Tryd.prog 5 #[.int .i64 n] w fun e w' => e = .returned (.bool true) ∧ Below w.heap.size w w' := by
  have q0 := records_w w ht
  rcases h with h | h
  · go_enter Tryd.func5, Tryd.ntmps5
    go_wp2_with (go_at_call 9; refine q0.mono ?_; rintro e w1 ⟨rfl, b1⟩)
    go_ret
    exact ⟨rfl, b1⟩
  · have h' : ¬ n < 0 := by omega
    go_enter Tryd.func5, Tryd.ntmps5
    go_wp2_with (go_at_call 9; refine q0.mono ?_; rintro e w1 ⟨rfl, b1⟩)
    go_ret
    exact ⟨rfl, b1⟩

theorem walk (n : Int) (w : World) (ht : Vs w) :
    Calls Tryd.prog 5 #[.int .i64 n] w fun e w' => e = .returned (.bool true) ∧ Below w.heap.size w w' := by
  by_cases h : n < 0 ∨ 4095 < n
  · exact walk_out n h w ht
  · obtain ⟨m, rfl⟩ : ∃ m : Nat, n = m := ⟨n.toNat, by omega⟩
    exact walk_in m (by omega) w ht

theorem lit_i64 {z : Int} (h : (Lit.int .i64 z).wf = true) : -9223372036854775808 ≤ z ∧ z ≤ 9223372036854775807 := by
  have h' : IntKind.i64.min ≤ z ∧ z ≤ IntKind.i64.max := by simpa [Lit.wf] using h
  have e1 : IntKind.i64.min = -9223372036854775808 := by decide
  have e2 : IntKind.i64.max = 9223372036854775807 := by decide
  omega

set_option maxRecDepth 100000 in
theorem lifted (os : Os) (started : os.Started) (H : Type) (enc : TypeId × Value → H) :
    ReturnsInHanded {} Tryd.checked os 5 .any (fun w args => (Rows.paxLengthsSpec.pre enc Tryd.prog Tryd.f5 [] false w args ∧ laidMetH Tryd.prog five w) ∧ sizedMet enc Tryd.prog Tryd.f5 (OpenSpec.ofChange Rows.paxLengthsSpec) false w args)
      (Rows.paxLengthsSpec.post enc Tryd.prog Tryd.f5 false true false false) := by
  refine returnsInHanded_of_change_and (C := Tryd.checked) (X := fun w _ => laidMetH Tryd.prog five w) (fun _ _ _ hh h => h.of_heap hh) own started (by kernel_rfl) Tryd.func5
    (ChangeSpec.witness_at (enc := enc) (C := Tryd.checked) (os := os) (X := fun w _ => laidMetH Tryd.prog five w) false
      (start os)
      #[.int .i64 0] 8 rfl (by kernel_rfl) (by kernel_rfl) (by kernel_rfl) (by kernel_rfl) (by kernel_rfl) (laidMet_of_run' 8 (by kernel_rfl) (by kernel_rfl))) ?_
  intro W base args ds gs before hval0 hW _ hsz hL _
  have hval : ∀ (j : Nat) t v, Tryd.f5.params[j]? = some t → args[j]? = some v → Value.okWide Tryd.prog W .any base t v := hval0
  have hW' := hW
  obtain ⟨p, q, hA0, hV0, rfl, hfz, hnd⟩ := hW
  have hA : DataW.TrodAll enc Tryd.prog W 0 (fun _ => true) true Tryd.f5.params.toList args.toList ds p := hA0
  have hV : DataW.TrodVars enc Tryd.prog W (fun _ => true) [] gs q := hV0
  rw [Tryd.params5] at hA hval
  obtain ⟨v0, vs0, d0, ds0, p0, q0, hargs, rfl, rfl, h0, r0⟩ := trodAll_cons hA
  obtain ⟨rfl, rfl, rfl⟩ := trodAll_nil r0
  obtain rfl : args = #[v0] := by cases args; simp_all
  obtain ⟨rfl, rfl⟩ : gs = [] ∧ q = [] := by
    cases gs with
    | nil => exact ⟨rfl, hV⟩
    | cons g r => exact absurd hV (by intro h; cases h)
  obtain ⟨a0, rfl, rfl, rfl, w0⟩ := open_int Tryd.underlying3 (hval 0 3 v0 rfl rfl) h0
  clear hA0 hval0
  refine (walk a0 W (met hL)).mono fun e W' ⟨he, st⟩ => ?_
  subst he
  exact ⟨_, rfl, _, _, _, [], _, [], hW', trodAll_mk1 (shut_bool Tryd.underlying4 _), (trodAll_cons_mk (shut_int Tryd.underlying3 w0) trodAll_mk0), rfl, st.frame _, fun h => by cases h⟩

theorem over : Rows.PaxLengthsSaid :=
  OpenClaim.holds_of_wide 5 Tryd.f5 rfl rfl rfl rfl rfl rfl rfl ⟨rfl, rfl, rfl, rfl, rfl⟩ rfl rfl rfl rfl rfl (by kernel_rfl) Tryd.func5 (by kernel_rfl)
    (of_decide_eq_true (by kernel_rfl)) (by unfold Func.isWrapper; rw [if_neg (of_decide_eq_false (by kernel_rfl))]; exact ⟨rfl, rfl⟩)
    (fun os started H enc _ => lifted os started H enc)

theorem carded : Rows.PaxLengthsCardSaid :=
  Claim7.holds_tied_plain_at .later [] _ _ _ _
    over (fun _ h => by cases h) (by kernel_rfl) (fun _ h => by cases h) paxLengths_row_tie rfl ⟨rfl, rfl⟩ (by kernel_rfl) rfl
    (fun f fn hf hfn => by
      obtain rfl : f = 5 := Option.some.inj ((show Tryd.prog.funcNamed Tryd.f5.name = some 5 by kernel_rfl).symm.trans hf) |>.symm
      obtain rfl : fn = Tryd.f5 := (Option.some.inj (Tryd.func5.symm.trans hfn)).symm
      refine ⟨by kernel_rfl, fun j t ht => ?_⟩
      have hall : ∀ t ∈ Tryd.f5.params, Tryd.prog.wantsStandIn t = false := by
        rw [Tryd.params5]
        intro t ht
        simp at ht
        subst ht; kernel_rfl
      exact hall t (Array.mem_of_getElem? ht))
    (by kernel_rfl)

end Go.Proofs.YtebnekkdkifgjaaDoor.paxLengths
namespace Go.Proofs.YtebnekkdkifgjaaDoor
theorem paxLengths_holds : Rows.PaxLengthsCardSaid := paxLengths.carded
#print axioms paxLengths_holds
end Go.Proofs.YtebnekkdkifgjaaDoor
