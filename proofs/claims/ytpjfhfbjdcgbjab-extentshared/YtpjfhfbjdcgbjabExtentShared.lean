/-
  The law ExtentShared returns true for every bytes and every list of bytes; no condition.
-/
import Derived.Test.YtpjfhfbjdcgbjabRows
import Derived.Test.YtpjfhfbjdcgbjabCns
import Derived.Deep.Matrix
import Derived.Deep.DeepCutAuto
import Derived.Deep.RegionHeld3
import Derived.ProofKit
import Derived.OpenShut
import Derived.ShutString
import Derived.ChangeOld
import Derived.Below
namespace Go.Proofs.Ytpjfhfbjdcgbjab.extentShared
open Go.ChangeShapes Go.WideShapes Go.ChangeAt Go.RowKit
set_option linter.unusedVariables false
set_option linter.unusedSimpArgs false


/-- a row of the second argument -/
structure Tr where
  a : Option Addr
  c : Nat
  zs : List Int

def Tr.val (x : Tr) : Value := .slice x.a x.zs.length x.c

/-- where they lie -/
def Tab (w : World) (at_ : Option Addr) (n : Nat) (T : Nat → Tr) : Prop := ∀ r, r < n → ∃ ad, at_ = some ad ∧ w.cell? (ad.add r) = some (.slice (T r).a (T r).zs.length (T r).c) ∧ Src w (T r).a (T r).zs ∧ (T r).zs.length ≤ (T r).c ∧ (T r).c ≤ 9223372036854775807

/-- a content that was shared so often, each with its own tail; from 'k' on they are there -/
structure Sh (w wr : World) (p S F g7 B B2 : Nat) (zs : List Int) (a1 : Option Addr) (c1 : Nat) (ids1 : List Int) (T : Nat → Tr) (j k : Nat) (v : Value) (xs : List Cn) (ss : List Slot) (fr : List Nat) : Prop where
  below : Below w.heap.size w wr
  one : wr.heap[g7]? = some (.cells #[.slice a1 ids1.length c1, .int .i64 (zs.length : Int)] 35 (0, 0))
  o1 : Own wr B (.slice a1 ids1.length c1) ids1
  row : Cs wr B2 v xs
  ar : Ar wr p S F ss fr
  inv : Inv ss fr ((ids1, zs) :: (xs.drop k).map Cn.ct)
  txt : ∀ i x, xs[i]? = some x → x.L = zs ++ (T i).zs ∧ (T i).zs.length ≤ 500
  free : k = 0 → 300 ≤ fr.length + 8 + 9 * j
  len : ss.length = 300
  num : xs.length = j

theorem Sh.bound {w wr : World} {p S F g7 B B2 : Nat} {zs : List Int} {a1 : Option Addr} {c1 : Nat} {ids1 : List Int} {T : Nat → Tr} {j k : Nat} {v : Value} {xs : List Cn} {ss : List Slot} {fr : List Nat} (h : Sh w wr p S F g7 B B2 zs a1 c1 ids1 T j k v xs ss fr) (hz : zs.length ≤ 500) (hj : j ≤ 10) : ∀ s ∈ ss, s.holds + ids1.length < 1073741824 := by
  intro s hs
  have h1 := h.inv.most s hs
  have h2 := Inv.lens_le (fr := fr) 1000 h.inv.lies (by
    intro c hc
    rcases List.mem_cons.1 hc with rfl | hc
    · simp; omega
    · obtain ⟨x, hx, rfl⟩ := List.mem_map.1 hc
      obtain ⟨i, hi⟩ := List.getElem?_of_mem (List.mem_of_mem_drop hx)
      obtain ⟨e1, e2⟩ := h.txt i x hi
      simp [Cn.ct, e1]; omega)
  have h3 := (h.inv.lies (ids1, zs) (by simp)).len
  have h4 := h.num
  simp only [List.length_cons, List.length_map, List.length_drop] at h2
  simp only at h3
  unfold need at h3
  have : (xs.length - k + 1) * (1000 + 1) ≤ 11 * 1001 := Nat.mul_le_mul (by omega) (by omega)
  omega

/-- one more -/
theorem Sh.next {w wr w' : World} {p S F g7 B B2 : Nat} {zs : List Int} {a1 : Option Addr} {c1 : Nat} {ids1 : List Int} {T : Nat → Tr} {j : Nat} {v : Value} {xs : List Cn} {ss : List Slot} {fr : List Nat} (h : Sh w wr p S F g7 B B2 zs a1 c1 ids1 T j 0 v xs ss fr) {ss3 : List Slot} {fr3 : List Nat} {v' : Value} {y : Cn}
    (hb : Below w.heap.size w w') (h7 : w'.heap[g7]? = wr.heap[g7]?) (ho : Own w' B (.slice a1 ids1.length c1) ids1) (hc : Cs w' B2 v' (xs ++ [y])) (ha : Ar w' p S F ss3 fr3) (hi : Inv ss3 fr3 (y.ct :: (ids1, zs) :: xs.map Cn.ct)) (ht : y.L = zs ++ (T j).zs) (ht2 : (T j).zs.length ≤ 500) (hf : fr.length ≤ fr3.length + 9) (hl : ss3.length = ss.length) :
    Sh w w' p S F g7 B B2 zs a1 c1 ids1 T (j + 1) 0 v' (xs ++ [y]) ss3 fr3 := by
  refine ⟨hb, h7.trans h.one, ho, hc, ha, ?_, ?_, ?_, by rw [hl]; exact h.len, by simp [h.num]⟩
  · refine hi.perm ?_
    simp only [List.drop_zero, List.map_append, List.map_cons, List.map_nil]
    refine (List.Perm.swap _ _ _).trans (List.Perm.cons _ ?_)
    exact (List.perm_append_singleton _ _).symm
  · intro i x hx
    rw [List.getElem?_append] at hx
    split at hx
    · exact h.txt i x hx
    · rename_i hlt
      have hn := h.num
      cases e : i - xs.length with
      | zero =>
        rw [e] at hx
        simp at hx
        subst hx
        obtain rfl : i = j := by omega
        exact ⟨ht, ht2⟩
      | succ q => rw [e] at hx; simp at hx
  · intro _; have := h.free rfl; omega

/-- one dropped -/
theorem Sh.less {w wr w' : World} {p S F g7 B B2 : Nat} {zs : List Int} {a1 : Option Addr} {c1 : Nat} {ids1 : List Int} {T : Nat → Tr} {j k : Nat} {v : Value} {xs : List Cn} {ss : List Slot} {fr : List Nat} (h : Sh w wr p S F g7 B B2 zs a1 c1 ids1 T j k v xs ss fr) {x : Cn} (hx : xs[k]? = some x) : Inv ss fr (x.ct :: (ids1, zs) :: (xs.drop (k + 1)).map Cn.ct) := by
  refine h.inv.perm ?_
  have hk := (List.getElem?_eq_some_iff.1 hx).1
  have he := (List.getElem?_eq_some_iff.1 hx).2
  rw [List.drop_eq_getElem_cons hk, he]
  simp only [List.map_cons]
  exact List.Perm.swap _ _ _

theorem strOf_append (a b : List Int) : strOf (a ++ b) = strOf a ++ strOf b := by
  unfold strOf
  rw [List.foldl_append]
  generalize List.foldl (fun (r : ByteArray) (n : Int) => r.push (UInt8.ofNat n.toNat)) ByteArray.empty a = X
  have : ∀ (b : List Int) (X Y : ByteArray), List.foldl (fun (r : ByteArray) (n : Int) => r.push (UInt8.ofNat n.toNat)) (X ++ Y) b = X ++ List.foldl (fun (r : ByteArray) (n : Int) => r.push (UInt8.ofNat n.toNat)) Y b := by
    intro b
    induction b with
    | nil => intro X Y; rfl
    | cons z r ih =>
      intro X Y
      simp only [List.foldl_cons]
      rw [← ih]
      congr 1
      apply ByteArray.ext
      simp [ByteArray.push, ByteArray.data_append]
  have h := this b X ByteArray.empty
  rw [ByteArray.append_empty] at h
  exact h

theorem strOf_size (a : List Int) : (strOf a).size = a.length := by
  unfold strOf
  have : ∀ (a : List Int) (X : ByteArray), (List.foldl (fun (r : ByteArray) (n : Int) => r.push (UInt8.ofNat n.toNat)) X a).size = X.size + a.length := by
    intro a
    induction a with
    | nil => intro X; rfl
    | cons z r ih => intro X; simp only [List.foldl_cons, List.length_cons]; rw [ih, ByteArray.size_push]; omega
  rw [this]; simp

theorem src_keeps {w w' : World} {p S F : Nat} {a : Option Addr} {zs : List Int} (h : Src w a zs) (hk : Keeps p S F w w') (hne : 0 < zs.length → ∀ ad, a = some ad → ad.block ≠ p ∧ ad.block ≠ S ∧ ad.block ≠ F) : Src w' a zs := by
  intro h0
  obtain ⟨ad, h1, h2⟩ := h h0
  subst h1
  have hlt := h.lt h0
  obtain ⟨n1, n2, n3⟩ := hne h0 ad rfl
  exact (h.moved (w' := w') fun ad' e => by cases e; exact hk.block _ hlt n1 n2 n3) h0

theorem cell_keeps {w w' : World} {p S F : Nat} (hk : Keeps p S F w w') {a : Addr} {v : Value} (h : w.cell? a = some v) (h1 : a.block ≠ p) (h2 : a.block ≠ S) (h3 : a.block ≠ F) : w'.cell? a = some v := by
  rw [← h]
  exact World.cell?_of_block (hk.block _ (World.block_lt_of_cell? w _ h) h1 h2 h3)

set_option maxRecDepth 100000 in
set_option maxHeartbeats 16000000 in
theorem walk_yes (a : Option Addr) (cap : Nat) (zs : List Int) (at_ : Option Addr) (n capt : Nat) (T : Nat → Tr) (w : World) (hl : zs.length ≤ 500) (hn : n ≤ 10) (hc : zs.length ≤ cap) (hc2 : cap ≤ 9223372036854775807) (hs : Hid (Src w a zs)) (hT : Hid (Tab w at_ n T)) :
    Calls Try.prog 7 #[.slice a zs.length cap, .slice at_ n capt] w fun e w' => e = .returned (.bool true) ∧ Below w.heap.size w w' := by
  have hl' : decide ((500 : Int) < (zs.length : Int)) = false := decide_eq_false (by omega)
  have hl2 : decide (500 < zs.length) = false := decide_eq_false (by omega)
  have hlk' : decide ((10 : Int) < (n : Int)) = false := decide_eq_false (by omega)
  have hlk2 : decide (10 < n) = false := decide_eq_false (by omega)
  go_enter Try.func7, Try.ntmps7
  go_wp2_with fail
  refine (keeps_ok w).mono ?_
  rintro e w1 ⟨rfl, b1⟩
  go_wp2_with fail
  refine (new_yes 300 w1 (by decide)).mono ?_
  rintro e w2 ⟨p, S, F, rfl, A2, B2, gp, gS, gF⟩
  obtain ⟨lp, lS, lF⟩ := A2.lt
  have s1 := b1.size
  have b2 : Below w.heap.size w w2 := b1.trans (B2.mono s1)
  have s2 := b2.size
  have I2 : Inv (blank 300) (down 300) [([], [])] := (blank_inv 300 _ A2.good).begin
  have hs2 := hs.out.grow b2
  have hcan : canCode (blank 300) (down 300) [] ([] : List Int).length zs.length = 0 := I2.can zs.length (by simp; omega) (by rw [down_len]; have : isShared (blank 300) [] ([] : List Int).length = false := (by decide +kernel); rw [this]; simp [need]; omega)
  have q := app_inv2 A2 I2 none 0 0 (own_nil _ _) a zs cap hc hc2 hs2 (fun h0 ad e => by subst e; have := hs.out.lt h0; exact ⟨by omega, by omega, by omega⟩) hcan
  simp only [List.length_nil, List.nil_append, Int.natCast_zero] at q
  clear hcan I2
  go_wp2_with fail
  refine q.mono ?_
  rintro e w3 ⟨a1, c1, ids1, ss1, fr1, rfl, O3, A3, K3, I3, f3, l3, _⟩
  clear q A2 hs2
  have f1 : 300 ≤ fr1.length + 8 := by
    rw [down_len, if_neg (by rw [un_shared (blank_un 300)]; simp)] at f3
    simp [need] at f3
    omega
  have b3 : Below w.heap.size w w3 := b2.trans (K3.below s2 (by omega) (by omega) (by omega))
  have s3 := K3.size
  have g7 := heap_alloc_new w3 (.cells #[.slice a1 ids1.length c1, .int .i64 (zs.length : Int)] 35)
  have bx7 := below_box w3 (.cells #[.slice a1 ids1.length c1, .int .i64 (zs.length : Int)] 35)
  have A4 := A3.grow bx7
  have O4 := O3.grow bx7
  have b4 := b3.trans (bx7.mono b3.size)
  have s4 : w3.heap.size + 1 ≤ (w3.alloc (.cells #[.slice a1 ids1.length c1, .int .i64 (zs.length : Int)] 35)).heap.size := by simp
  generalize hv4 : w3.alloc (.cells #[.slice a1 ids1.length c1, .int .i64 (zs.length : Int)] 35) = w4 at *
  have T4 : Sh w w4 p S F w3.heap.size w2.heap.size w4.heap.size zs a1 c1 ids1 T 0 0 (.slice none 0 0) [] ss1 fr1 := by
    refine ⟨b4, g7, O4, cs_nil _ _, A4, by simpa using I3, fun i x h => by simp at h, fun _ => by omega, by rw [l3]; exact blank_length 300, rfl⟩
  clear f3 K3 A3 O3 b3 bx7 g7 A4 O4 I3 l3 f1 b4
  go_wp2_with fail
  clear hv4
  go_loopw [9, 44] (fun s9 x wr => ∃ (j : Nat) (av : Option Addr) (cv : Nat) (xs : List Cn) (ss : List Slot) (fr : List Nat), j ≤ n ∧ x = .int .i64 (j : Int) ∧ s9 = .slice av j cv ∧ Hid (w4.heap.size ≤ wr.heap.size) ∧ Hid (Sh w wr p S F w3.heap.size w2.heap.size w4.heap.size zs a1 c1 ids1 T j 0 (.slice av j cv) xs ss fr)) (fun _ x _ => n - (intOf x).toNat)
  case atStart => exact ⟨0, none, 0, [], ss1, fr1, by omega, rfl, rfl, Nat.le_refl _, T4⟩
  case round =>
    clear T4
    obtain ⟨j, av, cv, xs, ss, fr, hj, rfl, rfl, HZ, H⟩ := hrel
    by_cases hlt : j < n
    · obtain ⟨ad, ead, hcell, hsrc, hlc, hcc⟩ := hT.out j hlt
      have hcell := cell_below H.out.below hcell
      subst ead
      by_cases h5 : 500 < (T j).zs.length
      · have h5' : (500 : Int) < ((T j).zs.length : Int) := by omega
        have bb := H.out.below
        go_wp2_with fail
        go_ret
        exact ⟨rfl, bb⟩
      · have h5' : ¬ (500 : Int) < ((T j).zs.length : Int) := by omega
        have hsz := HZ.out
        obtain ⟨u0, u1, u2, u3, u4, u5⟩ := H.out.o1.use
        have lies1 := H.out.inv.lies (ids1, zs) (by simp)
        have hlen1 := lies1.len
        simp only at hlen1
        obtain ⟨k0, k1, k2, k3⟩ := two_cells H.out.one
        have q := share_ok H.out.ar a1 c1 ids1 (zs.length : Int) u1 (by rw [hlen1]; unfold need; omega) u2 (fun b off e => by have := u3 b off e; exact ⟨by omega, by omega, by omega⟩) lies1.held (H.out.bound hl (by omega))
        have HLC : Hid _ := hlc
        have HSrc : Hid (Src w (T j).a (T j).zs) := hsrc
        clear u0 u1 u2 u4 u5 hlen1 lies1 hlc hsrc hsz
        go_wp2_with fail
        refine q.mono ?_
        rintro e w5 ⟨a5, c5, rfl, O5, A5, K5⟩
        clear q k0 k1 k2 k3
        have I5 := H.out.inv.share A5.good
        have hsz := HZ.out
        have g5 := heap_alloc_new w5 (.cells #[.slice a5 ids1.length c5, .int .i64 (zs.length : Int)] 35)
        have bx5 := below_box w5 (.cells #[.slice a5 ids1.length c5, .int .i64 (zs.length : Int)] 35)
        have e6 : Hid ((w5.alloc (.cells #[.slice a5 ids1.length c5, .int .i64 (zs.length : Int)] 35)).heap.size = w5.heap.size + 1) := World.size_alloc _ _
        have s5 := K5.size
        have A6 := A5.grow bx5
        have O6 := O5.grow bx5
        have K6 := K5.trans (Keeps.ofBelow bx5)
        generalize hv6 : w5.alloc (.cells #[.slice a5 ids1.length c5, .int .i64 (zs.length : Int)] 35) = w6 at *
        obtain ⟨k0, k1, k2, k3⟩ := two_cells g5
        have HN : Hid (xs.length = j) := H.out.num
        have s6 := K6.size
        have b6 : Below w.heap.size w w6 := H.out.below.trans (K6.below H.out.below.size (by omega) (by omega) (by omega))
        have hcan : canCode (holdF ss ids1) fr ids1 zs.length (T j).zs.length = 0 := I5.can _ (by omega) (by
          have := H.out.free rfl
          unfold need
          split <;> omega)
        have q := app_inv2 A6 I5 a5 c5 w.heap.size (O6.base (by have := H.out.below.size; omega)) (T j).a (T j).zs (T j).c HLC.out hcc (HSrc.out.grow b6) (fun h0 ad e => by have := HSrc.out; rw [e] at this; have := this.lt h0; exact ⟨by omega, by omega, by omega⟩) hcan
        obtain ⟨m, hm⟩ : ∃ m : Nat, (zs ++ (T j).zs).length = m := ⟨_, rfl⟩
        rw [hm] at q
        have HMm : Hid (((zs ++ (T j).zs).length : Int) = (m : Int)) := by show _ = _; rw [hm]
        clear hm
        have HA : Hid _ := K6
        have HG : Hid (∀ w8, Keeps p S F w6 w8 → w8.heap[w5.heap.size]? = some (.cells #[.slice a5 ids1.length c5, .int .i64 (zs.length : Int)] 35 (0, 0))) := fun w8 K => (K.block _ (by have := e6.out; omega) (by omega) (by omega) (by omega)).trans g5
        clear hcan A5 O5 K5 bx5 g5 A6 K6 O6 I5
        go_wp2_with fail
        refine q.mono ?_
        clear hv6
        rintro e w7 ⟨a7, c7, ids7, ss7, fr7, rfl, O7, A7, K7, I7, f7, l7, _⟩
        clear q k0 k1 k2 k3
        have g7 := HG.out w7 K7
        obtain ⟨m0, m1, m2, m3⟩ := two_cells g7
        obtain ⟨y1, y2⟩ := two_set g7 (.slice a7 ids7.length c7) (.int .i64 (m : Int))
        have s7 := K7.size
        have K8 : Keeps p S F wr ((w7.setCell ⟨w5.heap.size, 0, none⟩ (.slice a7 ids7.length c7)).setCell ⟨w5.heap.size, 1, none⟩ (.int .i64 (m : Int))) := keeps_new (keeps_new (HA.out.trans K7) (by show wr.heap.size ≤ w5.heap.size; omega) _) (by show wr.heap.size ≤ w5.heap.size; omega) _
        have A8 : Ar ((w7.setCell ⟨w5.heap.size, 0, none⟩ (.slice a7 ids7.length c7)).setCell ⟨w5.heap.size, 1, none⟩ (.int .i64 (m : Int))) p S F ss7 fr7 := A7.moved (y2 p (by omega)) (y2 S (by omega)) (y2 F (by omega))
        have O8 : Own ((w7.setCell ⟨w5.heap.size, 0, none⟩ (.slice a7 ids7.length c7)).setCell ⟨w5.heap.size, 1, none⟩ (.int .i64 (m : Int))) w4.heap.size (.slice a7 ids7.length c7) ids7 := (O7.base (by omega)).moved fun g h1 h2 ht => y2 g (by rintro rfl; have := ht _ _ _ g7; cases this)
        have e8 : Hid (w6.heap.size ≤ ((w7.setCell ⟨w5.heap.size, 0, none⟩ (.slice a7 ids7.length c7)).setCell ⟨w5.heap.size, 1, none⟩ (.int .i64 (m : Int))).heap.size) := by show _ ≤ _; simp [World.setCell]; exact s7
        obtain ⟨n0, n1, n2, n3⟩ := two_cells y1
        have HM : Hid _ := I7
        have Hf : Hid (fr.length ≤ fr7.length + 9) := by
          show _ ≤ _
          unfold need at f7
          split at f7 <;> omega
        have Hl : Hid (ss7.length = ss.length) := by
          have e : ∀ (ids : List Int) (ss : List Slot), (holdF ss ids).length = ss.length := by
            intro ids
            induction ids with
            | nil => intro ss; rfl
            | cons z r ih => intro ss; rw [holdF, ih]; unfold hold1; split <;> simp
          show _ = _
          rw [l7, e]
        clear I7 f7 l7 y1 y2 A7 O7 g7
        generalize hv8 : (w7.setCell ⟨w5.heap.size, 0, none⟩ (.slice a7 ids7.length c7)).setCell ⟨w5.heap.size, 1, none⟩ (.int .i64 (m : Int)) = w8 at *
        have C8 := H.out.row.keeps K8 (by omega) (by omega) (by omega)
        have hB8 : w4.heap.size ≤ w8.heap.size := by have := K8.size; omega
        go_wp2_with (at_builtin; refine wpList_pushC (W := w8) rfl _ _ rfl w4.heap.size j cv av xs ⟨a7, c7, ids7, zs ++ (T j).zs⟩ m HMm.out rfl C8 O8 hB8 rfl (by omega) ?_)
        intro g9 c9 w9 C9 mv9 b9
        clear hv8 m0 m1 m2 m3 K7
        have T9 : Sh w w9 p S F w3.heap.size w2.heap.size w4.heap.size zs a1 c1 ids1 T (j + 1) 0 (.slice (some ⟨g9, 0, none⟩) (j + 1) c9) (xs ++ [⟨a7, c7, ids7, zs ++ (T j).zs⟩]) ss7 fr7 := by
          have hwb := H.out.below.size
          have b8 : Below w.heap.size w w8 := H.out.below.trans (K8.below hwb (by omega) (by omega) (by omega))
          refine H.out.next (b8.trans (b9.mono (by omega))) ?_ (mv9 _ _ _ (H.out.o1.keeps K8 lp lS lF)) C9 (A8.moved (b9.block p (by omega)) (b9.block S (by omega)) (b9.block F (by omega))) (by simpa [Cn.ct] using HM.out) rfl (by omega) Hf.out Hl.out
          rw [b9.block _ (by omega), K8.block _ (by omega) (by omega) (by omega) (by omega)]
        have HT9 : Hid _ := T9
        have hz9 : Hid (w4.heap.size ≤ w9.heap.size) := by have := b9.size; show _ ≤ _; omega
        clear T9 C9 mv9 b9 C8 H A8 O8 K8 HA HG HM HN b6
        go_wp2
        go_roundw
        case rel => exact ⟨j + 1, _, c9, _, ss7, fr7, by omega, by go_num, by first | rfl | (congr 1), hz9.out, HT9.out⟩
        case measure => simp [intOf]; omega
    · obtain rfl : j = n := by omega
      clear hlt
      have hZ := HZ.out
      go_wp2_with fail
      go_loopw [75] (fun x wz => ∃ (i : Nat) (ss : List Slot) (fr : List Nat), i ≤ j ∧ x = .int .i64 (i : Int) ∧ Hid (w4.heap.size ≤ wz.heap.size) ∧ Hid (Sh w wz p S F w3.heap.size w2.heap.size w4.heap.size zs a1 c1 ids1 T j i (.slice av j cv) xs ss fr)) (fun x _ => j - (intOf x).toNat)
      case atStart => exact ⟨0, ss, fr, by omega, rfl, hZ, H.out⟩
      case round =>
        clear H HZ
        rename_i wr
        obtain ⟨i, ss, fr, hi, rfl, HZ, H⟩ := hrel
        by_cases hlt : i < j
        · have hnum := H.out.num
          obtain ⟨x, hx⟩ : ∃ x, xs[i]? = some x := ⟨xs[i]'(by omega), List.getElem?_eq_getElem _⟩
          obtain ⟨gr, eav, hgB, hgl, c0, c1', fz⟩ := H.out.row.get hx
          have HX := H.out.less (w' := w) hx
          obtain ⟨ht1, ht2⟩ := H.out.txt i x hx
          have hox := H.out.row.own x (List.mem_of_getElem? hx)
          obtain ⟨xa, xc, xi, xL⟩ := x
          simp only [Cn.val, Cn.ct] at *
          subst eav
          have hLl : xL.length ≤ 1000 := by rw [ht1, List.length_append]; omega
          have HTx : Hid (xL = zs ++ (T i).zs) := ht1
          have HXi : Hid (xs[i]? = some ⟨xa, xc, xi, xL⟩) := hx
          have HI : Hid _ := HX
          clear hnum ht1 HX hx
          have bx := below_box wr (.cells #[.slice xa xi.length xc, .int .i64 (xL.length : Int)] 35)
          have g15 := heap_alloc_new wr (.cells #[.slice xa xi.length xc, .int .i64 (xL.length : Int)] 35)
          have AA := H.out.ar.grow bx
          have OO := hox.grow bx
          have hb5 := H.out.below.trans (bx.mono H.out.below.size)
          have e5 : Hid ((wr.alloc (.cells #[.slice xa xi.length xc, .int .i64 (xL.length : Int)] 35)).heap.size = wr.heap.size + 1) := World.size_alloc _ _
          generalize hv5 : wr.alloc (.cells #[.slice xa xi.length xc, .int .i64 (xL.length : Int)] 35) = w5 at *
          obtain ⟨k0, k1, k2, k3⟩ := two_cells g15
          have q := read_ext AA xa xc xi xL (HI.out.lies (xi, xL) (by simp)) OO.use.2.1 (by omega) 0 xL.length (by omega)
          rw [part_zero, List.take_length] at q
          generalize hLm : xL.length = m at *
          have HLm : Hid (xL.length = m) := hLm
          clear hLm
          go_wp2_with fail
          refine q.mono ?_
          rintro e w6 ⟨g6, c6, rfl, R6, _, b6⟩
          clear q hv5
          have k0 := cell_below b6 k0
          have k1 := cell_below b6 k1
          have bb6 := hb5.trans (b6.mono hb5.size)
          obtain ⟨ad, ead, hcell, hsrc, hlc, hcc⟩ := hT.out i hlt
          subst ead
          have hcell := cell_below bb6 hcell
          have bw6 : Below wr.heap.size wr w6 := bx.trans (b6.mono (by have := e5.out; omega))
          have hsz := HZ.out
          have hwb := H.out.below.size
          have adlt : ad.block < w.heap.size := by
            obtain ⟨ad', e', hc', _⟩ := hT.out i hlt
            cases e'
            have := World.block_lt_of_cell? w _ hc'
            have e : (ad.add i).block = ad.block := by unfold Addr.add; split <;> rfl
            omega
          have HS : Hid (∀ W, Keeps p S F w6 W → W.cell? (ad.add i) = some (.slice (T i).a (T i).zs.length (T i).c) ∧ W.cell? ⟨wr.heap.size, 0, none⟩ = some (.slice xa xi.length xc) ∧ W.cell? ⟨wr.heap.size, 1, none⟩ = some (.int .i64 (m : Int)) ∧
              (convert 30 9 (.slice (some ⟨g6, 0, none⟩) m c6)).run Try.prog W = .ok (.string (strOf zs ++ strOf (T i).zs)) W ∧ (convert 30 9 (.slice a zs.length cap)).run Try.prog W = .ok (.string (strOf zs)) W ∧ (convert 30 9 (.slice (T i).a (T i).zs.length (T i).c)).run Try.prog W = .ok (.string (strOf (T i).zs)) W) := by
            intro W K
            have e : (ad.add i).block = ad.block := by unfold Addr.add; split <;> rfl
            have hR := R6.use.2
            refine ⟨cell_keeps K hcell (by omega) (by omega) (by omega), cell_keeps K k0 (by simp; omega) (by simp; omega) (by simp; omega), cell_keeps K k1 (by simp; omega) (by simp; omega) (by simp; omega), ?_, ?_, ?_⟩
            · rw [← strOf_append, ← HTx.out]
              refine conv_src W _ xL m c6 HLm.out (src_keeps hR K fun _ ad e => ?_)
              cases e
              have : w5.heap.size + 1 ≤ g6 := by
                rcases R6.2 with ⟨e1, _⟩ | ⟨g', cp, cur, e1, e2, _⟩
                · cases e1
                · simp at e1; omega
              have := e5.out
              exact ⟨by simp; omega, by simp; omega, by simp; omega⟩
            · exact conv_src W a zs zs.length cap rfl (src_keeps (hs.out.grow bb6) K fun h0 ad e => by subst e; have := hs.out.lt h0; exact ⟨by omega, by omega, by omega⟩)
            · exact conv_src W (T i).a (T i).zs (T i).zs.length (T i).c rfl (src_keeps (hsrc.grow bb6) K fun h0 ad e => by rw [e] at hsrc; have := hsrc.lt h0; exact ⟨by omega, by omega, by omega⟩)
          have q := fun W (K : Keeps p S F w6 W) (A : Ar W p S F ss fr) => drop_inv A HI.out (by rw [HLm.out]; omega) xa xc w4.heap.size ((hox.grow bw6).keeps K (by omega) (by omega) (by omega)) (by omega) (by omega) (by omega) (m : Int)
          replace q := q w6.drew (Keeps.refl p S F w6).drew (H.out.ar.grow bw6).drew
          have hs6 := HS.out w6.drew (Keeps.refl p S F w6).drew
          have z1 : (strOf zs).size = zs.length := strOf_size _
          have z2 : (strOf (T i).zs).size = (T i).zs.length := strOf_size _
          have z3 : (strOf zs).size + (strOf (T i).zs).size ≤ 9223372036854775807 := by omega
          have z4 : ((strOf zs).size : Int) + ((strOf (T i).zs).size : Int) ≤ 9223372036854775807 := by omega
          have z5 : ¬ 9223372036854775807 < (strOf zs).size + (strOf (T i).zs).size := by omega
          have z6 : ¬ (9223372036854775807 : Int) < ((strOf zs).size : Int) + ((strOf (T i).zs).size : Int) := by omega
          have z7 : ∀ W, (Op.stringOp .add (strOf zs) (strOf (T i).zs)).run Try.prog W = .ok (.string (strOf zs ++ strOf (T i).zs)) W := fun W => run_string_add_sum W _ _ z3
          clear z1 z2 z3 z4 z6
          generalize strOf zs = s1 at *
          generalize strOf (T i).zs = s2 at *
          have HB6 : Hid _ := bw6
          clear b6 bw6 R6 hsrc hlc hcc bx g15 AA OO hb5 k2 k3 fz c0 c1' hox k0 k1 hcell
          go_wp2_with fail
          go_region_held3 (fun W => W.cell? (ad.add i) = some (.slice (T i).a (T i).zs.length (T i).c) ∧ W.cell? ⟨wr.heap.size, 0, none⟩ = some (.slice xa xi.length xc) ∧ W.cell? ⟨wr.heap.size, 1, none⟩ = some (.int .i64 (m : Int)) ∧
              (convert 30 9 (.slice (some ⟨g6, 0, none⟩) m c6)).run Try.prog W = .ok (.string (s1 ++ s2)) W ∧ (convert 30 9 (.slice a zs.length cap)).run Try.prog W = .ok (.string s1) W ∧ (convert 30 9 (.slice (T i).a (T i).zs.length (T i).c)).run Try.prog W = .ok (.string s2) W) (first | assumption | exact hs6 | go_keep) ((go_at_call 15; refine q.mono ?_; rintro e w7 ⟨ss7, fr7, rfl, A7, K7, I7, l7, _⟩; have hs7 := HS.out w7 ((Keeps.refl p S F w6).drew.trans K7)))
          have K9 : Keeps p S F wr w7 := (Keeps.ofBelow (p := p) (S := S) (F := F) HB6.out).drew.trans K7
          have T9 : Sh w w7 p S F w3.heap.size w2.heap.size w4.heap.size zs a1 c1 ids1 T j (i + 1) (.slice (some ⟨gr, 0, none⟩) j cv) xs ss7 fr7 := by
            refine ⟨H.out.below.trans (K9.below hwb (by omega) (by omega) (by omega)), ?_, H.out.o1.keeps K9 lp lS lF, H.out.row.keeps K9 (by omega) (by omega) (by omega), A7, I7, H.out.txt, fun h => by omega, by rw [l7]; exact H.out.len, H.out.num⟩
            rw [K9.block _ (by omega) (by omega) (by omega) (by omega)]
            exact H.out.one
          have HT9 : Hid _ := T9
          have s9 : Hid (w4.heap.size ≤ w7.heap.size) := by have := K9.size; show _ ≤ _; omega
          clear T9 K9 K7 A7 I7 q hs6 hs7 HS H HI
          go_wp2
          go_roundw
          case rel => exact ⟨i + 1, ss7, fr7, by omega, by go_num, s9.out, HT9.out⟩
          case measure => simp [intOf]; omega
        · obtain rfl : i = j := by omega
          have hnum := H.out.num
          have I0 := H.out.inv
          rw [List.drop_of_length_le (by omega)] at I0
          simp only [List.map_nil] at I0
          obtain ⟨k0, k1, k2, k3⟩ := two_cells H.out.one
          have q := read_ext H.out.ar a1 c1 ids1 zs (I0.lies (ids1, zs) (by simp)) H.out.o1.use.2.1 (by omega) 0 zs.length (by omega)
          rw [part_zero, List.take_length] at q
          have HI : Hid _ := I0
          clear I0 hnum hlt
          go_wp2_with fail
          refine q.mono ?_
          rintro e w6 ⟨g6, c6, rfl, R6, _, b6⟩
          clear q
          have k0 := cell_below b6 k0
          have k1 := cell_below b6 k1
          have bb6 := H.out.below.trans (b6.mono H.out.below.size)
          have v1 := conv_src w6 _ zs zs.length c6 rfl R6.use.2
          have v2 := conv_src w6 a zs zs.length cap rfl (hs.out.grow bb6)
          have q := drop_inv (H.out.ar.grow b6) HI.out (by omega) a1 c1 w2.heap.size (H.out.o1.grow b6) lp lS lF (zs.length : Int)
          generalize strOf zs = s1 at *
          clear R6 k2 k3
          have hb := H.out.below.size
          go_wp2_with fail
          refine q.mono ?_
          rintro e w7 ⟨ss7, fr7, rfl, A7, K7, I7, l7, _⟩
          have hfr := I7.empty
          rw [l7, H.out.len] at hfr
          have q2 := free_w A7
          rw [hfr] at q2
          have bb7 := bb6.trans (K7.below bb6.size (by omega) (by omega) (by omega))
          clear q k0 k1 v1 v2 A7 K7 I7 l7 hfr H HI b6
          go_wp2_with fail
          refine q2.mono ?_
          rintro e w' ⟨rfl, rfl⟩
          go_wp2
          go_ret
          exact ⟨by simp, bb7⟩

theorem walk_no (a at_ : Option Addr) (l cap lk capk : Nat) (w : World) (h1 : l ≤ 9223372036854775807) (h2 : lk ≤ 9223372036854775807) (h : 500 < l ∨ 10 < lk) :
    Calls Try.prog 7 #[.slice a l cap, .slice at_ lk capk] w fun e w' => e = .returned (.bool true) ∧ Below w.heap.size w w' := by
  by_cases c : (500 : Int) < (l : Int)
  · go_enter Try.func7, Try.ntmps7
    go_wp2_with (go_at_call 9; refine (keeps_ok _).mono ?_; rintro e w1 ⟨rfl, hb1⟩)
    go_ret
    exact ⟨rfl, hb1⟩
  · have c2 : (10 : Int) < (lk : Int) := by omega
    go_enter Try.func7, Try.ntmps7
    go_wp2_with (go_at_call 9; refine (keeps_ok _).mono ?_; rintro e w1 ⟨rfl, hb1⟩)
    go_ret
    exact ⟨rfl, hb1⟩

/-- the second argument: rows of bytes -/
def IsTab (w : World) (a : Option Addr) (n cap : Nat) (A : Nat → Option Addr) (L C : Nat → Nat) (Z : Nat → List Int) : Prop :=
  (a = none ∧ n = 0 ∧ cap = 0) ∨ ∃ x, a = some x ∧ n ≤ cap ∧ cap ≤ maxLen ∧ ∀ r, r < cap → w.cell? (x.add r) = some (.slice (A r) (L r) (C r)) ∧ IsRow .u8 w (A r) (L r) (C r) (Z r)

theorem walk (a : Option Addr) (l cap : Nat) (zs : List Int) (at_ : Option Addr) (lk capk : Nat) (A : Nat → Option Addr) (L C : Nat → Nat) (Z : Nat → List Int) (w : World) (hr : IsRow .u8 w a l cap zs) (hk : IsTab w at_ lk capk A L C Z) :
    Calls Try.prog 7 #[.slice a l cap, .slice at_ lk capk] w fun e w' => e = .returned (.bool true) ∧ Below w.heap.size w w' := by
  obtain ⟨hs, hl, hcap, hmax⟩ := row_src hr
  have hlk : lk ≤ 9223372036854775807 := by
    rcases hk with ⟨_, rfl, _⟩ | ⟨x, _, h1, h2, _⟩
    · omega
    · unfold maxLen at h2; omega
  by_cases c : 500 < l ∨ 10 < lk
  · exact walk_no a at_ l cap lk capk w (by omega) hlk c
  · have := walk_yes a cap (zs.take l) at_ lk capk (fun r => ⟨A r, C r, (Z r).take (L r)⟩) w (by omega) (by omega) (by omega) hmax hs (by
      intro r hr
      rcases hk with ⟨_, rfl, _⟩ | ⟨x, rfl, h1, h2, h3⟩
      · omega
      · obtain ⟨e1, e2⟩ := h3 r (by omega)
        obtain ⟨f1, f2, f3, f4⟩ := row_src e2
        exact ⟨x, rfl, by simp only; rw [f2]; exact e1, f1, by simp only; omega, f4⟩)
    rw [hl] at this
    exact this

theorem own : ownKnob Try.prog.godebug = none := by kernel_rfl
theorem laidOut : laidOutB Try.prog = true := by kernel_rfl
set_option maxRecDepth 100000 in
theorem lifted (os : Os) (started : os.Started) (H : Type) (enc : TypeId × Value → H) :
    ReturnsInHanded {} Try.checked os 7 .any (Rows.extentSharedSpec.pre6 enc Try.prog Try.f7 Rows.extentSharedRow.domain false) (Rows.extentSharedSpec.post enc Try.prog Try.f7 false true false false) := by
  refine returnsInHanded_of_change (C := Try.checked) own started (by kernel_rfl) Try.func7
    (ChangeSpec.witness6 (enc := enc) (C := Try.checked) false ⟨#[], #[.slice none 0 0, .slice none 0 0], []⟩ 8 (by kernel_rfl) (by kernel_rfl) (by kernel_rfl) (by kernel_rfl)) ?_
  intro W base args ds gs before hval0 hW hcnd _
  have hval : ∀ (j : Nat) t v, Try.f7.params[j]? = some t → args[j]? = some v → Value.okWide Try.prog W .any base t v := hval0
  have hW' := hW
  obtain ⟨p, q, hA0, hV, rfl, hfz, hnd⟩ := hW
  have hA : DataW.TrodAll enc Try.prog W 0 (fun _ => true) true Try.f7.params.toList args.toList ds p := hA0
  rw [Try.params7] at hA hval
  obtain ⟨v0, vs0, d0, ds0, p0, q0, hargs, rfl, rfl, h0, r0⟩ := trodAll_cons hA
  obtain ⟨v1, vs1, d1, ds1, p1, q1, rfl, rfl, rfl, h1, r1⟩ := trodAll_cons r0
  obtain ⟨rfl, rfl, rfl⟩ := trodAll_nil r1
  obtain rfl : args = #[v0, v1] := by cases args; simp_all
  obtain ⟨rfl, rfl⟩ := trodVars_none hV
  obtain ⟨a0, len0, cap0, rfl⟩ := okWide_slice Try.underlying30 (hval 0 30 v0 rfl rfl)
  have k0 := h0
  have lt0 : ∀ x ∈ p0, x.block < W.heap.size := by obtain ⟨m, hm⟩ := k0; exact DataW.trod_lt m _ _ _ hm
  obtain ⟨z0, w0⟩ : ∃ zs, IsRow .u8 W a0 len0 cap0 zs := by
    obtain ⟨fuel, hf⟩ := h0
    rcases open_ints Try.underlying30 Try.underlying5 (by kernel_rfl) hf with ⟨hcs, _⟩ | ⟨x, l, c, zs, hcs, _, hl, hm, hz, _, hcell, hwz⟩
    · simp [Value.cells] at hcs
      obtain ⟨rfl, rfl, rfl⟩ := hcs
      exact ⟨[], .inl ⟨rfl, rfl, rfl, rfl⟩⟩
    · simp [Value.cells] at hcs
      obtain ⟨rfl, rfl, rfl⟩ := hcs
      exact ⟨zs, .inr ⟨_, rfl, hl, hm, by simpa using hz, hcell, hwz⟩⟩
  obtain ⟨a1, len1, cap1, rfl⟩ := okWide_slice Try.underlying48 (hval 1 48 v1 rfl rfl)
  have k1 := h1
  have lt1 : ∀ x ∈ p1, x.block < W.heap.size := by obtain ⟨m, hm⟩ := k1; exact DataW.trod_lt m _ _ _ hm
  obtain ⟨A1, L1, C1, Z1, w1⟩ : ∃ A L C Z, IsTab W a1 len1 cap1 A L C Z := by
    obtain ⟨fuel, hf⟩ := h1
    rcases Go.Deep.open_int_rows Try.underlying48 Try.underlying30 Try.underlying5 (by kernel_rfl) (by kernel_rfl) hf with ⟨hcs, _⟩ | ⟨x, l, c, A, L, C, Z, hcs, _, hl, hm, _, hz⟩
    · simp [Value.cells] at hcs
      obtain ⟨rfl, rfl, rfl⟩ := hcs
      exact ⟨fun _ => none, fun _ => 0, fun _ => 0, fun _ => [], .inl ⟨rfl, rfl, rfl⟩⟩
    · simp [Value.cells] at hcs
      obtain ⟨rfl, rfl, rfl⟩ := hcs
      refine ⟨A, L, C, Z, .inr ⟨_, rfl, hl, hm, fun r hr => ?_⟩⟩
      obtain ⟨z1, z2, z3, z4, z5, z6, z7⟩ := hz r hr
      refine ⟨z1, ?_⟩
      cases hA : A r with
      | none => exact .inl ⟨rfl, by have := z6 hA; omega, z6 hA, List.eq_nil_of_length_eq_zero (by rw [z4]; exact z6 hA)⟩
      | some a' => exact .inr ⟨a', rfl, z2, z3, z4, fun q hq => (z7 a' hA).2 q (by omega), z5⟩
  clear hA0 hval0
  refine (walk a0 len0 cap0 z0 a1 len1 cap1 A1 L1 C1 Z1 W w0 w1).mono fun e W' ⟨he, bel⟩ => ?_
  subst he
  exact ⟨_, rfl, _, _, _, [], _, [], hW', trodAll_mk1 (shut_bool Try.underlying4 _), (trodAll_cons_mk (Below.trod laidOut (by kernel_rfl) (of_decide_eq_true (by kernel_rfl)) k0 bel lt0) (trodAll_cons_mk (Below.trod laidOut (by kernel_rfl) (of_decide_eq_true (by kernel_rfl)) k1 bel lt1) trodAll_mk0)), rfl, bel.frame _, fun h => by cases h⟩

theorem over : Rows.extentSharedRow.holds Try.pinned (OpenSpec.ofChange Rows.extentSharedSpec) :=
  OpenClaim.holds_of_wide 7 Try.f7 rfl rfl rfl rfl rfl rfl rfl ⟨rfl, rfl, rfl, rfl, rfl⟩ rfl rfl rfl rfl rfl (by kernel_rfl) Try.func7 (by kernel_rfl)
    (of_decide_eq_true (by kernel_rfl)) (by unfold Func.isWrapper; first | (rw [if_pos (by decide +kernel)]; kernel_rfl) | (rw [if_neg (by decide +kernel)]; exact ⟨rfl, rfl⟩))
    (fun os started H enc _ => lifted os started H enc)

end Go.Proofs.Ytpjfhfbjdcgbjab.extentShared
namespace Go.Proofs.Ytpjfhfbjdcgbjab
theorem extentShared_holds : Rows.ExtentSharedSaid := extentShared.over
#print axioms extentShared_holds
end Go.Proofs.Ytpjfhfbjdcgbjab
