/-
  The walk of OctalBlank where all is within the bounds.
-/
import Derived.Test.YtamdonhmholjpabReads
import Derived.Test.YtamdonhmholjpabBlank0
import Derived.Test.YtamdonhmholjpabRef
import Derived.WalkSpells
namespace Go.Proofs.Ytamdonhmholjpab.octalBlank
open Go.RowKit
open Go.Proofs.Ytamdonhmholjpab.octalBinary (cellsOf own_snoc own_bytes info5c)

theorem own_below {w w2 : World} {b : Nat} {v : Value} {n : Nat} {xs : List Value} (h : w.ownsRow b 5 1 v n xs) (hb : Below w.heap.size w w2) : w2.ownsRow b 5 1 v n xs := by
  refine ⟨h.1, ?_⟩
  rcases h.2 with hn | ⟨g, cap, cur, rfl, hbg, hg, rest⟩
  · exact .inl hn
  · have hlt : g < w.heap.size := (Array.getElem?_eq_some_iff.1 hg).1
    exact .inr ⟨g, cap, cur, rfl, hbg, (hb.block g hlt).trans hg, rest⟩

theorem own_form {w : World} {b : Nat} {v : Value} {n : Nat} {xs : List Value} (h : w.ownsRow b 5 1 v n xs) (hn : 0 < n) : ∃ g cap, v = .slice (some ⟨g, 0, none⟩) n cap ∧ b ≤ g ∧ n ≤ cap ∧ cap ≤ maxLen := by
  rcases h.2 with ⟨_, h0⟩ | ⟨g, cap, cur, hv, hb, _, h1, h2, _⟩
  · omega
  · exact ⟨g, cap, hv, hb, h1, h2⟩

theorem fld_snoc (p : Nat) (n : Int) (q : Nat) : fld p n q ++ [(q : Int) % 2 * 32] = fld p n (q + 1) := by
  rw [fld, List.append_assoc, tl_snoc]; rfl

theorem ones (zs : List Int) : ∀ u ∈ cellsOf zs, u.oneCell' = true := by
  intro u hu
  simp only [cellsOf, List.mem_map] at hu
  obtain ⟨z, _, rfl⟩ := hu
  rfl

theorem two_new (w : World) (x y : Value) : ∀ (j : Nat) (u : Value), [x, y][j]? = some u → (w.alloc (.cells #[x, y] 5)).cell? ((⟨w.heap.size, 0, none⟩ : Addr).add j) = some u := by
  intro j u hu
  match j, hu with
  | 0, hu => simpa [Addr.add] using hu
  | 1, hu => simpa [Addr.add] using hu
  | j + 2, hu => simp at hu

theorem bcell {W w1 : World} (hb : Below W.heap.size W w1) : (∀ b o, b < W.heap.size → w1.cell? ⟨b, o, none⟩ = W.cell? ⟨b, o, none⟩) ∧ (∀ b o, b < W.heap.size → w1.frozen? ⟨b, o, none⟩ = W.frozen? ⟨b, o, none⟩) :=
  ⟨fun b o h => hb.cell (p := ⟨b, o, none⟩) h, fun b o h => hb.frozen (p := ⟨b, o, none⟩) h⟩

theorem below_grown0 {B : Nat} {w0 w w' : World} {v : Value} {n : Nat} {xs : List Value} (hB : B ≤ w.heap.size) (hown : w.ownsRow B 5 1 v n xs) (hb : Below B w0 w) (hg : w.grownBy w' v.ownBlock) : Below B w0 w' :=
  hb.grown hg hB fun k hk => (hown.lt k hk).1

theorem below_grown {B : Nat} {w0 w w' : World} {o : Obj} {v : Value} {n : Nat} {xs : List Value} (hB : B ≤ w.heap.size) (hown : w.ownsRow B 5 1 v n xs) (hb : Below B w0 w) (hg : (w.alloc o).grownBy w' v.ownBlock) : Below B w0 w' :=
  (hb.alloc hB _).grown hg (by simp; omega) fun k hk => (hown.lt k hk).1

set_option maxRecDepth 100000 in
set_option maxHeartbeats 4000000 in
theorem walk_in (n odd : Int) (p q : Nat) (w : World) (h0 : 0 ≤ n) (h1 : n ≤ 9223372036854775807) (hp : p ≤ 30) (hq : q ≤ 30) (o0 : 0 ≤ odd) (o1 : odd ≤ 255) :
    Calls Try.prog 6 #[.int .i64 n, .agg #[.int .i64 p, .int .i64 q], .int .u8 odd] w fun e w' => e = .returned (.bool true) ∧ Below w.heap.size w w' := by
  obtain ⟨i0, hi, hz0, hz1, hz2⟩ := info_parts info5c
  have h21 := odig_le22 n h0 h1
  go_enter Try.func6, Try.ntmps6
  go_wp2_with (go_at_call 9; refine (reads_any _).mono ?_; rintro e w1 ⟨rfl, hb1⟩; obtain ⟨hcl, hfr⟩ := bcell hb1)
  have hsz : w.heap.size + 1 ≤ w1.heap.size := by have := hb1.size; simp at this; omega
  have hq1 : w1.cell? ⟨w.heap.size, 1, none⟩ = some (.int .i64 q) := by rw [hcl _ _ (by simp)]; simp
  clear hcl hfr
  go_loopw [7, 39] (fun v i wr => ∃ k : Nat, k ≤ p ∧ i = .int .i64 k ∧ wr.ownsRow (w.heap.size + 1) 5 1 v k (cellsOf (List.replicate k 32)) ∧ Below (w.heap.size + 1) w1 wr)
    (fun _ i _ => p - (intOf i).toNat)
  case atStart => exact ⟨0, Nat.zero_le _, rfl, World.ownsRow_nil _ _ _ _, Below.refl _ _⟩
  case round =>
    obtain ⟨k, hk, rfl, hown, hb⟩ := hrel
    have hwr : w.heap.size + 1 ≤ wr.heap.size := Nat.le_trans hsz hb.size
    by_cases c : k < p
    · go_wp2_with (at_builtin; refine wpList_append_own _ rfl _ _ 22 rfl (w.heap.size + 1) 5 i0 (.int .u8 0) 1 1 Try.underlying22 hi hz0 hz1 hz2 rfl (by decide) _ _ _ rfl (hown.alloc _) ⟨wr.heap.size, 0, none⟩ 1 1 [.int .u8 32] rfl rfl ?c1 ?c2 ?c3 ?c4 ?c5 ?_)
      case c1 => exact cell_one_new _ _ _
      case c2 => intro u hu; simp at hu; subst hu; rfl
      case c3 => unfold maxLen; omega
      case c4 => omega
      case c5 => simp; omega
      · intro v' w2 hown' hgrow hh
        have hB := below_grown hwr hown hb hgrow
        have hO := own_snoc hown'
        rw [← List.replicate_succ'] at hO
        clear hown' hgrow hown hb hh hwr
        go_wp2
        go_roundw
        case rel => exact ⟨k + 1, by omega, by go_num, hO, hB⟩
        case measure => simp [intOf]; omega
    · obtain rfl : k = p := by omega
      go_wp2_with fail
      refine (octal_any n _ h0 h1).mono ?_
      rintro e w2 ⟨rfl, hb2⟩
      have hs2 : (strOf (octs n (odig n.toNat))).size = odig n.toNat := by rw [strOf_size, octs_length]
      have hown2 := own_below hown hb2
      have hB2 : Below (w.heap.size + 1) w1 w2 := hb.trans (hb2.mono hwr)
      have hw2 : w.heap.size + 1 ≤ w2.heap.size := Nat.le_trans hwr hb2.size
      clear hown hb hb2 hwr
      go_wp2_with (at_builtin; refine Lib.wpList_append_own_string _ rfl _ _ 22 9 rfl (w.heap.size + 1) 5 i0 Try.underlying22 Try.underlying9 hi hz0 hz1 hz2 _ _ _ rfl hown2 (strOf (octs n (odig n.toNat))) rfl ?e1 ?e2 ?e3 ?_)
      case e1 => rw [hs2]; unfold maxLen; omega
      case e2 => rw [hs2]; omega
      case e3 => exact hw2
      intro v3 w3 hown3 hg3 hh3
      rw [strCells_octs] at hown3
      have hO3 : w3.ownsRow (w.heap.size + 1) 5 1 v3 (k + odig n.toNat) (cellsOf (List.replicate k 32 ++ octs n (odig n.toNat))) := by simpa [cellsOf] using hown3
      have hB3 := below_grown0 hw2 hown2 hB2 hg3
      have hw3 : w.heap.size + 1 ≤ w3.heap.size := Nat.le_trans hsz hB3.size
      have hq3 : w3.cell? ⟨w.heap.size, 1, none⟩ = some (.int .i64 q) := by rw [hB3.cell (p := ⟨w.heap.size, 1, none⟩) (by simp)]; exact hq1
      clear hown3 hg3 hh3 hown2 hB2 hw2 hs2
      go_wp2_with fail
      go_loopw [7, 51] (fun v i wr => ∃ j : Nat, j ≤ q ∧ i = .int .i64 j ∧ wr.ownsRow (w.heap.size + 1) 5 1 v (k + odig n.toNat + j) (cellsOf (fld k n j)) ∧ Below (w.heap.size + 1) w1 wr)
        (fun _ i _ => q - (intOf i).toNat)
      case atStart => exact ⟨0, Nat.zero_le _, rfl, by rw [show fld k n 0 = List.replicate k 32 ++ octs n (odig n.toNat) by simp [fld, tl]]; exact hO3, hB3⟩
      case round =>
        clear hO3 hB3 hw3 hq3
        obtain ⟨j, hj, rfl, hown, hb⟩ := hrel
        have hwr : w.heap.size + 1 ≤ wr.heap.size := Nat.le_trans hsz hb.size
        by_cases c2 : j < q
        · go_wp2_with (at_builtin; refine wpList_append_own _ rfl _ _ 22 rfl (w.heap.size + 1) 5 i0 (.int .u8 0) 1 1 Try.underlying22 hi hz0 hz1 hz2 rfl (by decide) _ _ _ rfl (hown.alloc _) ⟨wr.heap.size, 0, none⟩ 1 1 [.int .u8 ((j : Int) % 2 * 32)] rfl rfl ?d1 ?d2 ?d3 ?d4 ?d5 ?_)
          case d1 => exact cell_one_new _ _ _
          case d2 => intro u hu; simp at hu; subst hu; rfl
          case d3 => unfold maxLen; omega
          case d4 => omega
          case d5 => simp; omega
          · intro v' w2 hown' hgrow hh
            have hB := below_grown hwr hown hb hgrow
            have hO := own_snoc hown'
            rw [fld_snoc] at hO
            clear hown' hgrow hown hb hh hwr
            go_wp2
            go_roundw
            case rel => exact ⟨j + 1, by omega, by go_num, hO, hB⟩
            case measure => simp [intOf]; omega
        · obtain rfl : j = q := by omega
          obtain ⟨g, cap, hv, hg, hcap, hmax⟩ := own_form hown (by have := odig_pos n.toNat; omega)
          rw [hv] at hown ⊢
          unfold maxLen at hmax
          have hlen := fld_length k n j
          have hBy := own_bytes hown hlen (by omega) (fld_bytes k n j)
          have p1 := parse_w (some ⟨g, 0, none⟩) cap _ wr (by omega) (by omega) hBy
          rw [hlen, parse_fld0 k n j h0 h1] at p1
          have q1 : Hid (∀ W, W = wr → Calls Try.prog 10 #[.slice (some ⟨g, 0, none⟩) (k + odig n.toNat + j) cap] W fun e w' => e = .returned (.tuple #[.int .i64 n, .int .i64 0]) ∧ W = w') := fun W h => h ▸ p1
          clear p1 hv
          go_wp2_with fail
          refine (q1.out _ rfl).mono ?_
          rintro e w2 ⟨rfl, rfl⟩
          clear q1
          have hlit := World.ownsRow_lit (base := w.heap.size + 1) (e := 5) (size := 1) wr #[] 0 hwr (by decide) rfl
          go_wp2_with (at_builtin; refine wpList_append_own _ rfl (.tmp 68) (.tmp 69) 22 rfl (w.heap.size + 1) 5 i0 (.int .u8 0) 1 1 Try.underlying22 hi hz0 hz1 hz2 rfl (by decide) _ 0 _ rfl hlit ⟨g, 0, none⟩ (k + odig n.toNat + j) cap (cellsOf (fld k n j)) rfl ?f0 ?f1 ?f2 ?f3 ?f4 ?f5 ?_)
          case f0 => rw [cellsOf, List.length_map, hlen, Nat.mul_one]
          case f1 => exact (hown.alloc _).cells (g := g) rfl
          case f2 => exact ones _
          case f3 => unfold maxLen; omega
          case f4 => omega
          case f5 => simp; omega
          intro v4 w4 hown4 hg4 hh4
          have hO4 : w4.ownsRow (w.heap.size + 1) 5 1 v4 (k + odig n.toNat + j) (cellsOf (fld k n j)) := by simpa using hown4
          have hB4 : Below (w.heap.size + 1) w1 w4 := below_grown0 (by simp; omega) hlit (hb.alloc hwr _) hg4
          have hw4 : w.heap.size + 1 ≤ w4.heap.size := Nat.le_trans hsz hB4.size
          clear hown4 hg4 hh4 hlit hown hb hwr hBy
          go_wp2_with (at_builtin; refine wpList_append_own _ rfl (.tmp 70) (.tmp 72) 22 rfl (w.heap.size + 1) 5 i0 (.int .u8 0) 1 1 Try.underlying22 hi hz0 hz1 hz2 rfl (by decide) _ _ _ rfl (hO4.alloc _) ⟨w4.heap.size, 0, none⟩ 2 2 [.int .u8 32, .int .u8 odd] rfl rfl ?g1 ?g2 ?g3 ?g4 ?g5 ?_)
          case g1 => exact two_new _ _ _
          case g2 => exact ones [32, odd]
          case g3 => unfold maxLen; omega
          case g4 => omega
          case g5 => simp; omega
          intro v5 w5 hown5 hg5 hh5
          have hO5 : w5.ownsRow (w.heap.size + 1) 5 1 v5 (k + odig n.toNat + j + 2) (cellsOf (fld k n j ++ [32, odd])) := by simpa [cellsOf] using hown5
          have hB5 := below_grown hw4 hO4 hB4 hg5
          obtain ⟨g5, cap5, hv5, hg5', hcap5, hmax5⟩ := own_form hO5 (by omega)
          rw [hv5] at hO5 ⊢
          unfold maxLen at hmax5
          have hlen5 : (fld k n j ++ [32, odd]).length = k + odig n.toNat + j + 2 := by simp [hlen]
          have hBy5 := own_bytes hO5 hlen5 (by omega) (fun z hz => by rcases List.mem_append.1 hz with h | h; exact fld_bytes k n j z h; simp at h; omega)
          have p5 := parse_w (some ⟨g5, 0, none⟩) cap5 _ w5 (by omega) (by omega) hBy5
          rw [hlen5, parse_fld2 k n j odd h0 h1] at p5
          have q5 : Hid (∀ W, W = w5 → Calls Try.prog 10 #[.slice (some ⟨g5, 0, none⟩) (k + odig n.toNat + j + 2) cap5] W fun e w' => e = .returned (.tuple #[.int .i64 (resN (if odd = 0 ∨ odd = 32 then some n else none)), .int .i64 (resE (if odd = 0 ∨ odd = 32 then some n else none))]) ∧ W = w') := fun W h => h ▸ p5
          clear p5 hBy5 hO5 hv5 hown5 hg5 hh5 hO4 hB4
          go_wp2_with fail
          refine (q5.out _ rfl).mono ?_
          rintro e w6 ⟨rfl, rfl⟩
          clear q5
          have hfin : Below w.heap.size w w5 := ((Below.refl _ _).alloc (Nat.le_refl _) _).trans ((hb1.mono (by simp)).trans (hB5.mono (by omega)))
          clear hB5 hb1
          by_cases d1 : odd = 0
          · subst d1
            have r1 : resE (if (0 : Int) = 0 ∨ (0 : Int) = 32 then some n else none) = 0 := rfl
            go_wp2
            go_ret
            exact ⟨by first | (simp; done) | (simp [resE]; done) | (simp [resE, d1, d2]; done), hfin⟩
          · by_cases d2 : odd = 32
            · subst d2
              have r1 : resE (if (32 : Int) = 0 ∨ (32 : Int) = 32 then some n else none) = 0 := rfl
              go_wp2
              go_ret
              exact ⟨by first | (simp; done) | (simp [resE]; done) | (simp [resE, d1, d2]; done), hfin⟩
            · have r1 : resE (if odd = 0 ∨ odd = 32 then some n else none) = 20 := by rw [if_neg (by omega)]; rfl
              have d3 : (odd == 0) = false := by simpa using d1
              have d4 : (odd == 32) = false := by simpa using d2
              go_wp2
              go_ret
              exact ⟨by first | (simp; done) | (simp [resE]; done) | (simp [resE, d1, d2]; done), hfin⟩

end Go.Proofs.Ytamdonhmholjpab.octalBlank
