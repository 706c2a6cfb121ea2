/-
  The laws' walks: AskReads, over the contract of the document's Decode.
-/
import Derived.Test.YtojbfdlgjjghjaaDoorKKx
namespace Go.Proofs.YtojbfdlgjjghjaaDoor.K
open Go.RowKit
open Go.Lib hiding intOf
set_option linter.unusedVariables false
set_option linter.unusedSimpArgs false

/-- what the document's Decode answers -/
def RefOk (e : Ending) (o : Sum Int (Ak × List UInt8)) : Prop :=
  match o with
  | .inl x => e = .returned (.tuple #[.agg #[.int .i64 0, .int .i64 0, .int .i64 0, .int .i64 0, .string ⟨#[]⟩, .string ⟨#[]⟩], .int .i64 x])
  | .inr (a, bs) => e = .returned (.tuple #[.agg #[.int .i64 a.k, .int .i64 a.t, .int .i64 a.n, .int .i64 a.c, .string a.p, .string ⟨bs.toArray⟩], .int .i64 0])

theorem cell_of_row {w : World} {g : Nat} {C : Array Value} {t : TypeId} (h : w.heap[g]? = some (.cells C t (0, 0))) (i : Nat) : w.cell? ⟨g, i, none⟩ = C[i]? := by simp [World.cell?, h]

set_option maxRecDepth 20000 in
set_option maxHeartbeats 4000000 in
theorem reads_in (s : ByteArray) (z : s.size ≤ 20000) (hr : ∀ W, Calls Tryd.prog 11 #[.string s] W fun e w' => RefOk e (decP s) ∧ Below W.heap.size W w') (w : World) (ht : Vs w) :
    Calls Tryd.prog 3 #[.string s] w fun e w' => e = .returned (.bool true) ∧ Below w.heap.size w w' := by
  have q0 := asks_w w ht
  have HX1 : Hid (∀ W, Below w.heap.size w W → Calls Tryd.prog 10 #[.string s] W fun e w' => DecOk W w' e (decP s) ∧ Below W.heap.size W w') := fun W b => decode_w s (by omega) W (ht.below b)
  have HX2 := hid hr
  clear ht hr
  cases hdec : decP s with
  | inl x =>
    rw [hdec] at HX1 HX2
    simp only [DecOk, RefOk, Ak.cells, Ak.zero] at HX1 HX2
    clear hdec
    go_enter Tryd.func3, Tryd.ntmps3
    go_upto_region 6 with (first
      | (go_at_call 9; refine q0.mono ?_; rintro e w1 ⟨rfl, b1'⟩)
      | (go_at_call 10; refine (HX1.out _ b1').mono ?_; rintro e w2 ⟨rfl, b2'⟩))
    have c12 := b1'.trans (b2'.mono b1'.size)
    have c13 := c12.alloc c12.size (.cells #[.int .i64 0, .int .i64 0, .int .i64 0, .int .i64 0, .string ⟨#[]⟩, .slice none 0 0] 25)
    have x1 : Box (w2.alloc (.cells #[.int .i64 0, .int .i64 0, .int .i64 0, .int .i64 0, .string ⟨#[]⟩, .slice none 0 0] 25)) w2.heap.size #[.int .i64 0, .int .i64 0, .int .i64 0, .int .i64 0, .string ⟨#[]⟩, .slice none 0 0] := heap_alloc_new w2 _
    clear q0 HX1 b1' b2' c12
    generalize w2.heap.size = g1 at *
    generalize World.alloc _ _ = W3 at *
    have hg1 := x1.lt
    have X1 := hid x1
    clear x1
    go_upto_region 7 with (go_at_call 11; refine (HX2.out _).mono ?_; rintro e w4 ⟨rfl, b4'⟩)
    have c14 := c13.trans (b4'.mono c13.size)
    have c15 := c14.alloc c14.size (.cells #[.int .i64 0, .int .i64 0, .int .i64 0, .int .i64 0, .string ⟨#[]⟩, .string ⟨#[]⟩] 30)
    have bb : Below W3.heap.size W3 (w4.alloc (.cells #[.int .i64 0, .int .i64 0, .int .i64 0, .int .i64 0, .string ⟨#[]⟩, .string ⟨#[]⟩] 30)) := b4'.alloc b4'.size _
    have x1 := X1.out.below bb hg1
    have x2 : (w4.alloc (.cells #[.int .i64 0, .int .i64 0, .int .i64 0, .int .i64 0, .string ⟨#[]⟩, .string ⟨#[]⟩] 30)).heap[w4.heap.size]? = some (.cells #[.int .i64 0, .int .i64 0, .int .i64 0, .int .i64 0, .string ⟨#[]⟩, .string ⟨#[]⟩] 30 (0, 0)) := heap_alloc_new w4 _
    clear HX2 b4' c14 X1 bb c13
    generalize w4.heap.size = g2 at *
    generalize World.alloc _ _ = W5 at *
    have y1 := x1.cell
    have y2 := cell_of_row x2
    have hcv1 := (DatAt.bytes (w := W5) (.inl ⟨rfl, rfl⟩)).str
    have HB5 := hid c15
    clear x1 x2 c15 hg1
    go_wp2
    go_ret
    exact ⟨by first | rfl | simp, HB5.out⟩
  | inr p =>
    obtain ⟨a, bs⟩ := p
    rw [hdec] at HX1 HX2
    simp only [DecOk, RefOk, Ak.cells, Ak.zero] at HX1 HX2
    clear hdec
    go_enter Tryd.func3, Tryd.ntmps3
    go_upto_region 6 with (first
      | (go_at_call 9; refine q0.mono ?_; rintro e w1 ⟨rfl, b1'⟩)
      | (go_at_call 10; refine (HX1.out _ b1').mono ?_; rintro e w2 ⟨⟨d1, rfl, hd1⟩, b2'⟩; obtain ⟨ad1, n1, rfl⟩ := hd1.shape))
    have c12 := b1'.trans (b2'.mono b1'.size)
    have c13 := c12.alloc c12.size (.cells #[.int .i64 a.k, .int .i64 a.t, .int .i64 a.n, .int .i64 a.c, .string a.p, .slice ad1 n1 n1] 25)
    have x1 : Box (w2.alloc (.cells #[.int .i64 a.k, .int .i64 a.t, .int .i64 a.n, .int .i64 a.c, .string a.p, .slice ad1 n1 n1] 25)) w2.heap.size #[.int .i64 a.k, .int .i64 a.t, .int .i64 a.n, .int .i64 a.c, .string a.p, .slice ad1 n1 n1] := heap_alloc_new w2 _
    have e1 := hd1.below ((Below.refl _ w2).alloc (Nat.le_refl _) (.cells #[.int .i64 a.k, .int .i64 a.t, .int .i64 a.n, .int .i64 a.c, .string a.p, .slice ad1 n1 n1] 25))
    clear q0 HX1 b1' b2' c12 hd1
    generalize w2.heap.size = g1 at *
    generalize World.alloc _ _ = W3 at *
    have hg1 := x1.lt
    have X1 := hid x1
    have E1 := hid e1
    clear x1 e1
    go_upto_region 7 with (go_at_call 11; refine (HX2.out _).mono ?_; rintro e w4 ⟨rfl, b4'⟩)
    have c14 := c13.trans (b4'.mono c13.size)
    have c15 := c14.alloc c14.size (.cells #[.int .i64 a.k, .int .i64 a.t, .int .i64 a.n, .int .i64 a.c, .string a.p, .string ⟨bs.toArray⟩] 30)
    have bb : Below W3.heap.size W3 (w4.alloc (.cells #[.int .i64 a.k, .int .i64 a.t, .int .i64 a.n, .int .i64 a.c, .string a.p, .string ⟨bs.toArray⟩] 30)) := b4'.alloc b4'.size _
    have x1 := X1.out.below bb hg1
    have e1 := E1.out.below bb
    have x2 : (w4.alloc (.cells #[.int .i64 a.k, .int .i64 a.t, .int .i64 a.n, .int .i64 a.c, .string a.p, .string ⟨bs.toArray⟩] 30)).heap[w4.heap.size]? = some (.cells #[.int .i64 a.k, .int .i64 a.t, .int .i64 a.n, .int .i64 a.c, .string a.p, .string ⟨bs.toArray⟩] 30 (0, 0)) := heap_alloc_new w4 _
    clear HX2 b4' c14 X1 E1 bb c13
    generalize w4.heap.size = g2 at *
    generalize World.alloc _ _ = W5 at *
    have y1 := x1.cell
    have y2 := cell_of_row x2
    have hcv1 := e1.bytes.str
    have HB5 := hid c15
    clear x1 x2 c15 hg1
    go_wp2
    go_ret
    exact ⟨by first | rfl | simp, HB5.out⟩

/-- AskReads, over the contract of the document's Decode -/
theorem reads_walk (s : ByteArray) (hr : s.size ≤ 20000 → ∀ W, Calls Tryd.prog 11 #[.string s] W fun e w' => RefOk e (decP s) ∧ Below W.heap.size W w') (w : World) (ht : Vs w) :
    Calls Tryd.prog 3 #[.string s] w fun e w' => e = .returned (.bool true) ∧ Below w.heap.size w w' := by
  by_cases hg : s.size ≤ 20000
  · exact reads_in s hg (hr hg) w ht
  · have q0 := asks_w w ht
    clear ht hr
    have h1 : (20000 : Int) < s.size := by omega
    clear hg
    go_enter Tryd.func3, Tryd.ntmps3
    go_wp2_with (go_at_call 9; refine q0.mono ?_; rintro e w1 ⟨rfl, b1⟩)
    go_ret
    exact ⟨rfl, b1⟩
end Go.Proofs.YtojbfdlgjjghjaaDoor.K
