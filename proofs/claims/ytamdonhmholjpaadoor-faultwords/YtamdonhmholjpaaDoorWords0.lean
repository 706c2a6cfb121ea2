/-
  Contracts: what a number says, and what a place around a number says.
-/
import Derived.Test.YtamdonhmholjpaaDoorItoa
import Derived.Test.YtamdonhmholjpaaDoorTells
import Derived.Lib.SmallJoins
import Derived.Lib.AppendIntMem
import Derived.Lib.ItoaLen
import Derived.Deep.QuietTactic
import Derived.BigQuiet
namespace Go.Proofs.YtamdonhmholjpaaDoor
open Go.RowKit

/-- The table that strconv reads lies there. -/
def Tab (w : World) : Prop := Lib.TabIs Tryd.prog w "internal/strconv.uint64pow10" .u64 Lib.pow10Tab

theorem Tab.below {w w' : World} (h : Tab w) (hb : Below w.heap.size w w') : Tab w' := Lib.tabBelow_of_tabIs h w' hb

def num (e : Int) : ByteArray := ⟨(Lib.itoa e).toArray⟩
/-- What a number says. -/
def says (e : Int) : ByteArray := ⟨#[101, 114, 114, 110, 111, 32]⟩ ++ num e

theorem num_size (e : Int) (h0 : -9223372036854775808 ≤ e) (h1 : e ≤ 9223372036854775807) : (num e).size ≤ 21 := by
  have := Lib.itoa_length_le e h0 h1
  simpa [num, ByteArray.size] using this

theorem says_size (e : Int) (h0 : -9223372036854775808 ≤ e) (h1 : e ≤ 9223372036854775807) : (says e).size ≤ 27 := by
  have := num_size e h0 h1
  have h6 : (⟨#[101, 114, 114, 110, 111, 32]⟩ : ByteArray).size = 6 := rfl
  simp only [says, ByteArray.size_append, h6]
  omega

theorem itoa_any (e : Int) (h0 : -9223372036854775808 ≤ e) (h1 : e ≤ 9223372036854775807) (w : World) (ht : Tab w) :
    Calls Tryd.prog 28 #[.int .i64 e] w fun ev w' => ev = .returned (.string (num e)) ∧ Below w.heap.size w w' :=
  (Tryd.strconv_Itoa e h0 h1 w ht).mono fun _ _ ⟨h, k, os, hw⟩ => ⟨h, hw ▸ Lib.below_grow _ w (Nat.le_refl _) k os⟩

theorem errno_text (e : Int) (h0 : -9223372036854775808 ≤ e) (h1 : e ≤ 9223372036854775807) (w : World) (ht : Tab w) :
    Calls Tryd.prog 16 #[.int .i64 e] w fun ev w' => ev = .returned (.string (says e)) ∧ Below w.heap.size w w' := by
  have hs := num_size e h0 h1
  have hc : ¬ 9223372036854775807 < 6 + (num e).size := by omega
  go_enter Tryd.func16, Tryd.ntmps16
  go_wp2_with (go_at_call 28; refine (itoa_any e h0 h1 _ ht).mono ?_; rintro ev w' ⟨rfl, hb⟩)
  go_ret
  exact ⟨rfl, hb⟩

theorem repeat_one (s : ByteArray) (w : World) : Calls Tryd.prog 30 #[.string s, .int .i64 1] w fun ev w' => ev = .returned (.string s) ∧ w = w' := by
  go_enter Tryd.func30, Tryd.ntmps30
  go_wp2
  go_ret
  exact ⟨rfl, rfl⟩

theorem strip_one (p e : Int) (w : World) : Calls Tryd.prog 29 #[.agg #[.int .i64 p, .iface 24 (.int .i64 e)]] w fun ev w' => ev = .returned (.tuple #[.int .i64 1, .iface 24 (.int .i64 e)]) ∧ Below w.heap.size w w' := by
  have n := not36
  go_enter Tryd.func29, Tryd.ntmps29
  go_wp2_with fail
  refine wp_loop_rounds 1 ?_
  rw [rounds_succ]
  go_wp2
  go_quiet (fail)
  go_wp2
  go_ret2
  exact ⟨rfl, below_drewN (((Below.refl _ _).alloc (Nat.le_refl _) _).alloc (by simp) _) _⟩

theorem methodError (v : Value) (w : World) : (Go.method 244 24 v "Error").run Tryd.prog w = .ok (16, v) w := by kernel_rfl

theorem guard46 (caps : Array Value) (w : World) (Q : World → Prop) (h : Calls Tryd.prog 46 caps w fun e w' => e = .returned (.tuple #[]) ∧ Q w') :
    Calls Tryd.prog 19 #[.func (Fn.func 46) #[] caps] w fun e w' => e = .returned (.tuple #[]) ∧ Q w' := by
  go_enter_defers Tryd.func19, Tryd.ntmps19
  go_wp2_with (go_at_call 46; refine h.mono ?_; rintro e w' ⟨rfl, hQ⟩)
  refine leaves_cons (f := 32) (args := #[]) (by simp) (by simp [go_sem]) ?_
  refine (caught _).mono ?_
  rintro e u' w'' ⟨rfl, rfl, rfl⟩
  simp [Leaves, settle, results, Tryd.results19, go_sem, hQ]

set_option maxRecDepth 100000 in
theorem text1 (e : Int) (h0 : -9223372036854775808 ≤ e) (h1 : e ≤ 9223372036854775807) (M K : Nat) (w : World) (ht : Tab w) (hK : K < w.heap.size) (h2 : w.cell? ⟨M, 0, none⟩ = some (.iface 24 (.int .i64 e))) (hc : w.cell? ⟨K, 0, none⟩ = some (.string ⟨#[]⟩)) (hf : w.frozen? ⟨K, 0, none⟩ = false) :
    Calls Tryd.prog 46 #[.pointer (some ⟨M, 0, none⟩), .pointer (some ⟨K, 0, none⟩)] w fun ev w' => ev = .returned (.tuple #[]) ∧ (w'.cell? ⟨K, 0, none⟩ = some (.string (says e)) ∧ Below K w w') := by
  have m := methodError
  have q := neq_nil
  go_enter Tryd.func46, Tryd.ntmps46
  go_wp2_with (go_at_call 16; refine (errno_text e h0 h1 _ ht).mono ?_; rintro ev w' ⟨rfl, hb⟩; obtain ⟨q3, q4⟩ := kept_lt hb hK hc hf)
  go_end0
  exact ⟨rfl, World.cell?_setCell_same _ _ _ q3, (hb.mono (Nat.le_of_lt hK)).setCell (p := ⟨K, 0, none⟩) (Nat.le_refl _) _⟩

theorem text_any (e : Int) (h0 : -9223372036854775808 ≤ e) (h1 : e ≤ 9223372036854775807) (w : World) (ht : Tab w) :
    Calls Tryd.prog 31 #[.iface 24 (.int .i64 e)] w fun ev w' => ev = .returned (.string (says e)) ∧ Below w.heap.size w w' := by
  have hmf : ∀ (fn : Fn) (first cap : Array Value) (w : World), (Instr.makeFunc fn first cap).run Tryd.prog w = .ok (.func fn first cap) w := fun _ _ _ _ => rfl
  have hg := guard46 _ _ _ (text1 e h0 h1 w.heap.size (w.heap.size + 1) ((w.alloc (.cells #[.iface 24 (.int .i64 e)] 26)).alloc (.cells #[.string ⟨#[]⟩] 9)) (Lib.tabIs_alloc (Lib.tabIs_alloc ht _) _) (by simp) (by simp) (by simp) (by simp))
  go_enter Tryd.func31, Tryd.ntmps31
  go_wp2_with (go_at_call 19; refine hg.mono ?_; rintro ev w' ⟨rfl, hc, hb⟩)
  go_ret
  exact ⟨rfl, below_two hb⟩

/-- What a number in a place says. -/
def atSays (e : Int) : ByteArray := ⟨#[97, 116, 58, 32]⟩ ++ says e

set_option maxRecDepth 100000 in
theorem at_text (p e : Int) (h0 : -9223372036854775808 ≤ e) (h1 : e ≤ 9223372036854775807) (w : World) (ht : Tab w) :
    Calls Tryd.prog 17 #[.agg #[.int .i64 p, .iface 24 (.int .i64 e)]] w fun ev w' => ev = .returned (.string (atSays e)) ∧ Below w.heap.size w w' := by
  have hs := says_size e h0 h1
  have hc : ¬ 9223372036854775807 < 4 + (says e).size := by omega
  go_enter Tryd.func17, Tryd.ntmps17
  go_wp2_with fail
  refine (strip_one p e _).mono ?_
  rintro ev w1 ⟨rfl, hb1⟩
  have b1 : Below w.heap.size w w1 := ((Below.refl _ _).alloc (Nat.le_refl _) _).trans (hb1.mono (by simp))
  have t1 := ht.below b1
  clear hb1
  go_wp2_with fail
  refine (repeat_one _ _).mono ?_
  rintro ev w' ⟨rfl, rfl⟩
  go_wp2_with fail
  refine (text_any e h0 h1 _ t1).mono ?_
  rintro ev w2 ⟨rfl, hb2⟩
  go_wp2
  go_ret
  exact ⟨rfl, b1.trans (hb2.mono b1.size)⟩

end Go.Proofs.YtamdonhmholjpaaDoor
