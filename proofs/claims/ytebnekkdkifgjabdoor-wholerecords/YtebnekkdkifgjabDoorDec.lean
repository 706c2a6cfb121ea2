/-
  Contract: pax.Decode.
-/
import Derived.Test.YtebnekkdkifgjabDoorAny
import Derived.Test.YtebnekkdkifgjabDoorFirst2
import Derived.Laws.AppendOwn
import Derived.OwnWalk
namespace Go.Proofs.YtebnekkdkifgjabDoor
open Go.RowKit
set_option linter.unusedVariables false
set_option linter.unusedSimpArgs false

abbrev Rec := ByteArray × ByteArray

def recCells (rs : List Rec) : List Value := rs.flatMap fun r => [.string r.1, .string r.2]

theorem recCells_snoc (rs : List Rec) (k v : ByteArray) : recCells rs ++ [.string k, .string v] = recCells (rs ++ [(k, v)]) := by simp [recCells]

def fk (bs : List UInt8) : ByteArray := ⟨(firstP bs).1.toArray⟩
def fv (bs : List UInt8) : ByteArray := ⟨(firstP bs).2.1.toArray⟩
def fn (bs : List UInt8) : Nat := (firstP bs).2.2

/-- the records that bytes are -/
def dec : Nat → List Rec → List UInt8 → List Rec × Int
  | 0, acc, bs => (acc, 0)
  | f + 1, acc, bs =>
    if bs = [] then (acc, 0)
    else if fn bs = 0 then ([], 70)
    else if acc.length = 64 then ([], 2)
    else if ¬ chk (fk bs) (fv bs) = 0 then ([], chk (fk bs) (fv bs))
    else dec f (acc ++ [(fk bs, fv bs)]) (bs.drop (fn bs))

theorem dec_nil (f : Nat) (acc : List Rec) : dec f acc [] = (acc, 0) := by cases f <;> simp [dec]

theorem info28c : (Tryd.prog.info? 29).map (fun i => (i.zero, i.size, i.bytes)) = some (some (.agg #[.string ⟨#[]⟩, .string ⟨#[]⟩]), 2, 32) := by kernel_rfl

theorem alloc2 (w W : World) (a b : Value) (hb : Below (w.alloc (.cells #[a, b] 29)).heap.size (w.alloc (.cells #[a, b] 29)) W) :
    W.cell? ⟨w.heap.size, 0, none⟩ = some a ∧ W.cell? ⟨w.heap.size, 1, none⟩ = some b ∧ Below w.heap.size w W := by
  have hlt : w.heap.size < (w.alloc (.cells #[a, b] 29)).heap.size := by simp
  refine ⟨(hb.cell (p := ⟨w.heap.size, 0, none⟩) hlt).trans (by simp), (hb.cell (p := ⟨w.heap.size, 1, none⟩) hlt).trans (by simp), ?_⟩
  exact ((Below.refl w.heap.size w).alloc (Nat.le_refl _) _).trans (hb.mono (Nat.le_of_lt hlt))

theorem two_cells (w : World) (x y : Value) : ∀ j u, ([x, y] : List Value)[j]? = some u → (w.alloc (.cells #[x, y] 29)).cell? ((⟨w.heap.size, 0, none⟩ : Addr).add j) = some u := by
  intro j u h
  match j, h with
  | 0, h => cases h; simp [Addr.add]
  | 1, h => cases h; simp [Addr.add]
  | j + 2, h => simp at h

theorem own_below {e size B : Nat} {w w' : World} {v : Value} {n : Nat} {xs : List Value} (h : w.ownsRow B e size v n xs) (hb : Below w.heap.size w w') : w'.ownsRow B e size v n xs :=
  h.kept (row := none) ⟨hb.os, hb.tape, hb.output, hb.size, fun k hk _ => hb.block k hk⟩ (by cases v.ownBlock <;> simp)

theorem own_slice {e size B : Nat} {w : World} {v : Value} {n : Nat} {xs : List Value} (h : w.ownsRow B e size v n xs) : ∃ ad cap, v = .slice ad n cap ∧ n ≤ cap ∧ cap ≤ maxLen := by
  rcases h.2 with ⟨hv, h0⟩ | ⟨g, cap, cur, hv, _, _, hc, hm, _⟩
  · subst h0; exact ⟨none, 0, hv, Nat.le_refl _, by decide⟩
  · exact ⟨_, cap, hv, hc, hm⟩

theorem fk_size (bs : List UInt8) : (fk bs).size ≤ bs.length ∧ (fv bs).size ≤ bs.length := by
  have := firstP_sizes bs
  simpa [fk, fv, ByteArray.size] using this

set_option maxRecDepth 20000 in
set_option maxHeartbeats 4000000 in
theorem decode_w (b o cap : Nat) (bs : List UInt8) (w : World) (hB : BytesAt w b o bs) (hcap : bs.length ≤ cap) (hbig : cap ≤ 9223372036854775807) (hl : bs.length < 4294967281) (ht : Vs w) :
    Calls Tryd.prog 7 #[.slice (some ⟨b, o, none⟩) bs.length cap] w fun e w' => ∃ v, e = .returned (.tuple #[v, .int .i64 (dec bs.length [] bs).2]) ∧ w'.ownsRow w.heap.size 29 2 v (dec bs.length [] bs).1.length (recCells (dec bs.length [] bs).1) ∧ Below w.heap.size w w' := by
  have HB : Hid (BytesAt w b o bs) := hB
  have HV : Hid (Vs w) := ht
  obtain ⟨i0, hi, hz0, hz1, hz2⟩ := info_parts info28c
  clear hB ht
  go_enter Tryd.func7, Tryd.ntmps7
  go_wp2
  go_loopw [0, 4] (fun t0 t4 wr => ∃ (p : Nat) (ad : Option Addr) (acc : List Rec) (f : Nat), p ≤ bs.length ∧ t0 = .slice ad (bs.length - p) (cap - p) ∧ (p < bs.length → ad = some ⟨b, o + p, none⟩) ∧ wr.ownsRow w.heap.size 29 2 t4 acc.length (recCells acc) ∧ acc.length ≤ 64 ∧ Below w.heap.size w wr ∧ Hid (dec bs.length [] bs = dec f acc (bs.drop p)) ∧ bs.length - p ≤ f)
    (fun t _ _ => match t with | .slice _ n _ => n | _ => 0)
  case atStart => exact ⟨0, _, [], bs.length, Nat.zero_le _, rfl, fun _ => rfl, World.ownsRow_nil _ _ _ _, by simp, Below.refl _ _, rfl, by omega⟩
  case round =>
    obtain ⟨p, ad, acc, f, hp, rfl, had, hown, hacc, bb, HD, hf⟩ := hrel
    by_cases hlt : p < bs.length
    · obtain rfl := had hlt
      obtain ⟨av, cv, rfl, hcv, hcm⟩ := own_slice hown
      obtain ⟨f, rfl⟩ : ∃ f', f = f' + 1 := ⟨f - 1, by omega⟩
      have hD := HD.out
      have hRl : (bs.drop p).length = bs.length - p := by simp
      have hRB := (HB.out.drop p)
      generalize hR : bs.drop p = R at *
      have hne : ¬ R = [] := fun e => by rw [e] at hRl; simp at hRl; omega
      rw [dec, if_neg hne] at hD
      have q := first_w b (o + p) (cap - p) R wr (hRB.below bb) (by omega) (by omega) (by omega) (HV.out.below bb)
      rw [hRl] at q
      change Calls Tryd.prog 15 _ wr fun e w' => e = .returned (.tuple #[.agg #[.string (fk R), .string (fv R)], .int .i64 (fn R : Int)]) ∧ Below wr.heap.size wr w' at q
      have hks := fk_size R
      have hfn : fn R ≤ R.length := firstP_len R
      have hdr : R.drop (fn R) = bs.drop (p + fn R) := by rw [← hR, List.drop_drop]
      have qc := fun W => check_any (fk R) (fv R) (by omega) (by omega) W
      have HDR : Hid (R.drop (fn R) = bs.drop (p + fn R)) := hdr
      generalize fk R = k at *
      generalize fv R = v at *
      generalize hm : fn R = m at *
      have hmax := hcm
      unfold maxLen at hmax
      have hlow := fun W => run_low W b (o + p) (bs.length - p) (cap - p) m (by omega)
      have hm2 : m ≤ bs.length - p := by omega
      have hL0 : 0 < bs.length - p := by omega
      have hLb : bs.length - p ≤ 281474976710656 := by omega
      clear hdr hRB hne hm hR HD hRl hfn
      generalize hLL : bs.length - p = L at *
      generalize hCC : cap - p = C at *
      have HO : Hid (wr.ownsRow w.heap.size 29 2 (.slice av acc.length cv) acc.length (recCells acc)) := hown
      clear hown
      by_cases c1 : m = 0
      · subst c1
        rw [if_pos rfl] at hD
        have HD : Hid (dec bs.length [] bs = ([], 70)) := hD
        clear hD
        go_wp2_with (go_at_call 15; refine q.mono ?_; rintro e w2 ⟨rfl, b2⟩)
        go_ret2
        have h := HD.out
        rw [h]
        have bb2 : Below w.heap.size w w2 := bb.trans (b2.mono bb.size)
        exact ⟨_, rfl, World.ownsRow_nil _ _ _ _, by first | exact bb2.alloc bb2.size _ | exact ((bb2.alloc bb2.size _).setCell bb2.size _).setCell bb2.size _⟩
      · rw [if_neg c1] at hD
        by_cases c2 : acc.length = 64
        · rw [if_pos c2] at hD
          have HD : Hid (dec bs.length [] bs = ([], 2)) := hD
          clear hD
          rw [c2]
          go_wp2_with (go_at_call 15; refine q.mono ?_; rintro e w2 ⟨rfl, b2⟩)
          go_ret2
          have h := HD.out
          rw [h]
          have bb2 : Below w.heap.size w w2 := bb.trans (b2.mono bb.size)
          exact ⟨_, rfl, World.ownsRow_nil _ _ _ _, by first | exact bb2.alloc bb2.size _ | exact ((bb2.alloc bb2.size _).setCell bb2.size _).setCell bb2.size _⟩
        · rw [if_neg c2] at hD
          have c2' : ¬ (acc.length : Int) = 64 := by omega
          by_cases c3 : chk k v = 0
          · rw [if_neg (by simp [c3])] at hD
            have HD : Hid (dec bs.length [] bs = dec f (acc ++ [(k, v)]) (R.drop m)) := hD
            clear hD
            rw [c3] at qc
            clear c3
            go_wp2_with (first | (go_at_call 15; refine q.mono ?_; rintro e w2 ⟨rfl, b2⟩) | (go_at_call 6; refine (qc _).mono ?_; rintro e w4 ⟨rfl, b4⟩; obtain ⟨g0, g1, b5⟩ := alloc2 _ _ _ _ b4) | (at_builtin; refine wpList_append_own _ rfl _ _ 30 rfl w.heap.size 29 i0 (.agg #[.string ⟨#[]⟩, .string ⟨#[]⟩]) 2 32 Tryd.underlying30 hi hz0 hz1 hz2 rfl (by decide) _ _ _ rfl ((own_below (own_below HO.out b2) b5).alloc _) ⟨w4.heap.size, 0, none⟩ 1 1 [.string k, .string v] rfl rfl ?c1 ?c2 ?c3 ?c4 ?c5 ?_))
            case c1 => exact two_cells _ _ _
            case c2 => intro u hu; simp at hu; rcases hu with rfl | rfl <;> rfl
            case c3 => unfold maxLen; omega
            case c4 => omega
            case c5 => have := bb.size; have := b2.size; have := b5.size; simp; omega
            · intro v' w5 hown' hgrow hh
              have bb4 : Below w.heap.size w w4 := (bb.trans (b2.mono bb.size)).trans (b5.mono (bb.trans (b2.mono bb.size)).size)
              have bb5 : Below w.heap.size w w5 := (bb4.alloc bb4.size _).grown hgrow (by have := bb4.size; simp; omega) fun k hk => ((own_below (own_below HO.out b2) b5).lt k hk).1
              have hO : w5.ownsRow w.heap.size 29 2 v' (acc ++ [(k, v)]).length (recCells (acc ++ [(k, v)])) := by
                rw [← recCells_snoc, List.length_append]
                exact hown'
              clear hown' hgrow hh HO
              go_wp2
              go_roundw
              case rel =>
                refine ⟨p + m, lowAt b (o + p) C m, acc ++ [(k, v)], f, by omega, ?_, fun h => ?_, hO, by simp; omega, bb5, ?_, by omega⟩
                · rw [show bs.length - (p + m) = L - m by omega, show cap - (p + m) = C - m by omega]
                · unfold lowAt
                  rw [if_neg (by omega), Nat.add_assoc]
                · have h := HD.out
                  rw [HDR.out] at h
                  exact h
              case measure => simp; omega
          · rw [if_pos c3] at hD
            have HD : Hid (dec bs.length [] bs = ([], chk k v)) := hD
            clear hD
            generalize chk k v = z at *
            go_wp2_with (first | (go_at_call 15; refine q.mono ?_; rintro e w2 ⟨rfl, b2⟩) | (go_at_call 6; refine (qc _).mono ?_; rintro e w4 ⟨rfl, b4⟩; obtain ⟨g0, g1, b5⟩ := alloc2 _ _ _ _ b4))
            go_ret2
            have h := HD.out
            rw [h]
            have bb2 : Below w.heap.size w w2 := bb.trans (b2.mono bb.size)
            exact ⟨_, rfl, World.ownsRow_nil _ _ _ _, bb2.trans (b5.mono bb2.size)⟩
    · obtain rfl : p = bs.length := by omega
      rw [Nat.sub_self] at *
      go_wp2
      go_ret2
      have h := HD.out
      rw [List.drop_length, dec_nil] at h
      rw [h]
      exact ⟨_, rfl, hown, bb⟩
end Go.Proofs.YtebnekkdkifgjabDoor
