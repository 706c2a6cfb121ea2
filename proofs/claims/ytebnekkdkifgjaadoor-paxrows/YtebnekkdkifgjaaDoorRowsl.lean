/-
  Lists of records as sources of an append, as arguments of Encode; bytes of one's own as arguments of Decode.
-/
import Derived.Test.YtebnekkdkifgjaaDoorFits
import Derived.Laws.AppendOwnNone
namespace Go.Proofs.YtebnekkdkifgjaaDoor
open Go.ChangeShapes Go.WideShapes Go.RowKit
set_option linter.unusedVariables false
set_option linter.unusedSimpArgs false

def SrcOk (W : World) (sv : Value) (m : Nat) (news : List Value) : Prop :=
  (sv = .slice none 0 0 ∧ m = 0 ∧ news = []) ∨ ∃ ad c, sv = .slice (some ad) m c ∧ ∀ j u, news[j]? = some u → W.cell? (ad.add j) = some u

theorem wpList_append_src {P : Program} {w : World} {ops : Array Oper} {rest : List Oper} {o : Oper} {a : Act} {Q : Exit → Act → World → Prop} (hgd : o.guard = none) (s x : Operand) (t : TypeId)
    (ho : o.op = .call { callee := .builtin .append, args := #[s, x], argTypes := #[t, t] })
    (base : Nat) (e : TypeId) (i : TypeInfo) (z : Value) (size bytes : Nat) (ht : P.underlying t = some (.slice e)) (hi : P.info? e = some i) (hz : i.zero = some z)
    (hsize : i.size = size) (hby : i.bytes = bytes) (hzs : z.cells.size = size) (hsz : 0 < size)
    (v : Value) (n : Nat) (xs : List Value) (hs : a.eval s = v) (hown : w.ownsRow base e size v n xs)
    (sv : Value) (m : Nat) (news : List Value) (hx : a.eval x = sv) (hsrc : SrcOk w sv m news) (hl : news.length = m * size) (h1 : ∀ u ∈ news, u.oneCell' = true)
    (h63 : n + m ≤ maxLen) (hbytes : (n + m) * bytes ≤ 140737488355328) (hbase : base ≤ w.heap.size)
    (h : ∀ v' w', w'.ownsRow base e size v' (n + m) (xs ++ news) → Below base w w' → wpList P ops Q rest (a.put o.dst v') w') : wpList P ops Q (o :: rest) a w := by
  rcases hsrc with ⟨rfl, rfl, rfl⟩ | ⟨ad, c, rfl, hn⟩
  · refine wpList_append_own_none hgd s x t ho base e i size ht hi v n xs hs hown hx ?_
    exact h v w (by simpa using hown) (Below.refl _ _)
  · refine wpList_append_own (w := w) hgd s x t ho base e i z size bytes ht hi hz hsize hby hzs hsz v n xs hs hown ad m c news hx hl hn h1 h63 hbytes hbase ?_
    intro v' w' h2 h3 _
    exact h v' w' h2 ((Below.refl _ _).grown h3 hbase fun k hk => (hown.lt k hk).1)

/-! ### sources -/

def Told2 (w : World) (ad : Option Addr) (n cap : Nat) (K V : Nat → ByteArray) : Prop := Told w ad n cap K V ∧ (ad = none → n = 0 ∧ cap = 0)

theorem told2_of {H : Type} {enc : TypeId × Value → H} {W : World} {ad : Option Addr} {n cap : Nat} {d : DataW H} {p : List MemPlace} (h : DataW.Trod enc Tryd.prog W 0 (fun _ => true) true 22 (.slice ad n cap) d p) : ∃ K V, Told2 W ad n cap K V := by
  obtain ⟨K, V, ht⟩ := told_of h
  refine ⟨K, V, ht, fun ha => ?_⟩
  subst ha
  obtain ⟨fuel, hf⟩ := h
  rcases Go.Deep.open_slice_pairs Tryd.underlying22 Tryd.underlying28 (by kernel_rfl) rfl rfl (by kernel_rfl) (by kernel_rfl) hf with ⟨hcs, _⟩ | ⟨a, len, cp, m, nn, V0, V1, D0, D1, P0, P1, hcs, _⟩
  · simp [Value.cells] at hcs
    exact hcs
  · simp [Value.cells] at hcs

theorem recs_len (K V : Nat → ByteArray) (n : Nat) : (recs K V n).length = n := by simp [recs]

theorem kOf_recs (K V : Nat → ByteArray) (n i : Nat) (h : i < n) : kOf (recs K V n) i = K i ∧ vOf (recs K V n) i = V i := by
  simp [kOf, vOf, recs, List.getD, h]

theorem recCells_len : ∀ rs : List Rec, (recCells rs).length = rs.length * 2
  | [] => rfl
  | r :: rs => by
    have e : recCells (r :: rs) = .string r.1 :: .string r.2 :: recCells rs := by simp [recCells]
    rw [e, List.length_cons, List.length_cons, recCells_len rs, List.length_cons]
    omega

theorem recCells_one (rs : List Rec) : ∀ u ∈ recCells rs, u.oneCell' = true := by
  intro u hu
  simp only [recCells, List.mem_flatMap] at hu
  obtain ⟨r, _, hu⟩ := hu
  simp at hu
  rcases hu with rfl | rfl <;> rfl

theorem add_at (b off j : Nat) : (⟨b, off, none⟩ : Addr).add j = ⟨b, off + j, none⟩ := by
  unfold Addr.add
  by_cases h : j = 0
  · subst h; rfl
  · simp [h]

theorem Told2.src {w W : World} {ad : Option Addr} {n cap : Nat} {K V : Nat → ByteArray} (h : Told2 w ad n cap K V) (hb : Below w.heap.size w W) : SrcOk W (.slice ad n cap) n (recCells (recs K V n)) := by
  obtain ⟨⟨_, _, h3⟩, h4⟩ := h
  cases ad with
  | none =>
    obtain ⟨rfl, rfl⟩ := h4 rfl
    exact .inl ⟨rfl, rfl, rfl⟩
  | some a =>
    refine .inr ⟨a, cap, rfl, fun j u hj => ?_⟩
    rcases h3 with rfl | ⟨b, off, ha, hR⟩
    · simp [recs, recCells] at hj
    · cases ha
      have hjl : j < n * 2 := by
        have := (List.getElem?_eq_some_iff.1 hj).1
        rwa [recCells_len, recs_len] at this
      have hi : j / 2 < n := by omega
      obtain ⟨e1, e2⟩ := recCells_get (recs K V n) (j / 2) (by rw [recs_len]; exact hi)
      obtain ⟨k1, k2⟩ := kOf_recs K V n (j / 2) hi
      obtain ⟨c1, c2⟩ := hR.below hb (j / 2) hi
      rw [add_at]
      by_cases hp : j % 2 = 0
      · have ej : j / 2 * 2 = j := by omega
        rw [ej] at e1 c1
        rw [hj, k1] at e1
        cases e1
        exact c1
      · have ej : j / 2 * 2 + 1 = j := by omega
        rw [ej] at e2
        rw [Nat.add_assoc, ej] at c2
        rw [hj, k2] at e2
        cases e2
        exact c2

theorem own_src {B e : Nat} {w : World} {v : Value} {n : Nat} {xs : List Value} (h : w.ownsRow B e 1 v n xs) : SrcOk w v n xs := by
  rcases h.2 with ⟨rfl, rfl⟩ | ⟨g, cap, cur, rfl, _⟩
  · exact .inl ⟨rfl, rfl, List.eq_nil_of_length_eq_zero (by simpa using h.1)⟩
  · exact .inr ⟨_, cap, rfl, h.cells rfl⟩

/-! ### Encode -/

def AllOk (rs : List Rec) : Prop := ∀ r ∈ rs, chk r.1 r.2 = 0

theorem errTo_iff (K V : Nat → ByteArray) : ∀ n, errTo K V n = 0 ↔ AllOk (recs K V n)
  | 0 => by simp [errTo, AllOk, recs]
  | n + 1 => by
    have ih := errTo_iff K V n
    have e : recs K V (n + 1) = recs K V n ++ [(K n, V n)] := by simp [recs, List.range_succ]
    rw [e]
    by_cases h : errTo K V n = 0
    · have h' := ih.1 h
      simp only [errTo, if_pos h]
      constructor
      · intro hc r hr
        rcases List.mem_append.1 hr with hr | hr
        · exact h' r hr
        · simp at hr; subst hr; exact hc
      · intro ha
        exact ha (K n, V n) (by simp)
    · simp only [errTo, if_neg h]
      constructor
      · intro hc; exact absurd hc h
      · intro ha
        exact absurd (ih.2 fun r hr => ha r (by simp [hr])) h

theorem recs_of (rs : List Rec) : recs (kOf rs) (vOf rs) rs.length = rs := by
  apply List.ext_getElem?
  intro i
  by_cases h : i < rs.length
  · simp [recs, h, kOf, vOf, List.getD]
  · simp [recs, h]

theorem enc_recs (b off n cap : Nat) (K V : Nat → ByteArray) (w : World) (hR : n = 0 ∨ RecsAt w b off K V n) (hn : n ≤ 64) (hS : ∀ i, i < n → (K i).size ≤ 100000 ∧ (V i).size ≤ 100000) (ht : Vs w) :
    Calls Tryd.prog 14 #[.slice (some ⟨b, off, none⟩) n cap] w fun e w' => (∃ v z, e = .returned (.tuple #[v, .int .i64 z]) ∧ (z = 0 ↔ AllOk (recs K V n)) ∧ (AllOk (recs K V n) → w'.ownsRow w.heap.size 5 1 v (encR (recs K V n)).length (Lib.byteCells (encR (recs K V n))))) ∧ Below w.heap.size w w' := by
  rcases hR with rfl | hR
  · refine (enc_none _ cap w).mono fun e w' ⟨he, hw⟩ => ?_
    subst hw
    exact ⟨⟨_, 0, he, ⟨fun _ => by simp [AllOk, recs], fun _ => rfl⟩, fun _ => World.ownsRow_nil _ _ _ _⟩, Below.refl _ _⟩
  · refine (enc_w b off n cap K V w hR hn hS ht).mono fun e w' ⟨he, hb⟩ => ⟨?_, hb⟩
    rcases he with ⟨h0, v, he, ho⟩ | ⟨h0, he⟩
    · rw [encL_recs] at ho
      exact ⟨v, 0, he, ⟨fun _ => (errTo_iff K V n).1 h0, fun _ => rfl⟩, fun _ => ho⟩
    · exact ⟨_, _, he, errTo_iff K V n, fun ha => absurd ((errTo_iff K V n).2 ha) h0⟩

theorem enc_nil (cap : Nat) (w : World) :
    Calls Tryd.prog 14 #[.slice none 0 cap] w fun e w' => (∃ v z, e = .returned (.tuple #[v, .int .i64 z]) ∧ (z = 0 ↔ AllOk []) ∧ (AllOk [] → w'.ownsRow w.heap.size 5 1 v (encR []).length (Lib.byteCells (encR [])))) ∧ Below w.heap.size w w' := by
  refine (enc_none none cap w).mono fun e w' ⟨he, hw⟩ => ?_
  subst hw
  exact ⟨⟨_, 0, he, ⟨fun _ => by simp [AllOk], fun _ => rfl⟩, fun _ => World.ownsRow_nil _ _ _ _⟩, Below.refl _ _⟩

theorem enc_at0 (a : Addr) (cap : Nat) (w : World) :
    Calls Tryd.prog 14 #[.slice (some a) 0 cap] w fun e w' => (∃ v z, e = .returned (.tuple #[v, .int .i64 z]) ∧ (z = 0 ↔ AllOk []) ∧ (AllOk [] → w'.ownsRow w.heap.size 5 1 v (encR []).length (Lib.byteCells (encR [])))) ∧ Below w.heap.size w w' := by
  refine (enc_none (some a) cap w).mono fun e w' ⟨he, hw⟩ => ?_
  subst hw
  exact ⟨⟨_, 0, he, ⟨fun _ => by simp [AllOk], fun _ => rfl⟩, fun _ => World.ownsRow_nil _ _ _ _⟩, Below.refl _ _⟩

theorem enc_told {w W : World} {ad : Option Addr} {n cap : Nat} {K V : Nat → ByteArray} (h : Told2 w ad n cap K V) (hb : Below w.heap.size w W) (hn : n ≤ 64) (hS : ∀ i, i < n → (K i).size ≤ 100000 ∧ (V i).size ≤ 100000) (ht : Vs W) :
    Calls Tryd.prog 14 #[.slice ad n cap] W fun e w' => (∃ v z, e = .returned (.tuple #[v, .int .i64 z]) ∧ (z = 0 ↔ AllOk (recs K V n)) ∧ (AllOk (recs K V n) → w'.ownsRow W.heap.size 5 1 v (encR (recs K V n)).length (Lib.byteCells (encR (recs K V n))))) ∧ Below W.heap.size W w' := by
  obtain ⟨⟨_, _, h3⟩, h4⟩ := h
  rcases h3 with rfl | ⟨b, off, rfl, hR⟩
  · cases ad with
    | none => exact enc_nil cap W
    | some a => exact enc_at0 a cap W
  · exact enc_recs b off n cap K V W (.inr (hR.below hb)) hn hS ht

theorem enc_own {B : Nat} {w : World} {v : Value} {rs : List Rec} (h : w.ownsRow B 28 2 v rs.length (recCells rs)) (hn : rs.length ≤ 64) (hS : ∀ r ∈ rs, r.1.size ≤ 100000 ∧ r.2.size ≤ 100000) (ht : Vs w) :
    Calls Tryd.prog 14 #[v] w fun e w' => (∃ x z, e = .returned (.tuple #[x, .int .i64 z]) ∧ (z = 0 ↔ AllOk rs) ∧ (AllOk rs → w'.ownsRow w.heap.size 5 1 x (encR rs).length (Lib.byteCells (encR rs)))) ∧ Below w.heap.size w w' := by
  by_cases h0 : rs.length = 0
  · obtain rfl := List.eq_nil_of_length_eq_zero h0
    obtain ⟨ad, cap, rfl, _, _⟩ := own_slice h
    cases ad with
    | none => exact enc_nil cap w
    | some a => exact enc_at0 a cap w
  · obtain ⟨g, cap, rfl, hR, _, _, _, _⟩ := own_recsAt h (by omega)
    have := enc_recs g 0 rs.length cap (kOf rs) (vOf rs) w (.inr hR) hn (fun i hi => by
      have hm : rs.getD i (⟨#[]⟩, ⟨#[]⟩) ∈ rs := by
        rw [List.getD, List.getElem?_eq_getElem hi]
        exact List.getElem_mem hi
      exact hS _ hm) ht
    rwa [recs_of] at this

/-! ### Decode, string -/

theorem dec_own {B : Nat} {w : World} {v : Value} {bs : List UInt8} (h : w.ownsRow B 5 1 v bs.length (Lib.byteCells bs)) (hl : bs.length < 4294967281) (ht : Vs w) :
    Calls Tryd.prog 15 #[v] w fun e w' => ∃ x, e = .returned (.tuple #[x, .int .i64 (dec bs.length [] bs).2]) ∧ w'.ownsRow w.heap.size 28 2 x (dec bs.length [] bs).1.length (recCells (dec bs.length [] bs).1) ∧ Below w.heap.size w w' := by
  by_cases h0 : bs.length = 0
  · obtain rfl := List.eq_nil_of_length_eq_zero h0
    obtain ⟨ad, cap, rfl, _, _⟩ := own_slice h
    refine (decode_none ad cap w).mono fun e w' ⟨he, hw⟩ => ?_
    subst hw
    exact ⟨_, he, World.ownsRow_nil _ _ _ _, Below.refl _ _⟩
  · obtain ⟨g, cap, rfl, hB, h1, h2, _, _⟩ := own_bytesAt h (by omega)
    exact decode_w g 0 cap bs w hB h1 h2 hl ht

theorem conv_own {B : Nat} {w : World} {v : Value} {bs : List UInt8} (h : w.ownsRow B 5 1 v bs.length (Lib.byteCells bs)) : (convert 36 9 v).run Tryd.prog w = .ok (.string ⟨bs.toArray⟩) w := by
  by_cases h0 : bs.length = 0
  · obtain rfl := List.eq_nil_of_length_eq_zero h0
    obtain ⟨ad, cap, rfl, _, _⟩ := own_slice h
    exact conv_none w ad cap
  · obtain ⟨g, cap, rfl, hB, h1, h2, _, _⟩ := own_bytesAt h (by omega)
    exact conv_str w g 0 cap bs hB

theorem fits_told {w W : World} {ad : Option Addr} {n cap : Nat} {K V : Nat → ByteArray} (h : Told2 w ad n cap K V) (hb : Below w.heap.size w W) :
    Calls Tryd.prog 10 #[.slice ad n cap] W fun e w' => e = .returned (.bool (decide (n ≤ 70 ∧ okTo K V n))) ∧ Below W.heap.size W w' := by
  obtain ⟨⟨h1, h2, h3⟩, h4⟩ := h
  by_cases c : 70 < n
  · rw [decide_eq_false (by omega)]
    exact (fits_much ad n cap W c (by omega)).mono fun e w' ⟨he, hw⟩ => ⟨he, hw ▸ Below.refl _ _⟩
  · rcases h3 with rfl | ⟨b, off, rfl, hR⟩
    · rw [decide_eq_true ⟨by omega, trivial⟩]
      exact (fits_none ad cap W).mono fun e w' ⟨he, hw⟩ => ⟨he, hw ▸ Below.refl _ _⟩
    · refine (fits_any b off n cap K V W (hR.below hb) (by omega)).mono fun e w' ⟨he, hw⟩ => ⟨?_, hw⟩
      rw [he]
      congr 2
      by_cases ho : okTo K V n
      · rw [decide_eq_true ho, decide_eq_true ⟨by omega, ho⟩]
      · rw [decide_eq_false ho, decide_eq_false (fun h => ho h.2)]

end Go.Proofs.YtebnekkdkifgjaaDoor
