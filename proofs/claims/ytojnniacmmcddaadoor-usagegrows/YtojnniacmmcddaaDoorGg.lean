/-
  Contract: Get; plain: how much a tree has; things of one's own; a drawn region by an invariant.
-/
import Derived.Test.YtojnniacmmcddaaDoorN0
import Derived.Test.YtojnniacmmcddaaDoorT5
import Derived.Test.YtojnniacmmcddaaDoorT0
import Derived.Deep.RegionHeld
namespace Go.Proofs.YtojnniacmmcddaaDoor
open Go.RowKit
open Go.Lib hiding intOf
set_option linter.unusedVariables false
set_option linter.unusedSimpArgs false

/-- rows that can be measured -/
theorem Sd.okr {L : List Rw} {nx : Int} (h : Sd L nx) (hn : nx ≤ 900000000000) : ∀ r ∈ L, Okr r := fun r hr => by
  have h1 := h.ok r hr
  have h2 := h.id r hr
  exact ⟨by omega, by omega, h1.2⟩

theorem Cp.prt {s : List UInt8} (h : Cp s) : prt s = parts s := by
  obtain ⟨ps, h1, h2, rfl⟩ := h
  rw [prt_jn ps h2, parts_good_jn ps h1 h2]

/-- a row of a number that is new among the rows behind it -/
theorem fold_new : ∀ (B : List Rw) (u v : Us) (k : Nat) (z : Int), v.b = u.b + k → v.n = u.n + 1 → u.d ≤ v.d → u.l ≤ v.l → (∀ i, i ∈ v.S ↔ i = z ∨ i ∈ u.S) → (∀ r ∈ B, r.id ≠ z) →
    (B.foldl stepU v).b = (B.foldl stepU u).b + k ∧ (B.foldl stepU v).n = (B.foldl stepU u).n + 1 ∧ (B.foldl stepU u).d ≤ (B.foldl stepU v).d ∧ (B.foldl stepU u).l ≤ (B.foldl stepU v).l
  | [], u, v, k, z, h1, h2, h3, h4, _, _ => ⟨h1, h2, h3, h4⟩
  | r :: B, u, v, k, z, h1, h2, h3, h4, h5, h6 => by
    have hz : r.id ≠ z := h6 r (by simp)
    have hm : r.id ∈ v.S ↔ r.id ∈ u.S := by rw [h5]; simp [hz]
    rw [List.foldl_cons, List.foldl_cons]
    unfold stepU
    by_cases c : r.p = []
    · rw [if_pos c, if_pos c]
      exact fold_new B u v k z h1 h2 h3 h4 h5 (fun q hq => h6 q (List.mem_cons_of_mem _ hq))
    · rw [if_neg c, if_neg c]
      by_cases d : r.id ∈ u.S
      · rw [if_pos d, if_pos (hm.2 d)]
        exact fold_new B _ _ k z h1 h2 (by show max _ _ ≤ max _ _; omega) (by show max _ _ ≤ max _ _; omega) h5 (fun q hq => h6 q (List.mem_cons_of_mem _ hq))
      · rw [if_neg d, if_neg (fun e => d (hm.1 e))]
        refine fold_new B _ _ k z (by show v.b + _ = u.b + _ + k; omega) (by show v.n + 1 = u.n + 1 + 1; omega) (by show max _ _ ≤ max _ _; omega) (by show max _ _ ≤ max _ _; omega) ?_ (fun q hq => h6 q (List.mem_cons_of_mem _ hq))
        intro i
        show i ∈ r.id :: v.S ↔ i = z ∨ i ∈ r.id :: u.S
        rw [List.mem_cons, List.mem_cons, h5]
        constructor
        · rintro (e | e | e)
          · exact .inr (.inl e)
          · exact .inl e
          · exact .inr (.inr e)
        · rintro (e | e | e)
          · exact .inr (.inl e)
          · exact .inl e
          · exact .inr (.inr e)

theorem ofU_S (L : List Rw) : ∀ i ∈ (ofU L).S, ∃ r ∈ L, r.id = i := by
  suffices H : ∀ (L : List Rw) (u : Us) (i : Int), i ∈ (L.foldl stepU u).S → i ∈ u.S ∨ ∃ r ∈ L, r.id = i by
    intro i hi
    rcases H L ⟨0, 0, 0, 0, []⟩ i hi with h | h
    · cases h
    · exact h
  intro L
  induction L with
  | nil => intro u i h; exact .inl h
  | cons r L ih =>
    intro u i h
    rw [List.foldl_cons] at h
    rcases ih _ i h with h | ⟨q, hq, e⟩
    · unfold stepU at h
      split at h
      · exact .inl h
      · split at h
        · exact .inl h
        · rcases List.mem_cons.1 h with e | e
          · exact .inr ⟨r, by simp, e.symm⟩
          · exact .inl e
    · exact .inr ⟨q, List.mem_cons_of_mem _ hq, e⟩

/-- with one row of a new number more -/
theorem ofU_ins (A B : List Rw) (r : Rw) (hp : r.p ≠ []) (h : ∀ q ∈ A ++ B, q.id ≠ r.id) : (ofU (A ++ [r] ++ B)).b = (ofU (A ++ B)).b + bytesN r ∧ (ofU (A ++ [r] ++ B)).n = (ofU (A ++ B)).n + 1 ∧ (ofU (A ++ B)).d ≤ (ofU (A ++ [r] ++ B)).d ∧ (ofU (A ++ B)).l ≤ (ofU (A ++ [r] ++ B)).l := by
  unfold ofU
  rw [List.append_assoc, List.foldl_append, List.foldl_append, List.foldl_append]
  have hS : r.id ∉ (ofU A).S := fun e => by
    obtain ⟨q, hq, e⟩ := ofU_S A _ e
    exact h q (List.mem_append.2 (.inl hq)) e
  unfold ofU at hS
  generalize A.foldl stepU ⟨0, 0, 0, 0, []⟩ = u at *
  have e : [r].foldl stepU u = ⟨u.b + bytesN r, u.n + 1, max u.d (prt r.p).length, max u.l r.p.length, r.id :: u.S⟩ := by
    show stepU u r = _
    unfold stepU
    rw [if_neg hp, if_neg hS]
  rw [e]
  exact fold_new B u _ (bytesN r) r.id rfl rfl (by show u.d ≤ max _ _; omega) (by show u.l ≤ max _ _; omega) (fun i => by show i ∈ r.id :: u.S ↔ _; rw [List.mem_cons]) (fun q hq => h q (List.mem_append.2 (.inr hq)))

/-- with many rows of new numbers more, at one place -/
theorem ofU_many : ∀ (N A B : List Rw), (∀ q ∈ N, q.p ≠ []) → (∀ q ∈ N, q.kind ≠ 1) → (N.Pairwise fun a b => a.id ≠ b.id) → (∀ q ∈ A ++ B, ∀ r ∈ N, q.id ≠ r.id) → (ofU (A ++ N ++ B)).b = (ofU (A ++ B)).b ∧ (ofU (A ++ B)).n ≤ (ofU (A ++ N ++ B)).n ∧ (ofU (A ++ B)).d ≤ (ofU (A ++ N ++ B)).d ∧ (ofU (A ++ B)).l ≤ (ofU (A ++ N ++ B)).l
  | [], A, B, _, _, _, _ => by simp
  | r :: N, A, B, h1, h2, h3, h4 => by
    obtain ⟨p1, p2⟩ := List.pairwise_cons.1 h3
    have k := ofU_many N (A ++ [r]) B (fun q hq => h1 q (List.mem_cons_of_mem _ hq)) (fun q hq => h2 q (List.mem_cons_of_mem _ hq)) p2 (by
      intro q hq s hs
      rcases List.mem_append.1 hq with hq | hq
      · rcases List.mem_append.1 hq with hq | hq
        · exact h4 q (List.mem_append.2 (.inl hq)) s (List.mem_cons_of_mem _ hs)
        · rw [List.mem_singleton.1 hq]; exact p1 s hs
      · exact h4 q (List.mem_append.2 (.inr hq)) s (List.mem_cons_of_mem _ hs))
    have m := ofU_ins A B r (h1 r (by simp)) (fun q hq => h4 q hq r (by simp))
    have hb : bytesN r = 0 := by unfold bytesN; rw [if_neg (h2 r (by simp))]
    have e : A ++ (r :: N) ++ B = A ++ [r] ++ N ++ B := by simp
    rw [e]
    exact ⟨by rw [k.1, m.1, hb, Nat.add_zero], by omega, by omega, by omega⟩

theorem mkAll_id {nx : Int} {M : List (List UInt8)} {i : Nat} {r : Rw} (h : (mkAll nx M)[i]? = some r) : r.id = nx + (i : Int) := by
  unfold mkAll at h
  rw [List.getElem?_mapIdx] at h
  cases hx : M.reverse[i]? with
  | none => rw [hx] at h; cases h
  | some x => rw [hx] at h; rw [← Option.some.inj h]

/-- the rows that are made -/
theorem ofU_wp {L : List Rw} {nx : Int} {s : List UInt8} (h : Sd L nx) (hs : Cp s) : (ofU (wpR L nx s)).b = (ofU L).b ∧ (ofU L).n ≤ (ofU (wpR L nx s)).n ∧ (ofU L).d ≤ (ofU (wpR L nx s)).d ∧ (ofU L).l ≤ (ofU (wpR L nx s)).l := by
  unfold wpR
  cases hg : (mdL L s).getLast? with
  | none => exact ⟨rfl, Nat.le_refl _, Nat.le_refl _, Nat.le_refl _⟩
  | some t =>
    have e := List.take_append_drop (ix L t) L
    have k := ofU_many (mkAll nx (mdL L s)) (L.take (ix L t)) (L.drop (ix L t)) (by
      intro q hq
      obtain ⟨i, x, hx, rfl⟩ := (mkAll_get _ _ _).1 hq
      exact (md_cp hs (List.mem_reverse.1 (List.mem_of_getElem? hx))).ne) (by
      intro q hq
      obtain ⟨i, x, hx, rfl⟩ := (mkAll_get _ _ _).1 hq
      show (4 : Int) ≠ 1
      omega) (by
      rw [List.pairwise_iff_getElem]
      intro i j hi hj hij
      rw [mkAll_id (List.getElem?_eq_getElem hi), mkAll_id (List.getElem?_eq_getElem hj)]
      omega) (by
      intro q hq r hr
      rw [e] at hq
      obtain ⟨i, x, hx, rfl⟩ := (mkAll_get _ _ _).1 hr
      have := h.id q hq
      show q.id ≠ nx + (i : Int)
      omega)
    rw [e] at k
    exact k

/-- a row that is laid where none stood -/
theorem ofU_put {L : List Rw} {r : Rw} (hf : fd L r.p = false) (hp : r.p ≠ []) (h : ∀ q ∈ L, q.id ≠ r.id) : (ofU (putL L r)).b = (ofU L).b + bytesN r ∧ (ofU (putL L r)).n = (ofU L).n + 1 ∧ (ofU L).d ≤ (ofU (putL L r)).d ∧ (ofU L).l ≤ (ofU (putL L r)).l := by
  have e : putL L r = L.take (ix L r.p) ++ [r] ++ L.drop (ix L r.p) := by unfold putL; rw [hf]; simp
  have e2 := List.take_append_drop (ix L r.p) L
  rw [e]
  have k := ofU_ins (L.take (ix L r.p)) (L.drop (ix L r.p)) r hp (fun q hq => h q (by rw [e2] at hq; exact hq))
  rw [e2] at k
  exact k

theorem fd_wp {L : List Rw} {nx : Int} {s : List UInt8} (h : Sd L nx) (hs : Cp s) (hf : fd L s = false) : fd (wpR L nx s) s = false := by
  cases hq : fd (wpR L nx s) s with
  | false => rfl
  | true =>
    exfalso
    obtain ⟨r, hr, e⟩ := fd_mem hq
    rcases wpR_mem.1 hr with hr | hr
    · exact not_there h.srt hf r hr e
    · obtain ⟨i, x, hx, rfl⟩ := (mkAll_get _ _ _).1 hr
      have hxm : x ∈ mdL L s := List.mem_reverse.1 (List.mem_of_getElem? hx)
      have h1 := (chain_le _ x (md_chain hxm)).1
      have h2 := up_len hs.ne
      have e3 : x.length = s.length := congrArg List.length e
      omega

/-- with a thing more a tree has no less -/
theorem grows {q : List Rw × Int} {x : Tg} (h : Sd q.1 q.2) (ht : x.t = []) (hf : fd q.1 (jn (cln x.p)) = false) :
    (ofU q.1).b ≤ (ofU (pStep q x).1).b ∧ (ofU q.1).n ≤ (ofU (pStep q x).1).n ∧ (ofU q.1).d ≤ (ofU (pStep q x).1).d ∧ (ofU q.1).l ≤ (ofU (pStep q x).1).l ∧ (ofU (pStep q x).1).b ≤ (ofU q.1).b + 1048576 := by
  have same : (ofU q.1).b ≤ (ofU q.1).b ∧ (ofU q.1).n ≤ (ofU q.1).n ∧ (ofU q.1).d ≤ (ofU q.1).d ∧ (ofU q.1).l ≤ (ofU q.1).l ∧ (ofU q.1).b ≤ (ofU q.1).b + 1048576 := by omega
  unfold pStep
  by_cases c0 : err x.p ≠ 0 ∨ x.z < 0 ∨ x.z > 1048576 ∨ x.p.length > 300
  · rw [if_pos c0]; exact same
  · rw [if_neg c0, if_neg (fun e => e ht)]
    have he : err x.p = 0 := Classical.byContradiction fun e => c0 (.inl e)
    have hcp := cln_cp he
    have hsl := cln_len x.p
    have key : ∀ kd sz : Int, 0 ≤ sz ∧ sz ≤ 1048576 → (ofU q.1).b ≤ (ofU (addP q.1 q.2 (jn (cln x.p)) kd 0 sz false).1).b ∧ (ofU q.1).n ≤ (ofU (addP q.1 q.2 (jn (cln x.p)) kd 0 sz false).1).n ∧ (ofU q.1).d ≤ (ofU (addP q.1 q.2 (jn (cln x.p)) kd 0 sz false).1).d ∧ (ofU q.1).l ≤ (ofU (addP q.1 q.2 (jn (cln x.p)) kd 0 sz false).1).l ∧ (ofU (addP q.1 q.2 (jn (cln x.p)) kd 0 sz false).1).b ≤ (ofU q.1).b + 1048576 := by
      intro kd sz hz
      unfold addP
      by_cases e0 : jn (cln x.p) = []
      · rw [if_pos e0]; exact same
      · have hc : Cp (jn (cln x.p)) := hcp.resolve_left e0
        rw [if_neg e0, hf, if_neg (by simp)]
        by_cases hcl : cls q.1 (jn (cln x.p)) = true
        · rw [if_pos hcl]; exact same
        · have hcl : cls q.1 (jn (cln x.p)) = false := by simpa using hcl
          rw [hcl, if_neg (by simp)]
          have hw := (h.wp hc (by omega) hcl).1
          have k1 := ofU_wp (nx := q.2) h hc
          have k2 := ofU_put (L := wpR q.1 q.2 (jn (cln x.p))) (r := ⟨jn (cln x.p), q.2 + ((mdL q.1 (jn (cln x.p))).length : Int), kd, 0, sz, false⟩) (fd_wp h hc hf) e0 (fun r hr => by
            have := hw.id r hr
            show r.id ≠ q.2 + ((mdL q.1 (jn (cln x.p))).length : Int)
            omega)
          have hb : bytesN ⟨jn (cln x.p), q.2 + ((mdL q.1 (jn (cln x.p))).length : Int), kd, 0, sz, false⟩ ≤ 1048576 := by
            unfold bytesN
            split
            · show sz.toNat ≤ _; omega
            · omega
          refine ⟨?_, ?_, ?_, ?_, ?_⟩ <;> simp only [] <;> omega
    split
    · exact key 1 x.z (by omega)
    · split
      · exact key x.k 0 (by omega)
      · exact same

end Go.Proofs.YtojnniacmmcddaaDoor

namespace Go.Proofs.YtojnniacmmcddaaDoor
open Go.RowKit
open Go.Lib hiding intOf
set_option linter.unusedVariables false
set_option linter.unusedSimpArgs false

set_option maxRecDepth 20000 in
set_option maxHeartbeats 2000000 in
theorem get_w (ad : Option Addr) (cap : Nat) (nx : Int) (L : List Rw) (s : List UInt8) (w : World) (hs : Srt L) (hr : Rs w ad L) (hl : L.length ≤ 1000000) (hp : ∀ r ∈ L, r.p.length ≤ 4611686018427387903) (hsl : s.length ≤ 4611686018427387903) :
    Calls Tryd.prog 14 #[.agg #[.slice ad L.length cap, .int .i64 nx], .string (bs s)] w fun e w' => e = .returned (.tuple #[.agg (atR L s).cs.toArray, .bool (fd L s)]) ∧ Below w.heap.size w w' := by
  have KA : Hid (∀ W, Below w.heap.size w W → Calls Tryd.prog 28 #[.agg #[.slice ad L.length cap, .int .i64 nx], .string (bs s)] W fun e w' => e = .returned (.tuple #[.agg (atR L s).cs.toArray, .bool (fd L s)]) ∧ Below W.heap.size W w') := fun W hb => at_w ad cap nx L s W hs (hr.below hb) hl hp hsl
  have KO : Hid (∀ W, Calls Tryd.prog 39 #[.agg (atR L s).cs.toArray] W fun e w' => e = .returned (.agg (atR L s).cs.toArray) ∧ Below W.heap.size W w') := fun W => own_w (atR L s) W
  generalize fd L s = f at *
  generalize atR L s = r at *
  have H0 := Two.mk0 w #[.slice ad L.length cap, .int .i64 nx] #[.string ⟨#[]⟩, .int .i64 0, .int .i64 0, .int .i64 0, .int .i64 0, .int .i64 0, .int .i64 0, .string ⟨#[]⟩, .string ⟨#[]⟩, .string ⟨#[]⟩, .slice none 0 0, .int .i64 0, .bool false] 26 40
  have hone : Hid (r.cs.toArray.all (·.oneCell') = true) := all_one (cs_one r)
  have si : Hid ((Tryd.prog.info? 40).map (·.size) = some r.cs.toArray.size) := (by show _ = _; rw [List.size_toArray, Rw.cs_length]; kernel_rfl)
  have sj : Hid ((#[.string ⟨#[]⟩, .int .i64 0, .int .i64 0, .int .i64 0, .int .i64 0, .int .i64 0, .int .i64 0, .string ⟨#[]⟩, .string ⟨#[]⟩, .string ⟨#[]⟩, .slice none 0 0, .int .i64 0, .bool false] : Array Value).size = r.cs.toArray.size) := rfl
  generalize r.cs.toArray = C at *
  generalize L.length = n at *
  clear hs hr hl hp hsl
  go_enter Tryd.func14, Tryd.ntmps14
  go_wp2_with (first
    | (go_at_call 28; refine (KA.out _ H0.2.2.1).mono ?_; rintro e w2 ⟨rfl, b2⟩; have H2 : Hid (Two w w2 _ _ _ _) := H0.next b2; clear b2)
    | (go_at_call 39; refine (KO.out _).mono ?_; rintro e w4 ⟨rfl, b4⟩; have H4 : Hid (Two w w4 _ _ _ _) := (Two.next H2.out (below_setRow (below_box w2 _) (Nat.le_refl _) _)).next b4; clear b4)
    | (refine wpList_load_row rfl 40 _ rfl w2.heap.size rfl 40 C _ _ (setRow_heap _ _ _ C _ _ (heap_alloc_new w2 _)) Tryd.underlying40 rfl si.out ?_)
    | (refine wpList_store_row rfl 40 _ _ rfl w2.heap.size C rfl rfl 40 _ (heap_alloc_new w2 _) si.out sj.out hone.out ?_)
    | (refine wpList_store_row rfl 40 _ _ rfl (w.heap.size + 1) C rfl rfl 40 _ H4.out.2.1 si.out sj.out hone.out ?_))
  have hld := run_loadVar_row _ _ _ 40 _ _ _ (setRow_heap _ _ _ C _ _ H4.out.2.1) Tryd.underlying40 rfl si.out
  exact bodyPost_ret (by rw [results_cell_tmp rfl]; simp [asAddr, hld]) rfl ⟨rfl, below_setRow H4.out.2.2.1 (by omega) _⟩

end Go.Proofs.YtojnniacmmcddaaDoor

namespace Go.Proofs.YtojnniacmmcddaaDoor
open Go.RowKit
open Go.Lib hiding intOf
set_option linter.unusedVariables false
set_option linter.unusedSimpArgs false

theorem i59 : ∃ i, Tryd.prog.info? 59 = some i ∧ i.size = 4 ∧ i.bytes = 48 ∧ ∃ z, i.zero = some z ∧ z.cells.size = 4 := by
  have a : (Tryd.prog.info? 59).map (fun i => (i.size, i.bytes)) = some (4, 48) := by kernel_rfl
  have b : ((Tryd.prog.info? 59).bind (fun i => i.zero)).map (fun z => z.cells.size) = some 4 := by kernel_rfl
  cases h : Tryd.prog.info? 59 with
  | none => rw [h] at a; simp at a
  | some i =>
    rw [h] at a b
    simp at a b
    cases hz : i.zero with
    | none => rw [hz] at b; simp at b
    | some z => rw [hz] at b; simp at b; exact ⟨i, rfl, a.1, a.2, z, hz, b⟩

def flatT (X : List Tg) : List Value := X.flatMap Tg.cs
theorem flatT_nil : flatT [] = [] := rfl
theorem flatT_cons (x : Tg) (X : List Tg) : flatT (x :: X) = x.cs ++ flatT X := rfl
theorem flatT_append (A B : List Tg) : flatT (A ++ B) = flatT A ++ flatT B := by simp [flatT]
theorem Tg.cs_length (x : Tg) : x.cs.length = 4 := rfl
theorem flatT_length (X : List Tg) : (flatT X).length = X.length * 4 := by
  induction X with
  | nil => rfl
  | cons x X ih => rw [flatT_cons, List.length_append, ih, Tg.cs_length, List.length_cons]; omega
theorem flatT_get (X : List Tg) (i j : Nat) (x : Tg) (v : Value) (h : X[i]? = some x) (hv : x.cs[j]? = some v) : (flatT X)[i * 4 + j]? = some v := by
  induction X generalizing i with
  | nil => simp at h
  | cons a X ih =>
    have hj : j < 4 := by have := (List.getElem?_eq_some_iff.1 hv).1; rwa [Tg.cs_length] at this
    cases i with
    | zero =>
      simp at h; subst h
      rw [flatT_cons, List.getElem?_append_left (by rw [Tg.cs_length]; omega), Nat.zero_mul, Nat.zero_add]
      exact hv
    | succ i =>
      rw [flatT_cons, List.getElem?_append_right (by rw [Tg.cs_length]; omega), Tg.cs_length]
      rw [show (i + 1) * 4 + j - 4 = i * 4 + j by omega]
      exact ih i (by simpa using h)
theorem flatT_at (X : List Tg) (k : Nat) (v : Value) (h : (flatT X)[k]? = some v) : ∃ x, X[k / 4]? = some x ∧ x.cs[k % 4]? = some v := by
  have hk : k < X.length * 4 := by have := (List.getElem?_eq_some_iff.1 h).1; rwa [flatT_length] at this
  have hl : k / 4 < X.length := by omega
  have hm : k % 4 < (X[k / 4]).cs.length := by rw [Tg.cs_length]; omega
  have e := flatT_get X (k / 4) (k % 4) X[k / 4] _ (List.getElem?_eq_getElem hl) (List.getElem?_eq_getElem hm)
  rw [show k / 4 * 4 + k % 4 = k by omega, h] at e
  exact ⟨X[k / 4], List.getElem?_eq_getElem hl, by rw [List.getElem?_eq_getElem hm]; exact e.symm⟩
theorem flatT_one (X : List Tg) : ∀ v ∈ flatT X, v.oneCell' = true := by
  intro v hv
  obtain ⟨x, _, hx⟩ := List.mem_flatMap.1 hv
  simp only [Tg.cs, List.mem_cons, List.not_mem_nil, or_false] at hx
  rcases hx with rfl | rfl | rfl | rfl <;> rfl

/-- things of one's own -/
def Ot (w : World) (B : Nat) (v : Value) (X : List Tg) : Prop := w.ownsRow B 59 4 v X.length (flatT X)

theorem Ot.below {W W' : World} {B : Nat} {v : Value} {X : List Tg} (h : Ot W B v X) (b : Below W.heap.size W W') : Ot W' B v X := by
  refine ⟨h.1, ?_⟩
  rcases h.2 with ⟨e1, e2⟩ | ⟨g, cap, cur, e1, e2, e3, e4, e5, e6, e7⟩
  · exact .inl ⟨e1, e2⟩
  · exact .inr ⟨g, cap, cur, e1, e2, by rw [b.block g (Array.getElem?_eq_some_iff.1 e3).1]; exact e3, e4, e5, e6, e7⟩

theorem Ot.ts {w : World} {B : Nat} {v : Value} {X : List Tg} (h : Ot w B v X) : ∃ ad c, v = .slice ad X.length c ∧ Ts w ad X := by
  rcases h.2 with ⟨e1, e2⟩ | ⟨g, cap, cur, e1, e2, e3, e4, e5, e6, e7⟩
  · exact ⟨none, 0, by rw [e1, e2], .inl (List.length_eq_zero_iff.1 e2)⟩
  · refine ⟨some ⟨g, 0, none⟩, cap, e1, .inr ⟨g, 0, rfl, (Array.getElem?_eq_some_iff.1 e3).1, fun i x hx j v hv => ?_⟩⟩
    have hf := flatT_get X i j x v hx hv
    rw [Nat.zero_add]
    unfold World.cell?
    simp only [e3]
    rw [← e7, List.getElem?_take] at hf
    split at hf
    · simpa using hf
    · cases hf

/-- append of things to things of one's own -/
theorem wpList_things {W : World} {ops : Array Oper} {rest : List Oper} {o : Oper} {a : Act} {Q : Exit → Act → World → Prop} (hgd : o.guard = none) (s x : Operand)
    (ho : o.op = .call { callee := .builtin .append, args := #[s, x], argTypes := #[50, 50] })
    (B : Nat) (v : Value) (X : List Tg) (hs : a.eval s = v) (hown : Ot W B v X) (hB : B ≤ W.heap.size)
    (ad : Option Addr) (c : Nat) (M : List Tg) (hx : a.eval x = .slice ad M.length c) (hM : Ts W ad M) (hnil : ad = none → c = 0) (hl : X.length + M.length ≤ 1000)
    (h : ∀ v' w', Ot w' B v' (X ++ M) → Below B W w' → (∀ m, m < W.heap.size → v.ownBlock ≠ some m → w'.heap[m]? = W.heap[m]?) → wpList Tryd.prog ops Q rest (a.put o.dst v') w') : wpList Tryd.prog ops Q (o :: rest) a W := by
  obtain ⟨i0, hi0, hi1, hi2, z, hz, hzs⟩ := i59
  cases ad with
  | none =>
    have hc := hnil rfl
    subst hc
    obtain rfl : M = [] := by
      rcases hM with h | ⟨b, o, e, _⟩
      · exact h
      · cases e
    refine wpList_append_own_none hgd s x 50 ho B 59 i0 4 Tryd.underlying50 hi0 _ _ _ hs hown hx ?_
    exact h v W (by rw [List.append_nil]; exact hown) (Below.refl _ _) (fun _ _ _ => rfl)
  | some ad =>
    refine wpList_append_own _ hgd s x 50 ho B 59 i0 z 4 48 Tryd.underlying50 hi0 hz hi1 hi2 hzs (by decide) _ _ _ hs hown ad M.length c (flatT M) hx (flatT_length M) ?_ (flatT_one M) ?_ ?_ hB ?_
    · intro j u hu
      obtain ⟨y, hy1, hy2⟩ := flatT_at M j u hu
      rcases hM with h | ⟨b, o, e, _, h3⟩
      · subst h; simp at hy1
      · cases e
        rw [Addr.add_mid]
        have := h3 (j / 4) y hy1 (j % 4) u hy2
        rw [Nat.add_assoc, show j / 4 * 4 + j % 4 = j by omega] at this
        exact this
    · unfold maxLen; omega
    · omega
    · intro v' w3 hown' hgrow hh
      have b3 : Below B W w3 := (Below.refl _ _).grown hgrow hB (fun k hk => by
        rcases hown.2 with ⟨e1, _⟩ | ⟨g', cp, cur, e1, e2, _⟩
        · subst e1; simp [Value.ownBlock] at hk
        · subst e1; simp [Value.ownBlock] at hk; omega)
      refine h v' w3 ?_ b3 (fun m hm hne => hgrow.block m hm (fun e => hne e.symm))
      unfold Ot
      rw [flatT_append, List.length_append]
      exact hown'

end Go.Proofs.YtojnniacmmcddaaDoor

namespace Go.Proofs.YtojnniacmmcddaaDoor
open Go.RowKit
set_option linter.unusedVariables false
set_option linter.unusedSimpArgs false

/-- how many have not come up -/
def left : List Bool → Nat
  | [] => 0
  | true :: l => left l
  | false :: l => left l + 1

theorem left_set : ∀ (l : List Bool) (i : Nat), l[i]? = some false → left (l.set i true) + 1 = left l
  | [], i, h => by simp at h
  | b :: l, 0, h => by
    have : b = false := by simpa using h
    subst this
    rfl
  | b :: l, i + 1, h => by
    have h' : l[i]? = some false := by simpa using h
    have := left_set l i h'
    cases b
    · show left (l.set i true) + 1 + 1 = left l + 1
      omega
    · exact this

theorem left_ready {md : Region.Mode} {ops : Array Oper} {listed : Array Bool} {i : Nat} (h : i ∈ Region.ready md ops listed) : left (listed.setIfInBounds i true).toList < left listed.toList := by
  have h1 : listed.getD i true = false := (mem_ready.1 h).1
  have h2 : listed.toList[i]? = some false := by
    rcases Nat.lt_or_ge i listed.size with h' | h'
    · simp [h'] at h1
      simp [h', h1]
    · simp [Array.getElem?_eq_none h'] at h1
  have := left_set listed.toList i h2
  rw [Array.toList_setIfInBounds]
  omega

theorem wpAnyH_inv {P : Program} {md : Region.Mode} {ops : Array Oper} {Q : Exit → Act → World → Prop} {S : World → Prop} (I : Array Bool → Act → World → Prop)
    (hs : ∀ listed a w, I listed a w → (Region.ready md ops listed = [] → Q .normal a w) ∧ ∀ i ∈ Region.ready md ops listed, wpOp P ops Q i (fun a' w' => S w' ∧ I (listed.setIfInBounds i true) a' w') a w) :
    ∀ (fuel : Nat) (listed : Array Bool) (a : Act) (w : World), left listed.toList ≤ fuel → I listed a w → wpAnyH P md ops Q S fuel listed a w
  | 0, listed, a, w, hf, hI => by
    have hr : Region.ready md ops listed = [] := by
      cases hx : Region.ready md ops listed with
      | nil => rfl
      | cons i r =>
        have := left_ready (md := md) (ops := ops) (listed := listed) (i := i) (by rw [hx]; simp)
        omega
    exact ⟨hr, (hs listed a w hI).1 hr⟩
  | fuel + 1, listed, a, w, hf, hI => by
    refine ⟨(hs listed a w hI).1, fun i hi => ?_⟩
    exact wpOp_mono (fun a' w' h => ⟨h.1, wpAnyH_inv I hs fuel _ a' w' (by have := left_ready hi; omega) h.2⟩) ((hs listed a w hI).2 i hi)

end Go.Proofs.YtojnniacmmcddaaDoor

namespace Go.Proofs.YtojnniacmmcddaaDoor
open Go.RowKit
set_option linter.unusedVariables false

def ops10 : Array Oper := #[{ dst := some 48, op := Op.load 26 (Operand.tmp 7), type := 26, pos := "law.go:182", after := #[], guard := none },
  { dst := some 49, op := Op.call { callee := Callee.value (Operand.func 20), args := #[Operand.tmp 48], argTypes := #[26] }, type := 54, pos := "law.go:182", after := #[{ on := 0, ground := Ground.data }], guard := none },
  { dst := some 50, op := Op.buildSlice 50 0 #[], type := 50, pos := "law.go:182", after := #[], guard := none },
  { dst := some 51, op := Op.move (Operand.tmp 0), type := 50, pos := "law.go:182", after := #[], guard := none },
  { dst := some 52, op := Op.call { callee := Callee.builtin Builtin.append, args := #[Operand.tmp 50, Operand.tmp 51], argTypes := #[50, 50] }, type := 50, pos := "law.go:182", after := #[{ on := 2, ground := Ground.data }, { on := 3, ground := Ground.data }, { on := 1, ground := Ground.chain }], guard := none },
  { dst := some 53, op := Op.load 59 (Operand.tmp 3), type := 59, pos := "law.go:182", after := #[], guard := none },
  { dst := some 54, op := Op.buildSlice 50 1 #[(0, Operand.tmp 53)], type := 50, pos := "law.go:182", after := #[{ on := 5, ground := Ground.data }], guard := none },
  { dst := some 55, op := Op.call { callee := Callee.builtin Builtin.append, args := #[Operand.tmp 52, Operand.tmp 54], argTypes := #[50, 50] }, type := 50, pos := "law.go:182", after := #[{ on := 4, ground := Ground.data }, { on := 6, ground := Ground.data }, { on := 4, ground := Ground.chain }], guard := none },
  { dst := some 56, op := Op.call { callee := Callee.value (Operand.func 19), args := #[Operand.tmp 55], argTypes := #[50] }, type := 26, pos := "law.go:182", after := #[{ on := 7, ground := Ground.data }, { on := 7, ground := Ground.chain }], guard := none },
  { dst := some 57, op := Op.call { callee := Callee.value (Operand.func 20), args := #[Operand.tmp 56], argTypes := #[26] }, type := 54, pos := "law.go:182", after := #[{ on := 8, ground := Ground.data }, { on := 8, ground := Ground.chain }], guard := none },
  { dst := some 10, op := Op.alloc 54, type := 0, pos := "law.go:182", after := #[], guard := none },
  { dst := some 11, op := Op.alloc 54, type := 0, pos := "law.go:182", after := #[], guard := none },
  { dst := none, op := Op.store 54 (Operand.tmp 10) (Operand.tmp 49), type := 0, pos := "law.go:182", after := #[{ on := 10, ground := Ground.data }, { on := 1, ground := Ground.data }, { on := 9, ground := Ground.chain }, { on := 0, ground := Ground.phase }, { on := 1, ground := Ground.phase }, { on := 2, ground := Ground.textOnly Departure.lateStores }, { on := 3, ground := Ground.textOnly Departure.lateStores }, { on := 4, ground := Ground.textOnly Departure.lateStoresUnsure }, { on := 5, ground := Ground.textOnly Departure.lateStores }, { on := 6, ground := Ground.textOnly Departure.lateStores }, { on := 7, ground := Ground.textOnly Departure.lateStoresUnsure }, { on := 8, ground := Ground.textOnly Departure.lateStoresUnsure }, { on := 9, ground := Ground.textOnly Departure.lateStoresUnsure }, { on := 10, ground := Ground.phase }, { on := 11, ground := Ground.phase }], guard := none },
  { dst := none, op := Op.store 54 (Operand.tmp 11) (Operand.tmp 57), type := 0, pos := "law.go:182", after := #[{ on := 11, ground := Ground.data }, { on := 9, ground := Ground.data }, { on := 12, ground := Ground.chain }, { on := 0, ground := Ground.phase }, { on := 1, ground := Ground.phase }, { on := 2, ground := Ground.phase }, { on := 3, ground := Ground.phase }, { on := 4, ground := Ground.phase }, { on := 5, ground := Ground.phase }, { on := 6, ground := Ground.phase }, { on := 7, ground := Ground.phase }, { on := 8, ground := Ground.phase }, { on := 9, ground := Ground.phase }, { on := 10, ground := Ground.phase }, { on := 11, ground := Ground.phase }, { on := 12, ground := Ground.phase }], guard := none }]

set_option maxRecDepth 100000 in
theorem rdy : ∀ b1 b2 b4 b6 b7 b8 b9 b10 b11 b12 b13 : Bool, Region.ready .any ops10 #[true, b1, b2, true, b4, true, b6, b7, b8, b9, b10, b11, b12, b13] = ([] : List Nat) ++ (if !b1 then [1] else []) ++ (if !b2 then [2] else []) ++ (if !b4 && b2 && b1 then [4] else []) ++ (if !b6 then [6] else []) ++ (if !b7 && b4 && b6 then [7] else []) ++ (if !b8 && b7 then [8] else []) ++ (if !b9 && b8 then [9] else []) ++ (if !b10 then [10] else []) ++ (if !b11 then [11] else []) ++ (if !b12 && b10 && b1 && b9 && b11 then [12] else []) ++ (if !b13 && b11 && b9 && b12 && b1 && b2 && b4 && b6 && b7 && b8 && b10 then [13] else []) := by
  decide +kernel

end Go.Proofs.YtojnniacmmcddaaDoor

