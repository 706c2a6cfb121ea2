/-
  Texts in one: Sa, Sb, Sc, Sd, Se, Sf, Sg, Sh, Si, Sj.
-/
import Derived.Test.YtnmmaedngdibeaaGreatDoorRx
import Derived.Test.YtnmmaedngdibeaaGreatDoorQr
import Derived.Deep.Strs
import Derived.Deep.Matrix
namespace Go.Proofs.YtnmmaedngdibeaaGreatDoor
open Go.RowKit
set_option linter.unusedVariables false
set_option linter.unusedSimpArgs false

/-- a file's blocks -/
def entL (x : ByteArray × List Int) : List Int := hdG x.1 48 420 (x.2.length : Int) ++ x.2 ++ List.replicate ((512 - x.2.length % 512) % 512) 0
/-- a file that fits -/
structure OkE (x : ByteArray × List Int) : Prop where
  txt : H.textsB x.1 ⟨#[]⟩ ⟨#[]⟩ ⟨#[]⟩ ⟨#[]⟩ = true
  ne : 0 < x.1.size
  len : x.2.length ≤ 1500
  allB : H.AllB x.2

theorem numsS (sz : Int) (h0 : 0 ≤ sz) (h1 : sz < 8589934592) : ∀ k, k < 5 → H.numFit (H.numsF 420 0 0 sz 0) k = true := by
  intro k hk
  have := numsM sz h0 h1 k hk
  have hkk : k = 0 ∨ k = 1 ∨ k = 2 ∨ k = 3 ∨ k = 4 := by omega
  rcases hkk with rfl | rfl | rfl | rfl | rfl
  · show H.fitsB 420 8 = true; decide +kernel
  all_goals exact this
theorem first_of {s : ByteArray} (h : H.hasN s = false) (hn : 0 < s.size) : ∃ c r, H.s8 s = c :: r ∧ c ≠ 0 := by
  have hl := H.s8_length s
  cases hs : H.s8 s with
  | nil => rw [hs] at hl; simp at hl; omega
  | cons c r =>
    refine ⟨c, r, rfl, fun hc => ?_⟩
    have hp := H.txt_pad s 0 h
    rw [hs, hc] at hp
    simp [H.txt] at hp
theorem entL_len {x : ByteArray × List Int} (h : OkE x) : (entL x).length % 512 = 0 ∧ (entL x).length ≤ 512 + x.2.length + 511 := by
  have hl := hdG_len (n := x.1) (ty := 48) (md := 420) (sz := (x.2.length : Int)) h.txt (numsS _ (by omega) (by have := h.len; omega))
  unfold entL
  rw [List.length_append, List.length_append, hl, List.length_replicate]
  omega
theorem entL_allB {x : ByteArray × List Int} (h : OkE x) : H.AllB (entL x) := fun y hy => by
  unfold entL at hy
  rcases List.mem_append.1 hy with q | q
  · rcases List.mem_append.1 q with q | q
    · exact hdG_allB (by omega) y q
    · exact h.allB y q
  · rw [List.eq_of_mem_replicate q]; omega

/-- a thing is as the file was -/
def IsE (t : ThE) (x : ByteArray × List Int) : Prop := t.e.path = x.1 ∧ t.e.size = (x.2.length : Int) ∧ t.e.kind = 1 ∧ t.d = x.2
theorem ents_feeds : ∀ (es : List (ByteArray × List Int)) (r : Nat) (bg cl : Int) (a : AcE), (∀ x ∈ es, OkE x) → r % 512 = 0 → a.ov = false → a.op = false →
    ∃ (ps : List (List Int)) (bg2 cl2 : Int) (ts : List ThE), ps.flatten = es.flatMap entL ∧ (Pu.feeds fns0 (stS r bg cl false) ps).1 = stS (r + (es.flatMap entL).length) bg2 cl2 false ∧ Pu.arcs a (Pu.feeds fns0 (stS r bg cl false) ps).2 = some { a with ts := a.ts ++ ts } ∧ ts.length = es.length ∧ ∀ (i : Nat) (h : i < ts.length) (h2 : i < es.length), IsE ts[i] es[i]
  | [], r, bg, cl, a, _, _, _, _ => ⟨[], bg, cl, [], rfl, by simp [Pu.feeds], by simp [Pu.feeds, Pu.arcs], rfl, fun i h _ => by cases h⟩
  | x :: es, r, bg, cl, a, hok, hr, hov, hop => by
    have hx := hok x (List.mem_cons_self)
    have hn := numsS (x.2.length : Int) (by omega) (by have := hx.len; omega)
    obtain ⟨y, hd, ht, hs, hfo, hfu, hu, hg, _⟩ := hdG_dec (n := x.1) (ty := 48) (md := 420) (sz := (x.2.length : Int)) hx.txt hn (by omega) (by omega) (by have := hx.len; omega)
    obtain ⟨e, hm, he, hk, hp⟩ := mk_file ht hfo (by omega) hu hg
    have hb := hdG_blank (n := x.1) (ty := 48) (md := 420) (sz := (x.2.length : Int)) hx.txt hn (first_of (H.texts_nul hx.txt).1 hx.ne)
    have hlen := hdG_len (n := x.1) (ty := 48) (md := 420) (sz := (x.2.length : Int)) hx.txt hn
    have hcl : clsP y.typ = 1 := by rw [ht]; decide
    obtain ⟨f, hf⟩ : ∃ f, f = List.replicate ((512 - x.2.length % 512) % 512) (0 : Int) := ⟨_, rfl⟩
    have hfl : f.length = (512 - x.2.length % 512) % 512 := by rw [hf, List.length_replicate]
    have hent : entL x = hdG x.1 48 420 (x.2.length : Int) ++ x.2 ++ f := by rw [hf]; rfl
    generalize hdG x.1 48 420 (x.2.length : Int) = z at *
    obtain ⟨bg2, k1, k2⟩ := file_feeds (z := z) r x.2.length bg cl hr hlen hb hd hcl hm (by rw [he, hs]; simp) x.2 f rfl hfl a hov hop
    have hel : (entL x).length = 512 + x.2.length + f.length := by rw [hent, List.length_append, List.length_append, hlen]
    obtain ⟨ps, b3, c3, ts, m1, m2, m3, m4, m5⟩ := ents_feeds es (r + (entL x).length) bg2 1 { a with ts := a.ts ++ [(⟨e, x.2, true, r + 512 + x.2.length⟩ : ThE)] } (fun q hq => hok q (List.mem_cons_of_mem _ hq)) (by have := (entL_len hx).1; omega) hov hop
    obtain ⟨a1, a2⟩ := feeds_app (stS r bg cl false) [z, x.2, f] ps
    have hrr : r + 512 + x.2.length + f.length = r + (entL x).length := by omega
    rw [hrr] at k1
    rw [k1] at a1 a2
    refine ⟨[z, x.2, f] ++ ps, b3, c3, (⟨e, x.2, true, r + 512 + x.2.length⟩ : ThE) :: ts, ?_, ?_, ?_, by simp [m4], fun i h h2 => ?_⟩
    · rw [List.flatten_append, m1, List.flatMap_cons, hent]
      simp
    · have hle : r + (entL x).length + (es.flatMap entL).length = r + ((x :: es).flatMap entL).length := by rw [List.flatMap_cons, List.length_append]; omega
      rw [a1, m2, hle]
    · rw [a2, Pu.arcs_append, k2]
      show Pu.arcs _ _ = _
      rw [m3]
      simp
    · cases i with
      | zero => exact ⟨hp.trans hfu, he.trans hs, hk, rfl⟩
      | succ i => exact m5 i _ _

/-- the archive of files -/
theorem ents_fin (es : List (ByteArray × List Int)) (hok : ∀ x ∈ es, OkE x) :
    ∃ ts : List ThE, Pu.arch fns0 (es.flatMap entL ++ List.replicate 1024 0) = ⟨ts, false, true, true, 0, 0⟩ ∧ ts.length = es.length ∧ (∀ (i : Nat) (h : i < ts.length) (h2 : i < es.length), IsE ts[i] es[i]) ∧ (Pu.run fns0 (Pu.new fns0) (es.flatMap entL ++ List.replicate 1024 0)).1.pt = 4 ∧ (Pu.run fns0 (Pu.new fns0) (es.flatMap entL ++ List.replicate 1024 0)).1.er = none ∧ (Pu.run fns0 (Pu.new fns0) (es.flatMap entL ++ List.replicate 1024 0)).1.rd = (es.flatMap entL ++ List.replicate 1024 0).length := by
  obtain ⟨ps, bg2, cl2, ts, m1, m2, m3, m4, m5⟩ := ents_feeds es 0 0 0 Pu.Ac.nil hok (by omega) rfl rfl
  obtain ⟨z0, hz0⟩ : ∃ z0, z0 = List.replicate 512 (0 : Int) := ⟨_, rfl⟩
  have hl0 : z0.length = 512 := by rw [hz0]; exact List.length_replicate
  have hb0 : H.blankB z0 = true := by rw [hz0]; exact blank_rep 512
  have hz1 : List.replicate 1024 (0 : Int) = z0 ++ z0 := by rw [hz0, List.replicate_append_replicate]
  rw [hz1]
  clear hz0 hz1
  obtain ⟨n1, n2, n3, n4⟩ := end_feeds (0 + (es.flatMap entL).length) bg2 cl2 { (Pu.Ac.nil : AcE) with ts := (Pu.Ac.nil : AcE).ts ++ ts } rfl z0 hl0 hb0
  have hnew : Pu.new fns0 = stS 0 0 0 false := rfl
  obtain ⟨a1, a2⟩ := feeds_app (Pu.new fns0) ps [z0, z0]
  rw [hnew] at a1 a2
  rw [m2] at a1 a2
  have ha : Pu.arcs (Pu.Ac.nil : AcE) (Pu.feeds fns0 (Pu.new fns0) (ps ++ [z0, z0])).2 = some ⟨ts, false, true, true, 0, 0⟩ := by
    rw [hnew, a2, Pu.arcs_append, m3]
    exact n1
  obtain ⟨r1, r2⟩ := arch_of ha
  have hfl : (ps ++ [z0, z0]).flatten = es.flatMap entL ++ (z0 ++ z0) := by
    rw [List.flatten_append, m1]
    simp
  rw [hfl] at r1 r2
  rw [hnew, a1] at r2
  refine ⟨ts, r1, m4, m5, ?_, ?_, ?_⟩
  · rw [hnew, r2]; exact n2
  · rw [hnew, r2]; exact n3
  · rw [hnew, r2, n4, List.length_append, List.length_append, hl0]; omega
end Go.Proofs.YtnmmaedngdibeaaGreatDoor

namespace Go.Proofs.YtnmmaedngdibeaaGreatDoor
open Go.RowKit
set_option linter.unusedVariables false
set_option linter.unusedSimpArgs false

/-- the bytes of the last thing -/
def lastD (a : AcE) : List Int := match a.ts.getLast? with | some t => t.d | none => []
theorem lastD_snoc {a : AcE} {l : List ThE} {t : ThE} (h : a.ts = l ++ [t]) : lastD a = t.d := by unfold lastD; rw [h]; simp
/-- an archive of these files -/
structure Ar (A : AcE) (es : List (ByteArray × List Int)) : Prop where
  len : A.ts.length = es.length
  ise : ∀ (i : Nat) (h : i < A.ts.length) (h2 : i < es.length), IsE A.ts[i] es[i]
  dn : A.dn = true

/-- what the law asks of an event -/
def Told (a b : AcE) (es : List (ByteArray × List Int)) : EvE → Prop
  | .bgn y p => b.ts.length = a.ts.length + 1 ∧ lastD b = [] ∧ ∃ h : a.ts.length < es.length, y.path = (es[a.ts.length]).1 ∧ y.size = ((es[a.ts.length]).2.length : Int) ∧ y.kind = 1
  | .dat d p => b.ts.length = a.ts.length ∧ lastD b = lastD a ++ d
  | .fin p => b.ts.length = a.ts.length ∧ lastD b = lastD a ∧ 0 < a.ts.length ∧ ∃ h : a.ts.length - 1 < es.length, lastD a = (es[a.ts.length - 1]).2
  | .don p => b.ts.length = a.ts.length ∧ lastD b = lastD a
  | .bad c q p => False

theorem begins_at {b A : AcE} (h : Pu.Begins b A) {l : List ThE} {t : ThE} (ht : b.ts = l ++ [t]) : ∃ h2 : l.length < A.ts.length, t.e = A.ts[l.length].e ∧ (t.wh = true → t = A.ts[l.length]) := by
  obtain ⟨u, h1, h2, _, h4⟩ := h.ts l.length t (by rw [ht]; simp)
  obtain ⟨h5, h6⟩ := List.getElem?_eq_some_iff.1 h1
  exact ⟨h5, by rw [h6]; exact h2, by rw [h6]; exact h4⟩
theorem ev_told {A a b : AcE} {e : EvE} {rest : List EvE} {es : List (ByteArray × List Int)} (hA : Ar A es) (h : Pu.arc a e = some b) (hr : Pu.arcs b rest = some A) (hh : Pu.Half a) (hdn : a.dn = true → a.ov = true) : Told a b es e := by
  obtain ⟨_, hhb⟩ := Pu.arc_begins h hh
  obtain ⟨hbg, _⟩ := Pu.arcs_begins rest hr hhb
  have hAl := hA.len
  cases e with
  | bgn y p =>
    simp only [Pu.arc] at h
    split at h
    · cases h
    · split at h
      · cases h
      · cases h
        obtain ⟨k1, k2, _⟩ := begins_at hbg (l := a.ts) (t := ⟨y, [], false, p⟩) rfl
        obtain ⟨i1, i2, i3, i4⟩ := hA.ise a.ts.length k1 (by omega)
        have k2' : y = A.ts[a.ts.length].e := k2
        refine ⟨by simp, lastD_snoc (l := a.ts) (t := ⟨y, [], false, p⟩) rfl, by omega, ?_, ?_, ?_⟩
        · rw [k2']; exact i1
        · rw [k2']; exact i2
        · rw [k2']; exact i3
  | dat d p =>
    simp only [Pu.arc] at h
    split at h
    · cases h
    · split at h
      · cases h
      · rename_i ho
        cases h
        have hop : a.op = true := by cases hx : a.op with | true => rfl | false => exact absurd (.inl hx) ho
        obtain ⟨l, t, e1, e2⟩ := hh hop
        have e3 : Pu.chLast (fun t : ThE => { t with d := t.d ++ d, p := p }) a.ts = l ++ [{ t with d := t.d ++ d, p := p }] := by rw [e1, Pu.chLast_snoc]
        refine ⟨?_, ?_⟩
        · show (Pu.chLast _ a.ts).length = _
          rw [e3, e1]; simp
        · rw [lastD_snoc (a := a) e1, lastD_snoc (l := l) e3]
  | fin p =>
    simp only [Pu.arc] at h
    split at h
    · cases h
    · split at h
      · cases h
      · rename_i ho
        cases h
        have hop : a.op = true := by cases hx : a.op with | true => rfl | false => exact absurd hx ho
        obtain ⟨l, t, e1, e2⟩ := hh hop
        have e3 : Pu.chLast (fun t : ThE => { t with wh := true, p := p }) a.ts = l ++ [{ t with wh := true, p := p }] := by rw [e1, Pu.chLast_snoc]
        obtain ⟨k1, k2, k3⟩ := begins_at hbg (l := l) e3
        have k4 := k3 rfl
        have hl : a.ts.length = l.length + 1 := by rw [e1]; simp
        obtain ⟨i1, i2, i3, i4⟩ := hA.ise l.length k1 (by omega)
        rw [← k4] at i4
        refine ⟨?_, ?_, by omega, by omega, ?_⟩
        · show (Pu.chLast _ a.ts).length = _
          rw [e3, e1]; simp
        · rw [lastD_snoc (a := a) e1, lastD_snoc (l := l) e3]
        · rw [lastD_snoc (a := a) e1]
          have hm : a.ts.length - 1 = l.length := by omega
          simp only [hm]
          exact i4
  | don p =>
    simp only [Pu.arc] at h
    split at h
    · cases h
    · cases h
      exact ⟨rfl, rfl⟩
  | bad c q p =>
    simp only [Pu.arc] at h
    split at h
    · cases h
    · rename_i ho
      cases h
      have h2 := hA.dn
      cases rest with
      | nil =>
        cases hr
        exact ho (hdn h2)
      | cons e r =>
        exfalso
        simp only [Pu.arcs] at hr
        cases e <;> simp [Pu.arc] at hr
theorem last_len {b A : AcE} {es : List (ByteArray × List Int)} (h : Pu.Begins b A) (hA : Ar A es) (hs : ∀ i (h : i < es.length), es[i].2.length ≤ 1500) : (lastD b).length ≤ 1500 := by
  rcases List.eq_nil_or_concat b.ts with h0 | ⟨l, t, h0⟩
  · unfold lastD; rw [h0]; simp
  · have h0' : b.ts = l ++ [t] := by rw [h0]; simp
    rw [lastD_snoc h0']
    obtain ⟨u, h1, _, ⟨m, h3⟩, _⟩ := h.ts l.length t (by rw [h0']; simp)
    obtain ⟨h5, h6⟩ := List.getElem?_eq_some_iff.1 h1
    have hAl := hA.len
    obtain ⟨_, _, _, i4⟩ := hA.ise l.length h5 (by omega)
    rw [h6] at i4
    have := hs l.length (by omega)
    rw [← i4, h3, List.length_append] at this
    omega
theorem strB_size (b : List Int) : (strB b).size = b.length := by simp [strB, ByteArray.size, U8]
theorem arc_dnov {a b : AcE} {e : EvE} (h : Pu.arc a e = some b) (k : a.dn = true → a.ov = true) : b.dn = true → b.ov = true := arc_dn h k
end Go.Proofs.YtnmmaedngdibeaaGreatDoor

namespace Go.Proofs.YtnmmaedngdibeaaGreatDoor
open Go.RowKit
set_option linter.unusedVariables false
set_option linter.unusedSimpArgs false

set_option maxRecDepth 100000 in
set_option maxHeartbeats 8000000 in
theorem sev_w (W1 Wb : World) (v : Value) (A0 aE A : AcE) (R : List EvE) (es : List (ByteArray × List Int)) (L : List (EvE × Value)) (M : Nat → Prop) (Q : Exit → Act → World → Prop) (hAr : Ar A es) (hE : EvS W1 v L) (hD : ∀ x ∈ L, DatOk Wb W1 M x)
    (hH : Pu.Half A0) (hdo : A0.dn = true → A0.ov = true) (hA : Pu.arcs A0 (L.map (·.1)) = some aE) (hR : Pu.arcs aE R = some A) (hAB : ∀ b (p : Nat) (x : EvE × Value), x.1 = .dat b p → x ∈ L → H.AllB b) (hL5 : L.length ≤ 500000) (hes : es.length ≤ 10) (hA2 : ∀ i (h : i < es.length), H.AllB es[i].2) (hS2 : ∀ i (h : i < es.length), es[i].2.length ≤ 1500) (a0 a1 : Option Addr) (c0 c1 : Nat)
    (HNm : Hid (∀ i (h : i < es.length), ∃ B o, a0 = some ⟨B, o, none⟩ ∧ ∀ W, Below W1.heap.size W1 W → W.cell? ⟨B, o + i, none⟩ = some (.string es[i].1)))
    (HDm : Hid (∀ i (h : i < es.length), ∃ B o da dc, a1 = some ⟨B, o, none⟩ ∧ ∀ W, Below W1.heap.size W1 W → W.cell? ⟨B, o + i, none⟩ = some (.slice da es[i].2.length dc) ∧ RIn .u8 W (.slice da es[i].2.length dc) es[i].2))
    (s2 s3 s4 s5 s6 s7 s8 s9 s10 s11 s12 s13 s14 s17 s18 s19 s20 s21 s22 s23 s24 s25 s26 s27 s28 s29 s30 s31 s32 s33 s34 s35 s36 s37 s38 s39 s40 s41 s42 s43 s44 s45 s46 s47 s48 s49 s50 s51 s52 s53 s54 s55 s56 s57 s58 s59 s60 s61 s62 s63 s64 s65 s66 s67 s68 s69 s70 s71 s72 s73 s74 s75 s76 s77 s78 s79 s80 s81 s82 s83 s84 s85 s86 s87 s88 s89 s90 s91 s92 s93 s94 s95 s96 s97 s98 s99 s100 s101 s102 s103 s104 s105 s106 s107 s108 s109 s110 s111 s112 s113 s114 s115 s116 s117 s118 s119 s120 s121 s122 s123 s124 s128 s129 s130 s131 s132 s133 s134 s135 s136 s137 s138 s139 s140 s141 s142 s143 s144 s145 s146 s147 s148 s149 s150 s151 s152 s153 s154 s155 s156 s157 s158 s159 s160 s161 s162 s163 s164 s165 s166 s167 s168 s169 s170 s171 s172 s173 s174 s175 s176 s177 s178 s179 s180 s181 s182 s183 s184 s185 s186 s187 s188 s189 s190 s191 s192 s193 s194 s195 s196 s197 s198 s199 s200 s201 s202 s203 s204 s205 s206 s207 s208 s209 s210 s211 : Value)
    (HQ : Hid (∀ (r6 r20 r127 r128 r129 r130 r131 r132 r133 r134 r135 r136 r137 r138 r139 r140 r141 r142 r143 r144 r145 r146 r147 r148 r149 r150 r151 r152 r153 r154 r155 r156 r157 r158 r159 r160 r161 r162 r163 r164 r165 r166 r167 r168 r169 r170 r171 r172 r173 r174 r175 r176 r177 r178 r179 r180 r181 r182 r183 r184 r185 r186 r187 r188 r189 r190 : Value) (W : World), Below W1.heap.size W1 W → Q .normal { tmps := #[.slice a0 es.length c0, .slice a1 es.length c1, s2, s3, s4, s5, r6, s7, s8, s9, s10, s11, s12, s13, s14, .int .i64 ((aE.ts.length : Int) - 1), .string (strB (lastD aE)), s17, s18, s19, r20, s21, s22, s23, s24, s25, s26, s27, s28, s29, s30, s31, s32, s33, s34, s35, s36, s37, s38, s39, s40, s41, s42, s43, s44, s45, s46, s47, s48, s49, s50, s51, s52, s53, s54, s55, s56, s57, s58, s59, s60, s61, s62, s63, s64, s65, s66, s67, s68, s69, s70, s71, s72, s73, s74, s75, s76, s77, s78, s79, s80, s81, s82, s83, s84, s85, s86, s87, s88, s89, s90, s91, s92, s93, s94, s95, s96, s97, s98, s99, s100, s101, s102, s103, s104, s105, s106, s107, s108, s109, s110, s111, s112, s113, s114, s115, s116, s117, s118, s119, s120, s121, s122, s123, s124, v, .int .i64 (L.length : Int), r127, r128, r129, r130, r131, r132, r133, r134, r135, r136, r137, r138, r139, r140, r141, r142, r143, r144, r145, r146, r147, r148, r149, r150, r151, r152, r153, r154, r155, r156, r157, r158, r159, r160, r161, r162, r163, r164, r165, r166, r167, r168, r169, r170, r171, r172, r173, r174, r175, r176, r177, r178, r179, r180, r181, r182, r183, r184, r185, r186, r187, r188, r189, r190, s191, s192, s193, s194, s195, s196, s197, s198, s199, s200, s201, s202, s203, s204, s205, s206, s207, s208, s209, s210, s211], defers := [] } W)) :
    Code.wp Tryz.prog ((Tryz.f9.body.bind (blkAt 4)).getD .skip) Q { tmps := #[.slice a0 es.length c0, .slice a1 es.length c1, s2, s3, s4, s5, s6, s7, s8, s9, s10, s11, s12, s13, s14, .int .i64 ((A0.ts.length : Int) - 1), .string (strB (lastD A0)), s17, s18, s19, s20, s21, s22, s23, s24, s25, s26, s27, s28, s29, s30, s31, s32, s33, s34, s35, s36, s37, s38, s39, s40, s41, s42, s43, s44, s45, s46, s47, s48, s49, s50, s51, s52, s53, s54, s55, s56, s57, s58, s59, s60, s61, s62, s63, s64, s65, s66, s67, s68, s69, s70, s71, s72, s73, s74, s75, s76, s77, s78, s79, s80, s81, s82, s83, s84, s85, s86, s87, s88, s89, s90, s91, s92, s93, s94, s95, s96, s97, s98, s99, s100, s101, s102, s103, s104, s105, s106, s107, s108, s109, s110, s111, s112, s113, s114, s115, s116, s117, s118, s119, s120, s121, s122, s123, s124, v, .int .i64 (L.length : Int), .int .i64 0, s128, s129, s130, s131, s132, s133, s134, s135, s136, s137, s138, s139, s140, s141, s142, s143, s144, s145, s146, s147, s148, s149, s150, s151, s152, s153, s154, s155, s156, s157, s158, s159, s160, s161, s162, s163, s164, s165, s166, s167, s168, s169, s170, s171, s172, s173, s174, s175, s176, s177, s178, s179, s180, s181, s182, s183, s184, s185, s186, s187, s188, s189, s190, s191, s192, s193, s194, s195, s196, s197, s198, s199, s200, s201, s202, s203, s204, s205, s206, s207, s208, s209, s210, s211], defers := [] } W1 := by
  conv => arg 2; whnf
  obtain ⟨ta, tc, rfl, _, _, _⟩ := own_sl hE
  have HA0 : Hid (Pu.arcs A0 ((L.map (·.1)).drop 0) = some aE) := hA
  have HE : Hid (EvS W1 (.slice ta L.length tc) L) := hE
  have HD : Hid _ := hD
  have HAB : Hid _ := hAB
  have HAr : Hid (Ar A es) := hAr
  have HR : Hid (Pu.arcs aE R = some A) := hR
  have HA2 : Hid (∀ i (h : i < es.length), H.AllB es[i].2) := hA2
  have HS2 : Hid (∀ i (h : i < es.length), es[i].2.length ≤ 1500) := hS2
  have hsiE := sizeEv
  have HB0 : Hid (Below W1.heap.size W1 W1) := Below.refl _ _
  clear hA hE hD hAB hAr hR hA2 hS2
  go_wp2_with fail
  go_loopg [15, 16, 127] L.length (fun gk t15 t16 t127 W => ∃ (Wn : World) (i : Nat) (a : AcE), Wn = W ∧ i ≤ L.length ∧ L.length - i ≤ gk ∧ t127 = .int .i64 (i : Int) ∧ t15 = .int .i64 ((a.ts.length : Int) - 1) ∧ t16 = .string (strB (lastD a)) ∧ Hid (Pu.arcs a ((L.map (·.1)).drop i) = some aE) ∧ Hid (Pu.Half a) ∧ Hid (a.dn = true → a.ov = true) ∧ Hid (Below W1.heap.size W1 W))
  case atStart => exact ⟨_, 0, A0, rfl, Nat.zero_le _, by omega, rfl, rfl, rfl, HA0, hH, hdo, HB0⟩
  case round =>
    obtain ⟨W, i, a, rfl, hi0, hgk, rfl, rfl, rfl, hAr, hHf, hDo, hBW⟩ := hrel
    clear HA0 HB0
    by_cases hlt : i < L.length
    · have hAr' := hAr.out
      rw [List.drop_eq_getElem_cons (by simpa using hlt)] at hAr'
      simp only [List.getElem_map, Pu.arcs] at hAr'
      have hxm : L[i] ∈ L := List.getElem_mem hlt
      have hDx := HD.out _ hxm
      have hABx := fun b p h => HAB.out b p _ h hxm
      rcases id HE.out.2 with ⟨e1, e2⟩ | ⟨GE, cE, curE, e1, eB, e3, e4, e5, e6, e7⟩
      · omega
      cases e1
      have hcell : ∀ j u, (evCells L[i].1 L[i].2)[j]? = some u → W.cell? ⟨GE, i * 14 + j, none⟩ = some u := fun j u hj => by
        have hc := HE.out.cells (g := GE) rfl (i * 14 + j) u (ev_at L i hlt j u hj)
        rw [add_at, Nat.zero_add] at hc
        exact (hBW.out.cell (p := ⟨GE, _, none⟩) (lt_of_heap e3)).trans hc
      clear e3 e4 e5 e6 e7 eB hxm HD HAB HE
      generalize L[i] = x at *
      obtain ⟨xe, xv⟩ := x
      obtain ⟨b, hb⟩ : ∃ b, Pu.arc a xe = some b := by
        cases h : Pu.arc a xe with
        | none => rw [h] at hAr'; cases hAr'
        | some b => exact ⟨b, rfl⟩
      rw [hb] at hAr'
      have hbr : Pu.arcs b ((L.map (·.1)).drop (i + 1)) = some aE := hAr'
      have hrest : Pu.arcs b ((L.map (·.1)).drop (i + 1) ++ R) = some A := by rw [Pu.arcs_append, hbr]; exact HR.out
      have htold := ev_told HAr.out hb hrest hHf.out hDo.out
      have hHb := (Pu.arc_begins hb hHf.out).2
      have hDb := arc_dnov hb hDo.out
      have hbl : b.ts.length ≤ es.length := by rw [← HAr.out.len]; exact ((Pu.arcs_begins _ hrest hHb).1).len
      have hbD := last_len ((Pu.arcs_begins _ hrest hHb).1) HAr.out HS2.out
      have HBR : Hid (Pu.arcs b ((L.map (·.1)).drop (i + 1)) = some aE) := hbr
      have HHB : Hid (Pu.Half b) := hHb
      have HDB : Hid (b.dn = true → b.ov = true) := hDb
      have hlt1 : (i : Int) < (L.length : Int) := by omega
      clear hAr' hbr hrest hHb hDb hAr hHf hDo HAr HR
      cases xe with
      | bgn y p =>
        have hc : W.rangeAt GE (i * 14) [.int .i64 1, .string y.path, .string y.link, .int .i64 y.kind, .int .i64 y.mode, .int .i64 y.uid, .int .i64 y.gid, .int .i64 y.mtime, .int .i64 y.size, .string y.user, .string y.group, .slice none 0 0, .nilIface, .int .i64 (p : Int)] := fun j u hj => hcell j u (by simpa [evCells, E.En.cells] using hj)
        obtain ⟨t1, t2, t3, t4, t5, t6⟩ := htold
        obtain ⟨NB, no, hn1, hn2⟩ := HNm.out _ t3
        obtain ⟨DB, dd, da, dc, hd1, hd2⟩ := HDm.out _ t3
        subst hn1 hd1
        have HB1 : Below W1.heap.size W1 (W.alloc (.cells #[.int .i64 1, .string y.path, .string y.link, .int .i64 y.kind, .int .i64 y.mode, .int .i64 y.uid, .int .i64 y.gid, .int .i64 y.mtime, .int .i64 y.size, .string y.user, .string y.group, .slice none 0 0, .nilIface, .int .i64 (p : Int)] 44)) := hBW.out.alloc hBW.out.size _
        have k1 := hn2 _ HB1
        have k2 := (hd2 _ HB1).1
        have y0 : ∀ k v, (#[.int .i64 1, .string y.path, .string y.link, .int .i64 y.kind, .int .i64 y.mode, .int .i64 y.uid, .int .i64 y.gid, .int .i64 y.mtime, .int .i64 y.size, .string y.user, .string y.group, .slice none 0 0, .nilIface, .int .i64 (p : Int)] : Array Value)[k]? = some v → (W.alloc (.cells #[.int .i64 1, .string y.path, .string y.link, .int .i64 y.kind, .int .i64 y.mode, .int .i64 y.uid, .int .i64 y.gid, .int .i64 y.mtime, .int .i64 y.size, .string y.user, .string y.group, .slice none 0 0, .nilIface, .int .i64 (p : Int)] 44)).cell? ⟨W.heap.size, k, none⟩ = some v := fun k v h => H.new_cell W _ _ k v h
        have y1 := (y0 1 _ rfl).trans (congrArg (fun s => some (Value.string s)) t4)
        have y3 := (y0 3 _ rfl).trans (congrArg (fun s => some (Value.int .i64 s)) t6)
        have y8 := (y0 8 _ rfl).trans (congrArg (fun s => some (Value.int .i64 s)) t5)
        have HB1' : Hid _ := HB1
        have HT1 : Hid _ := t1
        have HT2 : Hid _ := t2
        have hk3 : (a.ts.length : Int) < (es.length : Int) := by omega
        have hk4 : (es.length : Int) ≤ 10 := by omega
        have hk5 : ¬ (es.length : Int) ≤ (a.ts.length : Int) := by omega
        clear hbD HS2 hcell hDx hABx hb t1 t2 t4 t5 t6 HQ HNm HDm HA2 y0 HB1 hn2 hd2
        go_upto_region 30 with (refine wpList_load_mid rfl 44 _ rfl GE _ rfl [.int .i64 1, .string y.path, .string y.link, .int .i64 y.kind, .int .i64 y.mode, .int .i64 y.uid, .int .i64 y.gid, .int .i64 y.mtime, .int .i64 y.size, .string y.user, .string y.group, .slice none 0 0, .nilIface, .int .i64 (p : Int)] _ hc Tryz.underlying44 rfl hsiE ?_)
        generalize World.alloc _ _ = W6 at *
        generalize W.heap.size = q1 at *
        generalize es[a.ts.length].fst = nm at *
        generalize es[a.ts.length].snd.length = dl at *
        refine wp_region_noPanic ?_
        refine wp_region_held_drew (S := (fun W' : World => W' = W6.drew)) (by kernel_rfl) rfl (fun hHeld => ?_)
        refine wpAnyH_take (i := 0) (oi := { dst := some 137, op := Op.move (Operand.tmp 15), type := 3, pos := "top07.go:38", after := #[], guard := none }) (v := ?_) rfl (by kernel_rfl) (by kernel_rfl) (by kernel_rfl) (fun _ _ _ h => h) (Or.inl ⟨by rfl, ?_⟩) (by assumption) ?_
        rotate_left 1
        · (intro W hSw; subst hSw; go_simp; try with_reducible rfl)
        (try simp only [Act.put, List.setIfInBounds_toArray, List.set_cons_zero, List.set_cons_succ])
        refine wpAnyH_take (i := 1) (oi := { dst := some 138, op := Op.move (Operand.tmp 0), type := 63, pos := "top07.go:38", after := #[], guard := none }) (v := ?_) rfl (by kernel_rfl) (by kernel_rfl) (by kernel_rfl) (fun _ _ _ h => h) (Or.inl ⟨by rfl, ?_⟩) (by assumption) ?_
        rotate_left 1
        · (intro W hSw; subst hSw; go_simp; try with_reducible rfl)
        (try simp only [Act.put, List.setIfInBounds_toArray, List.set_cons_zero, List.set_cons_succ])
        refine wpAnyH_take (i := 2) (oi := { dst := some 139, op := Op.call { callee := Callee.builtin Builtin.len, args := #[Operand.tmp 138], argTypes := #[63] }, type := 3, pos := "top07.go:38", after := #[{ on := 1, ground := Ground.data }], guard := none }) (v := ?_) rfl (by kernel_rfl) (by kernel_rfl) (by kernel_rfl) (fun _ _ _ h => h) (Or.inl ⟨by rfl, ?_⟩) (by assumption) ?_
        rotate_left 1
        · (intro W hSw; subst hSw; go_simp; try with_reducible rfl)
        (try simp only [Act.put, List.setIfInBounds_toArray, List.set_cons_zero, List.set_cons_succ])
        refine wpAnyH_take (i := 3) (oi := { dst := some 140, op := Op.binOp BinOp.geq 3 (Operand.tmp 137) (Operand.tmp 139) 3, type := 4, pos := "top07.go:38", after := #[{ on := 0, ground := Ground.data }, { on := 2, ground := Ground.data }], guard := none }) (v := ?_) rfl (by kernel_rfl) (by kernel_rfl) (by kernel_rfl) (fun _ _ _ h => h) (Or.inl ⟨by rfl, ?_⟩) (by assumption) ?_
        rotate_left 1
        · (intro W hSw; subst hSw; go_simp; try with_reducible rfl)
        (try simp only [Act.put, List.setIfInBounds_toArray, List.set_cons_zero, List.set_cons_succ])
        refine wpAnyH_take (i := 4) (oi := { dst := some 141, op := Op.move (Operand.tmp 140), type := 4, pos := "top07.go:38", after := #[{ on := 3, ground := Ground.data }], guard := none }) (v := ?_) rfl (by kernel_rfl) (by kernel_rfl) (by kernel_rfl) (fun _ _ _ h => h) (Or.inl ⟨by rfl, ?_⟩) (by assumption) ?_
        rotate_left 1
        · (intro W hSw; subst hSw; go_simp; try with_reducible rfl)
        (try simp only [Act.put, List.setIfInBounds_toArray, List.set_cons_zero, List.set_cons_succ])
        refine wpAnyH_take (i := 5) (oi := { dst := some 142, op := Op.fieldAddr 44 (Operand.tmp 20) 1, type := 0, pos := "top07.go:38", after := #[{ on := 4, ground := Ground.guard }], guard := some (4, false) }) (v := ?_) rfl (by kernel_rfl) (by kernel_rfl) (by kernel_rfl) (fun _ _ _ h => h) (Or.inl ⟨by rfl, ?_⟩) (by assumption) ?_
        rotate_left 1
        · (intro W hSw; subst hSw; go_simp; try with_reducible rfl)
        (try simp only [Act.put, List.setIfInBounds_toArray, List.set_cons_zero, List.set_cons_succ])
        refine wpAnyH_take (i := 6) (oi := { dst := some 143, op := Op.fieldAddr 33 (Operand.tmp 142) 0, type := 0, pos := "top07.go:38", after := #[{ on := 5, ground := Ground.data }, { on := 4, ground := Ground.guard }], guard := some (4, false) }) (v := ?_) rfl (by kernel_rfl) (by kernel_rfl) (by kernel_rfl) (fun _ _ _ h => h) (Or.inl ⟨by rfl, ?_⟩) (by assumption) ?_
        rotate_left 1
        · (intro W hSw; subst hSw; go_simp; try with_reducible rfl)
        (try simp only [Act.put, List.setIfInBounds_toArray, List.set_cons_zero, List.set_cons_succ])
        refine wpAnyH_take (i := 7) (oi := { dst := some 144, op := Op.load 9 (Operand.tmp 143), type := 9, pos := "top07.go:38", after := #[{ on := 6, ground := Ground.data }, { on := 4, ground := Ground.guard }], guard := some (4, false) }) (v := ?_) rfl (by kernel_rfl) (by kernel_rfl) (by kernel_rfl) (fun _ _ _ h => h) (Or.inl ⟨by rfl, ?_⟩) (by assumption) ?_
        rotate_left 1
        · (intro W hSw; subst hSw; go_simp; try with_reducible rfl)
        (try simp only [Act.put, List.setIfInBounds_toArray, List.set_cons_zero, List.set_cons_succ])
        refine wpAnyH_take (i := 8) (oi := { dst := some 145, op := Op.move (Operand.tmp 0), type := 63, pos := "top07.go:38", after := #[{ on := 4, ground := Ground.guard }], guard := some (4, false) }) (v := ?_) rfl (by kernel_rfl) (by kernel_rfl) (by kernel_rfl) (fun _ _ _ h => h) (Or.inl ⟨by rfl, ?_⟩) (by assumption) ?_
        rotate_left 1
        · (intro W hSw; subst hSw; go_simp; try with_reducible rfl)
        (try simp only [Act.put, List.setIfInBounds_toArray, List.set_cons_zero, List.set_cons_succ])
        refine wpAnyH_take (i := 9) (oi := { dst := some 146, op := Op.move (Operand.tmp 15), type := 3, pos := "top07.go:38", after := #[{ on := 4, ground := Ground.guard }], guard := some (4, false) }) (v := ?_) rfl (by kernel_rfl) (by kernel_rfl) (by kernel_rfl) (fun _ _ _ h => h) (Or.inl ⟨by rfl, ?_⟩) (by assumption) ?_
        rotate_left 1
        · (intro W hSw; subst hSw; go_simp; try with_reducible rfl)
        (try simp only [Act.put, List.setIfInBounds_toArray, List.set_cons_zero, List.set_cons_succ])
        refine wpAnyH_take (i := 10) (oi := { dst := some 147, op := Op.indexAddr 63 (Operand.tmp 145) (Operand.tmp 146), type := 0, pos := "top07.go:38", after := #[{ on := 8, ground := Ground.data }, { on := 9, ground := Ground.data }, { on := 4, ground := Ground.guard }], guard := some (4, false) }) (v := ?_) rfl (by kernel_rfl) (by kernel_rfl) (by kernel_rfl) (fun _ _ _ h => h) (Or.inl ⟨by rfl, ?_⟩) (by assumption) ?_
        rotate_left 1
        · (intro W hSw; subst hSw; go_simp; try with_reducible rfl)
        (try simp only [Act.put, List.setIfInBounds_toArray, List.set_cons_zero, List.set_cons_succ])
        refine wpAnyH_take (i := 11) (oi := { dst := some 148, op := Op.load 9 (Operand.tmp 147), type := 9, pos := "top07.go:38", after := #[{ on := 10, ground := Ground.data }, { on := 4, ground := Ground.guard }], guard := some (4, false) }) (v := ?_) rfl (by kernel_rfl) (by kernel_rfl) (by kernel_rfl) (fun _ _ _ h => h) (Or.inl ⟨by rfl, ?_⟩) (by assumption) ?_
        rotate_left 1
        · (intro W hSw; subst hSw; go_simp; try with_reducible rfl)
        (try simp only [Act.put, List.setIfInBounds_toArray, List.set_cons_zero, List.set_cons_succ])
        refine wpAnyH_take (i := 12) (oi := { dst := some 149, op := Op.binOp BinOp.neq 9 (Operand.tmp 144) (Operand.tmp 148) 9, type := 4, pos := "top07.go:38", after := #[{ on := 7, ground := Ground.data }, { on := 11, ground := Ground.data }, { on := 4, ground := Ground.guard }], guard := some (4, false) }) (v := ?_) rfl (by kernel_rfl) (by kernel_rfl) (by kernel_rfl) (fun _ _ _ h => h) (Or.inl ⟨by rfl, ?_⟩) (by assumption) ?_
        rotate_left 1
        · (intro W hSw; subst hSw; go_simp; try with_reducible rfl)
        (try simp only [Act.put, List.setIfInBounds_toArray, List.set_cons_zero, List.set_cons_succ])
        refine wpAnyH_take (i := 13) (oi := { dst := some 150, op := Op.pick (Operand.tmp 141) (Operand.const (Value.bool true)) (Operand.tmp 149), type := 4, pos := "top07.go:38", after := #[{ on := 4, ground := Ground.data }, { on := 12, ground := Ground.data }], guard := none }) (v := ?_) rfl (by kernel_rfl) (by kernel_rfl) (by kernel_rfl) (fun _ _ _ h => h) (Or.inl ⟨by rfl, ?_⟩) (by assumption) ?_
        rotate_left 1
        · (intro W hSw; subst hSw; go_simp; try with_reducible rfl)
        (try simp only [Act.put, List.setIfInBounds_toArray, List.set_cons_zero, List.set_cons_succ])
        refine wpAnyH_take (i := 14) (oi := { dst := some 151, op := Op.move (Operand.tmp 150), type := 4, pos := "top07.go:38", after := #[{ on := 13, ground := Ground.data }, { on := 4, ground := Ground.chain }], guard := none }) (v := ?_) rfl (by kernel_rfl) (by kernel_rfl) (by kernel_rfl) (fun _ _ _ h => h) (Or.inl ⟨by rfl, ?_⟩) (by assumption) ?_
        rotate_left 1
        · (intro W hSw; subst hSw; go_simp; try with_reducible rfl)
        (try simp only [Act.put, List.setIfInBounds_toArray, List.set_cons_zero, List.set_cons_succ])
        refine wpAnyH_take (i := 15) (oi := { dst := some 152, op := Op.fieldAddr 44 (Operand.tmp 20) 1, type := 0, pos := "top07.go:38", after := #[{ on := 14, ground := Ground.guard }], guard := some (14, false) }) (v := ?_) rfl (by kernel_rfl) (by kernel_rfl) (by kernel_rfl) (fun _ _ _ h => h) (Or.inl ⟨by rfl, ?_⟩) (by assumption) ?_
        rotate_left 1
        · (intro W hSw; subst hSw; go_simp; try with_reducible rfl)
        (try simp only [Act.put, List.setIfInBounds_toArray, List.set_cons_zero, List.set_cons_succ])
        refine wpAnyH_take (i := 16) (oi := { dst := some 153, op := Op.fieldAddr 33 (Operand.tmp 152) 7, type := 0, pos := "top07.go:38", after := #[{ on := 15, ground := Ground.data }, { on := 14, ground := Ground.guard }], guard := some (14, false) }) (v := ?_) rfl (by kernel_rfl) (by kernel_rfl) (by kernel_rfl) (fun _ _ _ h => h) (Or.inl ⟨by rfl, ?_⟩) (by assumption) ?_
        rotate_left 1
        · (intro W hSw; subst hSw; go_simp; try with_reducible rfl)
        (try simp only [Act.put, List.setIfInBounds_toArray, List.set_cons_zero, List.set_cons_succ])
        refine wpAnyH_take (i := 17) (oi := { dst := some 154, op := Op.load 2 (Operand.tmp 153), type := 2, pos := "top07.go:38", after := #[{ on := 16, ground := Ground.data }, { on := 14, ground := Ground.guard }], guard := some (14, false) }) (v := ?_) rfl (by kernel_rfl) (by kernel_rfl) (by kernel_rfl) (fun _ _ _ h => h) (Or.inl ⟨by rfl, ?_⟩) (by assumption) ?_
        rotate_left 1
        · (intro W hSw; subst hSw; go_simp; try with_reducible rfl)
        (try simp only [Act.put, List.setIfInBounds_toArray, List.set_cons_zero, List.set_cons_succ])
        refine wpAnyH_take (i := 18) (oi := { dst := some 155, op := Op.move (Operand.tmp 1), type := 64, pos := "top07.go:38", after := #[{ on := 14, ground := Ground.guard }], guard := some (14, false) }) (v := ?_) rfl (by kernel_rfl) (by kernel_rfl) (by kernel_rfl) (fun _ _ _ h => h) (Or.inl ⟨by rfl, ?_⟩) (by assumption) ?_
        rotate_left 1
        · (intro W hSw; subst hSw; go_simp; try with_reducible rfl)
        (try simp only [Act.put, List.setIfInBounds_toArray, List.set_cons_zero, List.set_cons_succ])
        refine wpAnyH_take (i := 19) (oi := { dst := some 156, op := Op.move (Operand.tmp 15), type := 3, pos := "top07.go:38", after := #[{ on := 14, ground := Ground.guard }], guard := some (14, false) }) (v := ?_) rfl (by kernel_rfl) (by kernel_rfl) (by kernel_rfl) (fun _ _ _ h => h) (Or.inl ⟨by rfl, ?_⟩) (by assumption) ?_
        rotate_left 1
        · (intro W hSw; subst hSw; go_simp; try with_reducible rfl)
        (try simp only [Act.put, List.setIfInBounds_toArray, List.set_cons_zero, List.set_cons_succ])
        refine wpAnyH_take (i := 20) (oi := { dst := some 157, op := Op.indexAddr 64 (Operand.tmp 155) (Operand.tmp 156), type := 0, pos := "top07.go:38", after := #[{ on := 18, ground := Ground.data }, { on := 19, ground := Ground.data }, { on := 14, ground := Ground.guard }], guard := some (14, false) }) (v := ?_) rfl (by kernel_rfl) (by kernel_rfl) (by kernel_rfl) (fun _ _ _ h => h) (Or.inl ⟨by rfl, ?_⟩) (by assumption) ?_
        rotate_left 1
        · (intro W hSw; subst hSw; go_simp; try with_reducible rfl)
        (try simp only [Act.put, List.setIfInBounds_toArray, List.set_cons_zero, List.set_cons_succ])
        refine wpAnyH_take (i := 21) (oi := { dst := some 158, op := Op.load 22 (Operand.tmp 157), type := 22, pos := "top07.go:38", after := #[{ on := 20, ground := Ground.data }, { on := 14, ground := Ground.guard }], guard := some (14, false) }) (v := ?_) rfl (by kernel_rfl) (by kernel_rfl) (by kernel_rfl) (fun _ _ _ h => h) (Or.inl ⟨by rfl, ?_⟩) (by assumption) ?_
        rotate_left 1
        · (intro W hSw; subst hSw; go_simp; try with_reducible rfl)
        (try simp only [Act.put, List.setIfInBounds_toArray, List.set_cons_zero, List.set_cons_succ])
        refine wpAnyH_take (i := 22) (oi := { dst := some 159, op := Op.call { callee := Callee.builtin Builtin.len, args := #[Operand.tmp 158], argTypes := #[22] }, type := 3, pos := "top07.go:38", after := #[{ on := 21, ground := Ground.data }, { on := 14, ground := Ground.guard }], guard := some (14, false) }) (v := ?_) rfl (by kernel_rfl) (by kernel_rfl) (by kernel_rfl) (fun _ _ _ h => h) (Or.inl ⟨by rfl, ?_⟩) (by assumption) ?_
        rotate_left 1
        · (intro W hSw; subst hSw; go_simp; try with_reducible rfl)
        (try simp only [Act.put, List.setIfInBounds_toArray, List.set_cons_zero, List.set_cons_succ])
        refine wpAnyH_take (i := 23) (oi := { dst := some 160, op := Op.binOp BinOp.neq 2 (Operand.tmp 154) (Operand.tmp 159) 2, type := 4, pos := "top07.go:38", after := #[{ on := 17, ground := Ground.data }, { on := 22, ground := Ground.data }, { on := 14, ground := Ground.guard }], guard := some (14, false) }) (v := ?_) rfl (by kernel_rfl) (by kernel_rfl) (by kernel_rfl) (fun _ _ _ h => h) (Or.inl ⟨by rfl, ?_⟩) (by assumption) ?_
        rotate_left 1
        · (intro W hSw; subst hSw; go_simp; try with_reducible rfl)
        (try simp only [Act.put, List.setIfInBounds_toArray, List.set_cons_zero, List.set_cons_succ])
        refine wpAnyH_take (i := 24) (oi := { dst := some 161, op := Op.pick (Operand.tmp 151) (Operand.const (Value.bool true)) (Operand.tmp 160), type := 4, pos := "top07.go:38", after := #[{ on := 14, ground := Ground.data }, { on := 23, ground := Ground.data }], guard := none }) (v := ?_) rfl (by kernel_rfl) (by kernel_rfl) (by kernel_rfl) (fun _ _ _ h => h) (Or.inl ⟨by rfl, ?_⟩) (by assumption) ?_
        rotate_left 1
        · (intro W hSw; subst hSw; go_simp; try with_reducible rfl)
        (try simp only [Act.put, List.setIfInBounds_toArray, List.set_cons_zero, List.set_cons_succ])
        refine wpAnyH_take (i := 25) (oi := { dst := some 162, op := Op.move (Operand.tmp 161), type := 4, pos := "top07.go:38", after := #[{ on := 24, ground := Ground.data }, { on := 14, ground := Ground.chain }], guard := none }) (v := ?_) rfl (by kernel_rfl) (by kernel_rfl) (by kernel_rfl) (fun _ _ _ h => h) (Or.inl ⟨by rfl, ?_⟩) (by assumption) ?_
        rotate_left 1
        · (intro W hSw; subst hSw; go_simp; try with_reducible rfl)
        (try simp only [Act.put, List.setIfInBounds_toArray, List.set_cons_zero, List.set_cons_succ])
        refine wpAnyH_take (i := 26) (oi := { dst := some 163, op := Op.fieldAddr 44 (Operand.tmp 20) 1, type := 0, pos := "top07.go:38", after := #[{ on := 25, ground := Ground.guard }], guard := some (25, false) }) (v := ?_) rfl (by kernel_rfl) (by kernel_rfl) (by kernel_rfl) (fun _ _ _ h => h) (Or.inl ⟨by rfl, ?_⟩) (by assumption) ?_
        rotate_left 1
        · (intro W hSw; subst hSw; go_simp; try with_reducible rfl)
        (try simp only [Act.put, List.setIfInBounds_toArray, List.set_cons_zero, List.set_cons_succ])
        refine wpAnyH_take (i := 27) (oi := { dst := some 164, op := Op.fieldAddr 33 (Operand.tmp 163) 2, type := 0, pos := "top07.go:38", after := #[{ on := 26, ground := Ground.data }, { on := 25, ground := Ground.guard }], guard := some (25, false) }) (v := ?_) rfl (by kernel_rfl) (by kernel_rfl) (by kernel_rfl) (fun _ _ _ h => h) (Or.inl ⟨by rfl, ?_⟩) (by assumption) ?_
        rotate_left 1
        · (intro W hSw; subst hSw; go_simp; try with_reducible rfl)
        (try simp only [Act.put, List.setIfInBounds_toArray, List.set_cons_zero, List.set_cons_succ])
        refine wpAnyH_take (i := 28) (oi := { dst := some 165, op := Op.load 3 (Operand.tmp 164), type := 3, pos := "top07.go:38", after := #[{ on := 27, ground := Ground.data }, { on := 25, ground := Ground.guard }], guard := some (25, false) }) (v := ?_) rfl (by kernel_rfl) (by kernel_rfl) (by kernel_rfl) (fun _ _ _ h => h) (Or.inl ⟨by rfl, ?_⟩) (by assumption) ?_
        rotate_left 1
        · (intro W hSw; subst hSw; go_simp; try with_reducible rfl)
        (try simp only [Act.put, List.setIfInBounds_toArray, List.set_cons_zero, List.set_cons_succ])
        refine wpAnyH_take (i := 29) (oi := { dst := some 166, op := Op.binOp BinOp.neq 3 (Operand.tmp 165) (Operand.const (Value.int IntKind.i64 1)) 3, type := 4, pos := "top07.go:38", after := #[{ on := 28, ground := Ground.data }, { on := 25, ground := Ground.guard }], guard := some (25, false) }) (v := ?_) rfl (by kernel_rfl) (by kernel_rfl) (by kernel_rfl) (fun _ _ _ h => h) (Or.inl ⟨by rfl, ?_⟩) (by assumption) ?_
        rotate_left 1
        · (intro W hSw; subst hSw; go_simp; try with_reducible rfl)
        (try simp only [Act.put, List.setIfInBounds_toArray, List.set_cons_zero, List.set_cons_succ])
        refine wpAnyH_take (i := 30) (oi := { dst := some 167, op := Op.pick (Operand.tmp 162) (Operand.const (Value.bool true)) (Operand.tmp 166), type := 4, pos := "top07.go:38", after := #[{ on := 25, ground := Ground.data }, { on := 29, ground := Ground.data }], guard := none }) (v := ?_) rfl (by kernel_rfl) (by kernel_rfl) (by kernel_rfl) (fun _ _ _ h => h) (Or.inl ⟨by rfl, ?_⟩) (by assumption) ?_
        rotate_left 1
        · (intro W hSw; subst hSw; go_simp; try with_reducible rfl)
        (try simp only [Act.put, List.setIfInBounds_toArray, List.set_cons_zero, List.set_cons_succ])
        refine wpAnyH_done (by kernel_rfl) ?_ _
        refine NoPanic.normal ?_
        go_wp2_with fail
        go_roundg (L.length - (i + 1))
        case rel => exact ⟨_, i + 1, b, rfl, by omega, Nat.le_refl _, by simp, by rw [HT1.out]; simp, by rw [HT2.out]; rfl, HBR, HHB, HDB, ⟨HB1'.out.os, HB1'.out.tape, HB1'.out.output, HB1'.out.size, HB1'.out.block⟩⟩
        case measure => omega
      | dat bb p =>
        obtain ⟨GD, cD, rfl, hb1, hb2, hsq, _, _, _⟩ := hDx
        have hc : W.rangeAt GE (i * 14) [.int .i64 2, .string ⟨#[]⟩, .string ⟨#[]⟩, .int .i64 0, .int .i64 0, .int .i64 0, .int .i64 0, .int .i64 0, .int .i64 0, .string ⟨#[]⟩, .string ⟨#[]⟩, .slice (some ⟨GD, 0, none⟩) bb.length cD, .nilIface, .int .i64 (p : Int)] := fun j u hj => hcell j u (by simpa [evCells, zero10] using hj)
        obtain ⟨t1, t2⟩ := htold
        have hRI : RIn .u8 W1 (.slice (some ⟨GD, 0, none⟩) bb.length cD) bb := .inr ⟨⟨GD, 0, none⟩, cD, rfl, hb1, hb2, fun j u hj => by
          obtain ⟨ad, e, hcc⟩ := hsq.1 (by have := (List.getElem?_eq_some_iff.1 hj).1; simp at this; omega)
          cases e
          rw [← cells_map] at hj
          exact hcc j u hj⟩
        have hcv := fun W' (b : Below W1.heap.size W1 W') => conv_rin (hRI.below b) (hABx bb p rfl)
        have HB1 : Below W1.heap.size W1 (W.alloc (.cells #[.int .i64 2, .string ⟨#[]⟩, .string ⟨#[]⟩, .int .i64 0, .int .i64 0, .int .i64 0, .int .i64 0, .int .i64 0, .int .i64 0, .string ⟨#[]⟩, .string ⟨#[]⟩, .slice (some ⟨GD, 0, none⟩) bb.length cD, .nilIface, .int .i64 (p : Int)] 44)) := hBW.out.alloc hBW.out.size _
        have hcw := hcv _ HB1
        have HB1' : Hid (Below W1.heap.size W1 (W.alloc (.cells #[.int .i64 2, .string ⟨#[]⟩, .string ⟨#[]⟩, .int .i64 0, .int .i64 0, .int .i64 0, .int .i64 0, .int .i64 0, .int .i64 0, .string ⟨#[]⟩, .string ⟨#[]⟩, .slice (some ⟨GD, 0, none⟩) bb.length cD, .nilIface, .int .i64 (p : Int)] 44))) := HB1
        have HT1 : Hid _ := t1
        have HT2 : Hid (strB (lastD b) = strB (lastD a) ++ strB bb) := by rw [t2, strB_app]; exact rfl
        have hz1 : (lastD b).length = (lastD a).length + bb.length := by rw [t2, List.length_append]
        have hz2 := strB_size (lastD a)
        have hz3 := strB_size bb
        have hadd : ¬ (9223372036854775807 : Int) < ((strB (lastD a)).size : Int) + ((strB bb).size : Int) := by omega
        have hadd2 : ¬ 9223372036854775807 < (strB (lastD a)).size + (strB bb).size := by omega
        clear hz1 hz2 hz3
        generalize lastD a = la at *
        generalize strB la = sla at *
        generalize strB bb = sbb at *
        clear hbD HS2 hcell hABx hb t1 t2 HQ HNm HDm HA2 HB1 hRI hcv hsq
        go_wp2_with (refine wpList_load_mid rfl 44 _ rfl GE _ rfl [.int .i64 2, .string ⟨#[]⟩, .string ⟨#[]⟩, .int .i64 0, .int .i64 0, .int .i64 0, .int .i64 0, .int .i64 0, .int .i64 0, .string ⟨#[]⟩, .string ⟨#[]⟩, .slice (some ⟨GD, 0, none⟩) bb.length cD, .nilIface, .int .i64 (p : Int)] _ hc Tryz.underlying44 rfl hsiE ?_)
        go_roundg (L.length - (i + 1))
        case rel => exact ⟨_, i + 1, b, rfl, by omega, Nat.le_refl _, by simp, by rw [HT1.out], by rw [HT2.out], HBR, HHB, HDB, HB1'⟩
        case measure => omega
      | fin p =>
        have hc : W.rangeAt GE (i * 14) [.int .i64 3, .string ⟨#[]⟩, .string ⟨#[]⟩, .int .i64 0, .int .i64 0, .int .i64 0, .int .i64 0, .int .i64 0, .int .i64 0, .string ⟨#[]⟩, .string ⟨#[]⟩, .slice none 0 0, .nilIface, .int .i64 (p : Int)] := fun j u hj => hcell j u (by simpa [evCells, zero10] using hj)
        obtain ⟨t1, t2, t3, t4, t5⟩ := htold
        obtain ⟨kk, hkk⟩ : ∃ kk, a.ts.length = kk + 1 := ⟨a.ts.length - 1, by omega⟩
        have hk0 : a.ts.length - 1 = kk := by omega
        have t4' : kk < es.length := by omega
        have t5' : lastD a = (es[kk]'t4').2 := by
          have e : ∀ (m n : Nat) (hm : m < es.length) (hn : n < es.length), m = n → es[m] = es[n] := fun m n hm hn h => by subst h; rfl
          rw [t5, e _ kk t4 t4' hk0]
        obtain ⟨DB, dd, da, dc, hd1, hd2⟩ := HDm.out _ t4'
        subst hd1
        have HB1 : Below W1.heap.size W1 (W.alloc (.cells #[.int .i64 3, .string ⟨#[]⟩, .string ⟨#[]⟩, .int .i64 0, .int .i64 0, .int .i64 0, .int .i64 0, .int .i64 0, .int .i64 0, .string ⟨#[]⟩, .string ⟨#[]⟩, .slice none 0 0, .nilIface, .int .i64 (p : Int)] 44)) := hBW.out.alloc hBW.out.size _
        obtain ⟨k2, hri⟩ := hd2 _ HB1
        have hcw := conv_rin hri (HA2.out _ t4')
        have HB1' : Hid (Below W1.heap.size W1 (W.alloc (.cells #[.int .i64 3, .string ⟨#[]⟩, .string ⟨#[]⟩, .int .i64 0, .int .i64 0, .int .i64 0, .int .i64 0, .int .i64 0, .int .i64 0, .string ⟨#[]⟩, .string ⟨#[]⟩, .slice none 0 0, .nilIface, .int .i64 (p : Int)] 44))) := HB1
        have HT1 : Hid (b.ts.length = kk + 1) := t1.trans hkk
        have HT2 : Hid (lastD b = es[kk].2) := t2.trans t5'
        have hki : ((a.ts.length : Nat) : Int) - 1 = (kk : Int) := by omega
        rw [hki, t5']
        have hk3 : (kk : Int) < (es.length : Int) := by omega
        have hk4 : (es.length : Int) ≤ 10 := by omega
        clear hbD HS2 hcell hDx hABx hb t1 t2 t5 t5' HQ HNm HDm HA2 HB1 hd2 hri hkk hk0 hki t3
        have HSS : Hid (Value.string (strB (es[kk]'t4').2) = Value.string (strB (lastD b))) := by show _ = _; rw [HT2.out]
        clear HT2
        generalize strB (es[kk]'t4').snd = ss at *
        generalize (es[kk]'t4').snd.length = dl at *
        go_wp2_with (refine wpList_load_mid rfl 44 _ rfl GE _ rfl [.int .i64 3, .string ⟨#[]⟩, .string ⟨#[]⟩, .int .i64 0, .int .i64 0, .int .i64 0, .int .i64 0, .int .i64 0, .int .i64 0, .string ⟨#[]⟩, .string ⟨#[]⟩, .slice none 0 0, .nilIface, .int .i64 (p : Int)] _ hc Tryz.underlying44 rfl hsiE ?_)
        go_roundg (L.length - (i + 1))
        case rel => exact ⟨_, i + 1, b, rfl, by omega, Nat.le_refl _, by simp, by rw [HT1.out]; simp, HSS.out, HBR, HHB, HDB, HB1'⟩
        case measure => omega
      | don p =>
        have hc : W.rangeAt GE (i * 14) [.int .i64 4, .string ⟨#[]⟩, .string ⟨#[]⟩, .int .i64 0, .int .i64 0, .int .i64 0, .int .i64 0, .int .i64 0, .int .i64 0, .string ⟨#[]⟩, .string ⟨#[]⟩, .slice none 0 0, .nilIface, .int .i64 (p : Int)] := fun j u hj => hcell j u (by simpa [evCells, zero10] using hj)
        obtain ⟨t1, t2⟩ := htold
        have HB1 : Hid (Below W1.heap.size W1 (W.alloc (.cells #[.int .i64 4, .string ⟨#[]⟩, .string ⟨#[]⟩, .int .i64 0, .int .i64 0, .int .i64 0, .int .i64 0, .int .i64 0, .int .i64 0, .string ⟨#[]⟩, .string ⟨#[]⟩, .slice none 0 0, .nilIface, .int .i64 (p : Int)] 44))) := hBW.out.alloc hBW.out.size _
        rw [← t1, ← t2]
        clear hbD HS2 hcell hDx hABx hb t1 t2 HQ HNm HDm HA2
        go_wp2_with (refine wpList_load_mid rfl 44 _ rfl GE _ rfl [.int .i64 4, .string ⟨#[]⟩, .string ⟨#[]⟩, .int .i64 0, .int .i64 0, .int .i64 0, .int .i64 0, .int .i64 0, .int .i64 0, .string ⟨#[]⟩, .string ⟨#[]⟩, .slice none 0 0, .nilIface, .int .i64 (p : Int)] _ hc Tryz.underlying44 rfl hsiE ?_)
        go_roundg (L.length - (i + 1))
        case rel => exact ⟨_, i + 1, b, rfl, by omega, Nat.le_refl _, by simp, by simp, rfl, HBR, HHB, HDB, HB1⟩
        case measure => omega
      | bad c q p => exact htold.elim
    · have hie : i = L.length := by omega
      subst hie
      have hAr' := hAr.out
      rw [List.drop_eq_nil_of_le (by simp)] at hAr'
      simp only [Pu.arcs, Option.some.injEq] at hAr'
      subst hAr'
      have HF := fun (r6 : Value) (r20 : Value) (r127 : Value) (r128 : Value) (r129 : Value) (r130 : Value) (r131 : Value) (r132 : Value) (r133 : Value) (r134 : Value) (r135 : Value) (r136 : Value) (r137 : Value) (r138 : Value) (r139 : Value) (r140 : Value) (r141 : Value) (r142 : Value) (r143 : Value) (r144 : Value) (r145 : Value) (r146 : Value) (r147 : Value) (r148 : Value) (r149 : Value) (r150 : Value) (r151 : Value) (r152 : Value) (r153 : Value) (r154 : Value) (r155 : Value) (r156 : Value) (r157 : Value) (r158 : Value) (r159 : Value) (r160 : Value) (r161 : Value) (r162 : Value) (r163 : Value) (r164 : Value) (r165 : Value) (r166 : Value) (r167 : Value) (r168 : Value) (r169 : Value) (r170 : Value) (r171 : Value) (r172 : Value) (r173 : Value) (r174 : Value) (r175 : Value) (r176 : Value) (r177 : Value) (r178 : Value) (r179 : Value) (r180 : Value) (r181 : Value) (r182 : Value) (r183 : Value) (r184 : Value) (r185 : Value) (r186 : Value) (r187 : Value) (r188 : Value) (r189 : Value) (r190 : Value) => HQ.out r6 r20 r127 r128 r129 r130 r131 r132 r133 r134 r135 r136 r137 r138 r139 r140 r141 r142 r143 r144 r145 r146 r147 r148 r149 r150 r151 r152 r153 r154 r155 r156 r157 r158 r159 r160 r161 r162 r163 r164 r165 r166 r167 r168 r169 r170 r171 r172 r173 r174 r175 r176 r177 r178 r179 r180 r181 r182 r183 r184 r185 r186 r187 r188 r189 r190 W hBW.out
      have HF' : Hid _ := HF
      clear HF hAr HQ
      go_wp2
      exact HF'.out _ _ _ _ _ _ _ _ _ _ _ _ _ _ _ _ _ _ _ _ _ _ _ _ _ _ _ _ _ _ _ _ _ _ _ _ _ _ _ _ _ _ _ _ _ _ _ _ _ _ _ _ _ _ _ _ _ _ _ _ _ _ _ _ _ _
end Go.Proofs.YtnmmaedngdibeaaGreatDoor

namespace Go.Proofs.YtnmmaedngdibeaaGreatDoor
open Go.RowKit
set_option linter.unusedVariables false
set_option linter.unusedSimpArgs false

/-- what stands between two pieces -/
structure Ws (w1 W : World) (zs cs : List Int) (g i pos : Nat) (s : PsR) (kv gv lv : Value) (a : AcE) : Prop where
  pm : Pm W g s kv gv lv
  rok : Rok s
  fit : Pu.Fit s
  mv : Mv (fun k => k = g) w1 W
  mine : ∀ k, Mine g kv gv lv k → k = g ∨ w1.heap.size ≤ k
  half : Pu.Half a
  dno : a.dn = true → a.ov = true
  posl : pos ≤ zs.length
  eq1 : (Pu.feeds fns0 s (pcs (zs.drop pos) (cs.drop i))).1 = (Pu.run fns0 (Pu.new fns0) zs).1
  eq2 : Pu.arcs a (Pu.feeds fns0 s (pcs (zs.drop pos) (cs.drop i))).2 = some (Pu.arch fns0 zs)
  rd : s.rd ≤ pos
section
variable {w1 W W1 W2 : World} {zs cs : List Int} {g i pos : Nat} {s : PsR} {kv gv lv : Value} {a : AcE}
theorem Ws.start (w1 : World) (hpm : Pm w1 g (Pu.new fns0) (.slice none 0 0) (.slice none 0 0) (.slice none 0 0)) (cuts : List Int) :
    Ws w1 w1 zs (cuts ++ [(zs.length : Int)]) g 0 0 (Pu.new fns0) (.slice none 0 0) (.slice none 0 0) (.slice none 0 0) Pu.Ac.nil := by
  obtain ⟨e1, e2, _⟩ := fed_arch zs cuts
  refine ⟨hpm, rok_new fall0, .inl (by show (512 : Nat) ≠ 0; omega), Mv.refl _ _, fun k hk => ?_, fun h => (by cases h), fun h => (by cases h), Nat.zero_le _, ?_, ?_, Nat.le_refl _⟩
  · rcases hk with hk | hk | hk | hk
    · exact .inl hk
    all_goals cases hk
  · simpa using e1
  · simpa using e2
/-- behind one piece -/
theorem Ws.next (h : Ws w1 W zs cs g i pos s kv gv lv a) (hg : g < w1.heap.size) (hi : i < cs.length) {P : List Int} (hP : P = (zs.drop pos).take (cutN zs cs i pos)) (hAB : H.AllB zs)
    {kv' gv' lv' v : Value} {L : List (EvE × Value)} (on : On W W1 g kv gv lv kv' gv' lv' (Pu.feed fns0 P.length s P).1 v L) (hm : L.map (·.1) = (Pu.feed fns0 P.length s P).2) :
    ∃ aE R, Pu.arcs a (L.map (·.1)) = some aE ∧ Pu.arcs aE R = some (Pu.arch fns0 zs) ∧ ∀ (W2 : World), Below W1.heap.size W1 W2 → Ws w1 W2 zs cs g (i + 1) (pos + cutN zs cs i pos) (Pu.feed fns0 P.length s P).1 kv' gv' lv' aE := by
  have hPl : P.length = cutN zs cs i pos := by rw [hP, List.length_take, List.length_drop]; have := cutN_le (cs := cs) (i := i) h.posl; omega
  have e1 := h.eq1
  have e2 := h.eq2
  rw [pcs_step hi h.posl, ← hP] at e1 e2
  simp only [Pu.feeds] at e1 e2
  rw [Pu.arcs_append, ← hm] at e2
  cases hA : Pu.arcs a (L.map (·.1)) with
  | none => rw [hA] at e2; cases e2
  | some aE =>
    rw [hA] at e2
    refine ⟨aE, _, rfl, e2, fun W2 hb => ?_⟩
    have hPB : H.AllB P := fun z hz => hAB z (by rw [hP] at hz; exact List.mem_of_mem_drop (List.mem_of_mem_take hz))
    obtain ⟨f1, f2, f3, f4⟩ := feed_all fall0 P.length s P h.fit h.rok hPB
    have hWs : w1.heap.size ≤ W.heap.size := h.mv.size
    have hW1 := on.mv.size
    have hmvW : Mv (fun k => k = g) w1 W1 := h.mv.trans on.mv (fun x hx => by
      rcases h.mine x hx with q | q
      · exact .inl q
      · exact .inr q)
    refine ⟨on.pm.grow hb, f3, f4, hmvW.trans (Mv.of_below (O := fun k => k = g) hb) (fun x hx => .inl hx), fun k hk => ?_, (Pu.arcs_begins _ hA h.half).2, arcs_dn _ hA h.dno, cutN_le h.posl, e1, e2, ?_⟩
    · rcases on.mine k hk with q | q
      · exact h.mine k q
      · right; omega
    · have := h.rd; omega
end
end Go.Proofs.YtnmmaedngdibeaaGreatDoor

namespace Go.Proofs.YtnmmaedngdibeaaGreatDoor
open Go.RowKit
set_option linter.unusedVariables false
set_option linter.unusedSimpArgs false

set_option maxRecDepth 100000 in
set_option maxHeartbeats 8000000 in
theorem sround_w (w0 w1 W : World) (zs cs : List Int) (g GC cc i pos : Nat) (s : PsR) (kv gv lv vb : Value) (a : AcE) (es : List (ByteArray × List Int)) (Q : Exit → Act → World → Prop) (h : Ws w1 W zs cs g i pos s kv gv lv a) (hi : i < cs.length)
    (hb : RIn .u8 w0 vb zs) (hw : Below w0.heap.size w0 w1) (hg0 : w0.heap.size ≤ g) (hg : g < w1.heap.size) (hAB : H.AllB zs) (hzl : zs.length ≤ 40000)
    (hc : ∀ j u, (cs.map fun z => Value.int .i64 z)[j]? = some u → w1.cell? ⟨GC, j, none⟩ = some u) (hGC : GC < w1.heap.size) (hGg : GC ≠ g) (hcl : cs.length ≤ 10000) (hLb : Lb w0)
    (hAr : Ar (Pu.arch fns0 zs) es) (hes : es.length ≤ 10) (hA2 : ∀ i (h : i < es.length), H.AllB es[i].2) (hS2 : ∀ i (h : i < es.length), es[i].2.length ≤ 1500) (a0 a1 : Option Addr) (c0 c1 : Nat)
    (HNm : Hid (∀ i (h : i < es.length), ∃ B o, a0 = some ⟨B, o, none⟩ ∧ ∀ W, Below w0.heap.size w0 W → W.cell? ⟨B, o + i, none⟩ = some (.string es[i].1)))
    (HDm : Hid (∀ i (h : i < es.length), ∃ B o da dc, a1 = some ⟨B, o, none⟩ ∧ ∀ W, Below w0.heap.size w0 W → W.cell? ⟨B, o + i, none⟩ = some (.slice da es[i].2.length dc) ∧ RIn .u8 W (.slice da es[i].2.length dc) es[i].2))
    (s2 s3 s4 s5 s6 s7 s9 s10 s11 s12 s17 s18 s19 s20 s21 s22 s23 s24 s25 s26 s27 s28 s29 s30 s31 s32 s33 s34 s35 s36 s37 s38 s39 s40 s41 s42 s43 s44 s45 s46 s47 s48 s49 s50 s51 s52 s53 s54 s55 s56 s57 s58 s59 s60 s61 s62 s63 s64 s65 s66 s67 s68 s69 s70 s71 s72 s73 s74 s75 s76 s77 s78 s79 s80 s81 s82 s83 s84 s85 s86 s87 s88 s89 s90 s91 s92 s93 s94 s95 s96 s97 s98 s99 s100 s101 s102 s103 s104 s106 s108 s109 s110 s111 s112 s113 s114 s115 s116 s117 s118 s119 s120 s121 s122 s123 s124 s125 s126 s127 s128 s129 s130 s131 s132 s133 s134 s135 s136 s137 s138 s139 s140 s141 s142 s143 s144 s145 s146 s147 s148 s149 s150 s151 s152 s153 s154 s155 s156 s157 s158 s159 s160 s161 s162 s163 s164 s165 s166 s167 s168 s169 s170 s171 s172 s173 s174 s175 s176 s177 s178 s179 s180 s181 s182 s183 s184 s185 s186 s187 s188 s189 s190 s191 s192 s193 s194 s195 s196 s197 s198 s199 s200 s201 s202 s203 s204 s205 s206 s207 s208 s209 s210 s211 : Value)
    (HQ : Hid (∀ (r6 r18 r20 r109 r110 r111 r112 r113 r114 r115 r116 r117 r118 r119 r120 r121 r122 r123 r124 r125 r126 r127 r128 r129 r130 r131 r132 r133 r134 r135 r136 r137 r138 r139 r140 r141 r142 r143 r144 r145 r146 r147 r148 r149 r150 r151 r152 r153 r154 r155 r156 r157 r158 r159 r160 r161 r162 r163 r164 r165 r166 r167 r168 r169 r170 r171 r172 r173 r174 r175 r176 r177 r178 r179 r180 r181 r182 r183 r184 r185 r186 r187 r188 r189 r190 r191 r192 r193 : Value) (W2 : World) (sN : PsR) (kv2 gv2 lv2 : Value) (aE : AcE), Ws w1 W2 zs cs g (i + 1) (pos + cutN zs cs i pos) sN kv2 gv2 lv2 aE → Q .normal { tmps := #[.slice a0 es.length c0, .slice a1 es.length c1, s2, s3, s4, s5, r6, s7, vb, s9, s10, s11, s12, .pointer (some ⟨g, 0, none⟩), .int .i64 ((pos : Int) + (cutN zs cs i pos : Int)), .int .i64 ((aE.ts.length : Int) - 1), .string (strB (lastD aE)), s17, r18, s19, r20, s21, s22, s23, s24, s25, s26, s27, s28, s29, s30, s31, s32, s33, s34, s35, s36, s37, s38, s39, s40, s41, s42, s43, s44, s45, s46, s47, s48, s49, s50, s51, s52, s53, s54, s55, s56, s57, s58, s59, s60, s61, s62, s63, s64, s65, s66, s67, s68, s69, s70, s71, s72, s73, s74, s75, s76, s77, s78, s79, s80, s81, s82, s83, s84, s85, s86, s87, s88, s89, s90, s91, s92, s93, s94, s95, s96, s97, s98, s99, s100, s101, s102, s103, s104, .slice (some ⟨GC, 0, none⟩) cs.length cc, s106, .int .i64 (i : Int), s108, r109, r110, r111, r112, r113, r114, r115, r116, r117, r118, r119, r120, r121, r122, r123, r124, r125, r126, r127, r128, r129, r130, r131, r132, r133, r134, r135, r136, r137, r138, r139, r140, r141, r142, r143, r144, r145, r146, r147, r148, r149, r150, r151, r152, r153, r154, r155, r156, r157, r158, r159, r160, r161, r162, r163, r164, r165, r166, r167, r168, r169, r170, r171, r172, r173, r174, r175, r176, r177, r178, r179, r180, r181, r182, r183, r184, r185, r186, r187, r188, r189, r190, r191, r192, r193, s194, s195, s196, s197, s198, s199, s200, s201, s202, s203, s204, s205, s206, s207, s208, s209, s210, s211], defers := [] } W2)) :
    Code.wp Tryz.prog ((Tryz.f9.body.bind (blkAt 3)).getD .skip) Q { tmps := #[.slice a0 es.length c0, .slice a1 es.length c1, s2, s3, s4, s5, s6, s7, vb, s9, s10, s11, s12, .pointer (some ⟨g, 0, none⟩), .int .i64 (pos : Int), .int .i64 ((a.ts.length : Int) - 1), .string (strB (lastD a)), s17, s18, s19, s20, s21, s22, s23, s24, s25, s26, s27, s28, s29, s30, s31, s32, s33, s34, s35, s36, s37, s38, s39, s40, s41, s42, s43, s44, s45, s46, s47, s48, s49, s50, s51, s52, s53, s54, s55, s56, s57, s58, s59, s60, s61, s62, s63, s64, s65, s66, s67, s68, s69, s70, s71, s72, s73, s74, s75, s76, s77, s78, s79, s80, s81, s82, s83, s84, s85, s86, s87, s88, s89, s90, s91, s92, s93, s94, s95, s96, s97, s98, s99, s100, s101, s102, s103, s104, .slice (some ⟨GC, 0, none⟩) cs.length cc, s106, .int .i64 (i : Int), s108, s109, s110, s111, s112, s113, s114, s115, s116, s117, s118, s119, s120, s121, s122, s123, s124, s125, s126, s127, s128, s129, s130, s131, s132, s133, s134, s135, s136, s137, s138, s139, s140, s141, s142, s143, s144, s145, s146, s147, s148, s149, s150, s151, s152, s153, s154, s155, s156, s157, s158, s159, s160, s161, s162, s163, s164, s165, s166, s167, s168, s169, s170, s171, s172, s173, s174, s175, s176, s177, s178, s179, s180, s181, s182, s183, s184, s185, s186, s187, s188, s189, s190, s191, s192, s193, s194, s195, s196, s197, s198, s199, s200, s201, s202, s203, s204, s205, s206, s207, s208, s209, s210, s211], defers := [] } W := by
  conv => arg 2; whnf
  have h14 := hLb.sz
  have hbW : Below w0.heap.size w0 W := hw.trans (h.mv.below hw.size (fun k hk => by omega))
  have hLbW := hLb.below hbW
  have hic : W.cell? ⟨GC, i, none⟩ = some (.int .i64 (cs.getD i 0)) := by
    have e := h.mv.block GC hGC hGg
    have := hc i (.int .i64 (cs.getD i 0)) (by rw [List.getElem?_map, List.getElem?_eq_getElem hi, List.getD_eq_getElem?_getD, List.getElem?_eq_getElem hi]; rfl)
    simp only [World.cell?] at this ⊢
    rw [e]
    exact this
  have hcut := cutN_int (zs := zs) (cs := cs) (i := i) (pos := pos)
  have hcl2 := cutN_le (cs := cs) (i := i) h.posl
  obtain ⟨ad, cc9, hsl, hpz⟩ := piece_run hb pos (cutN zs cs i pos) hcl2
  have hPl : ((zs.drop pos).take (cutN zs cs i pos)).length = cutN zs cs i pos := by rw [List.length_take, List.length_drop]; omega
  have hPB : H.AllB ((zs.drop pos).take (cutN zs cs i pos)) := fun z hz => hAB z (List.mem_of_mem_drop (List.mem_of_mem_take hz))
  have hM14 : ∀ k, Mine g kv gv lv k → w0.heap.size ≤ k := fun k hk => by
    rcases h.mine k hk with q | q
    · omega
    · have := hw.size; omega
  have qf := feedp_w h.pm h.rok h.fit hLbW (fun k hk => by have := hM14 k hk; omega) ad cc9 (cutN zs cs i pos) ((zs.drop pos).take (cutN zs cs i pos)) hPl hPB
    (hpz.imp id fun ⟨B, o, e1, e2, e3, e4, e5⟩ => ⟨B, o, e1, Nat.lt_of_lt_of_le e2 hbW.size, e3.moved (hbW.block B e2), e4, e5, fun hm => by have := hM14 B hm; omega⟩) (by omega) (by have := h.rd; omega)
  have HNX0 := fun v L kv' gv' lv' W1 on hm => h.next (W1 := W1) (v := v) (L := L) (kv' := kv') (gv' := gv') (lv' := lv') hg hi rfl hAB on hm
  obtain ⟨P, hP⟩ : ∃ P, P = (zs.drop pos).take (cutN zs cs i pos) := ⟨_, rfl⟩
  rw [← hP] at HNX0 qf hPB hPl
  have HH : Hid _ := h
  have HNH : Hid _ := HNX0
  have HQF : Hid _ := qf
  have HPB : Hid (H.AllB P) := hPB
  have HBW : Hid (Below w0.heap.size w0 W) := hbW
  have HM14 : Hid (∀ k, Mine g kv gv lv k → w0.heap.size ≤ k) := hM14
  have HAr : Hid (Ar (Pu.arch fns0 zs) es) := hAr
  have HA2 : Hid (∀ i (h : i < es.length), H.AllB es[i].2) := hA2
  have HS2 : Hid (∀ i (h : i < es.length), es[i].2.length ≤ 1500) := hS2
  obtain ⟨ad0, cb0, rfl⟩ := hb.sl
  obtain ⟨n, hn⟩ : ∃ n, n = cutN zs cs i pos := ⟨_, rfl⟩
  rw [← hn] at hcut hcl2 hsl hPl HNH HQF HQ
  have Hn : Hid (n = cutN zs cs i pos) := hn
  generalize cs.getD i 0 = ci at *
  have hi0 : (i : Int) < (cs.length : Int) := by omega
  clear hn h hb hw hLb hbW hLbW hc HNX0 qf hP hPB hpz hM14 hAr hA2 hS2
  refine wp_block ?_
  refine wp_seq_k (fun K1 hK1 => ?_)
  have HK1 : Hid _ := hK1
  clear hK1
  go_wp2_with fail
  refine HK1.out _ _ ?_
  clear HK1 K1
  refine wp_seq_k (fun K2 hK2 => ?_)
  have HK2 : Hid _ := hK2
  clear hK2
  go_wp2_with fail
  refine HK2.out _ _ ?_
  clear HK2 K2
  refine wp_seq_k (fun K3 hK3 => ?_)
  have HK3 : Hid _ := hK3
  clear hK3
  refine wp_seq_k (fun K4 hK4 => ?_)
  have HK4 : Hid _ := hK4
  clear hK4
  go_wp2_with (go_at_call 14; go_loud (refine Calls.mono HQF.out ?_; rintro ev W1 ⟨v, L, rfl, hO, hm⟩; obtain ⟨kv2, gv2, lv2, on⟩ := hO.on; obtain ⟨ta, tc, rfl, _, _, _⟩ := own_sl on.evs; have HON : Hid _ := on; have HM : Hid _ := hm; clear hO on hm))
  refine HK4.out _ _ ?_
  clear HK4 K4
  have on := HON.out
  obtain ⟨aE, R, hA, hR, HNX⟩ := HNH.out _ _ _ _ _ _ on HM.out
  have hf := HH.out
  have hPl' : P.length ≤ 40000 := by omega
  have hfa := feed_all fall0 P.length s P hf.fit hf.rok HPB.out
  have hLl : L.length ≤ 4 * P.length := by rw [← List.length_map (f := (·.1)), HM.out]; exact hfa.1
  have hB01 : Below w0.heap.size w0 W1 := HBW.out.trans (on.mv.below HBW.out.size HM14.out)
  refine sev_w W1 W (.slice ta L.length tc) a aE (Pu.arch fns0 zs) R es L (Mine g kv2 gv2 lv2) _ HAr.out on.evs on.dat hf.half hf.dno hA hR
    (fun b p x hx hxm => ?_) (by omega) hes HA2.out HS2.out a0 a1 c0 c1
    (fun i h => by obtain ⟨B, o, e1, e2⟩ := HNm.out i h; exact ⟨B, o, e1, fun W b => e2 W (hB01.trans (b.mono hB01.size))⟩)
    (fun i h => by obtain ⟨B, o, da, dc, e1, e2⟩ := HDm.out i h; exact ⟨B, o, da, dc, e1, fun W b => e2 W (hB01.trans (b.mono hB01.size))⟩)
    _ _ _ _ _ _ _ _ _ _ _ _ _ _ _ _ _ _ _ _ _ _ _ _ _ _ _ _ _ _ _ _ _ _ _ _ _ _ _ _ _ _ _ _ _ _ _ _ _ _ _ _ _ _ _ _ _ _ _ _ _ _ _ _ _ _ _ _ _ _ _ _ _ _ _ _ _ _ _ _ _ _ _ _ _ _ _ _ _ _ _ _ _ _ _ _ _ _ _ _ _ _ _ _ _ _ _ _ _ _ _ _ _ _ _ _ _ _ _ _ _ _ _ _ _ _ _ _ _ _ _ _ _ _ _ _ _ _ _ _ _ _ _ _ _ _ _ _ _ _ _ _ _ _ _ _ _ _ _ _ _ _ _ _ _ _ _ _ _ _ _ _ _ _ _ _ _ _ _ _ _ _ _ _ _ _ _ _ _ _ _ _ _ _ _ _ _ _ _ _ _ _ _ _ _ ?_
  · have : (.dat b p : EvE) ∈ L.map (·.1) := List.mem_map.2 ⟨x, hxm, hx⟩
    rw [HM.out] at this
    exact (feed_dat _ _ _ HPB.out this).1
  · intro x6 x20 x127 x128 x129 x130 x131 x132 x133 x134 x135 x136 x137 x138 x139 x140 x141 x142 x143 x144 x145 x146 x147 x148 x149 x150 x151 x152 x153 x154 x155 x156 x157 x158 x159 x160 x161 x162 x163 x164 x165 x166 x167 x168 x169 x170 x171 x172 x173 x174 x175 x176 x177 x178 x179 x180 x181 x182 x183 x184 x185 x186 x187 x188 x189 x190 W2 hB2
    show K3 _ _
    have hF2 := HNX W2 hB2
    have HF2 : Hid _ := hF2
    clear HNX hF2 hB2 hfa hf on HH HNH HQF HON HM hA hR HNm HDm HAr HA2 HS2 HBW HM14 hB01
    refine HK3.out _ _ ?_
    clear HK3 K3
    go_wp2_with fail
    rw [Hn.out] at HF2 HQ ⊢
    exact HQ.out _ _ _ _ _ _ _ _ _ _ _ _ _ _ _ _ _ _ _ _ _ _ _ _ _ _ _ _ _ _ _ _ _ _ _ _ _ _ _ _ _ _ _ _ _ _ _ _ _ _ _ _ _ _ _ _ _ _ _ _ _ _ _ _ _ _ _ _ _ _ _ _ _ _ _ _ _ _ _ _ _ _ _ _ _ _ _ _ W2 _ _ _ _ _ HF2.out
end Go.Proofs.YtnmmaedngdibeaaGreatDoor

namespace Go.Proofs.YtnmmaedngdibeaaGreatDoor
open Go.RowKit
set_option linter.unusedVariables false
set_option linter.unusedSimpArgs false

set_option maxRecDepth 100000 in
set_option maxHeartbeats 8000000 in
theorem stail_w (w : World) (zs cuts : List Int) (vb : Value) (es : List (ByteArray × List Int)) (PP : Ending → World → Prop)
    (hb : RIn .u8 w vb zs) (hAB : H.AllB zs) (hzl : zs.length ≤ 40000) (hcl : cuts.length ≤ 50) (hLb : Lb w) (ad2 : Option Addr) (c2 : Nat) (hcu : RIn .i64 w (.slice ad2 cuts.length c2) cuts)
    (hAr : Ar (Pu.arch fns0 zs) es) (hpt : (Pu.run fns0 (Pu.new fns0) zs).1.pt = 4) (her : (Pu.run fns0 (Pu.new fns0) zs).1.er = none) (hrd : (Pu.run fns0 (Pu.new fns0) zs).1.rd = zs.length)
    (hes : es.length ≤ 10) (hA2 : ∀ i (h : i < es.length), H.AllB es[i].2) (hS2 : ∀ i (h : i < es.length), es[i].2.length ≤ 1500) (a0 a1 : Option Addr) (c0 c1 : Nat)
    (HNm : Hid (∀ i (h : i < es.length), ∃ B o, a0 = some ⟨B, o, none⟩ ∧ ∀ W, Below w.heap.size w W → W.cell? ⟨B, o + i, none⟩ = some (.string es[i].1)))
    (HDm : Hid (∀ i (h : i < es.length), ∃ B o da dc, a1 = some ⟨B, o, none⟩ ∧ ∀ W, Below w.heap.size w W → W.cell? ⟨B, o + i, none⟩ = some (.slice da es[i].2.length dc) ∧ RIn .u8 W (.slice da es[i].2.length dc) es[i].2))
    (HP : Hid (∀ W, Below w.heap.size w W → PP (.returned (.bool true)) W))
    (s3 s4 s5 s6 s7 s9 s10 s11 s12 s13 s14 s15 s16 s17 s18 s19 s20 s21 s22 s23 s24 s25 s26 s27 s28 s29 s30 s31 s32 s33 s34 s35 s36 s37 s38 s39 s40 s41 s42 s43 s44 s45 s46 s47 s48 s49 s50 s51 s52 s53 s54 s55 s56 s57 s58 s59 s60 s61 s62 s63 s64 s65 s66 s67 s68 s69 s70 s71 s72 s73 s74 s75 s76 s77 s78 s79 s80 s81 s82 s83 s84 s85 s86 s87 s88 s89 s90 s91 s92 s93 s94 s95 s96 s97 s98 s99 s100 s101 s102 s103 s104 s105 s106 s107 s108 s109 s110 s111 s112 s113 s114 s115 s116 s117 s118 s119 s120 s121 s122 s123 s124 s125 s126 s127 s128 s129 s130 s131 s132 s133 s134 s135 s136 s137 s138 s139 s140 s141 s142 s143 s144 s145 s146 s147 s148 s149 s150 s151 s152 s153 s154 s155 s156 s157 s158 s159 s160 s161 s162 s163 s164 s165 s166 s167 s168 s169 s170 s171 s172 s173 s174 s175 s176 s177 s178 s179 s180 s181 s182 s183 s184 s185 s186 s187 s188 s189 s190 s191 s192 s193 s194 s195 s196 s197 s198 s199 s200 s201 s202 s203 s204 s205 s206 s207 s208 s209 s210 s211 : Value) :
    Code.wp Tryz.prog ((Tryz.f9.body.bind (tailAt 18)).getD .skip) (bodyPost Tryz.prog Tryz.f9 PP) { tmps := #[.slice a0 es.length c0, .slice a1 es.length c1, .slice ad2 cuts.length c2, s3, s4, s5, s6, s7, vb, s9, s10, s11, s12, s13, s14, s15, s16, s17, s18, s19, s20, s21, s22, s23, s24, s25, s26, s27, s28, s29, s30, s31, s32, s33, s34, s35, s36, s37, s38, s39, s40, s41, s42, s43, s44, s45, s46, s47, s48, s49, s50, s51, s52, s53, s54, s55, s56, s57, s58, s59, s60, s61, s62, s63, s64, s65, s66, s67, s68, s69, s70, s71, s72, s73, s74, s75, s76, s77, s78, s79, s80, s81, s82, s83, s84, s85, s86, s87, s88, s89, s90, s91, s92, s93, s94, s95, s96, s97, s98, s99, s100, s101, s102, s103, s104, s105, s106, s107, s108, s109, s110, s111, s112, s113, s114, s115, s116, s117, s118, s119, s120, s121, s122, s123, s124, s125, s126, s127, s128, s129, s130, s131, s132, s133, s134, s135, s136, s137, s138, s139, s140, s141, s142, s143, s144, s145, s146, s147, s148, s149, s150, s151, s152, s153, s154, s155, s156, s157, s158, s159, s160, s161, s162, s163, s164, s165, s166, s167, s168, s169, s170, s171, s172, s173, s174, s175, s176, s177, s178, s179, s180, s181, s182, s183, s184, s185, s186, s187, s188, s189, s190, s191, s192, s193, s194, s195, s196, s197, s198, s199, s200, s201, s202, s203, s204, s205, s206, s207, s208, s209, s210, s211], defers := [] } w := by
  conv => arg 2; whnf
  have h14 := hLb.sz
  have HB : Hid _ := hb
  have HC : Hid (RIn .i64 w (.slice ad2 cuts.length c2) cuts) := hcu
  have HA : Hid (H.AllB zs) := hAB
  have HLB : Hid (Lb w) := hLb
  have HAr : Hid (Ar (Pu.arch fns0 zs) es) := hAr
  have HPT : Hid _ := hpt
  have HER : Hid _ := her
  have HRD : Hid _ := hrd
  have HA2 : Hid (∀ i (h : i < es.length), H.AllB es[i].2) := hA2
  have HS2 : Hid (∀ i (h : i < es.length), es[i].2.length ≤ 1500) := hS2
  obtain ⟨ad0, cb0, rfl⟩ := hb.sl
  have HRB : Hid (RIn .u8 w (.slice ad0 zs.length cb0) zs) := HB.out
  obtain ⟨cs, hcs⟩ : ∃ cs : List Int, cs = cuts ++ [(zs.length : Int)] := ⟨_, rfl⟩
  have HCS : Hid (cs = cuts ++ [(zs.length : Int)]) := hcs
  have hcsl : cs.length = cuts.length + 1 := by rw [hcs]; simp
  have HCL : Hid _ := hcsl
  clear hb hcu hAB hLb hAr hpt her hrd hA2 hS2 hcs hcsl HB
  refine wp_seq_k (fun K1 hK1 => ?_)
  have HK1 : Hid _ := hK1
  clear hK1
  go_wp2_with (go_at_call 13; refine (new_w _).mono ?_; rintro e w2 ⟨rfl, pm2, b2, s2⟩; have HPM : Hid _ := pm2; have HB2 : Hid (Below w.heap.size w w2) := b2; have HS : Hid _ := s2; clear pm2 b2 s2)
  refine HK1.out _ _ ?_
  clear HK1 K1
  refine wp_seq_k (fun K2 hK2 => ?_)
  have HK2 : Hid _ := hK2
  clear hK2
  go_wp2_with fail
  refine HK2.out _ _ ?_
  clear HK2 K2
  refine wp_seq_k (fun K6 hK6 => ?_)
  have HK6 : Hid _ := hK6
  clear hK6
  have oE : Hid ((w2.alloc (.cells #[] 3)).ownsRow 0 3 1 (.slice (some ⟨w2.heap.size, 0, none⟩) 0 0) 0 (([] : List Int).map fun z => Value.int .i64 z)) := ⟨rfl, .inr ⟨w2.heap.size, 0, #[], rfl, Nat.zero_le _, heap_alloc_new w2 _, Nat.le_refl _, by decide, by simp, by simp⟩⟩
  have bE : Hid (Below w2.heap.size w2 (w2.alloc (.cells #[] 3))) := (Below.refl _ w2).alloc (Nat.le_refl _) _
  have hcE : Hid (RIn .i64 (w2.alloc (.cells #[] 3)) (.slice ad2 cuts.length c2) cuts) := RIn.below HC.out (HB2.out.trans (bE.out.mono HB2.out.size))
  have sE : w2.heap.size ≤ (w2.alloc (.cells #[] 3)).heap.size := bE.out.size
  refine wp_seq_k (fun K5 hK5 => ?_)
  have HK5 : Hid _ := hK5
  clear hK5
  go_wp2_with (first
    | (at_builtin; refine wpList_append_ints rfl _ _ rfl (xs := []) (ks := cuts) _ rfl oE.out _ rfl hcE.out (by simp; omega) w2.heap.size sE (fun k hk => by have hk' : some w2.heap.size = some k := hk; cases hk'; omega) ?_; intro v5 w5 o5 b5 n5; obtain ⟨a5, c5, rfl, _⟩ := own_sl o5; have HO5 : Hid _ := o5; have HB5 : Hid _ := b5; have HN5 : Hid _ := n5; clear o5 b5 n5)
    | (at_builtin; refine wpList_append_ints rfl _ _ rfl (xs := [] ++ cuts) (ks := [(zs.length : Int)]) _ rfl (own_moved HO5.out fun k hk => ((Below.refl _ w5).alloc (Nat.le_refl _) _).block k (own_lt HO5.out hk).1) _ rfl (.inr ⟨_, 1, rfl, Nat.le_refl _, by decide, cell_one_new _ _ _⟩) (by simp; omega) w2.heap.size (by have := HB5.out.size; simp; omega) HN5.out ?_; intro v6 w6 o6 b6 n6; obtain ⟨a6, c6, rfl, _⟩ := own_sl o6; have HO6 : Hid _ := o6; have HB6 : Hid _ := b6; have HN6 : Hid _ := n6; clear o6 b6 n6))
  refine HK5.out _ _ ?_
  clear HK5 K5
  have hcsl := HCL.out
  have o6 : w6.ownsRow 0 3 1 (.slice a6 cs.length c6) cs.length (cs.map fun z => Value.int .i64 z) := by rw [HCS.out]; exact HO6.out
  have hN6 : ∀ k, (Value.slice a6 cs.length c6).ownBlock = some k → w2.heap.size ≤ k := by rw [HCS.out]; exact HN6.out
  have b26 : Below w2.heap.size w2 w6 := ((bE.out.trans HB5.out).trans ((Below.refl w2.heap.size w5).alloc (Nat.le_trans sE HB5.out.size) _)).trans HB6.out
  have hcsl' : (cuts.length : Int) + 1 = (cs.length : Int) := by omega
  rw [hcsl', ← hcsl]
  clear hcsl' HO6 HN6 HB6 HO5 HB5 HN5 oE bE hcE sE HC
  rcases id o6.2 with ⟨e1, e2⟩ | ⟨GC, cap, cur, e1, e2, e3, e4, e5, e6, e7⟩
  · omega
  cases e1
  have hGC2 := hN6 GC rfl
  have hGC6 := lt_of_heap e3
  have hcells : ∀ j u, (cs.map fun z => Value.int .i64 z)[j]? = some u → w6.cell? ⟨GC, j, none⟩ = some u := fun j u hj => by
    have := o6.cells (g := GC) rfl j u hj
    rw [add_at, Nat.zero_add] at this
    exact this
  have HB06 : Hid (Below w.heap.size w w6) := HB2.out.trans (b26.mono HB2.out.size)
  have hFs := Ws.start (zs := zs) w6 (HPM.out.grow b26) cuts
  rw [← HCS.out] at hFs
  have HFS0 : Hid _ := hFs
  have hs2 := HS.out
  have s6 := b26.size
  have hg1 : w.heap.size < w6.heap.size := by omega
  have hg2 : GC ≠ w.heap.size := by omega
  have HCE : Hid _ := hcells
  have hcs9 : cs.length ≤ 10000 := by omega
  have HHS : Hid _ := hs2
  have HSL : Hid _ := hcsl
  clear hFs hcells e2 e3 e4 e5 e6 e7 hN6 o6 b26 HPM hs2 hcsl s6 hGC2
  have hl0 : strB (lastD (Pu.Ac.nil : AcE)) = ⟨#[]⟩ := rfl
  refine wp_block ?_
  go_loopg [14, 15, 16, 107] cs.length (fun gk t14 t15 t16 t107 W => ∃ (Wn : World) (i pos : Nat) (s : PsR) (kv gv lv : Value) (a : AcE), Wn = W ∧ i ≤ cs.length ∧ cs.length - i ≤ gk ∧ t107 = .int .i64 (i : Int) ∧ t14 = .int .i64 (pos : Int) ∧ t15 = .int .i64 ((a.ts.length : Int) - 1) ∧ t16 = .string (strB (lastD a)) ∧ Hid (Ws w6 W zs cs w.heap.size i pos s kv gv lv a))
  case atStart => exact ⟨_, 0, 0, _, _, _, _, Pu.Ac.nil, rfl, Nat.zero_le _, by omega, rfl, rfl, rfl, by rw [hl0], HFS0⟩
  case round =>
    obtain ⟨W, i, pos, s, kv, gv, lv, a, rfl, hi0, hgk, rfl, rfl, rfl, rfl, hFs⟩ := hrel
    clear HFS0
    by_cases hlt : i < cs.length
    · have hlt1 : (i : Int) < (cs.length : Int) := by omega
      clear HK6 HP
      refine wp_seq_k (fun KA hKA => ?_)
      have HKA : Hid _ := hKA
      clear hKA
      go_wp2_with fail
      refine HKA.out _ _ ?_
      clear HKA KA
      refine wp_seq_k (fun KB hKB => ?_)
      have HKB : Hid _ := hKB
      clear hKB
      go_wp2_with fail
      refine HKB.out _ _ ?_
      clear HKB KB
      refine wp_seq_k (fun KC hKC => ?_)
      have HKC : Hid _ := hKC
      clear hKC
      refine sround_w w w6 W zs cs w.heap.size GC c6 i pos s kv gv lv _ a es _ hFs.out hlt HRB.out HB06.out (Nat.le_refl _) hg1 HA.out hzl HCE.out hGC6 hg2 hcs9 HLB.out HAr.out hes HA2.out HS2.out a0 a1 c0 c1 HNm HDm _ _ _ _ _ _ _ _ _ _ _ _ _ _ _ _ _ _ _ _ _ _ _ _ _ _ _ _ _ _ _ _ _ _ _ _ _ _ _ _ _ _ _ _ _ _ _ _ _ _ _ _ _ _ _ _ _ _ _ _ _ _ _ _ _ _ _ _ _ _ _ _ _ _ _ _ _ _ _ _ _ _ _ _ _ _ _ _ _ _ _ _ _ _ _ _ _ _ _ _ _ _ _ _ _ _ _ _ _ _ _ _ _ _ _ _ _ _ _ _ _ _ _ _ _ _ _ _ _ _ _ _ _ _ _ _ _ _ _ _ _ _ _ _ _ _ _ _ _ _ _ _ _ _ _ _ _ _ _ _ _ _ _ _ _ _ _ _ _ _ _ _ _ _ _ _ _ _ _ _ _ _ _ _ _ _ _ _ _ _ _ _ _ _ _ _ _ _ _ _ _ _ _ ?_
      intro r6 r18 r20 r109 r110 r111 r112 r113 r114 r115 r116 r117 r118 r119 r120 r121 r122 r123 r124 r125 r126 r127 r128 r129 r130 r131 r132 r133 r134 r135 r136 r137 r138 r139 r140 r141 r142 r143 r144 r145 r146 r147 r148 r149 r150 r151 r152 r153 r154 r155 r156 r157 r158 r159 r160 r161 r162 r163 r164 r165 r166 r167 r168 r169 r170 r171 r172 r173 r174 r175 r176 r177 r178 r179 r180 r181 r182 r183 r184 r185 r186 r187 r188 r189 r190 r191 r192 r193 W2 sN kv2 gv2 lv2 aE hF2
      show KC _ _
      have HF2 : Hid _ := hF2
      clear hF2 hFs
      refine HKC.out _ _ ?_
      clear HKC KC
      go_wp2_with fail
      go_roundg (cs.length - (i + 1))
      case rel => exact ⟨_, i + 1, pos + cutN zs cs i pos, sN, kv2, gv2, lv2, aE, rfl, by omega, Nat.le_refl _, by simp, by simp, rfl, rfl, HF2⟩
      case measure => omega
    · have hie : i = cs.length := by omega
      subst hie
      have hf := hFs.out
      have e1 := hf.eq1
      have e2 := hf.eq2
      rw [List.drop_eq_nil_of_le (Nat.le_refl _)] at e1 e2
      simp only [pcs, Pu.feeds, Pu.arcs, Option.some.injEq] at e1 e2
      have hk : a.ts.length = es.length := by rw [e2]; exact HAr.out.len
      have hen := end_w hf.pm
      have hat := at_w hf.pm
      have hev : endV s = .nilIface := by unfold endV; rw [e1, HPT.out, HER.out]; rfl
      have hrd : s.rd = zs.length := by rw [e1]; exact HRD.out
      rw [hev] at hen
      rw [hrd] at hat
      have HEN : Hid _ := hen
      have HAT : Hid _ := hat
      have hbW : Below w.heap.size w W := HB06.out.trans (hf.mv.below HB06.out.size (fun k hk => by omega))
      have HBW : Hid _ := HP.out W hbW
      rw [hk]
      clear e1 e2 hf hk hen hat hev hrd hbW hFs HP HNm HDm
      go_wp2_with fail
      refine HK6.out _ _ ?_
      clear HK6
      go_wp2_with (first | (go_at_call 17; refine Calls.mono HEN.out ?_; rintro e wE ⟨rfl, hwE⟩; have hwE2 : W = wE := hwE.symm; subst hwE2) | (go_at_call 16; refine Calls.mono HAT.out ?_; rintro e wE ⟨rfl, hwE⟩; have hwE2 : W = wE := hwE.symm; subst hwE2))
      exact HBW.out
end Go.Proofs.YtnmmaedngdibeaaGreatDoor

namespace Go.Proofs.YtnmmaedngdibeaaGreatDoor
open Go.RowKit
set_option linter.unusedVariables false
set_option linter.unusedSimpArgs false

theorem run_u8s (ty : TypeId) {W : World} {xs ks : List Int} {v tv : Value} (hv : W.ownsRow 0 5 1 v xs.length (xs.map fun z => Value.int .u8 z)) (ht : RIn .u8 W tv ks) (hb : xs.length + ks.length ≤ 1000000) (B : Nat) (hB : B ≤ W.heap.size) (hvB : ∀ k, v.ownBlock = some k → B ≤ k) :
    ∃ v' W', (Builtin.append_ #[22, 22] ty #[v, tv]).run Tryz.prog W = .ok v' W' ∧ W'.ownsRow 0 5 1 v' (xs ++ ks).length ((xs ++ ks).map fun z => Value.int .u8 z) ∧ Below B W W' ∧ ∀ k, v'.ownBlock = some k → B ≤ k := by
  obtain ⟨i0, hi, hz0, hz1, hz2⟩ := info_parts infoB
  rcases ht with ⟨rfl, rfl⟩ | ⟨ad, c, rfl, e2, e3, e4⟩
  · exact ⟨v, W, run_append_owned_none (P := Tryz.prog) (w := W) 0 22 ty 5 i0 1 Tryz.underlying22 hi v _ _ hv, by simpa using hv, ⟨rfl, rfl, rfl, Nat.le_refl _, fun _ _ => rfl⟩, hvB⟩
  · obtain ⟨v', w', hr, o2, g2, _, at2⟩ := run_append_own_at (P := Tryz.prog) W 0 22 ty 5 i0 _ 1 1 Tryz.underlying22 hi hz0 hz1 hz2 rfl (by decide) v _ _ hv ad ks.length c _ (bytes_len ks) e4 (bytes_one ks) (by unfold maxLen; omega) (by omega) (Nat.zero_le _)
    refine ⟨v', w', hr, by rw [List.length_append, List.map_append]; exact o2, ⟨g2.os, g2.tape, g2.output, g2.size, fun k hk => g2.block k (by omega) (fun e => by have := hvB k e.symm; omega)⟩, fun k hk => ?_⟩
    rcases at2 with e | e
    · rw [e] at hk; exact hvB k hk
    · rw [e] at hk; cases hk; exact hB
theorem run_zeros (ty : TypeId) {W : World} {xs : List Int} {v : Value} (hv : W.ownsRow 0 5 1 v xs.length (xs.map fun z => Value.int .u8 z)) (hne : xs ≠ []) (k : Nat) (hb : xs.length + k ≤ 1000000) (B : Nat) (hB : B ≤ W.heap.size) (hvB : ∀ k, v.ownBlock = some k → B ≤ k) :
    ∃ v' W', (Builtin.append_ #[22, 3] ty #[v, .int .i64 (k : Int)]).run Tryz.prog W = .ok v' W' ∧ W'.ownsRow 0 5 1 v' (xs ++ List.replicate k 0).length ((xs ++ List.replicate k 0).map fun z => Value.int .u8 z) ∧ Below B W W' ∧ ∀ k, v'.ownBlock = some k → B ≤ k := by
  obtain ⟨i0, hi, hz0, hz1, hz2⟩ := info_parts infoB
  have hne2 : v ≠ .slice none 0 0 := fun e => by
    rcases hv.2 with ⟨_, q⟩ | ⟨g, cap, cur, e1, _⟩
    · exact hne (List.eq_nil_of_length_eq_zero q)
    · rw [e1] at e; cases e
  obtain ⟨v', w', hr, o2, g2, at2⟩ := run_append_own_zeros (P := Tryz.prog) W 0 22 3 ty 5 .i64 .i64 i0 Tryz.underlying22 Tryz.underlying3 hi hz0 hz1 hz2 v xs.length _ hv hne2 k (by omega) (Nat.zero_le _)
  have hzk : zc k = (List.replicate k 0).map fun z => Value.int .u8 z := by rw [cells_zc, cells_map]
  rw [hzk, ← List.map_append] at o2
  have hll : xs.length + k = (xs ++ List.replicate k 0).length := by simp
  rw [hll] at o2
  refine ⟨v', w', hr, o2, ⟨g2.os, g2.tape, g2.output, g2.size, fun q hq => g2.block q (by omega) (fun e => by have := hvB q e.symm; omega)⟩, fun k hk => ?_⟩
  rcases at2 with e | e
  · rw [e] at hk; exact hvB k hk
  · rw [e] at hk; cases hk; exact hB
/-- noughts behind nothing -/
theorem run_nil_zeros (ty : TypeId) (W : World) (k : Nat) (hk : 0 < k) (hb : k ≤ 1000000) :
    ∃ v' W', (Builtin.append_ #[22, 3] ty #[.slice none 0 0, .int .i64 (k : Int)]).run Tryz.prog W = .ok v' W' ∧ RIn .u8 W' v' (List.replicate k 0) ∧ Below W.heap.size W W' := by
  obtain ⟨i0, hi, hz0, hz1, hz2⟩ := info_parts infoB
  have hold : (Builtin.firstCells i0.size 0 (.slice none 0 0)).run Tryz.prog W.drew = .ok ([] : List Value).toArray W.drew := by simp [Builtin.firstCells]
  have hr := Lib.run_append_grow_zeros (P := Tryz.prog) W 22 3 ty 5 i0 (.int .u8 0) .i64 .i64 Tryz.underlying22 Tryz.underlying3 hi hz0 none 0 0 [] hold k hk (by omega) (by omega) (by omega) (by rw [hz2]; omega) (by rw [hz2]; exact growslice_fits (by omega) (by omega))
  have hge := grownCap_ge W (0 + k) 0 5
  have hcm2 : grownCap W (0 + k) 0 5 ≤ maxLen := grownCap_le_maxLen W (0 + k) 0 5 (by unfold maxLen; omega)
  rw [zeroCells_eq] at hr
  have hzk : zc k = (List.replicate k 0).map fun z => Value.int .u8 z := by rw [cells_zc, cells_map]
  rw [hzk] at hr
  simp only [Nat.zero_add] at hr hge hcm2
  have hc := heap_alloc_new W.drew (.cells (([] : List Value).toArray ++ ((List.replicate k 0).map fun z => Value.int .u8 z).toArray ++ Builtin.zeroCells (Value.int .u8 0).cells (grownCap W k 0 5 - k)) 5)
  refine ⟨_, _, hr, .inr ⟨⟨W.heap.size, 0, none⟩, grownCap W k 0 5, by rw [List.length_replicate], by rw [List.length_replicate]; exact hge, by unfold maxLen at hcm2; exact hcm2, fun j u hj => ?_⟩, ⟨rfl, rfl, rfl, by simp, fun k hk => (by first | exact heap_alloc_old W.drew _ k hk | exact heap_alloc_old W.drew _ hk)⟩⟩
  have hjl := (List.getElem?_eq_some_iff.1 hj).1
  rw [add_at, Nat.zero_add]
  have hc2 : (W.drew.alloc (.cells (([] : List Value).toArray ++ ((List.replicate k 0).map fun z => Value.int .u8 z).toArray ++ Builtin.zeroCells (Value.int .u8 0).cells (grownCap W k 0 5 - k)) 5)).cell? ⟨W.heap.size, j, none⟩ = (([] : List Value).toArray ++ ((List.replicate k 0).map fun z => Value.int .u8 z).toArray ++ Builtin.zeroCells (Value.int .u8 0).cells (grownCap W k 0 5 - k))[j]? := bx2 hc j
  rw [hc2, Array.getElem?_append_left (by simpa using hjl)]
  generalize (List.replicate k 0).map (fun z => Value.int .u8 z) = lz at *
  simpa using hj
end Go.Proofs.YtnmmaedngdibeaaGreatDoor

namespace Go.Proofs.YtnmmaedngdibeaaGreatDoor
open Go.RowKit
set_option linter.unusedVariables false
set_option linter.unusedSimpArgs false

def regAt (n : Nat) : Code → Option Code
  | .seq a b => (regAt n a).or (regAt n b)
  | .region m ops d => if m = n then some (.region m ops d) else none
  | .block _ c => regAt n c
  | .scope c => regAt n c
  | .cond _ a b => (regAt n a).or (regAt n b)
  | .loop c => regAt n c
  | _ => none

set_option maxRecDepth 100000 in
set_option maxHeartbeats 8000000 in
theorem reg15_w (w W : World) (xs z d : List Int) (vb : Value) (DB dd nn c1 k g : Nat) (da : Option Addr) (dc : Nat) (Q : Exit → Act → World → Prop) (hB : Below w.heap.size w W) (hv : W.ownsRow 0 5 1 vb xs.length (xs.map fun z => Value.int .u8 z)) (hvB : ∀ k, vb.ownBlock = some k → w.heap.size ≤ k)
    (hz : RIn .u8 W (.slice (some ⟨g, 0, none⟩) 512 512) z) (hzl : z.length = 512) (hxl : xs.length ≤ 100000) (hdl : d.length ≤ 1500) (hkn : k < nn) (hnn : nn ≤ 10)
    (HD : Hid (∀ W, Below w.heap.size w W → W.cell? ⟨DB, dd + k, none⟩ = some (.slice da d.length dc) ∧ RIn .u8 W (.slice da d.length dc) d))
    (s0 s2 s3 s4 s5 s6 s7 s10 s12 s13 s14 s15 s16 s17 s18 s19 s20 s21 s22 s23 s24 s25 s26 s27 s28 s29 s30 s31 s32 s33 s34 s35 s36 s37 s38 s39 s40 s41 s42 s43 s44 s45 s46 s47 s48 s49 s50 s51 s52 s53 s54 s55 s56 s57 s58 s59 s60 s61 s62 s63 s64 s65 s66 s67 s68 s69 s70 s71 s72 s73 s74 s75 s76 s77 s78 s79 s80 s81 s82 s83 s84 s85 s86 s87 s88 s89 s90 s91 s92 s93 s94 s95 s96 s97 s98 s99 s100 s101 s102 s103 s104 s105 s106 s107 s108 s109 s110 s111 s112 s113 s114 s115 s116 s117 s118 s119 s120 s121 s122 s123 s124 s125 s126 s127 s128 s129 s130 s131 s132 s133 s134 s135 s136 s137 s138 s139 s140 s141 s142 s143 s144 s145 s146 s147 s148 s149 s150 s151 s152 s153 s154 s155 s156 s157 s158 s159 s160 s161 s162 s163 s164 s165 s166 s167 s168 s169 s170 s171 s172 s173 s174 s175 s176 s177 s178 s179 s180 s181 s182 s183 s184 s185 s186 s187 s188 s189 s190 s191 s192 s193 s194 s195 s196 s197 s198 s199 s200 s201 s202 s203 s204 s205 s206 s207 s208 s209 s210 s211 : Value)
    (HQ : Hid (∀ (r80 r81 r82 r83 r84 r85 r86 r87 r88 r89 r90 r91 r92 r93 r94 v2 : Value) (W2 : World), W2.ownsRow 0 5 1 v2 (xs ++ z ++ d ++ List.replicate ((512 - d.length % 512) % 512) 0).length ((xs ++ z ++ d ++ List.replicate ((512 - d.length % 512) % 512) 0).map fun z => Value.int .u8 z) → Below w.heap.size w W2 → (∀ k, v2.ownBlock = some k → w.heap.size ≤ k) → Q .normal { tmps := #[s0, .slice (some ⟨DB, dd, none⟩) nn c1, s2, s3, s4, s5, s6, s7, v2, .int .i64 (k : Int), s10, .slice (some ⟨g, 0, none⟩) 512 512, s12, s13, s14, s15, s16, s17, s18, s19, s20, s21, s22, s23, s24, s25, s26, s27, s28, s29, s30, s31, s32, s33, s34, s35, s36, s37, s38, s39, s40, s41, s42, s43, s44, s45, s46, s47, s48, s49, s50, s51, s52, s53, s54, s55, s56, s57, s58, s59, s60, s61, s62, s63, s64, s65, s66, s67, s68, s69, s70, s71, s72, s73, s74, s75, s76, s77, s78, s79, r80, r81, r82, r83, r84, r85, r86, r87, r88, r89, r90, r91, r92, r93, r94, s95, s96, s97, s98, s99, s100, s101, s102, s103, s104, s105, s106, s107, s108, s109, s110, s111, s112, s113, s114, s115, s116, s117, s118, s119, s120, s121, s122, s123, s124, s125, s126, s127, s128, s129, s130, s131, s132, s133, s134, s135, s136, s137, s138, s139, s140, s141, s142, s143, s144, s145, s146, s147, s148, s149, s150, s151, s152, s153, s154, s155, s156, s157, s158, s159, s160, s161, s162, s163, s164, s165, s166, s167, s168, s169, s170, s171, s172, s173, s174, s175, s176, s177, s178, s179, s180, s181, s182, s183, s184, s185, s186, s187, s188, s189, s190, s191, s192, s193, s194, s195, s196, s197, s198, s199, s200, s201, s202, s203, s204, s205, s206, s207, s208, s209, s210, s211], defers := [] } W2)) :
    Code.wp Tryz.prog ((Tryz.f9.body.bind (regAt 15)).getD .skip) Q { tmps := #[s0, .slice (some ⟨DB, dd, none⟩) nn c1, s2, s3, s4, s5, s6, s7, vb, .int .i64 (k : Int), s10, .slice (some ⟨g, 0, none⟩) 512 512, s12, s13, s14, s15, s16, s17, s18, s19, s20, s21, s22, s23, s24, s25, s26, s27, s28, s29, s30, s31, s32, s33, s34, s35, s36, s37, s38, s39, s40, s41, s42, s43, s44, s45, s46, s47, s48, s49, s50, s51, s52, s53, s54, s55, s56, s57, s58, s59, s60, s61, s62, s63, s64, s65, s66, s67, s68, s69, s70, s71, s72, s73, s74, s75, s76, s77, s78, s79, s80, s81, s82, s83, s84, s85, s86, s87, s88, s89, s90, s91, s92, s93, s94, s95, s96, s97, s98, s99, s100, s101, s102, s103, s104, s105, s106, s107, s108, s109, s110, s111, s112, s113, s114, s115, s116, s117, s118, s119, s120, s121, s122, s123, s124, s125, s126, s127, s128, s129, s130, s131, s132, s133, s134, s135, s136, s137, s138, s139, s140, s141, s142, s143, s144, s145, s146, s147, s148, s149, s150, s151, s152, s153, s154, s155, s156, s157, s158, s159, s160, s161, s162, s163, s164, s165, s166, s167, s168, s169, s170, s171, s172, s173, s174, s175, s176, s177, s178, s179, s180, s181, s182, s183, s184, s185, s186, s187, s188, s189, s190, s191, s192, s193, s194, s195, s196, s197, s198, s199, s200, s201, s202, s203, s204, s205, s206, s207, s208, s209, s210, s211], defers := [] } W := by
  conv => arg 2; whnf
  have hB0 : Below w.heap.size w W.drew := ⟨hB.os, hB.tape, hB.output, hB.size, hB.block⟩
  have HV : Hid (W.drew.ownsRow 0 5 1 vb xs.length (xs.map fun z => Value.int .u8 z)) := hv
  have HVB : Hid (∀ k, vb.ownBlock = some k → w.heap.size ≤ k) := hvB
  have HZ : Hid (RIn .u8 W.drew (.slice (some ⟨g, 0, none⟩) 512 512) z) := hz
  have HZL : Hid (z.length = 512) := hzl
  have HPD : Hid (∀ W, Calls Tryz.prog 23 #[.int .i64 (d.length : Int)] W fun e w' => e = .returned (.int .i64 ((((512 - d.length % 512) % 512 : Nat)) : Int)) ∧ W = w') := fun W => by
    have h := E.pad_w (d.length : Int) W (by omega) (by omega)
    have e : (512 - (d.length : Int) % 512) % 512 = ((((512 - d.length % 512) % 512 : Nat)) : Int) := by omega
    rw [e] at h
    exact h
  obtain ⟨pd, hpd⟩ : ∃ pd, pd = (512 - d.length % 512) % 512 := ⟨_, rfl⟩
  have hp2 : pd ≤ 511 := by omega
  rw [← hpd] at HPD HQ
  have hki : (k : Int) < (nn : Int) := by omega
  have hni : (nn : Int) ≤ 10 := by omega
  clear hv hvB hz hzl hpd hB
  refine wp_region_noPanic ?_
  refine wp_region_held_drew (S := (fun W' : World => Below w.heap.size w W')) (by kernel_rfl) hB0 (fun hHeld => ?_)
  refine wpAnyH_take (i := 0) (oi := { dst := some 80, op := Op.move (Operand.tmp 8), type := 22, pos := "top07.go:28", after := #[], guard := none }) (v := ?_) rfl (by kernel_rfl) (by kernel_rfl) (by kernel_rfl) (fun _ _ _ h => h) (Or.inl ⟨by rfl, ?_⟩) (by assumption) ?_
  rotate_left 1
  · (intro W hSw; have hcl := (HD.out _ hSw).1; go_simp; try with_reducible rfl)
  (try simp only [Act.put, List.setIfInBounds_toArray, List.set_cons_zero, List.set_cons_succ])
  refine wpAnyH_take (i := 1) (oi := { dst := some 81, op := Op.move (Operand.tmp 11), type := 22, pos := "top07.go:28", after := #[], guard := none }) (v := ?_) rfl (by kernel_rfl) (by kernel_rfl) (by kernel_rfl) (fun _ _ _ h => h) (Or.inl ⟨by rfl, ?_⟩) (by assumption) ?_
  rotate_left 1
  · (intro W hSw; have hcl := (HD.out _ hSw).1; go_simp; try with_reducible rfl)
  (try simp only [Act.put, List.setIfInBounds_toArray, List.set_cons_zero, List.set_cons_succ])
  refine wpAnyH_take (i := 3) (oi := { dst := some 83, op := Op.move (Operand.tmp 1), type := 64, pos := "top07.go:28", after := #[], guard := none }) (v := ?_) rfl (by kernel_rfl) (by kernel_rfl) (by kernel_rfl) (fun _ _ _ h => h) (Or.inl ⟨by rfl, ?_⟩) (by assumption) ?_
  rotate_left 1
  · (intro W hSw; have hcl := (HD.out _ hSw).1; go_simp; try with_reducible rfl)
  (try simp only [Act.put, List.setIfInBounds_toArray, List.set_cons_zero, List.set_cons_succ])
  refine wpAnyH_take (i := 4) (oi := { dst := some 84, op := Op.move (Operand.tmp 9), type := 3, pos := "top07.go:28", after := #[], guard := none }) (v := ?_) rfl (by kernel_rfl) (by kernel_rfl) (by kernel_rfl) (fun _ _ _ h => h) (Or.inl ⟨by rfl, ?_⟩) (by assumption) ?_
  rotate_left 1
  · (intro W hSw; have hcl := (HD.out _ hSw).1; go_simp; try with_reducible rfl)
  (try simp only [Act.put, List.setIfInBounds_toArray, List.set_cons_zero, List.set_cons_succ])
  refine wpAnyH_take (i := 5) (oi := { dst := some 85, op := Op.indexAddr 64 (Operand.tmp 83) (Operand.tmp 84), type := 0, pos := "top07.go:28", after := #[{ on := 3, ground := Ground.data }, { on := 4, ground := Ground.data }], guard := none }) (v := ?_) rfl (by kernel_rfl) (by kernel_rfl) (by kernel_rfl) (fun _ _ _ h => h) (Or.inl ⟨by rfl, ?_⟩) (by assumption) ?_
  rotate_left 1
  · (intro W hSw; have hcl := (HD.out _ hSw).1; go_simp; try with_reducible rfl)
  (try simp only [Act.put, List.setIfInBounds_toArray, List.set_cons_zero, List.set_cons_succ])
  refine wpAnyH_take (i := 6) (oi := { dst := some 86, op := Op.load 22 (Operand.tmp 85), type := 22, pos := "top07.go:28", after := #[{ on := 5, ground := Ground.data }], guard := none }) (v := ?_) rfl (by kernel_rfl) (by kernel_rfl) (by kernel_rfl) (fun _ _ _ h => h) (Or.inl ⟨by rfl, ?_⟩) (by assumption) ?_
  rotate_left 1
  · (intro W hSw; have hcl := (HD.out _ hSw).1; go_simp; try with_reducible rfl)
  (try simp only [Act.put, List.setIfInBounds_toArray, List.set_cons_zero, List.set_cons_succ])
  refine wpAnyH_take (i := 8) (oi := { dst := some 88, op := Op.move (Operand.tmp 1), type := 64, pos := "top07.go:28", after := #[], guard := none }) (v := ?_) rfl (by kernel_rfl) (by kernel_rfl) (by kernel_rfl) (fun _ _ _ h => h) (Or.inl ⟨by rfl, ?_⟩) (by assumption) ?_
  rotate_left 1
  · (intro W hSw; have hcl := (HD.out _ hSw).1; go_simp; try with_reducible rfl)
  (try simp only [Act.put, List.setIfInBounds_toArray, List.set_cons_zero, List.set_cons_succ])
  refine wpAnyH_take (i := 9) (oi := { dst := some 89, op := Op.move (Operand.tmp 9), type := 3, pos := "top07.go:28", after := #[], guard := none }) (v := ?_) rfl (by kernel_rfl) (by kernel_rfl) (by kernel_rfl) (fun _ _ _ h => h) (Or.inl ⟨by rfl, ?_⟩) (by assumption) ?_
  rotate_left 1
  · (intro W hSw; have hcl := (HD.out _ hSw).1; go_simp; try with_reducible rfl)
  (try simp only [Act.put, List.setIfInBounds_toArray, List.set_cons_zero, List.set_cons_succ])
  refine wpAnyH_take (i := 10) (oi := { dst := some 90, op := Op.indexAddr 64 (Operand.tmp 88) (Operand.tmp 89), type := 0, pos := "top07.go:28", after := #[{ on := 8, ground := Ground.data }, { on := 9, ground := Ground.data }], guard := none }) (v := ?_) rfl (by kernel_rfl) (by kernel_rfl) (by kernel_rfl) (fun _ _ _ h => h) (Or.inl ⟨by rfl, ?_⟩) (by assumption) ?_
  rotate_left 1
  · (intro W hSw; have hcl := (HD.out _ hSw).1; go_simp; try with_reducible rfl)
  (try simp only [Act.put, List.setIfInBounds_toArray, List.set_cons_zero, List.set_cons_succ])
  refine wpAnyH_take (i := 11) (oi := { dst := some 91, op := Op.load 22 (Operand.tmp 90), type := 22, pos := "top07.go:28", after := #[{ on := 10, ground := Ground.data }], guard := none }) (v := ?_) rfl (by kernel_rfl) (by kernel_rfl) (by kernel_rfl) (fun _ _ _ h => h) (Or.inl ⟨by rfl, ?_⟩) (by assumption) ?_
  rotate_left 1
  · (intro W hSw; have hcl := (HD.out _ hSw).1; go_simp; try with_reducible rfl)
  (try simp only [Act.put, List.setIfInBounds_toArray, List.set_cons_zero, List.set_cons_succ])
  refine wpAnyH_take (i := 12) (oi := { dst := some 92, op := Op.call { callee := Callee.builtin Builtin.len, args := #[Operand.tmp 91], argTypes := #[22] }, type := 3, pos := "top07.go:28", after := #[{ on := 11, ground := Ground.data }], guard := none }) (v := ?_) rfl (by kernel_rfl) (by kernel_rfl) (by kernel_rfl) (fun _ _ _ h => h) (Or.inl ⟨by rfl, ?_⟩) (by assumption) ?_
  rotate_left 1
  · (intro W hSw; have hcl := (HD.out _ hSw).1; go_simp; try with_reducible rfl)
  (try simp only [Act.put, List.setIfInBounds_toArray, List.set_cons_zero, List.set_cons_succ])
  refine wpAnyH_ready (rs := [2]) (by kernel_rfl) (by simp) ?_
  refine AllReadyH.cons (o := { dst := some 82, op := Op.call { callee := Callee.builtin Builtin.append, args := #[Operand.tmp 80, Operand.tmp 81], argTypes := #[22, 22] }, type := 22, pos := "top07.go:28", after := #[{ on := 0, ground := Ground.data }, { on := 1, ground := Ground.data }], guard := none }) rfl (fun K hK => ?_) AllReadyH.nil
  · obtain ⟨v2, w2, r2, o2, b2, n2⟩ := run_u8s 22 HV.out HZ.out (by have := HZL.out; omega) w.heap.size hB0.size HVB.out
    refine Lib.wp_append_run _ _ _ _ _ rfl _ _ rfl rfl v2 w2 r2 ?_
    have hB2 : Below w.heap.size w w2 := hB0.trans b2
    have HO2 : Hid _ := o2
    have HN2 : Hid _ := n2
    clear o2 b2 n2 r2
    refine hK.out _ _ hB2 (fun hHeld => ?_)
    clear hK K
    (try simp only [Act.put, List.setIfInBounds_toArray, List.set_cons_zero, List.set_cons_succ])
    refine wpAnyH_ready (rs := [7]) (by kernel_rfl) (by simp) ?_
    refine AllReadyH.cons (o := { dst := some 87, op := Op.call { callee := Callee.builtin Builtin.append, args := #[Operand.tmp 82, Operand.tmp 86], argTypes := #[22, 22] }, type := 22, pos := "top07.go:28", after := #[{ on := 2, ground := Ground.data }, { on := 6, ground := Ground.data }, { on := 2, ground := Ground.chain }], guard := none }) rfl (fun K hK => ?_) AllReadyH.nil
    · obtain ⟨v3, w3, r3, o3, b3, n3⟩ := run_u8s 22 HO2.out (HD.out _ hB2).2 (by have := HZL.out; simp only [List.length_append]; omega) w.heap.size hB2.size HN2.out
      refine Lib.wp_append_run _ _ _ _ _ rfl _ _ rfl rfl v3 w3 r3 ?_
      have hB3 : Below w.heap.size w w3 := hB2.trans b3
      have HO3 : Hid _ := o3
      have HN3 : Hid _ := n3
      clear o3 b3 n3 r3
      refine hK.out _ _ hB3 (fun hHeld => ?_)
      clear hK K
      (try simp only [Act.put, List.setIfInBounds_toArray, List.set_cons_zero, List.set_cons_succ])
      refine wpAnyH_ready (rs := [13]) (by kernel_rfl) (by simp) ?_
      refine AllReadyH.cons (o := { dst := some 93, op := Op.call { callee := Callee.value (Operand.func 23), args := #[Operand.tmp 92], argTypes := #[2] }, type := 3, pos := "top07.go:28", after := #[{ on := 12, ground := Ground.data }, { on := 7, ground := Ground.chain }], guard := none }) rfl (fun K hK => ?_) AllReadyH.nil
      · go_simp
        refine (HPD.out _).mono ?_
        rintro ev wP ⟨rfl, hwP⟩
        subst hwP
        refine hK.out _ _ (by assumption) (fun hHeld => ?_)
        clear hK K
        (try simp only [Act.put, List.setIfInBounds_toArray, List.set_cons_zero, List.set_cons_succ])
        refine wpAnyH_ready (rs := [14]) (by kernel_rfl) (by simp) ?_
        refine AllReadyH.cons (o := { dst := some 94, op := Op.call { callee := Callee.builtin Builtin.append, args := #[Operand.tmp 87, Operand.tmp 93], argTypes := #[22, 3] }, type := 22, pos := "top07.go:28", after := #[{ on := 7, ground := Ground.data }, { on := 13, ground := Ground.data }, { on := 13, ground := Ground.chain }], guard := none }) rfl (fun K hK => ?_) AllReadyH.nil
        · obtain ⟨v4, w4, r4, o4, b4, n4⟩ := run_zeros 22 HO3.out (by intro e; have h := congrArg List.length e; simp only [List.length_append, List.length_nil] at h; have := HZL.out; omega) pd (by have := HZL.out; simp only [List.length_append]; omega) w.heap.size hB3.size HN3.out
          refine Lib.wp_append_run _ _ _ _ _ rfl _ _ rfl rfl v4 w4 r4 ?_
          have hB4 : Below w.heap.size w w4 := hB3.trans b4
          have HO4 : Hid _ := o4
          have HN4 : Hid _ := n4
          clear o4 b4 n4 r4
          refine hK.out _ _ hB4 (fun hHeld => ?_)
          clear hK K
          (try simp only [Act.put, List.setIfInBounds_toArray, List.set_cons_zero, List.set_cons_succ])
          refine wpAnyH_take (i := 15) (oi := { dst := some 8, op := Op.assign (Operand.tmp 94), type := 22, pos := "top07.go:28", after := #[{ on := 14, ground := Ground.data }, { on := 14, ground := Ground.chain }, { on := 0, ground := Ground.phase }, { on := 1, ground := Ground.phase }, { on := 2, ground := Ground.phase }, { on := 3, ground := Ground.phase }, { on := 4, ground := Ground.phase }, { on := 5, ground := Ground.phase }, { on := 6, ground := Ground.phase }, { on := 7, ground := Ground.phase }, { on := 8, ground := Ground.phase }, { on := 9, ground := Ground.phase }, { on := 10, ground := Ground.phase }, { on := 11, ground := Ground.phase }, { on := 12, ground := Ground.phase }, { on := 13, ground := Ground.phase }, { on := 14, ground := Ground.phase }], guard := none }) (v := ?_) rfl (by kernel_rfl) (by kernel_rfl) (by kernel_rfl) (fun _ _ _ h => h) (Or.inl ⟨by rfl, ?_⟩) (by assumption) ?_
          rotate_left 1
          · (intro W hSw; have hcl := (HD.out _ hSw).1; go_simp; try with_reducible rfl)
          (try simp only [Act.put, List.setIfInBounds_toArray, List.set_cons_zero, List.set_cons_succ])
          refine wpAnyH_done (by kernel_rfl) ?_ _
          refine NoPanic.normal ?_
          exact HQ.out _ _ _ _ _ _ _ _ _ _ _ _ _ _ _ _ _ HO4.out hB4 HN4.out
end Go.Proofs.YtnmmaedngdibeaaGreatDoor

namespace Go.Proofs.YtnmmaedngdibeaaGreatDoor
open Go.RowKit
set_option linter.unusedVariables false
set_option linter.unusedSimpArgs false

theorem ents_len : ∀ (es : List (ByteArray × List Int)), (∀ x ∈ es, OkE x) → (es.flatMap entL).length ≤ es.length * 2523
  | [], _ => by simp
  | x :: es, h => by
    have h1 := (entL_len (h x List.mem_cons_self)).2
    have h2 := (h x List.mem_cons_self).len
    have h3 := ents_len es (fun y hy => h y (List.mem_cons_of_mem _ hy))
    rw [List.flatMap_cons, List.length_append, List.length_cons]
    omega
theorem any_zeros (ty : TypeId) {w W : World} {xs : List Int} {v : Value} (hv : W.ownsRow 0 5 1 v xs.length (xs.map fun z => Value.int .u8 z)) (hvn : xs = [] → v = .slice none 0 0) (k : Nat) (hk : 0 < k) (hb : xs.length + k ≤ 1000000) (hB : Below w.heap.size w W) (hvB : ∀ k, v.ownBlock = some k → w.heap.size ≤ k) :
    ∃ v' W', (Builtin.append_ #[22, 3] ty #[v, .int .i64 (k : Int)]).run Tryz.prog W = .ok v' W' ∧ RIn .u8 W' v' (xs ++ List.replicate k 0) ∧ Below w.heap.size w W' := by
  by_cases h : xs = []
  · obtain ⟨v', W', h1, h2, h3⟩ := run_nil_zeros ty W k hk (by omega)
    refine ⟨v', W', by rw [hvn h]; exact h1, by rw [h]; exact h2, hB.trans (h3.mono hB.size)⟩
  · obtain ⟨v', W', h1, h2, h3, _⟩ := run_zeros ty hv h k hb w.heap.size hB.size hvB
    exact ⟨v', W', h1, own_rin h2, hB.trans h3⟩

set_option maxRecDepth 100000 in
set_option maxHeartbeats 8000000 in
theorem stream_w (w : World) (a0 a1 ad2 : Option Addr) (n0 c0 n1 c1 c2 : Nat) (cuts : List Int) (hbc : RIn .i64 w (.slice ad2 cuts.length c2) cuts)
    (HES : Hid (n0 = n1 → ∃ es : List (ByteArray × List Int), es.length = n0 ∧ (∀ i (h : i < es.length), H.AllB es[i].2) ∧ (∀ i (h : i < es.length), ∃ B o, a0 = some ⟨B, o, none⟩ ∧ ∀ W, Below w.heap.size w W → W.cell? ⟨B, o + i, none⟩ = some (.string es[i].1)) ∧
      (∀ i (h : i < es.length), ∃ B o da dc, a1 = some ⟨B, o, none⟩ ∧ ∀ W, Below w.heap.size w W → W.cell? ⟨B, o + i, none⟩ = some (.slice da es[i].2.length dc) ∧ RIn .u8 W (.slice da es[i].2.length dc) es[i].2)))
    (hL : Lb w) (hF : F.Laid w) :
    Calls Tryz.prog 9 #[.slice a0 n0 c0, .slice a1 n1 c1, .slice ad2 cuts.length c2] w fun e w' => e = .returned (.bool true) ∧ Below w.heap.size w w' := by
  obtain ⟨PP, hPP⟩ : ∃ PP : Ending → World → Prop, PP = fun e w' => e = .returned (.bool true) ∧ Below w.heap.size w w' := ⟨_, rfl⟩
  rw [← hPP]
  have HP : Hid (∀ W, Below w.heap.size w W → PP (.returned (.bool true)) W) := fun W b => by rw [hPP]; exact ⟨rfl, b⟩
  clear hPP
  have HF0 : Hid (∀ W, Below w.heap.size w W → F.Laid W) := fun W b => hF.below b
  clear hF
  by_cases l0 : (10 : Int) < (n0 : Int)
  · clear hbc hL HES
    go_enter Tryz.func9, Tryz.ntmps9
    refine wp_seq_k (fun K0 hK0 => ?_)
    have HK0 : Hid _ := hK0
    clear hK0
    go_wp2_with fail
    refine HK0.out _ _ ?_
    clear HK0 K0
    refine wp_seq_k (fun K1 hK1 => ?_)
    have HK1 : Hid _ := hK1
    clear hK1
    go_wp2_with (first
      | (go_at_call 13; refine (new_w _).mono ?_; rintro e w2 ⟨rfl, pm2, b2, s2⟩; have hev : endV (Pu.new fns0) = F.chain 5 [0] := rfl; have hen := end_w pm2; rw [hev] at hen; have hcd := F.code_any (some [0]) 5 w2 (HF0.out w2 b2); have HEN : Hid _ := hen; have HCD : Hid (Calls Tryz.prog 18 #[F.chain 5 [0]] w2 fun ev w' => ev = .returned (.int .i64 5) ∧ Below w2.heap.size w2 w') := hcd; have HB2 : Hid (Below w.heap.size w w2) := b2; clear hen hcd hev pm2 b2 s2)
      | (go_at_call 17; refine Calls.mono HEN.out ?_; rintro e wE ⟨rfl, hwE⟩; have hwE2 : w2 = wE := hwE.symm; subst hwE2)
      | (go_at_call 18; refine Calls.mono HCD.out ?_; rintro e w3 ⟨rfl, b3⟩; have hb3 : Below w.heap.size w w3 := HB2.out.trans (b3.mono HB2.out.size)))
    refine HK1.out _ _ ?_
    clear HK1 K1
    have HF : Hid _ := HP.out _ hb3
    clear HP
    go_wp2_with fail
    exact HF.out
  by_cases l1 : ¬ (n1 : Int) = (n0 : Int)
  · clear hbc hL HES
    go_enter Tryz.func9, Tryz.ntmps9
    refine wp_seq_k (fun K0 hK0 => ?_)
    have HK0 : Hid _ := hK0
    clear hK0
    go_wp2_with fail
    refine HK0.out _ _ ?_
    clear HK0 K0
    refine wp_seq_k (fun K1 hK1 => ?_)
    have HK1 : Hid _ := hK1
    clear hK1
    go_wp2_with (first
      | (go_at_call 13; refine (new_w _).mono ?_; rintro e w2 ⟨rfl, pm2, b2, s2⟩; have hev : endV (Pu.new fns0) = F.chain 5 [0] := rfl; have hen := end_w pm2; rw [hev] at hen; have hcd := F.code_any (some [0]) 5 w2 (HF0.out w2 b2); have HEN : Hid _ := hen; have HCD : Hid (Calls Tryz.prog 18 #[F.chain 5 [0]] w2 fun ev w' => ev = .returned (.int .i64 5) ∧ Below w2.heap.size w2 w') := hcd; have HB2 : Hid (Below w.heap.size w w2) := b2; clear hen hcd hev pm2 b2 s2)
      | (go_at_call 17; refine Calls.mono HEN.out ?_; rintro e wE ⟨rfl, hwE⟩; have hwE2 : w2 = wE := hwE.symm; subst hwE2)
      | (go_at_call 18; refine Calls.mono HCD.out ?_; rintro e w3 ⟨rfl, b3⟩; have hb3 : Below w.heap.size w w3 := HB2.out.trans (b3.mono HB2.out.size)))
    refine HK1.out _ _ ?_
    clear HK1 K1
    have HF : Hid _ := HP.out _ hb3
    clear HP
    go_wp2_with fail
    exact HF.out
  by_cases l2 : (50 : Int) < (cuts.length : Int)
  · clear hbc hL HES
    go_enter Tryz.func9, Tryz.ntmps9
    refine wp_seq_k (fun K0 hK0 => ?_)
    have HK0 : Hid _ := hK0
    clear hK0
    go_wp2_with fail
    refine HK0.out _ _ ?_
    clear HK0 K0
    refine wp_seq_k (fun K1 hK1 => ?_)
    have HK1 : Hid _ := hK1
    clear hK1
    go_wp2_with (first
      | (go_at_call 13; refine (new_w _).mono ?_; rintro e w2 ⟨rfl, pm2, b2, s2⟩; have hev : endV (Pu.new fns0) = F.chain 5 [0] := rfl; have hen := end_w pm2; rw [hev] at hen; have hcd := F.code_any (some [0]) 5 w2 (HF0.out w2 b2); have HEN : Hid _ := hen; have HCD : Hid (Calls Tryz.prog 18 #[F.chain 5 [0]] w2 fun ev w' => ev = .returned (.int .i64 5) ∧ Below w2.heap.size w2 w') := hcd; have HB2 : Hid (Below w.heap.size w w2) := b2; clear hen hcd hev pm2 b2 s2)
      | (go_at_call 17; refine Calls.mono HEN.out ?_; rintro e wE ⟨rfl, hwE⟩; have hwE2 : w2 = wE := hwE.symm; subst hwE2)
      | (go_at_call 18; refine Calls.mono HCD.out ?_; rintro e w3 ⟨rfl, b3⟩; have hb3 : Below w.heap.size w w3 := HB2.out.trans (b3.mono HB2.out.size)))
    refine HK1.out _ _ ?_
    clear HK1 K1
    have HF : Hid _ := HP.out _ hb3
    clear HP
    go_wp2_with fail
    exact HF.out
  obtain rfl : n1 = n0 := by omega
  obtain ⟨es, hel, hAl, hNm, hDm⟩ := HES.out rfl
  subst hel
  have HAl : Hid (∀ i (h : i < es.length), H.AllB es[i].2) := hAl
  have HNm : Hid (∀ i (h : i < es.length), ∃ B o, a0 = some ⟨B, o, none⟩ ∧ ∀ W, Below w.heap.size w W → W.cell? ⟨B, o + i, none⟩ = some (.string es[i].1)) := hNm
  have HDm : Hid (∀ i (h : i < es.length), ∃ B o da dc, a1 = some ⟨B, o, none⟩ ∧ ∀ W, Below w.heap.size w W → W.cell? ⟨B, o + i, none⟩ = some (.slice da es[i].2.length dc) ∧ RIn .u8 W (.slice da es[i].2.length dc) es[i].2) := hDm
  have HC : Hid (RIn .i64 w (.slice ad2 cuts.length c2) cuts) := hbc
  have HL : Hid (Lb w) := hL
  have hzz := zeroHdr
  unfold H.hcells at hzz
  clear hAl hNm hDm hbc hL HES
  go_enter Tryz.func9, Tryz.ntmps9
  refine wp_seq_k (fun K0 hK0 => ?_)
  have HK0 : Hid _ := hK0
  clear hK0
  go_wp2_with fail
  refine HK0.out _ _ ?_
  clear HK0 K0
  refine wp_seq_k (fun K1 hK1 => ?_)
  have HK1 : Hid _ := hK1
  clear hK1
  go_wp2_with (first
      | (go_at_call 13; refine (new_w _).mono ?_; rintro e w2 ⟨rfl, pm2, b2, s2⟩; have hev : endV (Pu.new fns0) = F.chain 5 [0] := rfl; have hen := end_w pm2; rw [hev] at hen; have hcd := F.code_any (some [0]) 5 w2 (HF0.out w2 b2); have HEN : Hid _ := hen; have HCD : Hid (Calls Tryz.prog 18 #[F.chain 5 [0]] w2 fun ev w' => ev = .returned (.int .i64 5) ∧ Below w2.heap.size w2 w') := hcd; have HB2 : Hid (Below w.heap.size w w2) := b2; clear hen hcd hev pm2 b2 s2)
      | (go_at_call 17; refine Calls.mono HEN.out ?_; rintro e wE ⟨rfl, hwE⟩; have hwE2 : w2 = wE := hwE.symm; subst hwE2)
      | (go_at_call 18; refine Calls.mono HCD.out ?_; rintro e w3 ⟨rfl, b3⟩; have hb3 : Below w.heap.size w w3 := HB2.out.trans (b3.mono HB2.out.size)))
  refine HK1.out _ _ ?_
  clear HK1 K1
  have HB3 : Hid _ := hb3
  clear HEN HCD HB2 b3 hb3
  refine wp_seq_k (fun K2 hK2 => ?_)
  have HK2 : Hid _ := hK2
  clear hK2
  go_wp2_with fail
  refine HK2.out _ _ ?_
  clear HK2 K2
  refine wp_seq_k (fun K3 hK3 => ?_)
  have HK3 : Hid _ := hK3
  clear hK3
  go_wp2_with fail
  refine HK3.out _ _ ?_
  clear HK3 K3
  refine wp_seq_k (fun K4 hK4 => ?_)
  have HK4 : Hid _ := hK4
  clear hK4
  have O0 : Hid (w3.ownsRow 0 5 1 (.slice none 0 0) (((es.take 0).flatMap entL)).length (((es.take 0).flatMap entL).map fun z => Value.int .u8 z)) := ⟨by simp, .inl ⟨rfl, by simp⟩⟩
  go_wp2_with fail
  go_loopg [8, 47] es.length (fun gk t8 t47 W => ∃ (Wn : World) (i : Nat), Wn = W ∧ i ≤ es.length ∧ es.length - i ≤ gk ∧ t47 = .int .i64 (i : Int) ∧ Hid (W.ownsRow 0 5 1 t8 (((es.take i).flatMap entL)).length (((es.take i).flatMap entL).map fun z => Value.int .u8 z)) ∧ Hid (((es.take i).flatMap entL) = [] → t8 = .slice none 0 0) ∧ Hid (∀ k, t8.ownBlock = some k → w.heap.size ≤ k) ∧ Hid (Below w.heap.size w W) ∧ Hid (∀ x ∈ es.take i, OkE x))
  case atStart => exact ⟨_, 0, rfl, Nat.zero_le _, by omega, rfl, O0, fun _ => rfl, fun k hk => (by cases hk), HB3, fun x hx => (by simp at hx)⟩
  case round =>
    obtain ⟨W, i, rfl, hi0, hgk, rfl, hO, hNil, hNW, hBW, hOK⟩ := hrel
    clear O0 HB3
    by_cases hlt : i < es.length
    · have hlt1 : (i : Int) < (es.length : Int) := by omega
      obtain ⟨NB, no, hn1, hn2⟩ := HNm.out i hlt
      obtain ⟨DB, dd, da, dc, hd1, hd2⟩ := HDm.out i hlt
      have HX : Hid (∃ x, x = es[i]) := ⟨_, rfl⟩
      have k1 := hn2 W hBW.out
      have k2 := (hd2 W hBW.out).1
      have HD2 : Hid (∀ W, Below w.heap.size w W → W.cell? ⟨DB, dd + i, none⟩ = some (.slice da es[i].2.length dc) ∧ RIn .u8 W (.slice da es[i].2.length dc) es[i].2) := hd2
      have hAx := HAl.out i hlt
      have htk : es.take (i + 1) = es.take i ++ [es[i]] := by rw [List.take_succ_eq_append_getElem hlt]
      have HTK : Hid _ := htk
      subst hn1 hd1
      clear hn2 hd2 htk HNm HDm HAl
      generalize es[i] = x at *
      obtain ⟨nm, d⟩ := x
      have HAX : Hid (H.AllB d) := hAx
      clear hAx
      simp only at k1 k2
      by_cases m0 : (1500 : Int) < (d.length : Int)
      · have HF : Hid _ := HP.out W hBW.out
        clear HP HK4 HX hO hNW hOK
        go_wp2_with fail
        exact HF.out
      by_cases m1 : nm.toList = []
      · have m2 : nm.toList.isEmpty = true := by rw [m1]; rfl
        have HF : Hid _ := HP.out W hBW.out
        clear HP HK4 HX hO hNW hOK
        go_wp2_with fail
        exact HF.out
      have m2 : nm.toList.isEmpty = false := by cases h : nm.toList with | nil => exact absurd h m1 | cons _ _ => rfl
      by_cases m3 : (100 : Int) < (nm.size : Int)
      · have HF : Hid _ := HP.out W hBW.out
        clear HP HK4 HX hO hNW hOK
        go_wp2_with fail
        exact HF.out
      cases hf : H.textsB nm ⟨#[]⟩ ⟨#[]⟩ ⟨#[]⟩ ⟨#[]⟩ with
      | false =>
        have HE : Hid (∀ W', Below w.heap.size w W' → Calls Tryz.prog 20 #[.agg #[.int .i64 0, .string nm, .string ⟨#[]⟩, .string ⟨#[]⟩, .string ⟨#[]⟩, .string ⟨#[]⟩, .int .u8 48, .int .i64 420, .int .i64 0, .int .i64 0, .int .i64 (d.length : Int), .int .i64 0]] W' fun e w' => e = .returned (.tuple #[.slice none 0 0, .int .i64 2]) ∧ Below W'.heap.size W' w') := fun W' b => H.enc_long 0 nm ⟨#[]⟩ ⟨#[]⟩ ⟨#[]⟩ ⟨#[]⟩ 48 420 0 0 (d.length : Int) 0 W' hf
        clear HK4 HX hO hNil hNW hOK HD2 HTK HAX hf
        go_wp2_with (go_at_call 20; refine (HE.out _ hBW.out).mono ?_; rintro e wE ⟨rfl, bE⟩; have hFE : Hid _ := HP.out wE (hBW.out.trans (bE.mono hBW.out.size)); clear HP)
        exact hFE.out
      | true =>
        have hn := numsS (d.length : Int) (by omega) (by omega)
        have hzl := hdG_len (n := nm) (ty := 48) (md := 420) (sz := (d.length : Int)) hf hn
        have HE : Hid (∀ W', Below w.heap.size w W' → Calls Tryz.prog 20 #[.agg #[.int .i64 0, .string nm, .string ⟨#[]⟩, .string ⟨#[]⟩, .string ⟨#[]⟩, .string ⟨#[]⟩, .int .u8 48, .int .i64 420, .int .i64 0, .int .i64 0, .int .i64 (d.length : Int), .int .i64 0]] W' fun e w' => ∃ g, e = .returned (.tuple #[.slice (some ⟨g, 0, none⟩) 512 512, .int .i64 0]) ∧ H.Own W' w' g (hdG nm 48 420 (d.length : Int))) := fun W' b => enc_fits nm 48 420 (d.length : Int) W' hf hn (HL.out.below b).laid (by omega) (by omega) (by omega)
        have hok : OkE (nm, d) := ⟨hf, Nat.pos_of_ne_zero fun h => m1 (by
          have e : nm = ⟨#[]⟩ := ByteArray.ext (Array.eq_empty_of_size_eq_zero h)
          exact List.isEmpty_iff.1 (by rw [e]; exact E.emp_none)), by show d.length ≤ 1500; omega, HAX.out⟩
        have hen : entL (nm, d) = hdG nm 48 420 (d.length : Int) ++ d ++ List.replicate ((512 - d.length % 512) % 512) 0 := rfl
        have hfm : ((es.take i).flatMap entL) ++ hdG nm 48 420 (d.length : Int) ++ d ++ List.replicate ((512 - d.length % 512) % 512) 0 = (es.take (i + 1)).flatMap entL := by
          rw [HTK.out, List.flatMap_append, List.flatMap_cons, List.flatMap_nil, List.append_nil, hen]
          simp only [List.append_assoc]
        have hxl := ents_len (es.take i) hOK.out
        have hxl2 : (es.take i).length ≤ i := by rw [List.length_take]; omega
        have hxl3 : ((es.take i).flatMap entL).length ≤ 100000 := by omega
        have hok2 : Hid (∀ x ∈ es.take (i + 1), OkE x) := fun x hx => by
          rw [HTK.out] at hx
          rcases List.mem_append.1 hx with h | h
          · exact hOK.out x h
          · rw [List.mem_singleton.1 h]; exact hok
        have hne1 : Hid (((es.take (i + 1)).flatMap entL) ≠ []) := fun e => by
          have h := congrArg List.length e
          rw [← hfm] at h
          simp only [List.length_append, List.length_nil, hzl] at h
          omega
        have HFM : Hid _ := hfm
        have HZL : Hid _ := hzl
        have HX3 : Hid _ := hxl3
        clear hfm hzl hxl hxl2 hxl3 hen hok hn hf HP HK4 HX hOK HTK HAX hNil
        generalize hdG nm 48 420 (d.length : Int) = z at *
        go_upto_region 15 with (go_at_call 20; refine (HE.out _ hBW.out).mono ?_; rintro e w5 ⟨g, rfl, o5⟩)
        have hzne : z ≠ [] := fun e => by have := HZL.out; rw [e] at this; simp at this
        have hcs := own_cells o5 hzne
        have B5 : Below w.heap.size w w5 := hBW.out.trans (o5.below.mono hBW.out.size)
        have hrz : RIn .u8 w5 (.slice (some ⟨g, 0, none⟩) 512 512) z := .inr ⟨⟨g, 0, none⟩, 512, by rw [HZL.out], by rw [HZL.out]; omega, by decide, hcs⟩
        have ho5 := own_moved hO.out fun k hk => o5.below.block k (own_lt hO.out hk).1
        refine reg15_w w w5 ((es.take i).flatMap entL) z d _ DB dd es.length c1 i g da dc _ B5 ho5 hNW.out hrz HZL.out HX3.out (by omega) hlt (by omega) HD2 _ _ _ _ _ _ _ _ _ _ _ _ _ _ _ _ _ _ _ _ _ _ _ _ _ _ _ _ _ _ _ _ _ _ _ _ _ _ _ _ _ _ _ _ _ _ _ _ _ _ _ _ _ _ _ _ _ _ _ _ _ _ _ _ _ _ _ _ _ _ _ _ _ _ _ _ _ _ _ _ _ _ _ _ _ _ _ _ _ _ _ _ _ _ _ _ _ _ _ _ _ _ _ _ _ _ _ _ _ _ _ _ _ _ _ _ _ _ _ _ _ _ _ _ _ _ _ _ _ _ _ _ _ _ _ _ _ _ _ _ _ _ _ _ _ _ _ _ _ _ _ _ _ _ _ _ _ _ _ _ _ _ _ _ _ _ _ _ _ _ _ _ _ _ _ _ _ _ _ _ _ _ _ _ _ _ _ _ _ _ _ _ _ _ _ _ _ _ _ _ _ _ _ _ _ _ _ _ ?_
        intro r80 r81 r82 r83 r84 r85 r86 r87 r88 r89 r90 r91 r92 r93 r94 v2 W2 o2 b2 n2
        rw [HFM.out] at o2
        have HO2 : Hid (W2.ownsRow 0 5 1 v2 (((es.take (i + 1)).flatMap entL)).length (((es.take (i + 1)).flatMap entL).map fun z => Value.int .u8 z)) := o2
        have HB2 : Hid (Below w.heap.size w W2) := b2
        have HN2 : Hid (∀ k, v2.ownBlock = some k → w.heap.size ≤ k) := n2
        clear o2 b2 n2 ho5 hrz hcs o5 hO hNW HD2 HFM HE HX3
        go_wp2_with fail
        go_roundg (es.length - (i + 1))
        case rel => exact ⟨_, i + 1, rfl, by omega, Nat.le_refl _, by simp, HO2, fun e => absurd e hne1.out, HN2, HB2, hok2⟩
        case measure => omega
    · have hie : i = es.length := by omega
      subst hie
      have hO' := hO.out
      have hNil' := hNil.out
      have hOK' := hOK.out
      rw [List.take_length] at hO' hNil' hOK'
      have hel := ents_len es hOK'
      obtain ⟨v6, w6, r6, ri6, b6⟩ := any_zeros 22 hO' hNil' 1024 (by omega) (by omega) hBW.out hNW.out
      obtain ⟨ts, f1, f2, f3, f4, f5, f6⟩ := ents_fin es hOK'
      obtain ⟨Z, hZ⟩ : ∃ Z, Z = List.replicate 1024 (0 : Int) := ⟨_, rfl⟩
      have hZl : Z.length = 1024 := by rw [hZ]; exact List.length_replicate
      have hZ0 : H.AllB Z := fun x hx => by rw [hZ] at hx; rw [List.eq_of_mem_replicate hx]; omega
      rw [← hZ] at ri6 f1 f4 f5 f6
      have hAr : Ar (Pu.arch fns0 (es.flatMap entL ++ Z)) es := by rw [f1]; exact ⟨f2, f3, rfl⟩
      have hzA : H.AllB (es.flatMap entL ++ Z) := fun x hx => by
        rcases List.mem_append.1 hx with h | h
        · obtain ⟨y, hy, h⟩ := List.mem_flatMap.1 h
          exact entL_allB (hOK' y hy) x h
        · exact hZ0 x h
      have hzl : (es.flatMap entL ++ Z).length ≤ 40000 := by rw [List.length_append, hZl]; omega
      have hS2 : ∀ i (h : i < es.length), es[i].2.length ≤ 1500 := fun i h => (hOK' _ (List.getElem_mem h)).len
      clear hZ hZ0 hZl f1 f2 f3 hel hO hNil hNW hOK hO' hNil' hOK' hBW
      generalize es.flatMap entL ++ Z = zs at *
      have HAr : Hid _ := hAr
      have HF4 : Hid _ := f4
      have HF5 : Hid _ := f5
      have HF6 : Hid _ := f6
      have HZA : Hid _ := hzA
      have HS2 : Hid _ := hS2
      have HR6 : Hid _ := r6
      have HI6 : Hid (RIn .u8 w6 v6 zs) := ri6
      have HB6 : Hid (Below w.heap.size w w6) := b6
      clear hAr f4 f5 f6 hzA hS2 r6 ri6 b6
      go_wp2_with fail
      refine HK4.out _ _ ?_
      clear HK4
      refine wp_seq_k (fun K5 hK5 => ?_)
      have HK5 : Hid _ := hK5
      clear hK5
      go_wp2_with (at_builtin; refine Lib.wpList_append_run _ rfl _ _ 22 3 rfl _ _ rfl rfl v6 w6 HR6.out ?_)
      refine HK5.out _ _ ?_
      have b6 := HB6.out
      exact stail_w w6 zs cuts v6 es PP HI6.out HZA.out hzl (by omega) (HL.out.below b6) ad2 c2 (RIn.below HC.out b6) HAr.out HF4.out HF5.out HF6.out (by omega) HAl.out HS2.out a0 a1 c0 c1
        (fun i h => by obtain ⟨B, o, e1, e2⟩ := HNm.out i h; exact ⟨B, o, e1, fun W b => e2 W (b6.trans (b.mono b6.size))⟩)
        (fun i h => by obtain ⟨B, o, da, dc, e1, e2⟩ := HDm.out i h; exact ⟨B, o, da, dc, e1, fun W b => e2 W (b6.trans (b.mono b6.size))⟩)
        (fun W b => HP.out W (b6.trans (b.mono b6.size))) _ _ _ _ _ _ _ _ _ _ _ _ _ _ _ _ _ _ _ _ _ _ _ _ _ _ _ _ _ _ _ _ _ _ _ _ _ _ _ _ _ _ _ _ _ _ _ _ _ _ _ _ _ _ _ _ _ _ _ _ _ _ _ _ _ _ _ _ _ _ _ _ _ _ _ _ _ _ _ _ _ _ _ _ _ _ _ _ _ _ _ _ _ _ _ _ _ _ _ _ _ _ _ _ _ _ _ _ _ _ _ _ _ _ _ _ _ _ _ _ _ _ _ _ _ _ _ _ _ _ _ _ _ _ _ _ _ _ _ _ _ _ _ _ _ _ _ _ _ _ _ _ _ _ _ _ _ _ _ _ _ _ _ _ _ _ _ _ _ _ _ _ _ _ _ _ _ _ _ _ _ _ _ _ _ _ _ _ _ _ _ _ _ _ _ _ _ _ _ _ _ _ _ _ _ _ _ _
end Go.Proofs.YtnmmaedngdibeaaGreatDoor

namespace Go.Proofs.YtnmmaedngdibeaaGreatDoor
open Go.ChangeShapes Go.WideShapes Go.RowKit
set_option linter.unusedVariables false

set_option maxRecDepth 100000 in
theorem open_strs_in {H : Type} {enc : TypeId × Value → H} {W : World} {base : Nat} {v : Value} {d : DataW H} {p : List MemPlace} (hv : Value.okWide Tryz.prog W .any base 63 v) (h : DataW.Trod enc Tryz.prog W 0 (fun _ => true) true 63 v d p) :
    ∃ ad n cap, ∃ X : Nat → ByteArray, v = .slice ad n cap ∧ ∀ i, i < n → ∃ B o, ad = some ⟨B, o, none⟩ ∧ W.cell? ⟨B, o + i, none⟩ = some (.string (X i)) := by
  obtain ⟨ad, n, cap, rfl⟩ := okWide_slice Tryz.underlying63 hv
  refine ⟨ad, n, cap, ?_⟩
  obtain ⟨fuel, hf⟩ := h
  rcases Go.Deep.open_strs Tryz.underlying63 Tryz.underlying9 (by kernel_rfl) hf with ⟨hcs, _⟩ | ⟨a, len, cp, m, Sx, hcs, hb, hl, hm, hmm, _, hcell⟩
  · simp [Value.cells] at hcs
    obtain ⟨rfl, rfl, rfl⟩ := hcs
    exact ⟨fun _ => ⟨#[]⟩, rfl, fun i hi => absurd hi (Nat.not_lt_zero _)⟩
  · simp [Value.cells] at hcs
    obtain ⟨rfl, rfl, rfl⟩ := hcs
    simp at hmm
    subst hmm
    refine ⟨Sx, rfl, fun i hi => ?_⟩
    obtain ⟨b, off, spot⟩ := a
    have hc := (hcell i (by omega)).1
    have hspot : spot = none := by simpa [Addr.add] using World.cell?_spot (hcell 0 (by omega)).1
    subst hspot
    refine ⟨b, off, rfl, ?_⟩
    rw [← add_at]
    exact hc

set_option maxRecDepth 100000 in
theorem open_bss_in {HH : Type} {enc : TypeId × Value → HH} {W : World} {base : Nat} {v : Value} {d : DataW HH} {p : List MemPlace} (hv : Value.okWide Tryz.prog W .any base 64 v) (h : DataW.Trod enc Tryz.prog W 0 (fun _ => true) true 64 v d p) :
    ∃ ad n cap, ∃ X : Nat → List Int, v = .slice ad n cap ∧ ∀ i, i < n → H.AllB (X i) ∧ ∃ B o da dc, ad = some ⟨B, o, none⟩ ∧ W.cell? ⟨B, o + i, none⟩ = some (.slice da (X i).length dc) ∧ RIn .u8 W (.slice da (X i).length dc) (X i) := by
  obtain ⟨ad, n, cap, rfl⟩ := okWide_slice Tryz.underlying64 hv
  refine ⟨ad, n, cap, ?_⟩
  obtain ⟨fuel, hf⟩ := h
  rcases Go.Deep.open_int_rows Tryz.underlying64 Tryz.underlying22 Tryz.underlying5 (by kernel_rfl) (by kernel_rfl) hf with ⟨hcs, _⟩ | ⟨a, len, cp, A, L, C, Z, hcs, hb, hl, hm, _, hrow⟩
  · simp [Value.cells] at hcs
    obtain ⟨rfl, rfl, rfl⟩ := hcs
    exact ⟨fun _ => [], rfl, fun i hi => absurd hi (Nat.not_lt_zero _)⟩
  · simp [Value.cells] at hcs
    obtain ⟨rfl, rfl, rfl⟩ := hcs
    refine ⟨fun i => (Z i).take (L i), rfl, fun i hi => ?_⟩
    obtain ⟨hc, h1, h2, h3, h4, h5, h6⟩ := hrow i (by omega)
    have hlen : ((Z i).take (L i)).length = L i := by rw [List.length_take]; omega
    obtain ⟨b, off, spot⟩ := a
    have hspot : spot = none := by simpa [Addr.add] using World.cell?_spot (hrow 0 (by omega)).1
    subst hspot
    refine ⟨fun z hz => lit_u8 (h4 z (List.mem_of_mem_take hz)), b, off, A i, C i, rfl, ?_, ?_⟩
    · rw [hlen, ← add_at]
      exact hc
    · rw [hlen]
      cases hA : A i with
      | none =>
        have h7 := h5 hA
        have h8 : L i = 0 := by omega
        rw [h7, h8]
        refine .inl ⟨rfl, List.eq_nil_of_length_eq_zero ?_⟩
        simp [h8]
      | some a' =>
        obtain ⟨_, h9⟩ := h6 a' hA
        unfold maxLen at h2
        refine .inr ⟨a', C i, by rw [hlen], by rw [hlen]; exact h1, by omega, fun j u hj => ?_⟩
        rw [List.getElem?_map] at hj
        obtain ⟨z, hz3, rfl⟩ := Option.map_eq_some_iff.1 hj
        rw [List.getElem?_take] at hz3
        split at hz3
        · have e : (Z i).getD j 0 = z := by rw [List.getD_eq_getElem?_getD, hz3]; rfl
          rw [h9 j (by omega), e]
        · cases hz3

theorem stream_v (w : World) (a0 a1 : Option Addr) (n0 c0 n1 c1 : Nat) (X0 : Nat → ByteArray) (X1 : Nat → List Int) (vc : Value) (cuts : List Int) (hbc : RIn .i64 w vc cuts)
    (h0 : ∀ i, i < n0 → ∃ B o, a0 = some ⟨B, o, none⟩ ∧ w.cell? ⟨B, o + i, none⟩ = some (.string (X0 i)))
    (h1 : ∀ i, i < n1 → H.AllB (X1 i) ∧ ∃ B o da dc, a1 = some ⟨B, o, none⟩ ∧ w.cell? ⟨B, o + i, none⟩ = some (.slice da (X1 i).length dc) ∧ RIn .u8 w (.slice da (X1 i).length dc) (X1 i)) (hL : Lb w) (hF : F.Laid w) :
    Calls Tryz.prog 9 #[.slice a0 n0 c0, .slice a1 n1 c1, vc] w fun e w' => e = .returned (.bool true) ∧ Below w.heap.size w w' := by
  obtain ⟨ad2, c2, rfl⟩ := hbc.sl
  refine stream_w w a0 a1 ad2 n0 c0 n1 c1 c2 cuts hbc (fun hn => ⟨(List.range n0).map fun i => (X0 i, X1 i), by simp, fun i h => ?_, fun i h => ?_, fun i h => ?_⟩) hL hF
  · have hi : i < n0 := by simpa using h
    rw [List.getElem_map, List.getElem_range]
    exact (h1 i (by omega)).1
  · have hi : i < n0 := by simpa using h
    rw [List.getElem_map, List.getElem_range]
    obtain ⟨B, o, e1, e2⟩ := h0 i hi
    exact ⟨B, o, e1, fun W b => (b.cell (World.block_lt_of_cell? _ _ e2)).trans e2⟩
  · have hi : i < n0 := by simpa using h
    rw [List.getElem_map, List.getElem_range]
    obtain ⟨_, B, o, da, dc, e1, e2, e3⟩ := h1 i (by omega)
    exact ⟨B, o, da, dc, e1, fun W b => ⟨(b.cell (World.block_lt_of_cell? _ _ e2)).trans e2, e3.below b⟩⟩
end Go.Proofs.YtnmmaedngdibeaaGreatDoor

