/-
  The law's head: asks, digits.
-/
import Derived.Test.YtojbfdlgjjghjaaGreatDoorKKh
namespace Go.Proofs.YtojbfdlgjjghjaaGreatDoor.K
open Go.RowKit
open Go.Lib hiding intOf
set_option linter.unusedVariables false
set_option linter.unusedSimpArgs false

theorem dec_send : decP ⟨#[115, 101, 110, 100, 32, 49, 32, 50, 32, 54, 56, 54, 57]⟩ = .inr (⟨2, 1, 2, 0, ⟨#[]⟩⟩, [104, 105]) := by kernel_rfl
theorem enc_send : encP 2 ⟨2, 1, 2, 0, ⟨#[]⟩⟩ [104, 105] = ⟨#[115, 101, 110, 100, 32, 49, 32, 50, 32, 54, 56, 54, 57]⟩ := by kernel_rfl

theorem fold_bs : ∀ (l : List UInt8) (r : ByteArray), (l.map fun c => ((c.toNat : Nat) : Int)).foldl (fun r n => r.push (UInt8.ofNat n.toNat)) r = r ++ ⟨l.toArray⟩
  | [], r => by
    show r = r ++ ⟨([] : List UInt8).toArray⟩
    apply ByteArray.ext
    simp [ByteArray.data_append]
  | c :: t, r => by
    rw [List.map_cons, List.foldl_cons, fold_bs t]
    have e : UInt8.ofNat ((c.toNat : Nat) : Int).toNat = c := by simp
    rw [e]
    apply ByteArray.ext
    simp [ByteArray.data_append]

/-- bytes that lie somewhere, as a text -/
theorem bytes_str {w : World} {g o : Nat} {l : List UInt8} (h : ∀ i (hi : i < l.length), w.cell? ⟨g, o + i, none⟩ = some (.int .u8 (l[i].toNat : Int))) (c : Nat) : (convert 22 9 (.slice (some ⟨g, o, none⟩) l.length c)).run Tryz.prog w = .ok (.string ⟨l.toArray⟩) w := by
  rw [run_convert_bytes_string w 22 9 5 _ _ _ Tryz.underlying22 Tryz.underlying5 Tryz.underlying9]
  have hl := run_loadCells_list (P := Tryz.prog) (w := w) ⟨g, o, none⟩ (bcs l) (fun j v hj => by
    have hjl : j < l.length := by have := (List.getElem?_eq_some_iff.1 hj).1; simpa [bcs] using this
    have := h j hjl
    have e : v = .int .u8 (l[j].toNat : Int) := by simp [bcs, hjl] at hj; exact hj.symm
    rw [e]
    have e9 : (⟨g, o, none⟩ : Addr).add j = ⟨g, o + j, none⟩ := by unfold Addr.add; split <;> simp_all
    rw [e9]
    exact this)
  have hl2 : (loadCells ⟨g, o, none⟩ l.length).run Tryz.prog w = .ok ((l.map fun c => ((c.toNat : Nat) : Int)).map (Value.int .u8)).toArray w := by
    have e : bcs l = (l.map fun c => ((c.toNat : Nat) : Int)).map (Value.int .u8) := by simp [bcs]
    rw [← e]
    simpa [bcs] using hl
  rw [run_bytesToString w _ _ _ _ hl2, fold_bs]
  congr 2
theorem none_str (w : World) (ad : Option Addr) (cap : Nat) : (convert 22 9 (.slice ad 0 cap)).run Tryz.prog w = .ok (.string ⟨#[]⟩) w := by
  rw [run_convert_bytes_string w 22 9 5 _ _ _ Tryz.underlying22 Tryz.underlying5 Tryz.underlying9]
  cases ad with
  | none => rfl
  | some a => exact run_bytesToString w a 0 cap [] rfl
theorem BytesIn.str {w : World} {d : Value} {bs : List UInt8} (h : BytesIn w d bs) : (convert 22 9 d).run Tryz.prog w = .ok (.string ⟨bs.toArray⟩) w := by
  rcases h with ⟨rfl, ad, c, rfl⟩ | ⟨B, o, c, rfl, hc⟩
  · exact none_str w ad c
  · exact bytes_str hc c
theorem DatAt.ne {w : World} {d : Value} {bs : List UInt8} (h : DatAt w d bs) (hne : bs ≠ []) (n : Nat) (hn : bs.length = n) : ∃ B, d = .slice (some ⟨B, 0, none⟩) n n := by
  rcases h with ⟨h1, _⟩ | ⟨B, h1, h2⟩
  · exact absurd h1 hne
  · exact ⟨B, by rw [h1, hn]⟩

/-- digits: what strconv says, too -/
theorem dec_big {n : Nat} (h : ¬ n < 10) : Lib.decDigits n = Lib.decDigits (n / 10) ++ [UInt8.ofNat (48 + n % 10)] := by rw [Lib.decDigits, dif_neg h]

/-- a digit as bytes, as a text -/
theorem one_str (W : World) (x : Nat) (hx : x < 10) : (convert 22 9 (.slice (some ⟨W.heap.size, 0, none⟩) 1 1)).run Tryz.prog (W.alloc (.cells #[.int .u8 (48 + (x : Int))] 5)) = .ok (.string ⟨#[UInt8.ofNat (48 + x)]⟩) (W.alloc (.cells #[.int .u8 (48 + (x : Int))] 5)) := by
  have := bytes_str (w := W.alloc (.cells #[.int .u8 (48 + (x : Int))] 5)) (g := W.heap.size) (o := 0) (l := [UInt8.ofNat (48 + x)]) (fun i hi => by
    match i, hi with
    | 0, _ =>
      rw [World.cell?_alloc_new]
      simp [UInt8.toNat_ofNat']
      omega) 1
  exact this

/-- where digits stands -/
def Dgs (n m : Nat) (s : ByteArray) : Prop := Lib.decDigits n = Lib.decDigits m ++ s.data.toList ∧ s.size ≤ 30 ∧ m ≤ n
theorem dgs_size (n : Nat) (hn : n ≤ 9223372036854775807) : (Lib.decDigits n).length ≤ 19 := by
  rw [Lib.decDigits_length]
  have h2 : Lib.nDigits 9223372036854775807 = 19 := Lib.nDigits_unique 18 _ (by decide) (by decide)
  have := nDigits_mono n 9223372036854775807 (by omega)
  omega
theorem Dgs.start (n : Nat) : Dgs n n ⟨#[]⟩ := ⟨by simp, Nat.zero_le _, Nat.le_refl _⟩
theorem Dgs.next {n m : Nat} {s : ByteArray} (hn : n ≤ 9223372036854775807) (h : Dgs n m s) (hm : ¬ m < 10) : Dgs n (m / 10) (⟨#[UInt8.ofNat (48 + m % 10)]⟩ ++ s) := by
  obtain ⟨h1, h2, h3⟩ := h
  have e : Lib.decDigits n = Lib.decDigits (m / 10) ++ ((⟨#[UInt8.ofNat (48 + m % 10)]⟩ : ByteArray) ++ s).data.toList := by
    rw [h1, dec_big hm]
    simp [ByteArray.data_append]
  refine ⟨e, ?_, by omega⟩
  have := congrArg List.length e
  have h4 := dgs_size n hn
  rw [List.length_append] at this
  have h5 : ((⟨#[UInt8.ofNat (48 + m % 10)]⟩ : ByteArray) ++ s).data.toList.length = ((⟨#[UInt8.ofNat (48 + m % 10)]⟩ : ByteArray) ++ s).size := rfl
  omega
theorem Dgs.last {n m : Nat} {s : ByteArray} (h : Dgs n m s) (hm : m < 10) : (⟨#[UInt8.ofNat (48 + m)]⟩ : ByteArray) ++ s = num n := by
  obtain ⟨h1, h2, h3⟩ := h
  unfold num
  rw [Lib.itoa_nonneg, h1, Lib.decDigits_one hm]
  apply ByteArray.ext
  simp [ByteArray.data_append]

end Go.Proofs.YtojbfdlgjjghjaaGreatDoor.K
