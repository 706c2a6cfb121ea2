/-
  A slice of bytes made a string.
-/
import Derived.Test.YtnmmaedngdibeaaGreatDoorHParse
import Derived.Test.YtnmmaedngdibeaaGreatDoorHOct
import Derived.Laws.BytesString
namespace Go.Proofs.YtnmmaedngdibeaaGreatDoor.H
open Go.RowKit

def strOf (ns : List Int) : ByteArray := ns.foldl (fun r n => r.push (UInt8.ofNat n.toNat)) ByteArray.empty

theorem conv_str (w : World) (b off : Nat) (cap : Nat) (ns : List Int) (hc : ∀ i : Nat, i < ns.length → w.cell? ⟨b, off + i, none⟩ = some (.int .u8 (ns[i]?.getD 0))) :
    (convert 22 9 (.slice (some ⟨b, off, none⟩) ns.length cap)).run Tryz.prog w = .ok (.string (strOf ns)) w := by
  rw [run_convert_bytes_string w 22 9 5 _ _ _ Tryz.underlying22 Tryz.underlying5 Tryz.underlying9]
  refine run_bytesToString w _ _ _ ns ?_
  have h := run_loadCells_list (P := Tryz.prog) (w := w) ⟨b, off, none⟩ (ns.map (Value.int .u8)) (fun j v hj => by
    simp only [List.getElem?_map, Option.map_eq_some_iff] at hj
    obtain ⟨z, hz, rfl⟩ := hj
    have hl : j < ns.length := (List.getElem?_eq_some_iff.1 hz).1
    have := hc j hl
    rw [hz] at this
    by_cases h0 : j = 0
    · subst h0; simpa [Addr.add] using this
    · simpa [Addr.add, h0] using this)
  simpa using h

end Go.Proofs.YtnmmaedngdibeaaGreatDoor.H
