/-
  Plain: strings of bytes.
-/
import Derived.Test.YtmholjjicklnhabDoorLess
namespace Go.Proofs.YtmholjjicklnhabDoor

theorem strOf_sizeR (ns : List Int) : (strOf ns).size = ns.length := by
  have := strOf_toList ns
  rw [ByteArray.toList_eq] at this
  have h := congrArg List.length this
  rw [u8s, List.length_map, Array.length_toList] at h
  exact h

theorem strOf_extR (s : ByteArray) (ns : List Int) (h : s.data.toList = u8s ns) : s = strOf ns := by
  have := strOf_toList ns
  rw [ByteArray.toList_eq] at this
  rw [← this] at h
  cases s; cases hs : strOf ns
  rw [hs] at h
  simp at h
  rw [h]

theorem strOf_append (x y : List Int) : strOf x ++ strOf y = strOf (x ++ y) := by
  apply strOf_extR
  have e : ∀ a b : ByteArray, (a ++ b).data.toList = a.data.toList ++ b.data.toList := fun a b => by simp
  have h1 := strOf_toList x
  have h2 := strOf_toList y
  rw [ByteArray.toList_eq] at h1 h2
  rw [e, h1, h2]
  simp [u8s]

end Go.Proofs.YtmholjjicklnhabDoor
