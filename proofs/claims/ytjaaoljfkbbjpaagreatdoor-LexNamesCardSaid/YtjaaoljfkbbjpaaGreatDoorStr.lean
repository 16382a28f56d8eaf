/-
  A string by the list of its bytes. No condition.
-/
import Derived.Test.YtjaaoljfkbbjpaaGreatDoorRows
namespace Go.Proofs.YtjaaoljfkbbjpaaGreatDoor
open Go

def str (l : List UInt8) : ByteArray := ⟨l.toArray⟩
theorem str_data (l : List UInt8) : (str l).data.toList = l := by simp [str]
theorem str_of {s : ByteArray} {l : List UInt8} (h : s.data.toList = l) : s = str l := by subst h; rfl
theorem str_size (l : List UInt8) : (str l).size = l.length := by simp [str, ByteArray.size]
theorem str_inj {a b : List UInt8} (h : str a = str b) : a = b := by rw [← str_data a, h, str_data]
end Go.Proofs.YtjaaoljfkbbjpaaGreatDoor
