import Derived.Test.YtehmlpkapjdhkaaGreatDoorMP
import Derived.Test.YtehmlpkapjdhkaaGreatDoorMH
import Derived.Laws.CopyOwn
import Derived.Test.YtehmlpkapjdhkaaGreatDoorSh
import Derived.Test.YtehmlpkapjdhkaaGreatDoorMV4
import Derived.Shelf.Strconv.Itoa3
import Derived.Lib.LaidTab
namespace Go.Proofs.YtehmlpkapjdhkaaGreatDoor
section
open Go.RowKit

/- order does not matter: any order of the updates. -/
end

section
open Go.RowKit
set_option maxRecDepth 100000

/-- a list of strings in memory. -/
def HoldsT (w : World) (a : Option Addr) (l : List ByteArray) : Prop :=
  ∀ i, i < l.length → ∃ b off, a = some ⟨b, off, none⟩ ∧ b < w.heap.size ∧ ∀ j (hj : j < l.length), w.cell? ⟨b, off + j, none⟩ = some (.string l[j])
theorem HoldsT.below {w w' : World} {a : Option Addr} {l : List ByteArray} (h : HoldsT w a l) (hb : Below w.heap.size w w') : HoldsT w' a l := by
  intro i hi
  obtain ⟨b, off, e, hlt, hc⟩ := h i hi
  exact ⟨b, off, e, Nat.lt_of_lt_of_le hlt hb.size, fun j hj => (hb.cell (p := ⟨b, off + j, none⟩) hlt).trans (hc j hj)⟩
end

section
open Go.RowKit
set_option maxRecDepth 100000
end

section
open Go.RowKit
set_option maxRecDepth 100000
end
end Go.Proofs.YtehmlpkapjdhkaaGreatDoor
