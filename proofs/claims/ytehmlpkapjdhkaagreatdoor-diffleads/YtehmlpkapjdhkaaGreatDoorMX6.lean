import Derived.Test.YtehmlpkapjdhkaaGreatDoorMX2
import Derived.Test.YtehmlpkapjdhkaaGreatDoorMF
import Derived.RegionIn
import Derived.Test.YtehmlpkapjdhkaaGreatDoorML3
import Derived.Test.YtehmlpkapjdhkaaGreatDoorMK1
import Derived.Test.YtehmlpkapjdhkaaGreatDoorMX1
import Derived.Test.YtehmlpkapjdhkaaGreatDoorML4
namespace Go.Proofs.YtehmlpkapjdhkaaGreatDoor
section
open Go.RowKit Go.Shelf
attribute [local go_sem] Oper.semAt_some
end

section
open Go.RowKit Go.Shelf
set_option maxRecDepth 100000

theorem HoldsS.part {w : World} {b off : Nat} {l : List Ob} (h : HoldsS w (some ⟨b, off, none⟩) l) (k n : Nat) : HoldsS w (some ⟨b, off + k * 4, none⟩) ((l.drop k).take n) := by
  intro i hi
  have hi' : k + i < l.length := by rw [List.length_take, List.length_drop] at hi; omega
  obtain ⟨b', off', e, hb, hc⟩ := h (k + i) hi'
  cases e
  refine ⟨b, off + k * 4, rfl, hb, fun j hj => ?_⟩
  have hj' : k + j < l.length := by rw [List.length_take, List.length_drop] at hj; omega
  rw [List.getElem_take, List.getElem_drop]
  have := hc (k + j) hj'
  rwa [show off + (k + j) * 4 = off + k * 4 + j * 4 by omega] at this
end
end Go.Proofs.YtehmlpkapjdhkaaGreatDoor
