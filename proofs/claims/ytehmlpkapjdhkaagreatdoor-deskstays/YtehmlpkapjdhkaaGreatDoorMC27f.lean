import Derived.Test.YtehmlpkapjdhkaaGreatDoorMC27j
import Derived.Test.YtehmlpkapjdhkaaGreatDoorMC27k
import Derived.Test.YtehmlpkapjdhkaaGreatDoorME12
import Derived.Deep.DeepHandedRow
import Derived.SevenTiedAt
namespace Go.Proofs.YtehmlpkapjdhkaaGreatDoor
open Go.ChangeShapes Go.WideShapes Go.ChangeAt Go.RowKit Go.Joins Go.Deep

set_option maxRecDepth 100000 in
theorem deskStays_facts : joinedFacts Tryz.pinned.checked.prog 10 Tryz.f10 (OpenSpec.ofChange Rows.deskStaysSpec).bare Rows.deskStaysRow = true := by
  unfold joinedFacts
  have h1 := deskStays_j1
  have h2 := deskStays_j2
  have h3 := deskStays_j3
  have h4 := deskStays_j4
  rw [h1, h2, h3, h4]
  change _ = true
  kernel_rfl
end Go.Proofs.YtehmlpkapjdhkaaGreatDoor
