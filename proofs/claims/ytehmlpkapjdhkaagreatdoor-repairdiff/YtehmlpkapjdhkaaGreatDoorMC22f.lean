import Derived.Test.YtehmlpkapjdhkaaGreatDoorMC22j
import Derived.Test.YtehmlpkapjdhkaaGreatDoorMC22k
import Derived.Test.YtehmlpkapjdhkaaGreatDoorME12
import Derived.Deep.DeepHandedRow
import Derived.SevenTiedAt
namespace Go.Proofs.YtehmlpkapjdhkaaGreatDoor
open Go.ChangeShapes Go.WideShapes Go.ChangeAt Go.RowKit Go.Joins Go.Deep

set_option maxRecDepth 100000 in
theorem repairDiff_facts : joinedFacts Tryz.pinned.checked.prog 8 Tryz.f8 (OpenSpec.ofChange Rows.repairDiffSpec).bare Rows.repairDiffRow = true := by
  unfold joinedFacts
  have h1 := repairDiff_j1
  have h2 := repairDiff_j2
  have h3 := repairDiff_j3
  have h4 := repairDiff_j4
  rw [h1, h2, h3, h4]
  change _ = true
  kernel_rfl
end Go.Proofs.YtehmlpkapjdhkaaGreatDoor
