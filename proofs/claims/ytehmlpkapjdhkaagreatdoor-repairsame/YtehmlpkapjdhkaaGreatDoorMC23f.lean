import Derived.Test.YtehmlpkapjdhkaaGreatDoorMC23j
import Derived.Test.YtehmlpkapjdhkaaGreatDoorMC23k
import Derived.Test.YtehmlpkapjdhkaaGreatDoorME12
import Derived.Deep.DeepHandedRow
import Derived.SevenTiedAt
namespace Go.Proofs.YtehmlpkapjdhkaaGreatDoor
open Go.ChangeShapes Go.WideShapes Go.ChangeAt Go.RowKit Go.Joins Go.Deep

set_option maxRecDepth 100000 in
theorem repairSame_facts : joinedFacts Tryz.pinned.checked.prog 6 Tryz.f6 (OpenSpec.ofChange Rows.repairSameSpec).bare Rows.repairSameRow = true := by
  unfold joinedFacts
  have h1 := repairSame_j1
  have h2 := repairSame_j2
  have h3 := repairSame_j3
  have h4 := repairSame_j4
  rw [h1, h2, h3, h4]
  change _ = true
  kernel_rfl
end Go.Proofs.YtehmlpkapjdhkaaGreatDoor
