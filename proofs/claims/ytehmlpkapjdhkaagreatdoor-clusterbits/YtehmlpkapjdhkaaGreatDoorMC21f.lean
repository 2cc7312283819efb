import Derived.Test.YtehmlpkapjdhkaaGreatDoorMC21j
import Derived.Test.YtehmlpkapjdhkaaGreatDoorMC21k
import Derived.Test.YtehmlpkapjdhkaaGreatDoorME12
import Derived.Deep.DeepHandedRow
import Derived.SevenTiedAt
namespace Go.Proofs.YtehmlpkapjdhkaaGreatDoor
open Go.ChangeShapes Go.WideShapes Go.ChangeAt Go.RowKit Go.Joins Go.Deep

set_option maxRecDepth 100000 in
theorem clusterBits_facts : joinedFacts Tryz.pinned.checked.prog 4 Tryz.f4 (OpenSpec.ofChange Rows.clusterBitsSpec).bare Rows.clusterBitsRow = true := by
  unfold joinedFacts
  have h1 := clusterBits_j1
  have h2 := clusterBits_j2
  have h3 := clusterBits_j3
  have h4 := clusterBits_j4
  rw [h1, h2, h3, h4]
  change _ = true
  kernel_rfl
end Go.Proofs.YtehmlpkapjdhkaaGreatDoor
