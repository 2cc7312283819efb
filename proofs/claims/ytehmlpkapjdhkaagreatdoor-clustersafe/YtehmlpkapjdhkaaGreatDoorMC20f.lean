import Derived.Test.YtehmlpkapjdhkaaGreatDoorMC20j
import Derived.Test.YtehmlpkapjdhkaaGreatDoorMC20k
import Derived.Test.YtehmlpkapjdhkaaGreatDoorME12
import Derived.Deep.DeepHandedRow
import Derived.SevenTiedAt
namespace Go.Proofs.YtehmlpkapjdhkaaGreatDoor
open Go.ChangeShapes Go.WideShapes Go.ChangeAt Go.RowKit Go.Joins Go.Deep

set_option maxRecDepth 100000 in
theorem clusterSafe_facts : joinedFacts Tryz.pinned.checked.prog 3 Tryz.f3 (OpenSpec.ofChange Rows.clusterSafeSpec).bare Rows.clusterSafeRow = true := by
  unfold joinedFacts
  have h1 := clusterSafe_j1
  have h2 := clusterSafe_j2
  have h3 := clusterSafe_j3
  have h4 := clusterSafe_j4
  rw [h1, h2, h3, h4]
  change _ = true
  kernel_rfl
end Go.Proofs.YtehmlpkapjdhkaaGreatDoor
