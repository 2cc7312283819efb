import Derived.Test.YtehmlpkapjdhkaaGreatDoorMC24j
import Derived.Test.YtehmlpkapjdhkaaGreatDoorMC24k
import Derived.Test.YtehmlpkapjdhkaaGreatDoorME12
import Derived.Deep.DeepHandedRow
import Derived.SevenTiedAt
namespace Go.Proofs.YtehmlpkapjdhkaaGreatDoor
open Go.ChangeShapes Go.WideShapes Go.ChangeAt Go.RowKit Go.Joins Go.Deep
set_option maxRecDepth 100000 in
theorem repairAll_facts : joinedFacts Tryz.pinned.checked.prog 7 Tryz.f7 (OpenSpec.ofChange Rows.repairAllSpec).bare Rows.repairAllRow = true:=by
  unfold joinedFacts
  have h1:=repairAll_j1
  have h2:=repairAll_j2
  have h3:=repairAll_j3
  have h4:=repairAll_j4
  rw [h1,h2,h3,h4]
  change _ = true
  kernel_rfl
end Go.Proofs.YtehmlpkapjdhkaaGreatDoor
