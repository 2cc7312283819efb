import Derived.Test.YtehmlpkapjdhkaaGreatDoorMC25j
import Derived.Test.YtehmlpkapjdhkaaGreatDoorMC25k
import Derived.Test.YtehmlpkapjdhkaaGreatDoorME12
import Derived.Deep.DeepHandedRow
import Derived.SevenTiedAt
namespace Go.Proofs.YtehmlpkapjdhkaaGreatDoor
open Go.ChangeShapes Go.WideShapes Go.ChangeAt Go.RowKit Go.Joins Go.Deep

set_option maxRecDepth 100000 in
theorem diffLeads_facts : joinedFacts Tryz.pinned.checked.prog 5 Tryz.f5 (OpenSpec.ofChange Rows.diffLeadsSpec).bare Rows.diffLeadsRow = true := by
  unfold joinedFacts
  have h1 := diffLeads_j1
  have h2 := diffLeads_j2
  have h3 := diffLeads_j3
  have h4 := diffLeads_j4
  rw [h1, h2, h3, h4]
  change _ = true
  kernel_rfl
end Go.Proofs.YtehmlpkapjdhkaaGreatDoor
