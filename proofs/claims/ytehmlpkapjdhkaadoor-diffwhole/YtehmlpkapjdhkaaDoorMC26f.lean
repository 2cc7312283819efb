import Derived.Test.YtehmlpkapjdhkaaDoorMC26j
import Derived.Test.YtehmlpkapjdhkaaDoorMC26k
import Derived.Test.YtehmlpkapjdhkaaDoorMH
import Derived.Deep.DeepHandedRow
import Derived.SevenTiedAt
namespace Go.Proofs.YtehmlpkapjdhkaaDoor
open Go.ChangeShapes Go.WideShapes Go.ChangeAt Go.RowKit Go.Joins Go.Deep

set_option maxRecDepth 100000 in
theorem diffWhole_facts : joinedFacts Tryd.pinned.checked.prog 3 Tryd.f3 (OpenSpec.ofChange Rows.diffWholeSpec).bare Rows.diffWholeRow = true := by
  unfold joinedFacts
  have h1 := diffWhole_j1
  have h2 := diffWhole_j2
  have h3 := diffWhole_j3
  have h4 := diffWhole_j4
  rw [h1, h2, h3, h4]
  change _ = true
  kernel_rfl
end Go.Proofs.YtehmlpkapjdhkaaDoor
