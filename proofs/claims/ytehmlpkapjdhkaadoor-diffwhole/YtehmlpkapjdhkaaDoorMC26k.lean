import Derived.Test.YtehmlpkapjdhkaaDoorMA
namespace Go.Proofs.YtehmlpkapjdhkaaDoor
open Go.RowKit
theorem diffWhole_j3 : (Rows.diffWholeRow.recurses == Tryd.pinned.checked.prog.recurses 3) = true := by kernel_rfl
theorem diffWhole_j4 : (Rows.diffWholeRow.named == Tryd.pinned.checked.prog.varsNamed 3) = true := by kernel_rfl
end Go.Proofs.YtehmlpkapjdhkaaDoor
