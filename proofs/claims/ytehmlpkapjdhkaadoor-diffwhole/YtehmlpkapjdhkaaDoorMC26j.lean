import Derived.Test.YtehmlpkapjdhkaaDoorMA
namespace Go.Proofs.YtehmlpkapjdhkaaDoor
open Go.RowKit
theorem diffWhole_j1 : (Rows.diffWholeRow.inPlace == Tryd.pinned.checked.prog.inPlace 3) = true := by kernel_rfl
theorem diffWhole_j2 : (Rows.diffWholeRow.unfollowed == Tryd.pinned.checked.prog.unfollowed 3) = true := by kernel_rfl
end Go.Proofs.YtehmlpkapjdhkaaDoor
