import Derived.Test.YtehmlpkapjdhkaaGreatDoorMA
namespace Go.Proofs.YtehmlpkapjdhkaaGreatDoor
open Go.RowKit
theorem repairSame_j1 : (Rows.repairSameRow.inPlace == Tryz.pinned.checked.prog.inPlace 6) = true := by kernel_rfl
theorem repairSame_j2 : (Rows.repairSameRow.unfollowed == Tryz.pinned.checked.prog.unfollowed 6) = true := by kernel_rfl
end Go.Proofs.YtehmlpkapjdhkaaGreatDoor
