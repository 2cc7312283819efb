import Derived.Test.YtehmlpkapjdhkaaGreatDoorMA
namespace Go.Proofs.YtehmlpkapjdhkaaGreatDoor
open Go.RowKit
theorem repairSame_j3 : (Rows.repairSameRow.recurses == Tryz.pinned.checked.prog.recurses 6) = true := by kernel_rfl
theorem repairSame_j4 : (Rows.repairSameRow.named == Tryz.pinned.checked.prog.varsNamed 6) = true := by kernel_rfl
end Go.Proofs.YtehmlpkapjdhkaaGreatDoor
