import Derived.Test.YtehmlpkapjdhkaaGreatDoorMA
namespace Go.Proofs.YtehmlpkapjdhkaaGreatDoor
open Go.RowKit
theorem repairDiff_j3 : (Rows.repairDiffRow.recurses == Tryz.pinned.checked.prog.recurses 8) = true := by kernel_rfl
theorem repairDiff_j4 : (Rows.repairDiffRow.named == Tryz.pinned.checked.prog.varsNamed 8) = true := by kernel_rfl
end Go.Proofs.YtehmlpkapjdhkaaGreatDoor
