import Derived.Test.YtehmlpkapjdhkaaGreatDoorMA
namespace Go.Proofs.YtehmlpkapjdhkaaGreatDoor
open Go.RowKit
theorem clusterSafe_j3 : (Rows.clusterSafeRow.recurses == Tryz.pinned.checked.prog.recurses 3) = true := by kernel_rfl
theorem clusterSafe_j4 : (Rows.clusterSafeRow.named == Tryz.pinned.checked.prog.varsNamed 3) = true := by kernel_rfl
end Go.Proofs.YtehmlpkapjdhkaaGreatDoor
