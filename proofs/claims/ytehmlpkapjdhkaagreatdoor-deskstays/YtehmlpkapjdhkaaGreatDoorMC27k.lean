import Derived.Test.YtehmlpkapjdhkaaGreatDoorMA
namespace Go.Proofs.YtehmlpkapjdhkaaGreatDoor
open Go.RowKit
theorem deskStays_j3 : (Rows.deskStaysRow.recurses == Tryz.pinned.checked.prog.recurses 10) = true := by kernel_rfl
theorem deskStays_j4 : (Rows.deskStaysRow.named == Tryz.pinned.checked.prog.varsNamed 10) = true := by kernel_rfl
end Go.Proofs.YtehmlpkapjdhkaaGreatDoor
