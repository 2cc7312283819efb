import Derived.Test.YtehmlpkapjdhkaaGreatDoorMA
namespace Go.Proofs.YtehmlpkapjdhkaaGreatDoor
open Go.RowKit
theorem repairAll_j3 : (Rows.repairAllRow.recurses == Tryz.pinned.checked.prog.recurses 7) = true:=by kernel_rfl
theorem repairAll_j4 : (Rows.repairAllRow.named == Tryz.pinned.checked.prog.varsNamed 7) = true:=by kernel_rfl
end Go.Proofs.YtehmlpkapjdhkaaGreatDoor
