import Derived.Test.YtehmlpkapjdhkaaGreatDoorMA
namespace Go.Proofs.YtehmlpkapjdhkaaGreatDoor
open Go.RowKit
theorem diffLeads_j3 : (Rows.diffLeadsRow.recurses == Tryz.pinned.checked.prog.recurses 5) = true := by kernel_rfl
theorem diffLeads_j4 : (Rows.diffLeadsRow.named == Tryz.pinned.checked.prog.varsNamed 5) = true := by kernel_rfl
end Go.Proofs.YtehmlpkapjdhkaaGreatDoor
