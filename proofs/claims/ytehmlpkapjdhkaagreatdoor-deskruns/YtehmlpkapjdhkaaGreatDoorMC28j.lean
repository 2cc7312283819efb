import Derived.Test.YtehmlpkapjdhkaaGreatDoorMA
namespace Go.Proofs.YtehmlpkapjdhkaaGreatDoor
set_option maxHeartbeats 16000000
open Go.RowKit
theorem Wh:(Rows.deskRunsRow.inPlace==Tryz.pinned.checked.prog.inPlace 9)=true:=by kernel_rfl
theorem Xz:(Rows.deskRunsRow.unfollowed==Tryz.pinned.checked.prog.unfollowed 9)=true:=by kernel_rfl
end Go.Proofs.YtehmlpkapjdhkaaGreatDoor
