import Derived.Test.YtehmlpkapjdhkaaGreatDoorMC28j
import Derived.Test.YtehmlpkapjdhkaaGreatDoorMC28k
import Derived.Test.YtehmlpkapjdhkaaGreatDoorMX
import Derived.Deep.DeepHandedRow
import Derived.SevenTiedAt
namespace Go.Proofs.YtehmlpkapjdhkaaGreatDoor
set_option maxHeartbeats 16000000
open Go.ChangeShapes Go.WideShapes Go.ChangeAt Go.RowKit Go.Joins Go.Deep
set_option maxRecDepth 100000 in
theorem bD:joinedFacts Tryz.pinned.checked.prog 9 Tryz.f9 (OpenSpec.ofChange Rows.deskRunsSpec).bare Rows.deskRunsRow=true:=by
 unfold joinedFacts
 have h1:=Wh
 have h2:=Xz
 have h3:=WL
 have h4:=Xr
 rw[h1,h2,h3,h4]
 change _=true
 kernel_rfl
end Go.Proofs.YtehmlpkapjdhkaaGreatDoor
