import Derived.Test.YtehmlpkapjdhkaaGreatDoorML5
import Derived.Deep.CutRange
namespace Go.Proofs.YtehmlpkapjdhkaaGreatDoor
open Go.RowKit
set_option maxRecDepth 100000
end Go.Proofs.YtehmlpkapjdhkaaGreatDoor
