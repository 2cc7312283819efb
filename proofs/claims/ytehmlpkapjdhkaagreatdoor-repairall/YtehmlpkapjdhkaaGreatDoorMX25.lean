import Derived.Test.YtehmlpkapjdhkaaGreatDoorMX11
import Derived.Test.YtehmlpkapjdhkaaGreatDoorMD
import Derived.Test.YtehmlpkapjdhkaaGreatDoorMH
import Derived.Test.YtehmlpkapjdhkaaGreatDoorMU
namespace Go.Proofs.YtehmlpkapjdhkaaGreatDoor
section
open Go.RowKit
set_option maxRecDepth 100000
end

section
open Go.RowKit
set_option maxRecDepth 100000
end
end Go.Proofs.YtehmlpkapjdhkaaGreatDoor
