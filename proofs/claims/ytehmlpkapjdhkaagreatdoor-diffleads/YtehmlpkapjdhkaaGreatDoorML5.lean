import Derived.Test.YtehmlpkapjdhkaaGreatDoorML4
import Derived.Laws.EntriesVeiled
import Derived.Test.YtehmlpkapjdhkaaGreatDoorMX1
namespace Go.Proofs.YtehmlpkapjdhkaaGreatDoor
section
open Go.RowKit
set_option maxRecDepth 100000
end

section
open Go.RowKit
set_option maxRecDepth 100000
end

section
open Go.RowKit
set_option maxRecDepth 100000
end
end Go.Proofs.YtehmlpkapjdhkaaGreatDoor
