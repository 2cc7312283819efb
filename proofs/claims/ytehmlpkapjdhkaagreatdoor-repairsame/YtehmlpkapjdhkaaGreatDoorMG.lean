import Derived.Test.YtehmlpkapjdhkaaGreatDoorMP
import Derived.Test.YtehmlpkapjdhkaaGreatDoorMH
import Derived.Laws.CopyOwn
import Derived.Test.YtehmlpkapjdhkaaGreatDoorSh
import Derived.Test.YtehmlpkapjdhkaaGreatDoorMV4
import Derived.Shelf.Strconv.Itoa3
import Derived.Lib.LaidTab
namespace Go.Proofs.YtehmlpkapjdhkaaGreatDoor
section
open Go.RowKit

/- order does not matter: any order of the updates. -/
end

section
open Go.RowKit
set_option maxRecDepth 100000
end

section
open Go.RowKit
set_option maxRecDepth 100000
end

section
open Go.RowKit
set_option maxRecDepth 100000
end
end Go.Proofs.YtehmlpkapjdhkaaGreatDoor
