import Derived.Test.YtehmlpkapjdhkaaGreatDoorMD
import Derived.Deep.RegionHeld
import Derived.RangeFuncNested
import Derived.RangeFuncBound
import Derived.RangeFuncCalls
import Derived.RangeFuncLeaves
import Derived.Shelf.Abstract
import Derived.Shelf.RegionOpen
import Derived.OwnWalkIn
import Derived.TacticsInMore
import Derived.LoopNIn
import Derived.LoopIn
namespace Go.Proofs.YtehmlpkapjdhkaaGreatDoor
section
open Go.RowKit
end

section
open Go.RowKit
end

section
open Go.RowKit
end

section
open Go.RowKit Go.Shelf
attribute [local go_sem] Oper.semAt_some
end

section
open Go.RowKit Go.Shelf
attribute [local go_sem] Oper.semAt_some
end

section
open Go.RowKit Go.Shelf
attribute [local go_sem] Oper.semAt_some
end

section
open Go.RowKit Go.Shelf
attribute [local go_sem] Oper.semAt_some
end
end Go.Proofs.YtehmlpkapjdhkaaGreatDoor
