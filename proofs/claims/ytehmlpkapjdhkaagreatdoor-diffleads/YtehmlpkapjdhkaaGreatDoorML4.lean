import Derived.Test.YtehmlpkapjdhkaaGreatDoorML3
namespace Go.Proofs.YtehmlpkapjdhkaaGreatDoor
section
open Go.RowKit
set_option maxRecDepth 100000
end

section
open Go.RowKit
set_option maxRecDepth 100000
end

section
open Go.RowKit
set_option maxRecDepth 100000
end

section
open Go.RowKit
set_option maxRecDepth 100000

/-! What is said of who takes no part. -/
end
end Go.Proofs.YtehmlpkapjdhkaaGreatDoor
