import Derived.Test.YtehmlpkapjdhkaaGreatDoorML3
namespace Go.Proofs.YtehmlpkapjdhkaaGreatDoor
section
open Go.RowKit
set_option maxRecDepth 100000
end

section
open Go.RowKit
set_option maxRecDepth 100000
end

section
open Go.RowKit
set_option maxRecDepth 100000
end

section
open Go.RowKit
set_option maxRecDepth 100000

section
variable {l : List Rp} {m : List Ob} {us : List Up} {f : Bool} {up late : Int} {i : Nat}
end
/-! What is said of who takes no part. -/
section
variable {l : List Rp} {m : List Ob} {us : List Up} {f : Bool} {up late late' : Int}
end
end
end Go.Proofs.YtehmlpkapjdhkaaGreatDoor
