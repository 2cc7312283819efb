import Derived.Test.YtehmlpkapjdhkaaGreatDoorMG
import Derived.Test.YtehmlpkapjdhkaaGreatDoorML4
namespace Go.Proofs.YtehmlpkapjdhkaaGreatDoor
section
open Go.RowKit
set_option maxRecDepth 100000

/-! What another store has not. -/
section
variable {a b : List Ob}
end
end

section
open Go.RowKit
set_option maxRecDepth 100000

/-! Repair of a replica. -/
/-! Replicas put in the place of others. -/
/-! Repair of all. -/
end
end Go.Proofs.YtehmlpkapjdhkaaGreatDoor
