import Derived.Test.YtbppoffhpmoplacDoorD11
namespace Go.Proofs.YtbppoffhpmoplacDoor
open Go.RowKit

/-- what 'take' says of an id that is there. -/
def hitE : Bool → Int
  | true => 0
  | false => 6

end Go.Proofs.YtbppoffhpmoplacDoor
