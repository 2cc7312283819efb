import Derived.Test.YtbppoffhpmoplacDoorA7
import Derived.Defers
import Derived.Recover
namespace Go.Proofs.YtbppoffhpmoplacDoor
open Go.RowKit

end Go.Proofs.YtbppoffhpmoplacDoor
