import Derived.Test.YtbppoffhpmoplabA7
import Derived.Defers
import Derived.Recover
namespace Go.Proofs.Ytbppoffhpmoplab
open Go.RowKit

end Go.Proofs.Ytbppoffhpmoplab
