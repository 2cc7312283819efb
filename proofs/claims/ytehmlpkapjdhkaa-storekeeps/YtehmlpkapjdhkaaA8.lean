import Derived.Test.YtehmlpkapjdhkaaA7
import Derived.Defers
import Derived.Recover
namespace Go.Proofs.Ytehmlpkapjdhkaa
open Go.RowKit

end Go.Proofs.Ytehmlpkapjdhkaa
