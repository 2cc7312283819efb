import Derived.Test.YtdclffgbmcecdabA7
import Derived.Defers
import Derived.Recover
namespace Go.Proofs.Ytdclffgbmcecdab
open Go.RowKit

end Go.Proofs.Ytdclffgbmcecdab
