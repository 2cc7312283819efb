import Derived.Test.YtehmlpkapjdhkaaGreatDoorME
import Derived.Test.YtehmlpkapjdhkaaGreatDoorMG
import Derived.SliceStrings
namespace Go.Proofs.YtehmlpkapjdhkaaGreatDoor
open Go.ChangeShapes Go.WideShapes Go.ChangeAt Go.RowKit Go.Joins Go.Deep
end Go.Proofs.YtehmlpkapjdhkaaGreatDoor
