import Derived.Test.YtehmlpkapjdhkaaGreatDoorME2
import Derived.Test.YtehmlpkapjdhkaaGreatDoorML1
namespace Go.Proofs.YtehmlpkapjdhkaaGreatDoor
open Go.ChangeShapes Go.WideShapes Go.ChangeAt Go.RowKit Go.Joins Go.Deep
end Go.Proofs.YtehmlpkapjdhkaaGreatDoor
