import Derived.Test.YtojepeefphbekaaGreatHFrameJ
import Derived.Test.YtojepeefphbekaaGreatHolds
namespace Go.Proofs.YtojepeefphbekaaGreat
open Go.RowKit Go.ChangeShapes Go.WideShapes Go.ChangeAt Go.Deep

theorem tableHolds_holds : Rows.TableHoldsSaid := tableHolds_of (fun d a len cap l w r h => holdsWalk d a len cap l w r h)
end Go.Proofs.YtojepeefphbekaaGreat
