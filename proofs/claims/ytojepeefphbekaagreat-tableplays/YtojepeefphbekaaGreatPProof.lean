import Derived.Test.YtojepeefphbekaaGreatPOpen
import Derived.Test.YtojepeefphbekaaGreatPWalk
namespace Go.Proofs.YtojepeefphbekaaGreat
open Go.RowKit Go.ChangeShapes Go.WideShapes Go.ChangeAt Go.Deep

theorem tablePlays_holds : Rows.TablePlaysSaid := tablePlays_of (fun d a len cap O w h hn => tablePlaysWalk d a len cap O w h hn)
#print axioms tablePlays_holds
end Go.Proofs.YtojepeefphbekaaGreat
