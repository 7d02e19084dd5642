import Derived.Test.YtojepeefphbekabGreatSOpen
import Derived.Test.YtojepeefphbekabGreatSWalk
namespace Go.Proofs.YtojepeefphbekabGreat
open Go.RowKit Go.ChangeShapes Go.WideShapes Go.ChangeAt Go.Deep

theorem topTable_holds : Rows.TopTableSaid := topTable_of (fun d a len cap us w h hn => topTableWalk d a len cap us w h hn)
#print axioms topTable_holds
end Go.Proofs.YtojepeefphbekabGreat
