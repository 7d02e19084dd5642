import Derived.Test.YtginpoofeliimaaRLaw
import Derived.Test.YtginpoofeliimaaROpen
namespace Go.Proofs.Ytginpoofeliimaa
open Go.RowKit 

theorem linearRight : Rows.LinearRightSaid := right_of (fun _ _ _ _ _ h => rightW h)
end Go.Proofs.Ytginpoofeliimaa
