import Derived.Test.YtginpoofeliimaaFLaw
import Derived.Test.YtginpoofeliimaaFOpen
namespace Go.Proofs.Ytginpoofeliimaa
open Go.RowKit 

theorem linearFirst : Rows.LinearFirstSaid := first_of (fun _ _ _ _ _ h => firstW h)
end Go.Proofs.Ytginpoofeliimaa
