import Derived.Test.YtginpoofeliimaaWWalk
import Derived.Test.YtginpoofeliimaaWOpen
namespace Go.Proofs.Ytginpoofeliimaa
open Go.RowKit 

theorem linearOnes : Rows.LinearOnesSaid := ones_of (fun _ _ _ _ _ h hb hv => onesW h hb hv)
end Go.Proofs.Ytginpoofeliimaa
