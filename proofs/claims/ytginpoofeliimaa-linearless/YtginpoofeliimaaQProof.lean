import Derived.Test.YtginpoofeliimaaQLess
import Derived.Test.YtginpoofeliimaaQOpen
namespace Go.Proofs.Ytginpoofeliimaa
open Go.RowKit 

theorem linearLess : Rows.LinearLessSaid := less_of (fun _ _ _ _ _ _ _ h => lessW h _ _)
end Go.Proofs.Ytginpoofeliimaa
