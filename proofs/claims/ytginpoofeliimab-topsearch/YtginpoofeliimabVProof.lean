import Derived.Test.YtginpoofeliimabVTop
import Derived.Test.YtginpoofeliimabVOpen
namespace Go.Proofs.Ytginpoofeliimab
open Go.RowKit 

theorem topSearch : Rows.TopSearchSaid := search_of (fun _ _ _ _ _ h hb hv => searchW h hb hv)
end Go.Proofs.Ytginpoofeliimab
