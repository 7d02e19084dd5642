import Derived.Test.YtodmakcklacbfaaPChkMJ
import Derived.Test.YtodmakcklacbfaaRAll
namespace Go.Proofs.Ytodmakcklacbfaa
open Go.RowKit Go.ChangeShapes Go.WideShapes Go.ChangeAt Go.Deep

theorem orderAll : Rows.OrderAllSaid := all_of (fun _ _ _ _ _ _ _ _ _ h hb h1 h2 h3 ir hk => oAll h hb h1 h2 h3 ir hk)
end Go.Proofs.Ytodmakcklacbfaa
