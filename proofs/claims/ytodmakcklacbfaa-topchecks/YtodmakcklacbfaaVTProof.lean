import Derived.Test.YtodmakcklacbfaaPChkMJ
import Derived.Test.YtodmakcklacbfaaVTopW
namespace Go.Proofs.Ytodmakcklacbfaa
open Go.RowKit 

theorem topChecks : Rows.TopChecksSaid := top_of (fun _ _ _ _ _ _ _ _ _ h hb h1 h2 h3 ir hk => topW h hb h1 h2 h3 ir hk)
end Go.Proofs.Ytodmakcklacbfaa
