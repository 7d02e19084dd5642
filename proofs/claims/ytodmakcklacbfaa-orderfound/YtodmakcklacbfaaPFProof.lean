import Derived.Test.YtodmakcklacbfaaPFOpen
import Derived.Test.YtodmakcklacbfaaPFound
namespace Go.Proofs.Ytodmakcklacbfaa
open Go.RowKit 

theorem orderFound : Rows.OrderFoundSaid := found_of (fun _ _ _ _ _ _ _ _ _ h hb h1 h2 ir => foundW h hb h1 h2 ir)
end Go.Proofs.Ytodmakcklacbfaa
