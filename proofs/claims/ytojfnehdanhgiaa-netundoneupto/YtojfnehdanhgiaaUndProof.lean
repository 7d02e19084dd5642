import Derived.Test.YtojfnehdanhgiaaUnd
import Derived.Test.YtojfnehdanhgiaaUndoneFrame
namespace Go.Proofs.Ytojfnehdanhgiaa

theorem netUndone_holds : Rows.NetUndoneUptoSaid := netUndone_of netUndone
#print axioms netUndone_holds
end Go.Proofs.Ytojfnehdanhgiaa
