import Derived.Test.YtojepeefphbekaaBFrame
import Derived.Test.YtojepeefphbekaaBnd2
namespace Go.Proofs.Ytojepeefphbekaa

theorem tableBounds_holds : Rows.TableBoundsSaid := tableBounds_of boundsWalk
#print axioms tableBounds_holds
end Go.Proofs.Ytojepeefphbekaa
