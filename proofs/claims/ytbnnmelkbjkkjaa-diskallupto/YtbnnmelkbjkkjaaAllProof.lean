import Derived.Test.YtbnnmelkbjkkjaaLoadBJ
import Derived.Test.YtbnnmelkbjkkjaaLoadK
namespace Go.Proofs.Ytbnnmelkbjkkjaa

/-- All that is asked of a disk, against the document's disk. -/
theorem diskAll_holds : Rows.DiskAllUptoSaid := diskAll_from oneLoad

#print axioms diskAll_holds
end Go.Proofs.Ytbnnmelkbjkkjaa
