import Derived.Test.YtonfefhegghapaaDoorTS0
import Derived.Test.YtonfefhegghapaaDoorTS1
import Derived.Test.YtonfefhegghapaaDoorTS3
import Derived.Test.YtonfefhegghapaaDoorTS5
import Derived.Test.YtonfefhegghapaaDoorTS13
import Derived.Test.YtonfefhegghapaaDoorTS17
import Derived.Test.YtonfefhegghapaaDoorTS18
import Derived.Test.YtonfefhegghapaaDoorTS19
namespace Go.Proofs.YtonfefhegghapaaDoor
open Go.RowKit 

/-- appendStep. -/
theorem hStep {w0 w : World} {p : Option Addr} {k c : Nat} {l : List UInt8} (T : TX w0 w p k c l) (tab : Lib.TabIs Tryd.prog w0 "internal/strconv.uint64pow10" .u64 Lib.pow10Tab) (F : FM w0) {x : Sm} {s : St} (r : SRd w0 x s) (hk : 0 ≤ s.kind ∧ s.kind < 17) (hl : l.length ≤ 100000000) : Calls Tryd.prog 31 #[.slice p k c, .agg x.cs] w (RetT fun p' k' c' w' => TX w0 w' p' k' c' (l ++ lineL s)) := by
  have k17 : s.kind.toNat < 17 := by omega
  rcases use_cases k17 with h | h | h | h | h | h | h | h
  · exact hStep0 T tab F r hk h hl
  · exact hStep1 T tab F r hk h hl
  · exact hStep3 T tab F r hk h hl
  · exact hStep5 T tab F r hk h hl
  · exact hStep13 T tab F r hk h hl
  · exact hStep17 T tab F r hk h hl
  · exact hStep18 T tab F r hk h hl
  · exact hStep19 T tab F r hk h hl
end Go.Proofs.YtonfefhegghapaaDoor
