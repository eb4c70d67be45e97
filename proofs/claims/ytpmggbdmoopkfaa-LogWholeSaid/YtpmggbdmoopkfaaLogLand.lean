/-
  Proved here: the landed log answers as the document says (logOk).
  No conditions.
-/
import Derived.Test.YtpmggbdmoopkfaaLgFind
import Derived.Test.YtpmggbdmoopkfaaLogOk
namespace Go.Proofs.Ytpmggbdmoopkfaa
open Go.RowKit

theorem logOk : LogOk where
  beg := fun seq hs hA => lBegin_any seq hs hA
  fin := fun seq c w hs hc => lEnd_any seq c w hs hc
  begs := fun ao len cap zs w hA => lBegins_any ao len cap zs w hA
  fins := fun ao len cap zs w hA => lEnds_any ao len cap zs w hA
  find := fun a s ha hs hR => lFind_any a s ha hs hR

end Go.Proofs.Ytpmggbdmoopkfaa
