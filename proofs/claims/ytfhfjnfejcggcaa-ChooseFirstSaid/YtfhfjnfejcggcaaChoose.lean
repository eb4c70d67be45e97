/-
  Proved here: nothing of its own: it gathers the contracts of the landed choose.First, choose.Tight (ChoosePick) and choose.Some (ChooseSome). No conditions.
-/
import Derived.Test.YtfhfjnfejcggcaaChoosePick
import Derived.Test.YtfhfjnfejcggcaaLongest
import Derived.Test.YtfhfjnfejcggcaaCopy
