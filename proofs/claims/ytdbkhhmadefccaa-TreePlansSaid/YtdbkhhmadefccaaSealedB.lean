/-
  Said here: when bytes are a sealed block, in plain words.
  No conditions.
-/
import Derived.Test.YtdbkhhmadefccaaFieldNum
import Derived.Test.YtdbkhhmadefccaaNum
namespace Go.Proofs.Ytdbkhhmadefccaa
def sealedB (zs : List Int) : Bool := decide (zs.length = 64 ∧ sealOf sumS zs = zs)
end Go.Proofs.Ytdbkhhmadefccaa
