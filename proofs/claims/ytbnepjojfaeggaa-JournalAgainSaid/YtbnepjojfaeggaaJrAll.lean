/-
  Gathered here: what the four laws of layer 16 lean on.
  No conditions.
-/
import Derived.Test.YtbnepjojfaeggaaJPlays
import Derived.Test.YtbnepjojfaeggaaJLasts
import Derived.Test.YtbnepjojfaeggaaJAgain
import Derived.Test.YtbnepjojfaeggaaJArgs
import Derived.Test.YtbnepjojfaeggaaJrNil
import Derived.Test.YtbnepjojfaeggaaLaw16
import Derived.Test.YtbnepjojfaeggaaJrOk
namespace Go.Proofs.Ytbnepjojfaeggaa
end Go.Proofs.Ytbnepjojfaeggaa
