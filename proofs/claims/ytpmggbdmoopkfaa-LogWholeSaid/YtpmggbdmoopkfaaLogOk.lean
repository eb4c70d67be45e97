/-
  Said here: what a log must answer for the laws of layer 15: as the document's own words.
  Nothing is proved of the program here.
-/
import Derived.Test.YtpmggbdmoopkfaaRef15F
import Derived.Test.YtpmggbdmoopkfaaRef15W
import Derived.Test.YtpmggbdmoopkfaaLogIn
namespace Go.Proofs.Ytpmggbdmoopkfaa
open Go.RowKit

/-- The log answers as the document says. -/
structure LogOk : Prop where
  beg : ∀ {w : World} {ao : Option Addr} {len cap : Nat} {to : List Int} (seq : Int), I64 seq → IArg w ao len cap to → Calls Try.prog 9 #[.agg #[.int .i64 seq, .slice ao len cap]] w (Handed w.heap.size w (begOut ⟨seq, to⟩) (begErr ⟨seq, to⟩))
  fin : ∀ (seq c : Int) (w : World), I64 seq → I64 c → Calls Try.prog 15 #[.int .i64 seq, .int .i64 c] w (Handed w.heap.size w (endOut seq c) (endErr seq c))
  begs : ∀ (ao : Option Addr) (len cap : Nat) (zs : List Int) (w : World), Arg w ao len cap zs → Calls Try.prog 11 #[.slice ao len cap] w (HandedD w.heap.size w (getBeg zs) (getBegErr zs))
  fins : ∀ (ao : Option Addr) (len cap : Nat) (zs : List Int) (w : World), Arg w ao len cap zs → Calls Try.prog 17 #[.slice ao len cap] w fun e w' => e = .returned (.tuple #[.int .i64 (getEndSeq zs), .int .i64 (getEndCount zs), .int .i64 (getEndErr zs)]) ∧ Below w.heap.size w w'
  find : ∀ {w : World} {ao : Option Addr} {len cap : Nat} {Z : List (List Int)} (a s : Int), I64 a → I64 s → RowsIn w ao len cap Z → Calls Try.prog 19 #[.slice ao len cap, .agg #[.int .i64 a, .int .i64 s]] w (HandedF w.heap.size w (foundOut Z a s) (foundErr Z a s))

end Go.Proofs.Ytpmggbdmoopkfaa
