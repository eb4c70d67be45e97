/-
  Said here: the zero values of more than 64 cells: a chart's, a file's (the small loader gives no facts of these).
  No conditions.
-/
import Derived.Test.YtmgmlebkmdpddaaInts
import Derived.KernelRfl
namespace Go.Proofs.Ytmgmlebkmdpddaa
open Go.RowKit
set_option linter.unusedVariables false

/-- A variable of 96 numbers that was made. -/
theorem made_file (w : World) : OwnV w.heap.size w w.heap.size (ints (List.replicate 96 0)) (w.alloc (.cells Try.zeroCells59 59)) := by
  refine ⟨fun j x hj => ?_, fun j => by rw [World.frozen?_alloc_mark]; simp, Nat.le_refl _, (Below.refl _ _).alloc (Nat.le_refl _) _⟩
  rw [World.cell?_alloc_new]
  rw [show Try.zeroCells59 = (ints (List.replicate 96 0)).toArray from rfl]
  simpa using hj

end Go.Proofs.Ytmgmlebkmdpddaa
