/-
  Said here: the zero values of more than 64 cells: a chart's, a file's (the small loader gives no facts of these).
  No conditions.
-/
import Derived.Test.YtmkibjppnlmehaaInts
import Derived.KernelRfl
namespace Go.Proofs.Ytmkibjppnlmehaa
open Go.RowKit
set_option linter.unusedVariables false

def zcChart : Array Value := (ints (List.replicate 159 0)).toArray
def zcFile : Array Value := (ints (List.replicate 96 0)).toArray

@[simp] theorem zeroChart (w : World) : (zeroValue 72).run Try.prog w = .ok (.agg zcChart) w := by
  have h : (Try.prog.info? 72).map (·.zero) = some (some (.agg zcChart)) := by kernel_rfl
  cases hi : Try.prog.info? 72 with
  | none => rw [hi] at h; cases h
  | some i =>
    rw [hi] at h
    have hz : i.zero = some (.agg zcChart) := by simpa using h
    simp [zeroValue, typeInfo, hi, hz]
@[simp] theorem zcChart_size : zcChart.size = 159 := by unfold zcChart; rw [List.size_toArray, ints_length, List.length_replicate]
@[simp] theorem zcChart_ne : zcChart ≠ #[] := fun h => by have := zcChart_size; rw [h] at this; cases this

@[simp] theorem zeroFile (w : World) : (zeroValue 45).run Try.prog w = .ok (.agg zcFile) w := by
  have h : (Try.prog.info? 45).map (·.zero) = some (some (.agg zcFile)) := by kernel_rfl
  cases hi : Try.prog.info? 45 with
  | none => rw [hi] at h; cases h
  | some i =>
    rw [hi] at h
    have hz : i.zero = some (.agg zcFile) := by simpa using h
    simp [zeroValue, typeInfo, hi, hz]
@[simp] theorem zcFile_size : zcFile.size = 96 := by unfold zcFile; rw [List.size_toArray, ints_length, List.length_replicate]
@[simp] theorem zcFile_ne : zcFile ≠ #[] := fun h => by have := zcFile_size; rw [h] at this; cases this

/-- A variable of 96 numbers that was made. -/
theorem made_file (w : World) : OwnV w.heap.size w w.heap.size (ints (List.replicate 96 0)) (w.alloc (.cells zcFile 45)) := by
  refine ⟨fun j x hj => ?_, fun j => by rw [World.frozen?_alloc_mark]; simp, Nat.le_refl _, (Below.refl _ _).alloc (Nat.le_refl _) _⟩
  rw [World.cell?_alloc_new]
  simpa [zcFile] using hj

end Go.Proofs.Ytmkibjppnlmehaa
