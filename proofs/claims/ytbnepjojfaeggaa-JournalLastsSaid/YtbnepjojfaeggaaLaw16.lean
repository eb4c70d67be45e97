/-
  Proved here: how many rows a call is handed at most.
  The conditions stand at each theorem.
-/
import Derived.Test.YtbnepjojfaeggaaIn16
namespace Go.Proofs.Ytbnepjojfaeggaa
open Go.RowKit
set_option linter.unusedVariables false

theorem wf_u16w {n : Int} (h : (Lit.int .u16 n).wf = true) : 0 ≤ n ∧ n ≤ 65535 := by
  simp [Lit.wf, IntKind.min, IntKind.max, IntKind.bits, IntKind.signed] at h; omega

section
variable {H : Type} {enc : TypeId × Value → H} {W : World}
theorem rows_cap {a : Option Addr} {len cap : Nat} {d : DataW H} {p : List MemPlace} (h : DataW.Trod enc Try.prog W 0 (fun _ => true) true 45 (.slice a len cap) d p) (hw : ∀ n ∈ d.weights Try.prog 45, n ≤ reachBytes) : cap ≤ 140737488351232 := by
  obtain ⟨fuel, hf⟩ := h
  rcases Go.Deep.open_slice Try.underlying45 hf with ⟨hcs, _⟩ | ⟨x, l, c, m, n, D, Pl, hcs, _, hl, hm, hmm, hx, hi⟩
  · simp [Value.cells] at hcs
    obtain ⟨rfl, rfl, rfl⟩ := hcs
    decide
  · simp [Value.cells] at hcs
    obtain ⟨rfl, rfl, rfl⟩ := hcs
    have hmc : m = cap := by simpa using hmm
    subst hmc
    have hb24 : Try.prog.bytesOf 46 = 24 := by kernel_rfl
    have e := (Prod.mk.inj hx).1
    rw [e] at hw
    have h1 := hw _ (by rw [weights_sliceT Try.underlying45]; exact List.mem_cons_self ..)
    rw [hb24] at h1
    simp only [List.length_map, List.length_range, reachBytes] at h1
    omega
end
end Go.Proofs.Ytbnepjojfaeggaa
