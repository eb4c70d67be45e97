/-
  Proved here: the landed text of three letters is the plain one.
  The conditions stand at each theorem.
-/
import Derived.Test.YtkpgefjbhimmgaaEntWrite
import Derived.Test.YtkpgefjbhimmgaaEntMany
namespace Go.Proofs.Ytkpgefjbhimmgaa
open Go.RowKit
set_option linter.unusedVariables false
set_option linter.unusedSimpArgs false

theorem two_text (w : World) (i p q : Nat) (hp : i % 26 = p) (hq : i / 26 = q) (hi : i < 100) :
    ∃ s : ByteArray, (convert 23 9 (.slice (some ⟨w.heap.size, 0, none⟩) 2 2)).run Try.prog (w.alloc (.cells #[.int .u8 (97 + (p : Int)), .int .u8 (97 + (q : Int))] 5)) = .ok (.string s) (w.alloc (.cells #[.int .u8 (97 + (p : Int)), .int .u8 (97 + (q : Int))] 5)) ∧ (⟨#[110]⟩ : ByteArray) ++ s = nameOf i ∧ ¬ 9223372036854775807 < 1 + s.size := by
  subst hp hq
  refine ⟨_, str_bytes (zs := [97 + ((i % 26 : Nat) : Int), 97 + ((i / 26 : Nat) : Int)]) ⟨rfl, by decide, fun z hz => ?_, Or.inr ⟨_, _, rfl, fun j hj => ?_⟩⟩, ?_, ?_⟩
  · simp only [List.mem_cons, List.not_mem_nil, or_false] at hz
    omega
  · rw [Nat.zero_add]
    refine two_cells_new w _ _ _ j _ ?_
    match j, hj with
    | 0, _ => rfl
    | 1, _ => rfl
  · unfold nameOf
    rfl
  · show ¬ 9223372036854775807 < 1 + 2
    decide

end Go.Proofs.Ytkpgefjbhimmgaa
