/-
  Said here (for layer 13): every second pointer, from one block on, in steps of two: the extents of these are one block each; they are sound; how many blocks a chain needs.
  No conditions but those that each theorem names. Nothing of the program is read here.
-/
import Derived.Test.YtmgmlebkmdpddaaExt
namespace Go.Proofs.Ytmgmlebkmdpddaa
set_option linter.unusedVariables false
set_option linter.unusedSimpArgs false

/-- Every second pointer. -/
def fewP (f : Int) : Nat → List Int
  | 0 => []
  | k + 1 => f :: 0 :: fewP (f + 2) k
/-- Their extents, from a place on. -/
def fewX (i f : Int) : Nat → List EX
  | 0 => []
  | k + 1 => ⟨i, f, 1⟩ :: fewX (i + 2) (f + 2) k

theorem fewX_low : ∀ (k : Nat) (i f : Int), ∀ e ∈ fewX i f k, i ≤ e.a
  | 0, _, _, _, h => by cases h
  | k + 1, i, f, e, h => by
    rcases List.mem_cons.1 h with rfl | h
    · exact Int.le_refl _
    · have := fewX_low k _ _ e h
      omega

theorem few_from : ∀ (k : Nat) (i f : Int), 0 < f → fromE i (fewP f k) = fewX i f k
  | 0, _, _, _ => rfl
  | k + 1, i, f, h => by
    have ih := few_from k (i + 1 + 1) (f + 2) (by omega)
    show (if f = 0 then fromE (i + 1) (0 :: fewP (f + 2) k) else joinE i f (fromE (i + 1) (0 :: fewP (f + 2) k))) = _
    rw [if_neg (by omega)]
    show joinE i f (fromE (i + 1 + 1) (fewP (f + 2) k)) = _
    rw [ih, show i + 1 + 1 = i + 2 by omega]
    cases h2 : fewX (i + 2) (f + 2) k with
    | nil => unfold fewX; rw [h2]; rfl
    | cons e r =>
      have := fewX_low k (i + 2) (f + 2) e (by rw [h2]; exact List.mem_cons_self ..)
      rw [joinE_cc, if_neg (by omega)]
      show _ = ⟨i, f, 1⟩ :: fewX (i + 2) (f + 2) k
      rw [h2]

theorem few_length : ∀ (k : Nat) (f : Int), (fewP f k).length = 2 * k
  | 0, _ => rfl
  | k + 1, f => by unfold fewP; rw [List.length_cons, List.length_cons, few_length k]; omega
theorem fewX_length : ∀ (k : Nat) (i f : Int), (fewX i f k).length = k
  | 0, _, _ => rfl
  | k + 1, i, f => by unfold fewX; rw [List.length_cons, fewX_length k]
theorem fewX_get : ∀ (k : Nat) (i f : Int) (j : Nat), j < k → (fewX i f k)[j]? = some ⟨i + 2 * j, f + 2 * j, 1⟩
  | 0, _, _, _, h => absurd h (by omega)
  | k + 1, i, f, 0, _ => by unfold fewX; simp
  | k + 1, i, f, j + 1, h => by
    have := fewX_get k (i + 2) (f + 2) j (by omega)
    unfold fewX
    rw [List.getElem?_cons_succ, this]
    simp only [Option.some.injEq, EX.mk.injEq, and_true]
    omega
theorem fewX_snoc : ∀ (k : Nat) (i f : Int), fewX i f (k + 1) = fewX i f k ++ [⟨i + 2 * k, f + 2 * k, 1⟩]
  | 0, i, f => by simp [fewX]
  | k + 1, i, f => by
    have ih := fewX_snoc k (i + 2) (f + 2)
    show ⟨i, f, 1⟩ :: fewX (i + 2) (f + 2) (k + 1) = ⟨i, f, 1⟩ :: fewX (i + 2) (f + 2) k ++ _
    rw [ih, List.cons_append]
    simp only [List.cons.injEq, true_and, List.append_cancel_left_eq, EX.mk.injEq, and_true]
    omega

theorem few_mem : ∀ (k : Nat) (f x : Int), x ∈ fewP f k → x = 0 ∨ (f ≤ x ∧ x ≤ f + 2 * (k : Int) - 2)
  | 0, _, _, h => by cases h
  | k + 1, f, x, h => by
    rcases List.mem_cons.1 h with rfl | h
    · exact Or.inr (by omega)
    · rcases List.mem_cons.1 h with rfl | h
      · exact Or.inl rfl
      · rcases few_mem k (f + 2) x h with h | h
        · exact Or.inl h
        · exact Or.inr (by omega)
theorem few_nodup : ∀ (k : Nat) (f : Int), 0 < f → (nzL (fewP f k)).Nodup
  | 0, _, _ => List.nodup_nil
  | k + 1, f, h => by
    have ih := few_nodup k (f + 2) (by omega)
    have e : nzL (fewP f (k + 1)) = f :: nzL (fewP (f + 2) k) := by
      show (f :: 0 :: fewP (f + 2) k).filter nzB = f :: (fewP (f + 2) k).filter nzB
      rw [List.filter_cons_of_pos (by unfold nzB; simp; omega), List.filter_cons_of_neg (by decide)]
    rw [e, List.nodup_cons]
    refine ⟨fun hm => ?_, ih⟩
    have := few_mem k (f + 2) f (List.mem_filter.1 hm).1
    omega
theorem few_ok {k : Nat} {f : Int} (hk : k ≤ 48) (h0 : 59 ≤ f) (h1 : f + 2 * (k : Int) ≤ 481) : ptrsOk (fewP f k) = true := by
  unfold ptrsOk apartL
  rw [Bool.and_eq_true, Bool.and_eq_true, decide_eq_true_eq, decide_eq_true_eq, few_length, List.all_eq_true]
  refine ⟨by omega, fun x hx => ?_, few_nodup k f (by omega)⟩
  unfold okP
  rw [decide_eq_true_eq]
  have := few_mem k f x hx
  omega

/-- How many blocks of extents so many extents need. -/
def chNeed (n : Int) : Int := if n ≤ 3 then 0 else (n - 3 + 13) / 14
theorem chNeed_few {k : Nat} (h : k < 33) : chNeed k = if k > 31 then 3 else if k > 17 then 2 else if k > 3 then 1 else 0 := by
  unfold chNeed
  split <;> split <;> (try split) <;> (try split) <;> omega

end Go.Proofs.Ytmgmlebkmdpddaa
