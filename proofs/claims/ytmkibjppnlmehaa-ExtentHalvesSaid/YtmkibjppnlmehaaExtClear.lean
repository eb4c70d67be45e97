/-
  Proved here: what 'clear' does to numbers of the call's own; the two halves of a file.
  The conditions stand at each theorem.
-/
import Derived.Test.YtmkibjppnlmehaaExtTo
import Derived.Lib.SliceRun
namespace Go.Proofs.Ytmkibjppnlmehaa
open Go.RowKit
set_option linter.unusedVariables false
set_option linter.unusedSimpArgs false

theorem ints_zeros (n : Nat) : ints (List.replicate n 0) = List.replicate n (Value.int .i64 0) := by unfold ints; rw [List.map_replicate]

theorem clear_none (w : World) (ty : TypeId) (ao : Option Addr) (c : Nat) : (Builtin.clear_ #[22] ty #[.slice ao 0 c]).run Try.prog w = .ok (.tuple #[]) w := by
  cases ao <;> simp [Builtin.clear_, run_underlying Try.underlying22]

theorem clear_own {base g off len cap : Nat} {w0 w : World} {L : List Int} (hO : OwnV base w0 g (ints L) w) (hfit : off + len ≤ L.length) (ty : TypeId) :
    ∃ w', (Builtin.clear_ #[22] ty #[.slice (some ⟨g, off, none⟩) len cap]).run Try.prog w = .ok (.tuple #[]) w' ∧ OwnV base w0 g (ints (lay L off (List.replicate len 0))) w' ∧ Keeps g w w' := by
  by_cases h0 : len = 0
  · subst h0
    exact ⟨w, clear_none w ty _ cap, hO, Keeps.refl _ _⟩
  · have hr := Lib.run_clear_slice (P := Try.prog) w 22 3 ty (.int .i64 0) Try.underlying22 (fun w => Try.zeroValue3 w) rfl rfl g off len cap (by omega)
      (fun j hj => by rw [hO.1 (off + j) (.int .i64 (L.getD (off + j) 0)) (by rw [ints_get]; rw [List.getD_eq_getElem?_getD, List.getElem?_eq_getElem (show off + j < L.length by omega)]; rfl)]; rfl) (fun j _ => hO.2.1 _)
    rw [← ints_zeros] at hr
    exact ⟨_, hr, hO.fillI (List.replicate len 0) L off w (by rw [List.length_replicate]; exact hfit), Keeps.sets _ _ _ _⟩

theorem wp_clear {ops : Array Oper} {rest : List Oper} {o : Oper} {a : Act} {Q : Exit → Act → World → Prop} {w : World} (hgd : o.guard = none) (x : Operand) (t : TypeId)
    (ho : o.op = .call { callee := .builtin .clear, args := #[x], argTypes := #[t] }) (v : Value) (hx : a.eval x = v) (R : World → Prop)
    (hr : ∃ w', (Builtin.clear_ #[t] o.type #[v]).run Try.prog w = .ok (.tuple #[]) w' ∧ R w') (h : ∀ w', R w' → wpList Try.prog ops Q rest (a.put o.dst (.tuple #[])) w') : wpList Try.prog ops Q (o :: rest) a w := by
  obtain ⟨w', hrun, hR⟩ := hr
  refine wpList_plain hgd fun K hK => ?_
  unfold Oper.wp
  simp [execOp, ho, resolve, invoke, builtin, hx, hrun, Result.andThen]
  exact hK _ _ (h w' hR)

/-- The file's first blocks, and the others, each at its place. -/
def firstF (F : List Int) (n : Nat) : List Int := F.take n ++ List.replicate (96 - n) 0
def restF (F : List Int) (n : Nat) : List Int := List.replicate n 0 ++ F.drop n

theorem firstF_length {F : List Int} (h : F.length = 96) {n : Nat} (hn : n ≤ 96) : (firstF F n).length = 96 := by unfold firstF; rw [List.length_append, List.length_take, List.length_replicate]; omega
theorem restF_length {F : List Int} (h : F.length = 96) {n : Nat} (hn : n ≤ 96) : (restF F n).length = 96 := by unfold restF; rw [List.length_append, List.length_drop, List.length_replicate]; omega
theorem lay_rest {F : List Int} (h : F.length = 96) {n : Nat} (hn : n ≤ 96) : lay F 0 (List.replicate n 0) = restF F n := by
  rw [lay_eq _ _ _ (by rw [List.length_replicate]; omega), List.length_replicate, Nat.zero_add, List.take_zero, List.nil_append]
  rfl
theorem lay_first {F : List Int} (h : F.length = 96) {n : Nat} (hn : n ≤ 96) : lay F n (List.replicate (96 - n) 0) = firstF F n := by
  rw [lay_eq _ _ _ (by rw [List.length_replicate]; omega), List.length_replicate, List.drop_of_length_le (by omega), List.append_nil]
  rfl
theorem apart_front {a : List Int} (n : Nat) : apartL (List.replicate n 0 ++ a) = apartL a := by
  unfold apartL
  rw [nz_append, nz_zeros, List.nil_append, List.all_append, all_zeros, Bool.true_and]
theorem first_apart {F : List Int} (h : apartL F = true) (n : Nat) : apartL (firstF F n) = true := by
  unfold firstF
  rw [apart_zeros]
  rw [← List.take_append_drop n F] at h
  exact (apart_append h).1
theorem rest_apart {F : List Int} (h : apartL F = true) (n : Nat) : apartL (restF F n) = true := by
  unfold restF
  rw [apart_front]
  rw [← List.take_append_drop n F] at h
  exact (apart_append h).2
theorem first_from (F : List Int) (n : Nat) : fromE 0 (firstF F n) = fromE 0 (F.take n) := from_append_zeros _ _ _
theorem rest_sum (F : List Int) (n : Nat) : sumE (fromE 0 (restF F n)) = ((nzL (F.drop n)).length : Int) := by
  rw [sum_from]
  unfold restF
  rw [nz_append, nz_zeros, List.nil_append]

/-- Runs of extents, one cell each. -/
def RunsX (vs : List Value) (xs : List EX) : Prop := vs.length = xs.length ∧ ∀ (i : Nat) (x : EX), xs[i]? = some x → ∃ v, vs[i]? = some v ∧ CE v x.f x.c
theorem RunsX.nil : RunsX [] [] := ⟨rfl, fun i x h => by simp at h⟩
theorem RunsX.snoc {vs : List Value} {xs : List EX} {x : EX} {p q : Nat} (h : RunsX vs xs) (f1 : FI p x.f) (f2 : FI q x.c) : RunsX (vs ++ [.complex .f64 p q]) (xs ++ [x]) := by
  refine ⟨by rw [List.length_append, List.length_append, h.1]; rfl, fun i y hy => ?_⟩
  by_cases hi : i < xs.length
  · rw [List.getElem?_append_left hi] at hy
    obtain ⟨v, c2, c3⟩ := h.2 i y hy
    exact ⟨v, by rw [List.getElem?_append_left (by rw [h.1]; exact hi)]; exact c2, c3⟩
  · have hi0 : i = xs.length := by
      have := (List.getElem?_eq_some_iff.1 hy).1
      simp at this
      omega
    subst hi0
    rw [List.getElem?_append_right (Nat.le_refl _), Nat.sub_self] at hy
    simp at hy
    subst hy
    exact ⟨_, by rw [List.getElem?_append_right (by rw [h.1]; exact Nat.le_refl _), h.1, Nat.sub_self]; rfl, p, q, rfl, f1, f2⟩

/-- Runs that a call hands back. -/
def OutR (w : World) (base : Nat) (v : Value) (xs : List EX) : Prop := ∃ vs, w.ownsRow base 40 1 v xs.length vs ∧ RunsX vs xs

theorem elemCR : ElemR 36 40 (.complex .f64 0 0) 1 16 := ⟨Try.underlying36, by kernel_rfl, rfl, by decide, by decide⟩

end Go.Proofs.Ytmkibjppnlmehaa
