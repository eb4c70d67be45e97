/-
  Proved here: what 'append' of a given list of writes does to a row of the call's own.
  The conditions stand at each theorem.
-/
import Derived.Test.YtdbkhhmadefccaaTrIn
import Derived.Test.YtdbkhhmadefccaaTrPlan
import Derived.Laws.AppendOwnNone
import Derived.Deep.RegionHeld3
namespace Go.Proofs.Ytdbkhhmadefccaa
open Go.RowKit
set_option linter.unusedVariables false
set_option linter.unusedSimpArgs false

/-- The cells of a list of writes. -/
def RowW (w : World) (xs : List Value) (ws : List (Int × List Int)) : Prop :=
  xs.length = ws.length * 2 ∧ ∀ (j : Nat) (a : Int) (zs : List Int), ws[j]? = some (a, zs) → xs[j * 2]? = some (.int .i64 a) ∧ I64 a ∧ ∃ ad len cap, xs[j * 2 + 1]? = some (.slice ad len cap) ∧ Arg w ad len cap zs

theorem RowW.nil (w : World) : RowW w [] [] := ⟨rfl, fun j a zs h => by simp at h⟩
theorem RowW.later {w wx : World} {xs : List Value} {ws : List (Int × List Int)} (h : RowW w xs ws) (hb : Below w.heap.size w wx) : RowW wx xs ws :=
  ⟨h.1, fun j a zs hj => by obtain ⟨c1, c2, ad, len, cap, c3, c4⟩ := h.2 j a zs hj; exact ⟨c1, c2, ad, len, cap, c3, c4.later hb⟩⟩
theorem RowW.append {w : World} {xs ys : List Value} {ws vs : List (Int × List Int)} (h : RowW w xs ws) (k : RowW w ys vs) : RowW w (xs ++ ys) (ws ++ vs) := by
  refine ⟨by rw [List.length_append, List.length_append, h.1, k.1, Nat.add_mul], fun j a zs hj => ?_⟩
  by_cases hl : j < ws.length
  · rw [List.getElem?_append_left hl] at hj
    obtain ⟨c1, c2, ad, len, cap, c3, c4⟩ := h.2 j a zs hj
    exact ⟨by rw [List.getElem?_append_left (by rw [h.1]; omega)]; exact c1, c2, ad, len, cap, by rw [List.getElem?_append_left (by rw [h.1]; omega)]; exact c3, c4⟩
  · rw [List.getElem?_append_right (by omega)] at hj
    obtain ⟨c1, c2, ad, len, cap, c3, c4⟩ := k.2 _ a zs hj
    refine ⟨?_, c2, ad, len, cap, ?_, c4⟩
    · rw [List.getElem?_append_right (by rw [h.1]; omega), h.1, show j * 2 - ws.length * 2 = (j - ws.length) * 2 by omega]; exact c1
    · rw [List.getElem?_append_right (by rw [h.1]; omega), h.1, show j * 2 + 1 - ws.length * 2 = (j - ws.length) * 2 + 1 by omega]; exact c3

/-- The cells of a list of writes that was handed in. -/
theorem WIs.row {w : World} {b off m : Nat} {ws : List (Int × List Int)} (h : WIs w (some ⟨b, off, none⟩) m ws) :
    ∃ xs, RowW w xs ws ∧ (∀ (j : Nat) (u : Value), xs[j]? = some u → w.cell? ((⟨b, off, none⟩ : Addr).add j) = some u) ∧ ∀ u ∈ xs, u.oneCell' = true := by
  obtain ⟨h1, h2, h3⟩ := h
  have hat : ∀ j, j < m * 2 → ∃ u, w.cell? ⟨b, off + j, none⟩ = some u ∧ u.oneCell' = true := fun j hj => by
    obtain ⟨b', off', he, hc⟩ := h3.resolve_left (by omega)
    simp only [Option.some.injEq, Addr.mk.injEq, and_true] at he
    obtain ⟨rfl, rfl⟩ := he
    have hx : ws[j / 2]? = some (ws[j / 2]'(by omega)) := List.getElem?_eq_getElem (by omega)
    obtain ⟨c1, c2, ad, len, cap, c3, c4⟩ := hc (j / 2) _ _ hx
    rcases Nat.mod_two_eq_zero_or_one j with e | e
    · exact ⟨_, by rw [show off + j = off + j / 2 * 2 by omega]; exact c1, rfl⟩
    · exact ⟨_, by rw [show off + j = off + j / 2 * 2 + 1 by omega]; exact c3, rfl⟩
  refine ⟨(List.range (m * 2)).map fun j => (w.cell? ⟨b, off + j, none⟩).getD undef, ⟨by simp [h1], fun j a zs hj => ?_⟩, fun j u hj => ?_, fun u hu => ?_⟩
  · have hjl : j < m := by have := (List.getElem?_eq_some_iff.1 hj).1; omega
    obtain ⟨b', off', he, hc⟩ := h3.resolve_left (by omega)
    simp only [Option.some.injEq, Addr.mk.injEq, and_true] at he
    obtain ⟨rfl, rfl⟩ := he
    obtain ⟨c1, c2, ad, len, cap, c3, c4⟩ := hc j a zs hj
    refine ⟨?_, c2, ad, len, cap, ?_, c4⟩
    · rw [List.getElem?_map, List.getElem?_range (by omega)]
      show some ((w.cell? ⟨b, off + j * 2, none⟩).getD undef) = _
      rw [c1]; rfl
    · rw [List.getElem?_map, List.getElem?_range (by omega)]
      show some ((w.cell? ⟨b, off + (j * 2 + 1), none⟩).getD undef) = _
      rw [← Nat.add_assoc, c3]; rfl
  · rw [List.getElem?_map] at hj
    have hjl : j < m * 2 := by
      rcases Nat.lt_or_ge j (m * 2) with h | h
      · exact h
      · rw [List.getElem?_eq_none (by simpa using h)] at hj; cases hj
    rw [List.getElem?_range hjl] at hj
    obtain ⟨v, hv, _⟩ := hat j hjl
    rw [Go.WideShapes.add_plain]
    have : (w.cell? ⟨b, off + j, none⟩).getD undef = u := by simpa using hj
    rw [← this, hv]
    rfl
  · obtain ⟨j, hj, rfl⟩ := List.mem_map.1 hu
    obtain ⟨v, hv, h1v⟩ := hat j (List.mem_range.1 hj)
    rw [hv]
    exact h1v

/-- A row of writes is a list of writes. -/
theorem RowW.wis {w : World} {base n cap : Nat} {ao : Option Addr} {xs : List Value} {ws : List (Int × List Int)} (h : RowW w xs ws) (ho : w.ownsRow base 64 2 (.slice ao n cap) n xs) (hn : n ≤ 140737488351232) : WIs w ao n ws := by
  have hl : ws.length = n := by have := ho.1; have := h.1; omega
  rcases ho.2 with ⟨hv, h0⟩ | ⟨g, cap', cur, hv, _⟩
  · exact ⟨hl, hn, Or.inl h0⟩
  · obtain rfl : ao = some ⟨g, 0, none⟩ := by simp only [Value.slice.injEq] at hv; exact hv.1
    refine ⟨hl, hn, Or.inr ⟨g, 0, rfl, fun j a zs hj => ?_⟩⟩
    obtain ⟨c1, c2, ad, len, cap, c3, c4⟩ := h.2 j a zs hj
    have e1 := ho.cells (g := g) rfl _ _ c1
    have e2 := ho.cells (g := g) rfl _ _ c3
    rw [Go.WideShapes.add_plain] at e1 e2
    exact ⟨e1, c2, ad, len, cap, by rw [Nat.add_assoc]; exact e2, c4⟩

/-- 'append(dst, news...)' of any writes that the form bears. -/
theorem run_append_wrs (w w0 : World) (hw0 : Below w0.heap.size w0 w) (ty : TypeId) (base n : Nat) (v : Value) (xs : List Value) (hown : w.ownsRow base 64 2 v n xs) (ao : Option Addr) (m c : Nat) (ws : List (Int × List Int)) (hA : WIs w0 ao m ws) (h0 : ao = none → m = 0 ∧ c = 0) (hb : (n + m) * 32 ≤ 140737488355328) (hbase : base ≤ w.heap.size) :
    ∃ v' w', (Builtin.append_ #[33, 33] ty #[v, .slice ao m c]).run Try.prog w = .ok v' w' ∧ (∃ ys, RowW w0 ys ws ∧ w'.ownsRow base 64 2 v' (n + m) (xs ++ ys)) ∧ Below base w w' := by
  obtain ⟨hu, hi, hz, hp, hnb⟩ := elemW
  obtain ⟨i0, hi0, hz0, hz1, hz2⟩ := info_parts hi
  cases ao with
  | none =>
    obtain ⟨rfl, rfl⟩ := h0 rfl
    obtain rfl : ws = [] := List.length_eq_zero_iff.1 hA.1
    exact ⟨v, w, run_append_owned_none (P := Try.prog) (w := w) base 33 ty 64 i0 2 hu hi0 v n xs hown, ⟨[], RowW.nil w0, by simpa using hown⟩, Below.refl _ _⟩
  | some ad =>
    obtain ⟨ys, hy1, hy2, hy3⟩ : ∃ ys, RowW w0 ys ws ∧ (∀ (j : Nat) (u : Value), ys[j]? = some u → w.cell? (ad.add j) = some u) ∧ ∀ u ∈ ys, u.oneCell' = true := by
      rcases hA.2.2 with h | ⟨b, off, he, _⟩
      · obtain rfl : ws = [] := List.length_eq_zero_iff.1 (by rw [hA.1, h])
        exact ⟨[], RowW.nil w0, fun j u h => by simp at h, fun u h => by cases h⟩
      · cases he
        obtain ⟨ys, k1, k2, k3⟩ := hA.row
        exact ⟨ys, k1, fun j u hj => cell_later hw0 (k2 j u hj), k3⟩
    obtain ⟨v', w', k1, k2, k3, _⟩ := run_append_own (P := Try.prog) w base 33 ty 64 i0 (.agg #[.int .i64 0, .slice none 0 0]) 2 32 hu hi0 hz0 hz1 hz2 hz (by decide) v n xs hown ad m c ys (by rw [hy1.1, hA.1]) hy2 hy3
      (by unfold maxLen; omega) hb hbase
    exact ⟨v', w', k1, ⟨ys, hy1, k2⟩, (Below.refl base w).grown k3 hbase (fun k hk => (hown.lt k hk).1)⟩

/-- 'append' of which the run is known, as one operation of a statement that draws its order. -/
theorem op_append_known {o : Oper} {a : Act} {w : World} {K : Act → World → Prop} {Q : Exit → Act → World → Prop} (s y : Operand) (t u : TypeId) (ho : o.op = .call { callee := .builtin .append, args := #[s, y], argTypes := #[t, u] }) (v x : Value) (hs : a.eval s = v) (hy : a.eval y = x) (R : Value → World → Prop)
    (hr : ∃ v' w', (Builtin.append_ #[t, u] o.type #[v, x]).run Try.prog w = .ok v' w' ∧ R v' w') (h : ∀ v' w', R v' w' → K (a.put o.dst v') w') : Oper.wp Try.prog o a w K Q := by
  obtain ⟨v', w', hrun, hR⟩ := hr
  unfold Oper.wp
  simp [execOp, ho, resolve, invoke, builtin, hs, hy, hrun, Result.andThen]
  exact h v' w' hR

end Go.Proofs.Ytdbkhhmadefccaa
