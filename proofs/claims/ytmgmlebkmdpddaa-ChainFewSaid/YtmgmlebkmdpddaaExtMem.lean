/-
  Proved here: lists of extents in memory, of any length up to that of a file; what the document's own SameExtents says of like ones, and of one of another length; a row of extents of the call's own.
  The conditions stand at each theorem.
-/
import Derived.Test.YtmgmlebkmdpddaaExt
import Derived.Test.YtmgmlebkmdpddaaFlo
import Derived.Test.YtmgmlebkmdpddaaInts
import Derived.Deep.QuietTactic
import Derived.BigQuiet
namespace Go.Proofs.Ytmgmlebkmdpddaa
open Go.RowKit
set_option linter.unusedVariables false
set_option linter.unusedSimpArgs false

/-- A complex number that stands for a run. -/
def CE (v : Value) (a b : Int) : Prop := ∃ x y, v = .complex .f64 x y ∧ FI x a ∧ FI y b

/-- The cells of extents. -/
def CellsE (vs : List Value) (xs : List EX) : Prop := vs.length = xs.length * 2 ∧ ∀ (i : Nat) (x : EX), xs[i]? = some x → vs[i * 2]? = some (.int .i64 x.a) ∧ ∃ v, vs[i * 2 + 1]? = some v ∧ CE v x.f x.c

/-- A list of extents: two cells each. -/
def EIs (w : World) (ao : Option Addr) (len : Nat) (xs : List EX) : Prop :=
  xs.length = len ∧ len ≤ 1000 ∧ (len = 0 ∨ ∃ b off, ao = some ⟨b, off, none⟩ ∧ ∀ (i : Nat) (x : EX), xs[i]? = some x → w.cell? ⟨b, off + i * 2, none⟩ = some (.int .i64 x.a) ∧ ∃ v, w.cell? ⟨b, off + i * 2 + 1, none⟩ = some v ∧ CE v x.f x.c)

theorem EIs.later {w w' : World} {ao : Option Addr} {len : Nat} {xs : List EX} (h : EIs w ao len xs) (hb : Below w.heap.size w w') : EIs w' ao len xs := by
  obtain ⟨h1, h2, h3⟩ := h
  refine ⟨h1, h2, h3.imp_right ?_⟩
  rintro ⟨b, off, rfl, hc⟩
  refine ⟨b, off, rfl, fun i x hx => ?_⟩
  obtain ⟨c1, v, c2, c3⟩ := hc i x hx
  exact ⟨cell_later hb c1, v, cell_later hb c2, c3⟩

theorem EIs.nil (w : World) : EIs w none 0 [] := ⟨rfl, by decide, Or.inl rfl⟩

theorem EIs.at {w : World} {ao : Option Addr} {len : Nat} {xs : List EX} (h : EIs w ao len xs) {i : Nat} (hi : i < len) :
    ∃ b off x p q, ao = some ⟨b, off, none⟩ ∧ xs[i]? = some x ∧ x ∈ xs ∧ w.cell? ⟨b, off + i * 2, none⟩ = some (.int .i64 x.a) ∧ w.cell? ⟨b, off + i * 2 + 1, none⟩ = some (.complex .f64 p q) ∧ FI p x.f ∧ FI q x.c := by
  obtain ⟨h1, h2, h3⟩ := h
  obtain ⟨b, off, rfl, hc⟩ := h3.resolve_left (by omega)
  obtain ⟨x, hx⟩ : ∃ x, xs[i]? = some x := ⟨_, List.getElem?_eq_getElem (by omega)⟩
  obtain ⟨c1, v, c2, p, q, rfl, f1, f2⟩ := hc i x hx
  exact ⟨b, off, x, p, q, rfl, hx, List.mem_of_getElem? hx, c1, c2, f1, f2⟩

/-- The first extents. -/
theorem EIs.take {w : World} {b off len : Nat} {xs : List EX} (h : EIs w (some ⟨b, off, none⟩) len xs) {k : Nat} (hk : k ≤ len) : EIs w (some ⟨b, off, none⟩) k (xs.take k) := by
  obtain ⟨h1, h2, h3⟩ := h
  refine ⟨by rw [List.length_take]; omega, by omega, ?_⟩
  by_cases h0 : k = 0
  · exact Or.inl h0
  · obtain ⟨b', off', he, hc⟩ := h3.resolve_left (by omega)
    refine Or.inr ⟨b', off', he, fun i x hx => hc i x ?_⟩
    rw [List.getElem?_take] at hx
    split at hx
    · exact hx
    · cases hx

theorem CellsE.nil : CellsE [] [] := ⟨rfl, fun i x h => by simp at h⟩
theorem CellsE.snoc {vs : List Value} {xs : List EX} {x : EX} {p q : Nat} (h : CellsE vs xs) (f1 : FI p x.f) (f2 : FI q x.c) : CellsE (vs ++ [.int .i64 x.a, .complex .f64 p q]) (xs ++ [x]) := by
  refine ⟨by rw [List.length_append, List.length_append, h.1, Nat.add_mul]; rfl, fun i y hy => ?_⟩
  by_cases hi : i < xs.length
  · rw [List.getElem?_append_left hi] at hy
    obtain ⟨c1, v, c2, c3⟩ := h.2 i y hy
    exact ⟨by rw [List.getElem?_append_left (by rw [h.1]; omega)]; exact c1, v, by rw [List.getElem?_append_left (by rw [h.1]; omega)]; exact c2, c3⟩
  · have hi0 : i = xs.length := by
      have := (List.getElem?_eq_some_iff.1 hy).1
      simp at this
      omega
    subst hi0
    rw [List.getElem?_append_right (Nat.le_refl _), Nat.sub_self] at hy
    simp at hy
    subst hy
    exact ⟨by rw [List.getElem?_append_right (by rw [h.1]; exact Nat.le_refl _), h.1, Nat.sub_self]; rfl, _, by rw [List.getElem?_append_right (by rw [h.1]; omega), h.1, show xs.length * 2 + 1 - xs.length * 2 = 1 by omega]; rfl, p, q, rfl, f1, f2⟩

/-- A row of extents of the call's own is a list of extents. -/
theorem CellsE.eis {w : World} {base n cap : Nat} {ao : Option Addr} {vs : List Value} {xs : List EX} (h : CellsE vs xs) (ho : w.ownsRow base 33 2 (.slice ao n cap) n vs) (hn : n ≤ 1000) : EIs w ao n xs := by
  have hl : xs.length = n := by have := ho.1; have := h.1; omega
  rcases ho.2 with ⟨hv, h0⟩ | ⟨g, cap', cur, hv, _⟩
  · exact ⟨hl, hn, Or.inl h0⟩
  · obtain rfl : ao = some ⟨g, 0, none⟩ := by simp only [Value.slice.injEq] at hv; exact hv.1
    refine ⟨hl, hn, Or.inr ⟨g, 0, rfl, fun i x hx => ?_⟩⟩
    obtain ⟨c1, v, c2, c3⟩ := h.2 i x hx
    have e1 := ho.cells (g := g) rfl _ _ c1
    have e2 := ho.cells (g := g) rfl _ _ c2
    rw [Go.WideShapes.add_plain] at e1 e2
    exact ⟨e1, v, by rw [Nat.add_assoc]; exact e2, c3⟩

theorem elemX : ElemR 29 33 (.agg #[.int .i64 0, .complex .f64 0 0]) 2 24 := ⟨Try.underlying29, by kernel_rfl, rfl, by decide, by decide⟩

end Go.Proofs.Ytmgmlebkmdpddaa

