/-
  Proved here: a slice of slices of bytes that came in, opened; that it stays while only new memory is made.
  The conditions stand at each theorem.
-/
import Derived.Test.YtpmggbdmoopkfaaMem
import Derived.Deep.Matrix
namespace Go.Proofs.Ytpmggbdmoopkfaa
open Go.RowKit Go.ChangeShapes Go.WideShapes

/-- A slice of slices of bytes: row j's elements are the j-th of Z. -/
def RowsIn (w : World) (a : Option Addr) (len cap : Nat) (Z : List (List Int)) : Prop :=
  Z.length = len ∧ len ≤ cap ∧ (len = 0 ∨ ∃ b off, a = some ⟨b, off, none⟩ ∧ ∀ j, j < len → ∃ ad l c, w.cell? ⟨b, off + j, none⟩ = some (.slice ad l c) ∧ Bts w ad l (Z.getD j []) ∧ l ≤ c)

theorem RowsIn.later {w wx : World} {a : Option Addr} {len cap : Nat} {Z : List (List Int)} (h : RowsIn w a len cap Z) (hb : Below w.heap.size w wx) : RowsIn wx a len cap Z := by
  obtain ⟨h1, h2, h3⟩ := h
  refine ⟨h1, h2, ?_⟩
  rcases h3 with h3 | ⟨b, off, rfl, hc⟩
  · exact Or.inl h3
  · refine Or.inr ⟨b, off, rfl, fun j hj => ?_⟩
    obtain ⟨ad, l, c, h4, h5, h6⟩ := hc j hj
    exact ⟨ad, l, c, cell_later hb h4, h5.later hb, h6⟩

theorem open_rows {H : Type} {enc : TypeId × Value → H} {W : World} {a : Option Addr} {len cap : Nat} {d : DataW H} {p : List MemPlace}
    (h : DataW.Trod enc Try.prog W 0 (fun _ => true) true 38 (.slice a len cap) d p) : ∃ Z, RowsIn W a len cap Z := by
  obtain ⟨fuel, hf⟩ := h
  rcases Go.Deep.open_int_rows Try.underlying38 Try.underlying25 Try.underlying5 (by kernel_rfl) (by kernel_rfl) hf with ⟨hcs, _⟩ | ⟨x, l, c, A, L, C, Z, hcs, _, hl, hm, _, hrows⟩
  · simp [Value.cells] at hcs
    obtain ⟨rfl, rfl, rfl⟩ := hcs
    exact ⟨[], rfl, Nat.le_refl _, Or.inl rfl⟩
  · simp [Value.cells] at hcs
    obtain ⟨rfl, rfl, rfl⟩ := hcs
    refine ⟨(List.range len).map fun r => (Z r).take (L r), by simp, hl, ?_⟩
    rcases Nat.eq_zero_or_pos len with h0 | h0
    · exact Or.inl h0
    · obtain ⟨b, off, spot⟩ := x
      have hspot : spot = none := by simpa [Addr.add] using World.cell?_spot (hrows 0 (by omega)).1
      subst hspot
      refine Or.inr ⟨b, off, rfl, fun j hj => ?_⟩
      obtain ⟨h1, h2, h3, h4, h5, h6, h7⟩ := hrows j (by omega)
      rw [add_plain] at h1
      refine ⟨A j, L j, C j, h1, ?_, h2⟩
      have hg : ((List.range len).map fun r => (Z r).take (L r)).getD j [] = (Z j).take (L j) := by simp [List.getD, hj]
      rw [hg]
      refine ⟨by rw [List.length_take]; omega, by unfold maxLen at h3; omega, fun z hz => wf_u8 (h5 z (List.mem_of_mem_take hz)), ?_⟩
      rcases Nat.eq_zero_or_pos (L j) with hz | hz
      · exact Or.inl hz
      · cases hA : A j with
        | none => have := h6 hA; omega
        | some a' =>
          obtain ⟨_, hcell⟩ := h7 a' hA
          obtain ⟨b', off', rfl, hc'⟩ := ints_at (zs := Z j) (fun i hi => hcell i (by omega)) (by omega)
          exact Or.inr ⟨b', off', rfl, fun i hi => by rw [take_getD _ _ _ hi]; exact hc' i (by omega)⟩


theorem RowsIn.at {w : World} {a : Option Addr} {len cap i : Nat} {Z : List (List Int)} (h : RowsIn w a len cap Z) (hi : i < len) : ∃ b off ad l c, a = some ⟨b, off, none⟩ ∧ w.cell? ⟨b, off + i, none⟩ = some (.slice ad l c) ∧ Bts w ad l (Z.getD i []) := by
  obtain ⟨h1, h2, h3⟩ := h
  obtain ⟨b, off, rfl, hc⟩ := h3.resolve_left (by omega)
  obtain ⟨ad, l, c, h4, h5, _⟩ := hc i hi
  exact ⟨b, off, ad, l, c, rfl, h4, h5⟩

/-- A row of 64 bytes, as a call is handed it. -/
theorem RowsIn.full {w : World} {a : Option Addr} {len cap i : Nat} {Z : List (List Int)} (h : RowsIn w a len cap Z) (hi : i < len) (h64 : (Z.getD i []).length = 64) : ∃ b off ad c, a = some ⟨b, off, none⟩ ∧ w.cell? ⟨b, off + i, none⟩ = some (.slice (some ad) (64 : Nat) c) ∧ Arg w (some ad) 64 c (Z.getD i []) := by
  obtain ⟨h1, h2, h3⟩ := h
  obtain ⟨b, off, rfl, hc⟩ := h3.resolve_left (by omega)
  obtain ⟨ad, l, c, h4, h5, h6⟩ := hc i hi
  have hl : l = 64 := by rw [← h5.1, h64]
  subst hl
  obtain ⟨b', o', rfl, _⟩ := h5.2.2.2.resolve_left (by decide)
  exact ⟨b, off, _, c, rfl, h4, h5, (fun e => by cases e), h6, by decide⟩

end Go.Proofs.Ytpmggbdmoopkfaa
