/-
  Proved here: what is known of a slice that a call handed back when a byte of it is written.
  The conditions stand at each theorem.
-/
import Derived.Test.YtdbkhhmadefccaaMem
namespace Go.Proofs.Ytdbkhhmadefccaa
open Go.RowKit

/-- A slice that a call handed back may be written, byte by byte. -/
theorem Fresh.open_at {w : World} {base : Nat} {v : Value} {l : List Int} (h : Fresh w base v l) {k : Nat} (hk : k < l.length) :
    ∃ g off cap, v = .slice (some ⟨g, off, none⟩) l.length cap ∧ base ≤ g ∧ w.cell? ⟨g, off + k, none⟩ = some (.int .u8 (l.getD k 0)) ∧ w.frozen? ⟨g, off + k, none⟩ = false ∧
      ∀ y : Int, 0 ≤ y ∧ y ≤ 255 → Arg (w.setCell ⟨g, off + k, none⟩ (.int .u8 y)) (some ⟨g, off, none⟩) l.length cap (l.set k y) := by
  obtain ⟨ao, cap, hv, hA, hf⟩ := h
  rcases hf with rfl | ⟨g, off, rfl, hg, hfr⟩
  · exact absurd hk (by simp)
  · obtain ⟨hB, _, hcap, hlen⟩ := hA
    obtain ⟨h1, h2, h3, h4⟩ := hB
    obtain ⟨b, o, he, hc⟩ := h4.resolve_left (by omega)
    simp only [Option.some.injEq, Addr.mk.injEq, and_true] at he
    obtain ⟨rfl, rfl⟩ := he
    refine ⟨g, off, cap, hv, hg, hc k hk, hfr k hk, fun y hy => ⟨⟨by rw [List.length_set], h2, mem_set h3 hy, Or.inr ⟨g, off, rfl, fun j hj => ?_⟩⟩, (fun h => by cases h), hcap, hlen⟩⟩
    rw [getD_set _ _ _ _ hk]
    by_cases hjk : j = k
    · subst hjk
      rw [if_pos rfl]
      exact World.cell?_setCell_same w _ _ (hc j hj)
    · rw [if_neg hjk, World.cell?_setCell_other (h := by intro e; apply hjk; simp at e; try omega)]
      exact hc j hj

end Go.Proofs.Ytdbkhhmadefccaa
