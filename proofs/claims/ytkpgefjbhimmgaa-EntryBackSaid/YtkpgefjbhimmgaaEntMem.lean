/-
  Said here: lists of entries, and lists of such lists, in memory; that they stay while only new memory is made.
  No conditions but those that each theorem names.
-/
import Derived.Test.YtkpgefjbhimmgaaEnt
namespace Go.Proofs.Ytkpgefjbhimmgaa
open Go.RowKit

/-- Entries in a row of cells, two each. -/
def EntsIs (w : World) (ao : Option Addr) (m : Nat) (es : List PEnt) : Prop :=
  es.length = m ∧ m ≤ 140737488351232 ∧ (m = 0 ∨ ∃ b off, ao = some ⟨b, off, none⟩ ∧ ∀ (j : Nat) (x : PEnt), es[j]? = some x → w.cell? ⟨b, off + 2 * j, none⟩ = some (.int .i64 x.node) ∧ (-9223372036854775808 ≤ x.node ∧ x.node ≤ 9223372036854775807) ∧ w.cell? ⟨b, off + 2 * j + 1, none⟩ = some (.string x.name) ∧ x.name.size ≤ 140737488351232)

/-- The same, as a call is handed them, or hands them back. -/
def EntArg (w : World) (ao : Option Addr) (len cap : Nat) (es : List PEnt) : Prop := EntsIs w ao len es ∧ (ao = none → len = 0 ∧ cap = 0) ∧ len ≤ cap

/-- Blocks of entries in a row of cells. -/
def BlksIs (w : World) (ao : Option Addr) (m : Nat) (bs : List (List PEnt)) : Prop :=
  bs.length = m ∧ m ≤ 140737488351232 ∧ (m = 0 ∨ ∃ b off, ao = some ⟨b, off, none⟩ ∧ ∀ (j : Nat) (es : List PEnt), bs[j]? = some es → ∃ ad len cap, w.cell? ⟨b, off + j, none⟩ = some (.slice ad len cap) ∧ EntArg w ad len cap es)
def BlkArg (w : World) (ao : Option Addr) (len cap : Nat) (bs : List (List PEnt)) : Prop := BlksIs w ao len bs ∧ (ao = none → len = 0 ∧ cap = 0) ∧ len ≤ cap

/-- What a call hands back: such a list. -/
def EntVal (w : World) (v : Value) (es : List PEnt) : Prop := ∃ ao cap, v = .slice ao es.length cap ∧ EntArg w ao es.length cap es
def BlkVal (w : World) (v : Value) (bs : List (List PEnt)) : Prop := ∃ ao cap, v = .slice ao bs.length cap ∧ BlkArg w ao bs.length cap bs

theorem EntsIs.later {w wx : World} {ao : Option Addr} {m : Nat} {es : List PEnt} (h : EntsIs w ao m es) (hb : Below w.heap.size w wx) : EntsIs wx ao m es := by
  obtain ⟨h1, h2, h3⟩ := h
  refine ⟨h1, h2, h3.imp_right fun ⟨b, off, he, hc⟩ => ⟨b, off, he, fun j x hj => ?_⟩⟩
  obtain ⟨c1, c2, c3, c4⟩ := hc j x hj
  exact ⟨cell_later hb c1, c2, cell_later hb c3, c4⟩
theorem EntArg.later {w wx : World} {ao : Option Addr} {len cap : Nat} {es : List PEnt} (h : EntArg w ao len cap es) (hb : Below w.heap.size w wx) : EntArg wx ao len cap es := ⟨h.1.later hb, h.2⟩
theorem BlksIs.later {w wx : World} {ao : Option Addr} {m : Nat} {bs : List (List PEnt)} (h : BlksIs w ao m bs) (hb : Below w.heap.size w wx) : BlksIs wx ao m bs := by
  obtain ⟨h1, h2, h3⟩ := h
  refine ⟨h1, h2, h3.imp_right fun ⟨b, off, he, hc⟩ => ⟨b, off, he, fun j x hj => ?_⟩⟩
  obtain ⟨ad, len, cap, c1, c2⟩ := hc j x hj
  exact ⟨ad, len, cap, cell_later hb c1, c2.later hb⟩
theorem BlkArg.later {w wx : World} {ao : Option Addr} {len cap : Nat} {bs : List (List PEnt)} (h : BlkArg w ao len cap bs) (hb : Below w.heap.size w wx) : BlkArg wx ao len cap bs := ⟨h.1.later hb, h.2⟩
theorem EntVal.later {w wx : World} {v : Value} {es : List PEnt} (h : EntVal w v es) (hb : Below w.heap.size w wx) : EntVal wx v es := by
  obtain ⟨ao, cap, hv, hA⟩ := h
  exact ⟨ao, cap, hv, hA.later hb⟩
theorem BlkVal.later {w wx : World} {v : Value} {bs : List (List PEnt)} (h : BlkVal w v bs) (hb : Below w.heap.size w wx) : BlkVal wx v bs := by
  obtain ⟨ao, cap, hv, hA⟩ := h
  exact ⟨ao, cap, hv, hA.later hb⟩

theorem EntVal.nil (w : World) : EntVal w (.slice none 0 0) [] := ⟨none, 0, rfl, ⟨⟨rfl, by decide, Or.inl rfl⟩, fun _ => ⟨rfl, rfl⟩, Nat.le_refl _⟩⟩
theorem BlkVal.nil (w : World) : BlkVal w (.slice none 0 0) [] := ⟨none, 0, rfl, ⟨⟨rfl, by decide, Or.inl rfl⟩, fun _ => ⟨rfl, rfl⟩, Nat.le_refl _⟩⟩

/-- Of many blocks the first ones. -/
theorem BlkArg.first {w : World} {ao : Option Addr} {len cap k : Nat} {bs : List (List PEnt)} (h : BlkArg w ao len cap bs) (hk : k ≤ len) : BlkArg w ao k cap (bs.take k) := by
  obtain ⟨⟨h1, h2, h3⟩, h4, h5⟩ := h
  refine ⟨⟨by rw [List.length_take]; omega, by omega, ?_⟩, fun e => ⟨by have := (h4 e).1; omega, (h4 e).2⟩, by omega⟩
  rcases h3 with h3 | ⟨b, off, he, hc⟩
  · exact Or.inl (by omega)
  · refine Or.inr ⟨b, off, he, fun j es hj => hc j es ?_⟩
    rw [List.getElem?_take] at hj
    split at hj
    · exact hj
    · cases hj

/-- One block alone, in a row that was made. -/
theorem blk_one {w : World} {T : TypeId} {ad : Option Addr} {len cap : Nat} {es : List PEnt} (h : EntArg w ad len cap es) : BlkArg (w.alloc (.cells #[.slice ad len cap] T)) (some ⟨w.heap.size, 0, none⟩) 1 1 [es] := by
  refine ⟨⟨rfl, by decide, Or.inr ⟨w.heap.size, 0, rfl, fun j x hj => ?_⟩⟩, (fun e => by cases e), Nat.le_refl _⟩
  match j, hj with
  | 0, hj =>
    simp only [List.getElem?_cons_zero, Option.some.injEq] at hj
    subst hj
    exact ⟨ad, len, cap, by rw [World.cell?_alloc_new]; rfl, h.later ((Below.refl _ _).alloc (Nat.le_refl _) _)⟩
  | j + 1, hj => simp at hj

end Go.Proofs.Ytkpgefjbhimmgaa
