/-
  Proved here: what 'append' does to bytes of the call's own, in a statement whose order is open: of bytes and of a text.
  The conditions stand at each theorem.
-/
import Derived.Test.YtmkibjppnlmehaaMem
import Derived.Lib.AppendStr
import Derived.Deep.RegionLaw
namespace Go.Proofs.Ytmkibjppnlmehaa
open Go.RowKit

/-- The bytes of a text. -/
def bytesOf (s : ByteArray) : List Int := s.data.toList.map fun b => (b.toNat : Int)

theorem bytesOf_length (s : ByteArray) : (bytesOf s).length = s.size := by
  unfold bytesOf; rw [List.length_map]; rfl

theorem bytesOf_bytes (s : ByteArray) : ∀ z ∈ bytesOf s, 0 ≤ z ∧ z ≤ 255 := by
  intro z h
  obtain ⟨b, _, rfl⟩ := List.mem_map.1 h
  have := b.toNat_lt
  omega

theorem strCells_bytes (s : ByteArray) : Lib.strCells s = (bytesOf s).map (Value.int .u8) := by
  unfold Lib.strCells bytesOf
  rw [List.map_map]
  rfl

theorem bts_take {w : World} {b off len k : Nat} {zs : List Int} (h : Bts w (some ⟨b, off, none⟩) len zs) (hk : k ≤ len) : Bts w (some ⟨b, off, none⟩) k (zs.take k) := by
  obtain ⟨h1, h2, h3, h4⟩ := h
  refine ⟨by rw [List.length_take]; omega, by omega, fun z hz => h3 z (List.mem_of_mem_take hz), ?_⟩
  rcases h4 with h4 | ⟨b', o', he, hc⟩
  · exact Or.inl (by omega)
  · exact Or.inr ⟨b', o', he, fun j hj => by rw [take_getD _ _ _ hj]; exact hc j (by omega)⟩

theorem bts_drop {w : World} {b off len k : Nat} {zs : List Int} (h : Bts w (some ⟨b, off, none⟩) len zs) (hk : k ≤ len) : Bts w (some ⟨b, off + k, none⟩) (len - k) (zs.drop k) := by
  obtain ⟨h1, h2, h3, h4⟩ := h
  refine ⟨by rw [List.length_drop]; omega, by omega, fun z hz => h3 z (List.mem_of_mem_drop hz), ?_⟩
  rcases h4 with h4 | ⟨b', o', he, hc⟩
  · exact Or.inl (by omega)
  · simp only [Option.some.injEq, Addr.mk.injEq, and_true] at he
    obtain ⟨rfl, rfl⟩ := he
    refine Or.inr ⟨b, off + k, rfl, fun j hj => ?_⟩
    have := hc (k + j) (by omega)
    rw [Nat.add_assoc, this]
    simp [List.getD]

section
variable {ops : Array Oper} {o : Oper} {a : Act} {w : World} {K : Act → World → Prop} {Q : Exit → Act → World → Prop} {E : Prop}

end

end Go.Proofs.Ytmkibjppnlmehaa

