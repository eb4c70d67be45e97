/-
  Proved here: a slice of slices of bytes that came in, opened; copying as much of a text as fits into 64 new bytes; what lies in a block of bytes while others are written.
  The conditions stand at each theorem.
-/
import Derived.Test.YtinlbmlgfneolaaWrites
import Derived.Deep.Matrix
namespace Go.Proofs.Ytinlbmlgfneolaa
open Go.RowKit Go.ChangeShapes Go.WideShapes

/-- A slice of slices of bytes: row j's elements are the j-th of Z. -/
def RowsIn (w : World) (a : Option Addr) (len cap : Nat) (Z : List (List Int)) : Prop :=
  Z.length = len ∧ len ≤ cap ∧ (len = 0 ∨ ∃ b off, a = some ⟨b, off, none⟩ ∧ ∀ j, j < len → ∃ ad l c, w.cell? ⟨b, off + j, none⟩ = some (.slice ad l c) ∧ Bts w ad l (Z.getD j []))

theorem RowsIn.later {w wx : World} {a : Option Addr} {len cap : Nat} {Z : List (List Int)} (h : RowsIn w a len cap Z) (hb : Below w.heap.size w wx) : RowsIn wx a len cap Z := by
  obtain ⟨h1, h2, h3⟩ := h
  refine ⟨h1, h2, ?_⟩
  rcases h3 with h3 | ⟨b, off, rfl, hc⟩
  · exact Or.inl h3
  · refine Or.inr ⟨b, off, rfl, fun j hj => ?_⟩
    obtain ⟨ad, l, c, h4, h5⟩ := hc j hj
    exact ⟨ad, l, c, cell_later hb h4, h5.later hb⟩

theorem open_rows {H : Type} {enc : TypeId × Value → H} {W : World} {a : Option Addr} {len cap : Nat} {d : DataW H} {p : List MemPlace}
    (h : DataW.Trod enc Try.prog W 0 (fun _ => true) true 52 (.slice a len cap) d p) : ∃ Z, RowsIn W a len cap Z := by
  obtain ⟨fuel, hf⟩ := h
  rcases Go.Deep.open_int_rows Try.underlying52 Try.underlying36 Try.underlying5 (by kernel_rfl) (by kernel_rfl) hf with ⟨hcs, _⟩ | ⟨x, l, c, A, L, C, Z, hcs, _, hl, hm, _, hrows⟩
  · simp [Value.cells] at hcs
    obtain ⟨rfl, rfl, rfl⟩ := hcs
    exact ⟨[], rfl, Nat.le_refl _, Or.inl rfl⟩
  · simp [Value.cells] at hcs
    obtain ⟨rfl, rfl, rfl⟩ := hcs
    refine ⟨(List.range len).map fun r => (Z r).take (L r), by simp, hl, ?_⟩
    rcases Nat.eq_zero_or_pos len with h0 | h0
    · exact Or.inl h0
    · obtain ⟨b, off, spot⟩ := x
      have hspot : spot = none := by simpa [Addr.add] using World.cell?_spot (hrows 0 (by omega)).1
      subst hspot
      refine Or.inr ⟨b, off, rfl, fun j hj => ?_⟩
      obtain ⟨h1, h2, h3, h4, h5, h6, h7⟩ := hrows j (by omega)
      rw [add_plain] at h1
      refine ⟨A j, L j, C j, h1, ?_⟩
      have hg : ((List.range len).map fun r => (Z r).take (L r)).getD j [] = (Z j).take (L j) := by simp [List.getD, hj]
      rw [hg]
      refine ⟨by rw [List.length_take]; omega, by unfold maxLen at h3; omega, fun z hz => wf_u8 (h5 z (List.mem_of_mem_take hz)), ?_⟩
      rcases Nat.eq_zero_or_pos (L j) with hz | hz
      · exact Or.inl hz
      · cases hA : A j with
        | none => have := h6 hA; omega
        | some a' =>
          obtain ⟨_, hcell⟩ := h7 a' hA
          obtain ⟨b', off', rfl, hc'⟩ := ints_at (zs := Z j) (fun i hi => hcell i (by omega)) (by omega)
          exact Or.inr ⟨b', off', rfl, fun i hi => by rw [take_getD _ _ _ hi]; exact hc' i (by omega)⟩

/-- A text laid over 64 zeros, as much of it as fits. -/
def pad64 (zs : List Int) : List Int := lay zeros64 0 (zs.take 64)

theorem pad_length (zs : List Int) : (pad64 zs).length = 64 := by unfold pad64; rw [lay_length]; rfl

/-- Block g is one of bytes: 64 of them, zs. -/
def ByteBlock (w : World) (g : Nat) (zs : List Int) : Prop := (∃ cs fr, w.heap[g]? = some (.cells cs 5 fr)) ∧ Arg w (some ⟨g, 0, none⟩) 64 64 zs

theorem setCells_type (g : Nat) (T : TypeId) : ∀ (vs : List Value) (o : Nat) (w : World), (∃ cs fr, w.heap[g]? = some (.cells cs T fr)) → ∃ cs fr, (w.setCells g o vs).heap[g]? = some (.cells cs T fr)
  | [], _, _, h => h
  | v :: r, o, w, h => by
    refine setCells_type g T r (o + 1) _ ?_
    obtain ⟨cs, fr, h⟩ := h
    show ∃ cs' fr', (w.setCell ⟨g, o, none⟩ v).heap[g]? = some (.cells cs' T fr')
    simp only [World.setCell, Array.getElem?_modify]
    rw [if_pos trivial, h]
    exact ⟨_, _, rfl⟩

theorem bts_cut {w : World} {ao : Option Addr} {m k : Nat} {zs : List Int} (h : Bts w ao m zs) (hk : k ≤ m) : Bts w ao k (zs.take k) := by
  obtain ⟨h1, h2, h3, h4⟩ := h
  refine ⟨by rw [List.length_take]; omega, by omega, fun z hz => h3 z (List.mem_of_mem_take hz), ?_⟩
  rcases h4 with h4 | ⟨b, off, rfl, hc⟩
  · exact Or.inl (by omega)
  · exact Or.inr ⟨b, off, rfl, fun j hj => by rw [take_getD _ _ _ hj]; exact hc j (by omega)⟩

/-- 'copy' of a text into 64 bytes of the call's own. -/
theorem own_copy_min {base g : Nat} {w0 w : World} (hO : Own base w0 g zeros64 w) (hT : ∃ cs fr, w.heap[g]? = some (.cells cs 5 fr)) (ao : Option Addr) (m c : Nat) (zs : List Int) (hB : Bts w ao m zs) (ty : TypeId) :
    ∃ v' w', (Builtin.copy_ #[36, 36] ty #[.slice (some ⟨g, 0, none⟩) 64 64, .slice ao m c]).run Try.prog w = .ok v' w' ∧ Own base w0 g (pad64 zs) w' ∧ ∃ cs fr, w'.heap[g]? = some (.cells cs 5 fr) := by
  have hl0 : zs.length = m := hB.1
  cases ao with
  | none =>
    have hz : zs = [] ∧ m = 0 := by
      rcases hB.2.2.2 with h0 | ⟨b, o, he, _⟩
      · exact ⟨List.length_eq_zero_iff.1 (by rw [hB.1, h0]), h0⟩
      · cases he
    obtain ⟨rfl, rfl⟩ := hz
    exact ⟨_, _, run_copy_none (P := Try.prog) w 36 36 ty 5 _ none 64 64 0 c Try.underlying36 size5 (by simp), hO, hT⟩
  | some ad =>
    have hBk := bts_cut (k := min m 64) hB (Nat.min_le_left _ _)
    have htk : zs.take (min m 64) = zs.take 64 := by
      by_cases h : m ≤ 64
      · rw [Nat.min_eq_left h, List.take_of_length_le (by omega), List.take_of_length_le (by omega)]
      · rw [Nat.min_eq_right (by omega)]
    rw [htk] at hBk
    have hl : ((zs.take 64).map (Value.int .u8)).length = min m 64 := by rw [List.length_map, hBk.1]
    have hr := run_copy_cells (P := Try.prog) w 36 36 ty 5 g 0 64 64 ad m c ((zs.take 64).map (Value.int .u8)) Try.underlying36 size5 hl (bts_news hBk rfl)
      (fun j hj => by rw [Nat.zero_add]; rw [hO.2.1 j (by show j < 64; omega)]; rfl) (fun j _ => hO.2.2.1 _) (one_cells _)
    exact ⟨_, _, hr, hO.fill (zs.take 64) zeros64 0 w (by show 0 + _ ≤ 64; rw [List.length_take]; omega) hBk.2.2.1, setCells_type g _ _ _ _ hT⟩

theorem ByteBlock.kept {w w' : World} {g : Nat} {zs : List Int} (h : ByteBlock w g zs) (hk : w'.heap[g]? = w.heap[g]?) : ByteBlock w' g zs :=
  ⟨by rw [hk]; exact h.1, h.2.kept (fun b o s e => by cases e; exact hk)⟩

end Go.Proofs.Ytinlbmlgfneolaa
