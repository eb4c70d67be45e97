/-
  Proved here: where the landed disk lies (DI), that it stays so while its own blocks do, and what New, Get, Open, Blocks and Fail answer.
  The conditions stand at each theorem.
-/
import Derived.Test.YtinlbmlgfneolaaSettle
import Derived.Test.YtinlbmlgfneolaaCopy
namespace Go.Proofs.Ytinlbmlgfneolaa
open Go.RowKit
set_option linter.unusedVariables false
set_option linter.unusedSimpArgs false

/-- A disk: its own variable in block d, its cells in block g, the open writes of cell k at ao k. -/
structure DIs (w : World) (d g : Nat) (ao : Nat → Option Addr) (cp : Nat → Nat) (s : DM) : Prop where
  dg : d ≠ g
  n1 : 1 ≤ s.n
  n480 : s.n ≤ 480
  ok : s.Ok
  off : w.cell? ⟨d, 0, none⟩ = some (.bool s.off)
  pow : ∃ du l, w.cell? ⟨d, 1, none⟩ = some (.bool du) ∧ w.cell? ⟨d, 2, none⟩ = some (.int .i64 l) ∧ (-9223372036854775808 ≤ l ∧ l ≤ 9223372036854775807) ∧ ((du = false ∧ s.left = -1) ∨ (du = true ∧ s.left = l ∧ 0 ≤ l))
  sl : w.cell? ⟨d, 3, none⟩ = some (.slice (some ⟨g, 0, none⟩) s.n s.n)
  frd : ∀ j, w.frozen? ⟨d, j, none⟩ = false
  frg : ∀ j, w.frozen? ⟨g, j, none⟩ = false
  cells : ∀ k, k < s.n → CellIs w g (k * 65) ((s.hist k).headD []) (ao k) (cp k) (s.hist k).tail
  awayd : ∀ k, k < s.n → ao k ≠ some ⟨d, 0, none⟩
  apart : ∀ i j, i < s.n → j < s.n → i ≠ j → ao i = none ∨ ao i ≠ ao j

/-- The disk's own blocks. -/
def Foot (d g : Nat) (ao : Nat → Option Addr) (n k : Nat) : Prop := k = d ∨ k = g ∨ ∃ i, i < n ∧ ao i = some ⟨k, 0, none⟩

def DI (w : World) (a : Addr) (F : Nat → Prop) (s : DM) : Prop := ∃ d g ao cp, a = ⟨d, 0, none⟩ ∧ DIs w d g ao cp s ∧ F = Foot d g ao s.n

theorem CellIs.turn {w w' : World} {g off : Nat} {ls : List Int} {ao : Option Addr} {cap : Nat} {os : List (List Int)} (h : CellIs w g off ls ao cap os) (hg : w'.heap[g]? = w.heap[g]?) (hr : ∀ k, ao = some ⟨k, 0, none⟩ → w'.heap[k]? = w.heap[k]?) : CellIs w' g off ls ao cap os := by
  refine ⟨fun j v hv => by rw [cell_of_heap (p := ⟨g, off + j, none⟩) hg]; exact h.last j v hv, by rw [cell_of_heap (p := ⟨g, off + 64, none⟩) hg]; exact h.opn, owns_turn h.row (fun k hk => ?_), h.away, h.len⟩
  rcases h.form.1 with e | ⟨r, e⟩
  · rw [e] at hk; simp [Value.ownBlock] at hk
  · rw [e] at hk
    simp [Value.ownBlock] at hk
    exact hr k (by rw [e, hk])

theorem CellIs.row_lt {w : World} {g off k : Nat} {ls : List Int} {cap : Nat} {os : List (List Int)} (h : CellIs w g off ls (some ⟨k, 0, none⟩) cap os) : k < w.heap.size := (h.row.lt k rfl).2

theorem DIs.lt {w : World} {d g : Nat} {ao : Nat → Option Addr} {cp : Nat → Nat} {s : DM} (h : DIs w d g ao cp s) {k : Nat} (hk : Foot d g ao s.n k) : k < w.heap.size := by
  rcases hk with rfl | rfl | ⟨i, hi, e⟩
  · exact World.block_lt_of_cell? _ _ h.off
  · exact (h.cells 0 h.n1).lt
  · have hc := h.cells i hi
    rw [e] at hc
    exact hc.row_lt

theorem DIs.turn {w w' : World} {d g : Nat} {ao : Nat → Option Addr} {cp : Nat → Nat} {s : DM} (h : DIs w d g ao cp s) (hk : ∀ k, Foot d g ao s.n k → w'.heap[k]? = w.heap[k]?) : DIs w' d g ao cp s := by
  have hd := hk d (Or.inl rfl)
  have hg := hk g (Or.inr (Or.inl rfl))
  have hc : ∀ j, w'.cell? ⟨d, j, none⟩ = w.cell? ⟨d, j, none⟩ := fun j => cell_of_heap (p := ⟨d, j, none⟩) hd
  refine ⟨h.dg, h.n1, h.n480, h.ok, by rw [hc]; exact h.off, by rw [hc, hc]; exact h.pow, by rw [hc]; exact h.sl, fun j => ?_, fun j => ?_, fun k hk' => (h.cells k hk').turn hg (fun b hb => hk b (Or.inr (Or.inr ⟨k, hk', hb⟩))), h.awayd, h.apart⟩
  · rw [World.frozen?_of_block (w := w) (a := ⟨d, j, none⟩) hd]; exact h.frd j
  · rw [World.frozen?_of_block (w := w) (a := ⟨g, j, none⟩) hg]; exact h.frg j

theorem di_lt {w : World} {a : Addr} {F : Nat → Prop} {s : DM} (h : DI w a F s) : ∀ k, F k → k < w.heap.size := by
  obtain ⟨d, g, ao, cp, rfl, h, rfl⟩ := h
  exact fun k hk => h.lt hk

theorem di_kept {w w' : World} {a : Addr} {F : Nat → Prop} {s : DM} (h : DI w a F s) (hk : ∀ k, F k → w'.heap[k]? = w.heap[k]?) : DI w' a F s := by
  obtain ⟨d, g, ao, cp, rfl, h, rfl⟩ := h
  exact ⟨d, g, ao, cp, rfl, h.turn hk, rfl⟩

theorem hist_eq {s : DM} (h : s.Ok) (k : Nat) : s.hist k = (s.hist k).headD [] :: (s.hist k).tail := by
  have := (h k).1
  cases hh : s.hist k with
  | nil => exact absurd hh this
  | cons x r => rfl

theorem tail_len {s : DM} (k : Nat) : (s.hist k).tail.length = (s.hist k).length - 1 := List.length_tail

theorem di_blocks {w : World} {a : Addr} {F : Nat → Prop} {s : DM} (h : DI w a F s) : Calls Try.prog 21 #[.pointer (some a)] w fun e w' => e = .returned (.int .i64 s.n) ∧ Below w.heap.size w w' := by
  obtain ⟨d, g, ao, cp, rfl, h, rfl⟩ := h
  refine (blocks_d h.sl).mono ?_
  rintro e w' ⟨rfl, rfl⟩
  exact ⟨rfl, Below.refl _ _⟩

theorem di_open {w : World} {a : Addr} {F : Nat → Prop} {s : DM} (n : Int) (h : DI w a F s) (hn : -9223372036854775808 ≤ n ∧ n ≤ 9223372036854775807) : Calls Try.prog 20 #[.pointer (some a), .int .i64 n] w fun e w' => e = .returned (.int .i64 (openOf s n)) ∧ Below w.heap.size w w' := by
  obtain ⟨d, g, ao, cp, rfl, h, rfl⟩ := h
  refine (open_d n h.sl hn (openOf s n) (fun h0 h1 => ?_) (fun hb => by unfold openOf; rw [if_neg hb])).mono ?_
  · have hc := (h.cells n.toNat (by omega)).opn
    rw [tail_len] at hc
    refine ⟨ao n.toNat, cp n.toNat, ?_⟩
    unfold openOf
    rw [if_pos ⟨h0, h1⟩, Nat.mul_comm]
    exact hc
  · rintro e w' ⟨rfl, rfl⟩
    exact ⟨rfl, Below.refl _ _⟩

/-- A store into the disk's own variable. -/
theorem DIs.power {w : World} {d g : Nat} {ao : Nat → Option Addr} {cp : Nat → Nat} {s : DM} (h : DIs w d g ao cp s) {w' : World} (hk : ∀ k, k ≠ d → w'.heap[k]? = w.heap[k]?) (s' : DM) (hn : s'.n = s.n) (hh : s'.hist = s.hist)
    (hoff : w'.cell? ⟨d, 0, none⟩ = some (.bool s'.off)) (hpow : ∃ du l, w'.cell? ⟨d, 1, none⟩ = some (.bool du) ∧ w'.cell? ⟨d, 2, none⟩ = some (.int .i64 l) ∧ (-9223372036854775808 ≤ l ∧ l ≤ 9223372036854775807) ∧ ((du = false ∧ s'.left = -1) ∨ (du = true ∧ s'.left = l ∧ 0 ≤ l)))
    (hsl : w'.cell? ⟨d, 3, none⟩ = w.cell? ⟨d, 3, none⟩) (hfr : ∀ j, w'.frozen? ⟨d, j, none⟩ = false) : DIs w' d g ao cp s' := by
  have hg := hk g (Ne.symm h.dg)
  refine ⟨h.dg, by rw [hn]; exact h.n1, by rw [hn]; exact h.n480, fun k => by rw [hh]; exact h.ok k, hoff, hpow, by rw [hsl, hn]; exact h.sl, hfr, fun j => ?_, fun k hk' => ?_, fun k hk' => h.awayd k (by rw [← hn]; exact hk'), fun i j hi hj => h.apart i j (by rw [← hn]; exact hi) (by rw [← hn]; exact hj)⟩
  · rw [World.frozen?_of_block (w := w) (a := ⟨g, j, none⟩) hg]; exact h.frg j
  · rw [hh]
    rw [hn] at hk'
    exact (h.cells k hk').turn hg (fun b hb => hk b (fun e => h.awayd k hk' (by rw [hb, e])))

theorem di_fail {w : World} {a : Addr} {F : Nat → Prop} {s : DM} (n : Int) (h : DI w a F s) (hn : -9223372036854775808 ≤ n ∧ n ≤ 9223372036854775807) : Calls Try.prog 17 #[.pointer (some a), .int .i64 n] w fun e w' => ∃ F', e = .returned (.tuple #[]) ∧ DI w' a F' (failed s n) ∧ Grew F F' w w' := by
  obtain ⟨d, g, ao, cp, rfl, h, rfl⟩ := h
  obtain ⟨du, l, h1, h2, _, _⟩ := h.pow
  refine (fail_d n h1 h2 h.frd).mono ?_
  rintro e w' ⟨rfl, rfl⟩
  have hne : ∀ i j : Nat, i ≠ j → (⟨d, i, none⟩ : Addr) ≠ ⟨d, j, none⟩ := fun i j hij e => by cases e; exact hij rfl
  refine ⟨_, rfl, ⟨d, g, ao, cp, rfl, h.power (fun k hk => ?_) (failed s n) rfl rfl ?_ ⟨decide (0 ≤ n), n, ?_, ?_, hn, ?_⟩ ?_ (fun j => ?_), rfl⟩, ?_⟩
  · rw [Below.heap_setCell _ _ _ _ hk, Below.heap_setCell _ _ _ _ hk]
  · rw [World.cell?_setCell_other (h := hne 2 0 (by decide)), World.cell?_setCell_other (h := hne 1 0 (by decide))]
    exact h.off
  · rw [World.cell?_setCell_other (h := hne 2 1 (by decide))]
    exact World.cell?_setCell_same _ _ _ h1
  · exact World.cell?_setCell_same _ _ _ (by rw [World.cell?_setCell_other (h := hne 1 2 (by decide))]; exact h2)
  · show _ ∧ (if n < 0 then -1 else n) = -1 ∨ _ ∧ (if n < 0 then -1 else n) = n ∧ _
    by_cases hn0 : n < 0
    · rw [if_pos hn0]; exact Or.inl ⟨decide_eq_false (by omega), rfl⟩
    · rw [if_neg hn0]; exact Or.inr ⟨decide_eq_true (by omega), rfl, by omega⟩
  · rw [World.cell?_setCell_other (h := hne 2 3 (by decide)), World.cell?_setCell_other (h := hne 1 3 (by decide))]
  · simp only [World.frozen?_setCell]
    exact h.frd j
  · exact (Grew.setCell (Foot d g ao s.n) w (p := ⟨d, 1, none⟩) (Or.inl rfl) _).trans (Grew.setCell (Foot d g ao s.n) _ (p := ⟨d, 2, none⟩) (Or.inl rfl) _)

end Go.Proofs.Ytinlbmlgfneolaa
