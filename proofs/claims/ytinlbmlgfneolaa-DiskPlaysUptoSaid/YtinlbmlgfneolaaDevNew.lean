/-
  Proved here: what New and Get of the landed disk answer, and what no disk does.
  The conditions stand at each theorem.
-/
import Derived.Test.YtinlbmlgfneolaaDev2
namespace Go.Proofs.Ytinlbmlgfneolaa
open Go.RowKit
set_option linter.unusedVariables false
set_option linter.unusedSimpArgs false

def zero68 : Array Value := (bys zeros64 ++ [Value.slice none 0 0]).toArray
theorem zeros_at {j : Nat} (h : j < 64) : (bys zeros64)[j]? = some (.int .u8 0) := by
  unfold bys zeros64
  rw [List.map_replicate, List.getElem?_replicate, if_pos h]
theorem info68 : (Try.prog.info? 68).map (fun i => (i.zero, i.size, i.bytes)) = some (some (.agg zero68), 65, 88) := by kernel_rfl

theorem run_make_cells (w : World) (n : Nat) (hn : n ≤ 480) : (Instr.makeSlice 58 (.int .i64 (n : Int)) (.int .i64 (n : Int))).run Try.prog w =
    .ok (.slice (some ⟨w.heap.size, 0, none⟩) n n) (w.alloc (.cells (madeCells zero68 (n * 65)) 68)) := by
  obtain ⟨i0, hi, hz0, hz1, hz2⟩ := info_parts info68
  have h := run_make (P := Try.prog) w 58 68 i0 (.agg zero68) Try.underlying58 hi hz0 .i64 .i64 (n : Int) (n : Int) (by omega) (Int.le_refl _) (by rw [hz2]; omega) (by omega)
  rw [hz1] at h
  simpa [Value.cells] using h

theorem made_at (n k j : Nat) (hk : k < n) (hj : j < 65) : (madeCells zero68 (n * 65))[k * 65 + j]? = zero68[j]? := by
  have h65 : zero68.size = 65 := by decide
  have hlt : k * 65 + j < n * 65 := by omega
  have e : (k * 65 + j) % 65 = j := by omega
  unfold madeCells
  rw [Array.getElem?_map, Array.getElem?_range, if_pos hlt]
  simp only [Option.map_some, h65, e]
  rw [Array.getElem?_eq_getElem (by rw [h65]; exact hj), getElem!_pos zero68 j (by rw [h65]; exact hj)]

theorem zero68_at (j : Nat) : zero68[j]? = if j < 64 then some (.int .u8 0) else if j = 64 then some (.slice none 0 0) else none := by
  have h65 : zero68.size = 65 := by decide
  unfold zero68
  rw [List.getElem?_toArray]
  by_cases h : j < 64
  · rw [if_pos h, List.getElem?_append_left (by rw [bys_length]; exact h), zeros_at h]
  · rw [if_neg h, List.getElem?_append_right (by rw [bys_length]; exact Nat.le_of_not_lt h), bys_length]
    show ([Value.slice none 0 0] : List Value)[j - 64]? = _
    by_cases e : j = 64
    · rw [if_pos e, e]; rfl
    · rw [if_neg e, List.getElem?_eq_none (by simp; omega)]

theorem fresh_cell (w : World) (n k : Nat) (hk : k < n) (o : Obj) : CellIs ((w.alloc (.cells (madeCells zero68 (n * 65)) 68)).alloc o) w.heap.size (k * 65) zeros64 none 0 [] := by
  have hc : ∀ j, j < 65 → ((w.alloc (.cells (madeCells zero68 (n * 65)) 68)).alloc o).cell? ⟨w.heap.size, k * 65 + j, none⟩ = zero68[j]? := fun j hj => by
    rw [World.cell?_alloc_lt _ _ _ (by simp), World.cell?_alloc_new]
    exact made_at n k j hk hj
  refine ⟨fun j v hv => ?_, ?_, ⟨rfl, Or.inl ⟨rfl, rfl⟩⟩, by simp [Value.ownBlock], rfl, by simp⟩
  · have hj : j < 64 := by have := (List.getElem?_eq_some_iff.1 hv).1; rw [bys_length] at this; exact this
    rw [hc j (by omega), zero68_at, if_pos hj]
    rw [zeros_at hj] at hv
    exact hv
  · rw [hc 64 (by omega), zero68_at]
    rfl

theorem fresh_dev (w : World) (n : Nat) (h1 : 1 ≤ n) (h2 : n ≤ 480) : DIs ((w.alloc (.cells (madeCells zero68 (n * 65)) 68)).alloc (.cells #[.bool false, .bool false, .int .i64 0, .slice (some ⟨w.heap.size, 0, none⟩) n n] 62)) (w.heap.size + 1) w.heap.size (fun _ => none) (fun _ => 0) (freshD n) := by
  have e1 : w.heap.size + 1 = (w.alloc (.cells (madeCells zero68 (n * 65)) 68)).heap.size := by simp
  refine ⟨by omega, h1, h2, fresh_ok n, ?_, ⟨false, 0, ?_, ?_, by decide, Or.inl ⟨rfl, rfl⟩⟩, ?_, fun j => ?_, fun j => ?_, fun k hk => fresh_cell w n k hk _, (fun k _ h => by cases h), fun i j _ _ _ => Or.inl rfl⟩
  · rw [e1, World.cell?_alloc_new]; rfl
  · rw [e1, World.cell?_alloc_new]; rfl
  · rw [e1, World.cell?_alloc_new]; rfl
  · rw [e1, World.cell?_alloc_new]; rfl
  · rw [e1, World.frozen?_alloc_mark]; simp
  · rw [World.frozen?_alloc_past _ _ _ (by simp), World.frozen?_alloc_mark]; simp

set_option maxHeartbeats 800000 in
theorem new_no (n : Int) (w : World) (hn : -9223372036854775808 ≤ n ∧ n ≤ 9223372036854775807) (h : n < 1 ∨ 480 < n) : Calls Try.prog 8 #[.int .i64 n] w fun e w' => e = .returned (.tuple #[.pointer none, .int .i64 1]) ∧ Below w.heap.size w w' := by
  clear hn
  by_cases h1 : n < 1
  · clear h
    go_enter Try.func8, Try.ntmps8
    go_wp2_with fail
    go_ret2
    exact ⟨rfl, Below.refl _ _⟩
  · have h2 : 480 < n := by omega
    clear h
    go_enter Try.func8, Try.ntmps8
    go_wp2_with fail
    go_ret2
    exact ⟨rfl, Below.refl _ _⟩

set_option maxHeartbeats 800000 in
theorem new_ok (n : Nat) (w : World) (h1 : 1 ≤ n) (h2 : n ≤ 480) : Calls Try.prog 8 #[.int .i64 n] w fun e w' => ∃ a F, e = .returned (.tuple #[.pointer (some a), .int .i64 0]) ∧ DI w' a F (freshD n) ∧ (∀ k, F k → w.heap.size ≤ k) ∧ Below w.heap.size w w' := by
  have hmk := run_make_cells w n h2
  have HF := Lib.hid (fresh_dev w n h1 h2)
  have HB := Lib.hid ((Below.refl w.heap.size w).alloc (Nat.le_refl _) (.cells (madeCells zero68 (n * 65)) 68))
  have HS : Hid ((w.alloc (.cells (madeCells zero68 (n * 65)) 68)).heap.size = w.heap.size + 1) := Lib.hid (by simp)
  obtain ⟨g, hg⟩ : ∃ g, g = w.heap.size := ⟨_, rfl⟩
  generalize w.alloc (.cells (madeCells zero68 (n * 65)) 68) = w1 at *
  rw [← hg] at hmk HF HB HS ⊢
  have HG := Lib.hid hg
  clear hg
  go_enter Try.func8, Try.ntmps8
  go_wp2_with fail
  go_ret2
  refine ⟨⟨w1.heap.size, 0, none⟩, _, rfl, ⟨g + 1, g, _, _, by rw [HS.out], HF.out, rfl⟩, fun k hk => ?_, ?_⟩
  · rcases hk with rfl | rfl | ⟨i, _, e⟩
    · omega
    · exact Nat.le_refl _
    · cases e
  · exact HB.out.alloc (by rw [HS.out]; omega) _

end Go.Proofs.Ytinlbmlgfneolaa
