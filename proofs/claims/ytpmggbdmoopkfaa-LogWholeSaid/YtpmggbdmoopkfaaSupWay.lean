/-
  Proved here: what the landed super's small parts answer: within, the places, writing and reading place by place.
  The conditions stand at each theorem.
-/
import Derived.Test.YtpmggbdmoopkfaaSupMade
import Derived.Test.YtpmggbdmoopkfaaFieldSet
import Derived.Test.YtpmggbdmoopkfaaFieldGet
import Derived.Test.YtpmggbdmoopkfaaFieldText
import Derived.Test.YtpmggbdmoopkfaaFieldSeal
import Derived.BigRegion
import Derived.StillTailTactics
namespace Go.Proofs.Ytpmggbdmoopkfaa
open Go.RowKit
set_option linter.unusedVariables false
set_option linter.unusedSimpArgs false

/-- Does a number lie between two others? -/
def inB (n lo hi : Int) : Bool := decide (lo ≤ n ∧ n ≤ hi)

theorem within_any (n lo hi : Int) (w : World) : Calls Try.prog 56 #[.int .i64 n, .int .i64 lo, .int .i64 hi] w fun e w' => e = .returned (.bool (inB n lo hi)) ∧ w = w' := by
  by_cases h1 : lo ≤ n
  · by_cases h2 : n ≤ hi
    · have HE : Hid (inB n lo hi = true) := Lib.hid (decide_eq_true ⟨h1, h2⟩)
      go_enter Try.func56, Try.ntmps56
      go_wp2
      go_ret
      exact ⟨by rw [HE.out]; rfl, rfl⟩
    · have HE : Hid (inB n lo hi = false) := Lib.hid (decide_eq_false (fun h => h2 h.2))
      go_enter Try.func56, Try.ntmps56
      go_wp2
      go_ret
      exact ⟨by rw [HE.out]; rfl, rfl⟩
  · have HE : Hid (inB n lo hi = false) := Lib.hid (decide_eq_false (fun h => h1 h.1))
    go_enter Try.func56, Try.ntmps56
    go_wp2
    go_ret
    exact ⟨by rw [HE.out]; rfl, rfl⟩

/-- Block gp holds places: where in a block a number lies, in how many bytes, and the cell of block g that it belongs to. -/
def PlIs (w : World) (gp g : Nat) (ps : List (Nat × Nat)) : Prop :=
  ∀ (j a b : Nat), ps[j]? = some (a, b) → w.cell? ⟨gp, j * 3, none⟩ = some (.int .i64 (a : Int)) ∧ w.cell? ⟨gp, j * 3 + 1, none⟩ = some (.int .i64 (b : Int)) ∧ w.cell? ⟨gp, j * 3 + 2, none⟩ = some (.pointer (some ⟨g, j, none⟩))

def supPs : List (Nat × Nat) := [(4, 2), (6, 1), (7, 1), (8, 1), (10, 2)]
def headPs : List (Nat × Nat) := [(4, 1), (8, 4)]
def smallPs (ps : List (Nat × Nat)) : Prop := ∀ (j a b : Nat), ps[j]? = some (a, b) → a ≤ 60 ∧ b ≤ 4
theorem small_sup : smallPs supPs := fun j a b h => by
  match j with
  | 0 | 1 | 2 | 3 | 4 => cases Option.some.inj h; omega
  | n + 5 => cases h
theorem small_head : smallPs headPs := fun j a b h => by
  match j with
  | 0 | 1 => cases Option.some.inj h; omega
  | n + 2 => cases h

theorem PlIs.later {w w' : World} {gp g : Nat} {ps : List (Nat × Nat)} (h : PlIs w gp g ps) (hb : Below w.heap.size w w') : PlIs w' gp g ps := fun j a b hj => by
  obtain ⟨h1, h2, h3⟩ := h j a b hj
  exact ⟨cell_later hb h1, cell_later hb h2, cell_later hb h3⟩

theorem new_cell (w : World) (cs : Array Value) (T : TypeId) (j : Nat) (v : Value) (h : cs[j]? = some v) : (w.alloc (.cells cs T)).drew.cell? ⟨w.heap.size, j, none⟩ = some v := by
  show (w.alloc (.cells cs T)).cell? ⟨w.heap.size, j, none⟩ = some v
  rw [World.cell?_alloc_new]; exact h

set_option maxRecDepth 100000 in
set_option maxHeartbeats 800000 in
theorem headPlaces_any (g : Nat) (w : World) : Calls Try.prog 48 #[.pointer (some ⟨g, 0, none⟩)] w fun e w' => e = .returned (.slice (some ⟨w.heap.size, 0, none⟩) (2 : Nat) (2 : Nat)) ∧ PlIs w' w.heap.size g headPs ∧ Below w.heap.size w w' := by
  go_enter Try.func48, Try.ntmps48
  go_wp2_with fail
  refine wp_region_still_tail 8 (by kernel_rfl) (by kernel_rfl) ?_
  simp only [List.take_succ_cons, List.take_zero, List.drop_succ_cons, List.drop_zero]
  try rw [drew_eq]
  iterate 8 still_step
  refine wpStill_nil ?_
  go_wp2_with fail
  go_ret
  refine ⟨rfl, fun j a b h => ?_, ((Below.refl _ _).alloc (Nat.le_refl _) _).drew⟩
  match j with
  | 0 | 1 => cases Option.some.inj h; exact ⟨new_cell w _ _ _ _ rfl, new_cell w _ _ _ _ rfl, new_cell w _ _ _ _ rfl⟩
  | n + 2 => cases h

set_option maxHeartbeats 800000 in
theorem soundHead_any (h : PHead) (w : World) : Calls Try.prog 46 #[h.val] w fun e w' => e = .returned (.bool h.sound) ∧ Below w.heap.size w w' := by
  obtain ⟨a, b⟩ := h
  have hS : Hid (PHead.sound ⟨a, b⟩ = (inB a 0 39 && inB b 1 1073741824)) := Lib.hid (by unfold PHead.sound inB; rw [Bool.eq_iff_iff]; simp; omega)
  have hB : Hid (Below w.heap.size w (w.alloc (.cells #[.int .i64 a, .int .i64 b] 40))) := Lib.hid ((Below.refl _ _).alloc (Nat.le_refl _) _)
  unfold PHead.val
  cases h0 : inB a 0 39 with
  | false =>
    have H0 := Lib.hid h0
    clear h0
    go_enter Try.func46, Try.ntmps46
    go_wp2_with (go_at_call 56; refine (within_any _ _ _ _).mono ?_; rintro e w' ⟨rfl, rfl⟩; (try rw [H0.out]))
    go_ret
    exact ⟨by rw [hS.out, H0.out]; rfl, hB.out⟩
  | true =>
    cases h1 : inB b 1 1073741824 with
    | false =>
      have H0 := Lib.hid h0
      have H1 := Lib.hid h1
      clear h0 h1
      go_enter Try.func46, Try.ntmps46
      go_wp2_with (go_at_call 56; refine (within_any _ _ _ _).mono ?_; rintro e w' ⟨rfl, rfl⟩; (try rw [H0.out]); (try rw [H1.out]))
      go_ret
      exact ⟨by rw [hS.out, H0.out, H1.out]; rfl, hB.out⟩
    | true =>
      have H0 := Lib.hid h0
      have H1 := Lib.hid h1
      clear h0 h1
      go_enter Try.func46, Try.ntmps46
      go_wp2_with (go_at_call 56; refine (within_any _ _ _ _).mono ?_; rintro e w' ⟨rfl, rfl⟩; (try rw [H0.out]); (try rw [H1.out]))
      go_ret
      exact ⟨by rw [hS.out, H0.out, H1.out]; rfl, hB.out⟩

end Go.Proofs.Ytpmggbdmoopkfaa

