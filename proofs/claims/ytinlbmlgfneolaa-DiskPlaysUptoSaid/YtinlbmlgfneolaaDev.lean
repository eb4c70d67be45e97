/-
  Proved here: what the small methods of the landed disk answer: Blocks, has, ready, Open, Fail, holds.
  The conditions stand at each theorem.
-/
import Derived.Test.YtinlbmlgfneolaaDisk
import Derived.Deep.MidRow
namespace Go.Proofs.Ytinlbmlgfneolaa
open Go.RowKit

theorem nn_lt {k : Int} {n : Nat} (h : ¬ (0 ≤ k ∧ k < n)) (h0 : 0 ≤ k) : ¬ k < n := fun h' => h ⟨h0, h'⟩

set_option maxHeartbeats 400000 in
theorem blocks_d {w : World} {d n cg : Nat} {ag : Option Addr} (h : w.cell? ⟨d, 3, none⟩ = some (.slice ag n cg)) :
    Calls Try.prog 21 #[.pointer (some ⟨d, 0, none⟩)] w fun e w' => e = .returned (.int .i64 n) ∧ w = w' := by
  go_enter Try.func21, Try.ntmps21
  go_wp2_with fail
  go_ret
  exact ⟨rfl, rfl⟩

set_option maxHeartbeats 400000 in
theorem blocks_nil (w : World) : Calls Try.prog 21 #[.pointer none] w fun e w' => e = .returned (.int .i64 0) ∧ w = w' := by
  go_enter Try.func21, Try.ntmps21
  go_wp2_with fail
  go_ret
  exact ⟨rfl, rfl⟩

set_option maxHeartbeats 400000 in
/-- 'has', for whatever its disk's Blocks answers. -/
theorem has_of {w : World} {p : Option Addr} {n : Nat} (c : Calls Try.prog 21 #[.pointer p] w fun e w' => e = .returned (.int .i64 n) ∧ w = w') (k : Int) :
    Calls Try.prog 26 #[.pointer p, .int .i64 k] w fun e w' => e = .returned (.bool (decide (0 ≤ k ∧ k < n))) ∧ w = w' := by
  by_cases h0 : 0 ≤ k
  · by_cases h1 : k < n
    · rw [decide_eq_true (⟨h0, h1⟩ : 0 ≤ k ∧ k < n)]
      go_enter Try.func26, Try.ntmps26
      go_wp2_with (go_at_call 21; refine c.mono ?_; rintro e w' ⟨rfl, rfl⟩)
      go_ret
      exact ⟨rfl, rfl⟩
    · rw [decide_eq_false (fun h => h1 h.2)]
      go_enter Try.func26, Try.ntmps26
      go_wp2_with (go_at_call 21; refine c.mono ?_; rintro e w' ⟨rfl, rfl⟩)
      go_ret
      exact ⟨by show Ending.returned (.bool (decide (k < (n : Int)))) = _; rw [decide_eq_false (by omega)], rfl⟩
  · rw [decide_eq_false (fun h => h0 h.1)]
    clear c
    go_enter Try.func26, Try.ntmps26
    go_wp2_with fail
    go_ret
    exact ⟨rfl, rfl⟩

set_option maxHeartbeats 400000 in
theorem ready_d {w : World} {d : Nat} {b : Bool} (h : w.cell? ⟨d, 0, none⟩ = some (.bool b)) :
    Calls Try.prog 22 #[.pointer (some ⟨d, 0, none⟩)] w fun e w' => e = .returned (.int .i64 (if b = true then 8 else 0)) ∧ w = w' := by
  cases b
  · go_enter Try.func22, Try.ntmps22
    go_wp2_with fail
    go_ret
    exact ⟨rfl, rfl⟩
  · go_enter Try.func22, Try.ntmps22
    go_wp2_with fail
    go_ret
    exact ⟨rfl, rfl⟩

set_option maxHeartbeats 400000 in
theorem ready_nil (w : World) : Calls Try.prog 22 #[.pointer none] w fun e w' => e = .returned (.int .i64 1) ∧ w = w' := by
  go_enter Try.func22, Try.ntmps22
  go_wp2_with fail
  go_ret
  exact ⟨rfl, rfl⟩

set_option maxHeartbeats 400000 in
theorem open_nil (n : Int) (w : World) : Calls Try.prog 20 #[.pointer none, .int .i64 n] w fun e w' => e = .returned (.int .i64 0) ∧ w = w' := by
  have c := has_of (blocks_nil w) n
  rw [show decide (0 ≤ n ∧ n < ((0 : Nat) : Int)) = false from decide_eq_false (by omega)] at c
  go_enter Try.func20, Try.ntmps20
  go_wp2_with (go_at_call 26; refine c.mono ?_; rintro e w' ⟨rfl, rfl⟩)
  go_ret
  exact ⟨rfl, rfl⟩

set_option maxHeartbeats 800000 in
theorem open_d {w : World} {d g n cg : Nat} (k : Int) (h : w.cell? ⟨d, 3, none⟩ = some (.slice (some ⟨g, 0, none⟩) n cg)) (hk : -9223372036854775808 ≤ k ∧ k ≤ 9223372036854775807)
    (L : Nat) (hin : 0 ≤ k → k < n → ∃ ao co, w.cell? ⟨g, 65 * k.toNat + 64, none⟩ = some (.slice ao L co)) (hout : ¬ (0 ≤ k ∧ k < n) → L = 0) :
    Calls Try.prog 20 #[.pointer (some ⟨d, 0, none⟩), .int .i64 k] w fun e w' => e = .returned (.int .i64 L) ∧ w = w' := by
  have c := has_of (blocks_d h) k
  by_cases hb : 0 ≤ k ∧ k < n
  · rw [decide_eq_true hb] at c
    obtain ⟨ao, co, hcell⟩ := hin hb.1 hb.2
    obtain ⟨h0, h1⟩ := hb
    obtain ⟨q, rfl⟩ : ∃ q : Nat, k = q := ⟨k.toNat, by omega⟩
    rw [show 65 * Int.toNat (q : Int) + 64 = q * 65 + 64 by omega] at hcell
    clear hout hin hk
    go_enter Try.func20, Try.ntmps20
    go_wp2_with (go_at_call 26; refine c.mono ?_; rintro e w' ⟨rfl, rfl⟩)
    go_ret
    exact ⟨rfl, rfl⟩
  · rw [decide_eq_false hb] at c
    rw [hout hb]
    clear hout hin hk hb
    go_enter Try.func20, Try.ntmps20
    go_wp2_with (go_at_call 26; refine c.mono ?_; rintro e w' ⟨rfl, rfl⟩)
    go_ret
    exact ⟨rfl, rfl⟩

set_option maxHeartbeats 400000 in
theorem fail_nil (n : Int) (w : World) : Calls Try.prog 17 #[.pointer none, .int .i64 n] w fun e w' => e = .returned (.tuple #[]) ∧ w = w' := by
  go_enter Try.func17, Try.ntmps17
  go_wp2_with fail
  refine bodyPost_ret (results_none rfl _ _ _) rfl ?_
  exact ⟨rfl, rfl⟩

set_option maxHeartbeats 400000 in
theorem fail_d {w : World} {d : Nat} {du : Bool} {l : Int} (k : Int) (h1 : w.cell? ⟨d, 1, none⟩ = some (.bool du)) (h2 : w.cell? ⟨d, 2, none⟩ = some (.int .i64 l)) (hf : ∀ j, w.frozen? ⟨d, j, none⟩ = false) :
    Calls Try.prog 17 #[.pointer (some ⟨d, 0, none⟩), .int .i64 k] w fun e w' => e = .returned (.tuple #[]) ∧ w' = (w.setCell ⟨d, 1, none⟩ (.bool (decide (0 ≤ k)))).setCell ⟨d, 2, none⟩ (.int .i64 k) := by
  have f1 := hf 1
  have f2 := hf 2
  clear hf
  have h2' : (w.setCell ⟨d, 1, none⟩ (.bool (decide (0 ≤ k)))).cell? ⟨d, 2, none⟩ = some (.int .i64 l) := by
    rw [World.cell?_setCell_other (h := by intro e; simp at e)]; exact h2
  go_enter Try.func17, Try.ntmps17
  go_wp2_with fail
  go_end0
  exact ⟨rfl, rfl⟩

set_option maxHeartbeats 400000 in
theorem holds_never {w : World} {d : Nat} (h1 : w.cell? ⟨d, 1, none⟩ = some (.bool false)) : Calls Try.prog 24 #[.pointer (some ⟨d, 0, none⟩)] w fun e w' => e = .returned (.bool true) ∧ w' = w := by
  go_enter Try.func24, Try.ntmps24
  go_wp2_with fail
  go_ret
  exact ⟨rfl, rfl⟩

set_option maxHeartbeats 400000 in
theorem holds_gone {w : World} {d : Nat} {b : Bool} (h0 : w.cell? ⟨d, 0, none⟩ = some (.bool b)) (h1 : w.cell? ⟨d, 1, none⟩ = some (.bool true)) (h2 : w.cell? ⟨d, 2, none⟩ = some (.int .i64 0)) (hf : w.frozen? ⟨d, 0, none⟩ = false) :
    Calls Try.prog 24 #[.pointer (some ⟨d, 0, none⟩)] w fun e w' => e = .returned (.bool false) ∧ w' = w.setCell ⟨d, 0, none⟩ (.bool true) := by
  go_enter Try.func24, Try.ntmps24
  go_wp2_with fail
  go_ret
  exact ⟨rfl, rfl⟩

set_option maxHeartbeats 400000 in
theorem holds_less {w : World} {d : Nat} {l : Int} (h1 : w.cell? ⟨d, 1, none⟩ = some (.bool true)) (h2 : w.cell? ⟨d, 2, none⟩ = some (.int .i64 l)) (h0 : 0 < l) (h9 : l ≤ 9223372036854775807) (hf : w.frozen? ⟨d, 2, none⟩ = false) :
    Calls Try.prog 24 #[.pointer (some ⟨d, 0, none⟩)] w fun e w' => e = .returned (.bool true) ∧ w' = w.setCell ⟨d, 2, none⟩ (.int .i64 (l - 1)) := by
  have hne : (l == 0) = false := by simp; omega
  go_enter Try.func24, Try.ntmps24
  go_wp2_with fail
  go_ret
  exact ⟨rfl, rfl⟩

end Go.Proofs.Ytinlbmlgfneolaa
