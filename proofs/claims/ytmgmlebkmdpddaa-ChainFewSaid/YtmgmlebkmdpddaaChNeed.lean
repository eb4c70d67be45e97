/-
  Proved here: what the landed chain's Need and elsewhere answer; what the document's own Need answers.
  The conditions stand at each theorem.
-/
import Derived.Test.YtmgmlebkmdpddaaChFew
import Derived.Test.YtmgmlebkmdpddaaInts
import Derived.Deep.QuietTactic
import Derived.BigQuiet
namespace Go.Proofs.Ytmgmlebkmdpddaa
open Go.RowKit
set_option linter.unusedVariables false
set_option linter.unusedSimpArgs false

set_option maxHeartbeats 400000 in
theorem chNeed_any (n : Int) (w : World) : Calls Try.prog 5 #[.int .i64 n] w fun e w' => e = .returned (.tuple #[.int .i64 (if n < 0 ∨ 96 < n then 0 else chNeed n), .int .i64 (if n < 0 ∨ 96 < n then 1 else 0)]) ∧ w = w' := by
  by_cases h0 : n < 0
  · rw [if_pos (Or.inl h0), if_pos (Or.inl h0)]
    go_enter Try.func5, Try.ntmps5
    go_wp2_with fail
    go_ret2
    exact ⟨rfl, rfl⟩
  · by_cases h1 : 96 < n
    · rw [if_pos (Or.inr h1), if_pos (Or.inr h1)]
      go_enter Try.func5, Try.ntmps5
      go_wp2_with fail
      go_ret2
      exact ⟨rfl, rfl⟩
    · rw [if_neg (by omega), if_neg (by omega)]
      have w1 : wrap64 (n - 3) = n - 3 := by unfold wrap64; omega
      have HM : Hid (n - 3 < 0 → chNeed n = 0) := Lib.hid (fun h => by unfold chNeed; rw [if_pos (by omega)])
      have HN : Hid (0 ≤ n - 3 → (n - 3 + 14 - 1) / 14 = chNeed n) := Lib.hid (fun h => by unfold chNeed; split <;> omega)
      go_enter Try.func5, Try.ntmps5
      go_wp2_with fail
      all_goals go_ret2
      · exact ⟨by rw [HM.out (by assumption)]; rfl, rfl⟩
      · exact ⟨by rw [← HN.out (by assumption)]; rfl, rfl⟩

set_option maxHeartbeats 400000 in
theorem elsewhere_any (x : Int) (w : World) : Calls Try.prog 12 #[.int .i64 x] w fun e w' => e = .returned (.bool (!decide (59 ≤ x ∧ x ≤ 479))) ∧ w = w' := by
  by_cases h : x < 59
  · rw [decide_eq_false (by omega)]
    go_enter Try.func12, Try.ntmps12
    go_wp2_with fail
    go_ret
    exact ⟨rfl, rfl⟩
  · by_cases h2 : 480 ≤ x
    · rw [decide_eq_false (by omega)]
      go_enter Try.func12, Try.ntmps12
      go_wp2_with fail
      go_ret
      exact ⟨rfl, rfl⟩
    · rw [decide_eq_true (by omega)]
      go_enter Try.func12, Try.ntmps12
      go_wp2_with fail
      go_ret
      exact ⟨rfl, rfl⟩

/-- How many blocks are needed of what is left. -/
def leftN (n : Int) : Int := if n ≤ 0 then 0 else (n + 13) / 14

set_option maxHeartbeats 400000 in
theorem refNeed_any (n : Int) (w : World) (h0 : 0 ≤ n) (h1 : n ≤ 96) : Calls Try.prog 7 #[.int .i64 n] w fun e w' => e = .returned (.int .i64 (chNeed n)) ∧ w = w' := by
  have w1 : wrap64 (n - 3) = n - 3 := by unfold wrap64; omega
  have HN : Hid (chNeed n = leftN (n - 3)) := Lib.hid (by unfold chNeed leftN; split <;> split <;> omega)
  go_enter Try.func7, Try.ntmps7
  go_wp2_with fail
  go_loop [3, 4] (fun kv iv => ∃ k m : Int, kv = .int .i64 k ∧ iv = .int .i64 m ∧ 0 ≤ k ∧ k ≤ 100 ∧ -14 ≤ m ∧ m ≤ 93 ∧ (k ≤ 7 - m / 14) ∧ Hid (k + leftN m = chNeed n)) (fun kv iv => (intOf iv + 14).toNat)
  case atStart => exact ⟨0, n - 3, rfl, by first | rfl | go_num, by omega, by omega, by omega, by omega, by omega, Lib.hid (by rw [HN.out]; omega)⟩
  case round =>
    obtain ⟨k, m, rfl, rfl, hk, hk1, hm, hm1, hkm, HK⟩ := hrel
    by_cases hlt : 0 < m
    · have HK2 : Hid (k + 1 + leftN (m - 14) = chNeed n) := Lib.hid (by
        rw [← HK.out]
        unfold leftN
        rw [if_neg (show ¬ m ≤ 0 by omega)]
        split <;> omega)
      have w2 : wrap64 (m - 14) = m - 14 := by unfold wrap64; omega
      have w3 : wrap64 (k + 1) = k + 1 := by unfold wrap64; omega
      go_wp2_with fail
      go_round
      case rel => exact ⟨k + 1, m - 14, by first | rfl | go_num, by first | rfl | go_num, by omega, by omega, by omega, by omega, by omega, HK2⟩
      case measure => simp [intOf]; omega
    · have HE : Hid (k = chNeed n) := Lib.hid (by rw [← HK.out]; unfold leftN; rw [if_pos (by omega)]; omega)
      go_wp2_with fail
      go_ret
      exact ⟨by rw [HE.out]; rfl, rfl⟩

end Go.Proofs.Ytmgmlebkmdpddaa
