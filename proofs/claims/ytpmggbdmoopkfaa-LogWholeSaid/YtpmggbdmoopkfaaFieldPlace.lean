/-
  Proved here: what the landed code of package field answers: place.
  The conditions stand at each theorem.
-/
import Derived.Test.YtpmggbdmoopkfaaFieldNum
import Derived.Test.YtpmggbdmoopkfaaMem
namespace Go.Proofs.Ytpmggbdmoopkfaa
open Go.RowKit

/-- The error of a place of so many bytes. -/
def placeErr (len : Nat) (p n : Int) : Int := if len = 64 then (if p < 0 ∨ 60 - p < n then 1 else 0) else 2

set_option maxHeartbeats 400000 in
theorem fPlace_any (ao : Option Addr) (len cap : Nat) (p n : Int) (w : World) (hl : len ≤ 140737488351232) (hp : -9223372036854775808 ≤ p ∧ p ≤ 9223372036854775807) :
    Calls Try.prog 53 #[.slice ao len cap, .int .i64 p, .int .i64 n] w fun e w' => e = .returned (.int .i64 (placeErr len p n)) ∧ w = w' := by
  unfold placeErr
  by_cases h0 : len = 64
  · subst h0
    rw [if_pos rfl]
    by_cases h1 : p < 0
    · rw [if_pos (Or.inl h1)]
      go_enter Try.func53, Try.ntmps53
      go_wp2
      go_ret
      exact ⟨rfl, rfl⟩
    · by_cases h2 : 60 - p < n
      · rw [if_pos (Or.inr h2)]
        go_enter Try.func53, Try.ntmps53
        go_wp2
        go_ret
        exact ⟨rfl, rfl⟩
      · rw [if_neg (by omega)]
        go_enter Try.func53, Try.ntmps53
        go_wp2
        go_ret
        exact ⟨rfl, rfl⟩
  · rw [if_neg h0]
    have hne : ((len : Int) != 64) = true := by simp; omega
    go_enter Try.func53, Try.ntmps53
    go_wp2
    go_ret
    exact ⟨rfl, rfl⟩

theorem fErr_place (len : Nat) (p n : Int) : fErr len p n = if placeErr len p n = 0 then (if n < 1 ∨ 4 < n then 1 else 0) else placeErr len p n := by
  unfold fErr placeErr
  by_cases hl : len = 64
  · rw [if_pos hl, if_pos hl]
    by_cases h2 : p < 0 ∨ 60 - p < n
    · rw [if_pos h2, if_neg (show ¬ (1 : Int) = 0 by decide)]
      by_cases h3 : n < 1 ∨ 4 < n ∨ p < 0 ∨ 60 < p ∨ 60 < p + n
      · rw [if_pos h3]
      · omega
    · rw [if_neg h2, if_pos rfl]
      by_cases h3 : n < 1 ∨ 4 < n
      · rw [if_pos h3, if_pos (by omega)]
      · rw [if_neg h3, if_neg (by omega)]
  · rw [if_neg hl, if_neg hl, if_neg (by decide)]

end Go.Proofs.Ytpmggbdmoopkfaa
