/-
  Proved here: what the landed code of package field answers: number.
  The conditions stand at each theorem.
-/
import Derived.Test.YtpmggbdmoopkfaaFieldPlace
namespace Go.Proofs.Ytpmggbdmoopkfaa
open Go.RowKit

set_option maxHeartbeats 400000 in
theorem fNumber_any (ao : Option Addr) (len cap : Nat) (p n : Int) (w : World) (hl : len ≤ 140737488351232) (hp : -9223372036854775808 ≤ p ∧ p ≤ 9223372036854775807) :
    Calls Try.prog 40 #[.slice ao len cap, .int .i64 p, .int .i64 n] w fun e w' => e = .returned (.int .i64 (fErr len p n)) ∧ w = w' := by
  have c := fPlace_any ao len cap p n w hl hp
  rw [fErr_place]
  clear hl hp
  by_cases hE : placeErr len p n = 0
  · rw [if_pos hE]
    rw [hE] at c
    clear hE
    by_cases h1 : n < 1
    · rw [if_pos (Or.inl h1)]
      go_enter Try.func40, Try.ntmps40
      go_wp2_with (go_at_call 53; refine c.mono ?_; rintro e w' ⟨rfl, rfl⟩)
      go_ret
      exact ⟨rfl, rfl⟩
    · by_cases h2 : 4 < n
      · rw [if_pos (Or.inr h2)]
        go_enter Try.func40, Try.ntmps40
        go_wp2_with (go_at_call 53; refine c.mono ?_; rintro e w' ⟨rfl, rfl⟩)
        go_ret
        exact ⟨rfl, rfl⟩
      · rw [if_neg (by omega)]
        go_enter Try.func40, Try.ntmps40
        go_wp2_with (go_at_call 53; refine c.mono ?_; rintro e w' ⟨rfl, rfl⟩)
        go_ret
        exact ⟨rfl, rfl⟩
  · rw [if_neg hE]
    obtain ⟨E, HE⟩ : ∃ E, Hid (placeErr len p n = E) := ⟨_, Lib.hid rfl⟩
    rw [HE.out] at hE c ⊢
    have hne : (E != 0) = true := by simp; exact hE
    clear hE
    go_enter Try.func40, Try.ntmps40
    go_wp2_with (go_at_call 53; refine c.mono ?_; rintro e w' ⟨rfl, rfl⟩)
    go_ret
    exact ⟨rfl, rfl⟩

end Go.Proofs.Ytpmggbdmoopkfaa
