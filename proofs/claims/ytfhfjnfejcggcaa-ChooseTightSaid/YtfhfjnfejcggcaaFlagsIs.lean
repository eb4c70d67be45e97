/-
  Proved here: what the landed code of package flags answers of one flag (isUp) and of a part of a map (part).
  The conditions stand at each theorem.
-/
import Derived.Test.YtfhfjnfejcggcaaRef05
import Derived.Test.YtfhfjnfejcggcaaBits
import Derived.Test.YtfhfjnfejcggcaaRun
namespace Go.Proofs.Ytfhfjnfejcggcaa
open Go.RowKit

theorem flag_eq (zs : List Int) (n : Nat) : flag zs n = decide (zs.getD (n / 8) 0 / 2 ^ (n % 8) % 2 = 1) := rfl

set_option maxHeartbeats 400000 in
theorem isUp_any (ao : Option Addr) (cap : Nat) (zs : List Int) (n : Nat) (w : World) (hB : Bts w ao 60 zs) (hn : n < 480) :
    Calls Try.prog 70 #[.slice ao 60 cap, .int .i64 n] w fun e w' => e = .returned (.bool (flag zs n)) ∧ w = w' := by
  obtain ⟨b, off, rfl, hc⟩ := hB.2.2.2.resolve_left (by decide)
  have hx := hB.2.2.1 _ (getD_mem (l := zs) (k := n / 8) (by rw [hB.1]; omega))
  have hcell := hc (n / 8) (by omega)
  have HF := Lib.hid (flag_eq zs n)
  obtain ⟨x, HX⟩ : ∃ x, Hid (x = zs.getD (n / 8) 0) := ⟨_, Lib.hid rfl⟩
  rw [← HX.out] at hx hcell HF
  have ha := and_one (k := n % 8) hx (by omega)
  obtain ⟨hx0, hx1⟩ := hx
  clear hB hc
  go_enter Try.func70, Try.ntmps70
  go_wp2_with fail
  go_ret
  exact ⟨by rw [HF.out]; rfl, rfl⟩

set_option maxHeartbeats 800000 in
theorem part_any (ao : Option Addr) (len cap : Nat) (zs : List Int) (p q : Int) (w : World) (hA : Arg w ao len cap zs) (hp : -9223372036854775808 ≤ p ∧ p ≤ 9223372036854775807) (hq : -9223372036854775808 ≤ q ∧ q ≤ 9223372036854775807) :
    Calls Try.prog 55 #[.slice ao len cap, .int .i64 p, .int .i64 q] w fun e w' => e = .returned (.int .i64 (downErr len p q)) ∧ w = w' := by
  obtain ⟨hB, _, _, hlen⟩ := hA
  clear hB
  by_cases h60 : len = 60
  · subst h60
    by_cases h1 : p < 0
    · have HE : Hid (downErr 60 p q = 1) := Lib.hid (by unfold downErr; rw [if_pos rfl, if_pos (Or.inl h1)])
      go_enter Try.func55, Try.ntmps55
      go_wp2_with fail
      go_ret
      exact ⟨by rw [HE.out]; rfl, rfl⟩
    · by_cases h2 : q < p
      · have HE : Hid (downErr 60 p q = 1) := Lib.hid (by unfold downErr; rw [if_pos rfl, if_pos (Or.inr (Or.inl h2))])
        go_enter Try.func55, Try.ntmps55
        go_wp2_with fail
        go_ret
        exact ⟨by rw [HE.out]; rfl, rfl⟩
      · by_cases h3 : 480 < q
        · have HE : Hid (downErr 60 p q = 1) := Lib.hid (by unfold downErr; rw [if_pos rfl, if_pos (Or.inr (Or.inr h3))])
          go_enter Try.func55, Try.ntmps55
          go_wp2_with fail
          go_ret
          exact ⟨by rw [HE.out]; rfl, rfl⟩
        · have HE : Hid (downErr 60 p q = 0) := Lib.hid (by unfold downErr; rw [if_pos rfl, if_neg (by omega)])
          go_enter Try.func55, Try.ntmps55
          go_wp2_with fail
          go_ret
          exact ⟨by rw [HE.out]; rfl, rfl⟩
  · have HE : Hid (downErr len p q = 2) := Lib.hid (by unfold downErr; rw [if_neg h60])
    have hne : ((len : Int) != 60) = true := by simp; omega
    clear hp hq
    go_enter Try.func55, Try.ntmps55
    go_wp2_with fail
    go_ret
    exact ⟨by rw [HE.out]; rfl, rfl⟩

theorem down_errs (len : Nat) (p q : Int) (h : ¬ (len = 60 ∧ 0 ≤ p ∧ p ≤ q ∧ q ≤ 480)) : downErr len p q = 1 ∨ downErr len p q = 2 := by
  unfold downErr
  by_cases h60 : len = 60
  · rw [if_pos h60, if_pos (by omega)]; exact Or.inl rfl
  · rw [if_neg h60]; exact Or.inr rfl

end Go.Proofs.Ytfhfjnfejcggcaa
