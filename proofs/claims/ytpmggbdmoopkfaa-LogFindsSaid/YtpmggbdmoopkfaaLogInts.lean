/-
  Proved here: whether two lists of numbers are the same, as the laws of layer 15 ask it (ints).
  The conditions stand at the theorem.
-/
import Derived.Test.YtpmggbdmoopkfaaAwake15
namespace Go.Proofs.Ytpmggbdmoopkfaa
open Go.RowKit
set_option linter.unusedVariables false
set_option linter.unusedSimpArgs false

set_option maxRecDepth 100000 in
set_option maxHeartbeats 3200000 in
theorem ints15_any {w : World} {ao bo : Option Addr} {n m ca cb : Nat} {xs ys : List Int} (hA : IArg w ao n ca xs) (hB : IArg w bo m cb ys) :
    Calls Try.prog 14 #[.slice ao n ca, .slice bo m cb] w fun e w' => e = .returned (.bool (decide (xs = ys))) ∧ Below w.heap.size w w' := by
  have HA := Lib.hid hA
  have HB := Lib.hid hB
  have HL := Lib.hid (And.intro hA.len hB.len)
  have hb1 := hA.big
  have hb2 := hB.big
  obtain ⟨S, HS⟩ : ∃ S, Hid (decide (xs = ys) = S) := ⟨_, Lib.hid rfl⟩
  rw [HS.out]
  clear hA hB
  by_cases hl : n = m
  case neg =>
    have HE : Hid (S = false) := Lib.hid (by rw [← HS.out]; exact decide_eq_false (fun e => hl (by rw [← HL.out.1, ← HL.out.2, e])))
    have hne : ((n : Int) != (m : Int)) = true := by simp; omega
    go_enter Try.func14, Try.ntmps14
    go_wp2_with fail
    go_ret
    exact ⟨by rw [HE.out]; rfl, Below.refl _ _⟩
  subst hl
  go_enter Try.func14, Try.ntmps14
  go_wp2_with fail
  go_loopw [5] (fun iv wr => ∃ i : Nat, iv = .int .i64 (i : Int) ∧ i ≤ n ∧ Hid (xs.take i = ys.take i) ∧ Hid (Below w.heap.size w wr)) (fun iv _ => n - (intOf iv).toNat)
  case atStart => exact ⟨0, rfl, Nat.zero_le _, Lib.hid rfl, Lib.hid (Below.refl _ _)⟩
  case round =>
    obtain ⟨i, rfl, hi, HI, HB0⟩ := hrel
    by_cases hlt : i < n
    · obtain ⟨b1, o1, x, rfl, hx, h1, _⟩ := HA.out.at hlt
      obtain ⟨b2, o2, y, rfl, hy, h4, _⟩ := HB.out.at hlt
      have d1 := cell_later HB0.out h1
      have d3 := cell_later HB0.out h4
      have HX := Lib.hid (And.intro hx hy)
      have i1 : (i : Int) < (n : Int) := by omega
      clear h1 h4 hx hy
      by_cases hxy : x = y
      · have HN := Lib.hid (same_step HI.out HX.out.1 HX.out.2 hxy)
        subst hxy
        go_wp2_with fail
        go_big_quiet (fail)
        go_wp2_with fail
        go_roundw
        case rel => exact ⟨i + 1, by go_num, by omega, HN, Lib.hid (below_drewN HB0.out _)⟩
        case measure => simp [intOf]; omega
      · have HE : Hid (S = false) := Lib.hid (by rw [← HS.out]; exact decide_eq_false (not_same HX.out.1 HX.out.2 hxy))
        have e1 : (x == y) = false := by simpa using hxy
        have e2 : (x != y) = true := by simpa using hxy
        clear hxy
        go_wp2_with fail
        go_big_quiet (fail)
        go_wp2_with fail
        go_ret
        exact ⟨by rw [HE.out]; rfl, below_drewN HB0.out _⟩
    · obtain rfl : i = n := by omega
      have HE : Hid (S = true) := Lib.hid (by
        rw [← HS.out]
        have := HI.out
        rw [List.take_of_length_le (by rw [HL.out.1]; exact Nat.le_refl _), List.take_of_length_le (by rw [HL.out.2]; exact Nat.le_refl _)] at this
        exact decide_eq_true this)
      go_wp2_with fail
      go_ret
      exact ⟨by rw [HE.out]; rfl, HB0.out⟩

end Go.Proofs.Ytpmggbdmoopkfaa
