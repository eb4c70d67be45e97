/-
  Proved here: what the landed node's Same (and slices.Equal) answers, of a node and the empty one, and of two nodes that are one.
  The conditions stand at each theorem.
-/
import Derived.Test.YtojfhhmjoledjaaNEq
import Derived.Deep.QuietTactic
import Derived.BigQuiet
import Derived.WalkSmall
namespace Go.Proofs.Ytojfhhmjoledjaa
open Go.RowKit
set_option linter.unusedVariables false
set_option linter.unusedSimpArgs false

set_option maxRecDepth 100000 in
set_option maxHeartbeats 1600000 in
/-- Two lists of the same extents. -/
theorem slicesEq_same {w : World} {ao bo : Option Addr} {m c1 c2 : Nat} {xs : List PX} (hX : XIs w ao m xs) (hY : XIs w bo m xs) :
    Calls Try.prog 27 #[.slice ao m c1, .slice bo m c2] w fun e w' => e = .returned (.bool true) ∧ Below w.heap.size w w' := by
  have hm := hX.2.1
  have HX := Lib.hid hX
  have HY := Lib.hid hY
  have EX := eqX_any
  clear hX hY
  go_enter Try.func27, Try.ntmps27
  go_wp2_with fail
  go_loopw [13] (fun iv wr => ∃ i : Nat, iv = .int .i64 (i : Int) ∧ i ≤ m ∧ Hid (Below w.heap.size w wr)) (fun iv _ => m - (intOf iv).toNat)
  case atStart => exact ⟨0, rfl, Nat.zero_le _, Lib.hid (Below.refl _ _)⟩
  case round =>
    obtain ⟨i, rfl, hi, HB⟩ := hrel
    by_cases hlt : i < m
    · obtain ⟨b, off, x, p, q, rfl, hx, hmem, c1, c2, f1, f2⟩ := HX.out.at hlt
      obtain ⟨b', off', y, p', q', rfl, hy, hmem', e1, e2, g1, g2⟩ := HY.out.at hlt
      rw [hx] at hy
      cases hy
      have d1 : wr.cell? ⟨b, off + i * 2, none⟩ = some (.int .i64 x.a) := cell_later HB.out c1
      have d2 : wr.cell? ⟨b, off + i * 2 + 1, none⟩ = some (.complex .f64 p q) := cell_later HB.out c2
      have d3 : wr.cell? ⟨b', off' + i * 2, none⟩ = some (.int .i64 x.a) := cell_later HB.out e1
      have d4 : wr.cell? ⟨b', off' + i * 2 + 1, none⟩ = some (.complex .f64 p' q') := cell_later HB.out e2
      have o1 := fi_eq f1 g1 rfl
      have o2 := fi_eq f2 g2 rfl
      have i1 : (i : Int) < (m : Int) := by omega
      clear hx hmem c1 c2 f1 f2 hmem' e1 e2 g1 g2
      go_wp2_with fail
      go_quiet (fail)
      go_wp2_with fail
      go_roundw
      case rel => exact ⟨i + 1, by go_num, by omega, Lib.hid (below_drewN HB.out _)⟩
      case measure => simp [intOf]; omega
    · have hin : i = m := by omega
      subst hin
      go_wp2_with fail
      go_ret
      exact ⟨rfl, HB.out⟩

/-- A list against none. -/
theorem slicesEq_nil {w : World} {ao : Option Addr} {m c1 : Nat} (hm : m ≤ 3) :
    Calls Try.prog 27 #[.slice ao m c1, .slice none 0 0] w fun e w' => e = .returned (.bool (decide (m = 0))) ∧ w = w' := by
  by_cases h : m = 0
  · subst h
    go_enter Try.func27, Try.ntmps27
    go_wp2_with fail
    go_loopw [13] (fun iv wr => iv = .int .i64 0 ∧ w = wr) (fun iv _ => 0)
    case atStart => exact ⟨rfl, rfl⟩
    case round =>
      obtain ⟨rfl, rfl⟩ := hrel
      go_wp2_with fail
      go_ret
      exact ⟨rfl, rfl⟩
  · rw [decide_eq_false h]
    have h1 : ((m : Int) != 0) = true := by simp; omega
    go_enter Try.func27, Try.ntmps27
    go_wp2_with fail
    go_ret
    exact ⟨rfl, rfl⟩

end Go.Proofs.Ytojfhhmjoledjaa
