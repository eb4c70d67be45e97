/-
  Proved here: what slices.Equal answers of two lists of the same extents.
  The conditions stand at each theorem.
-/
import Derived.Test.YtmgmlebkmdpddaaExtMem
import Derived.Laws.StructEq
import Derived.Laws.Tables
import Derived.Laws.Cover2
import Derived.KernelRfl
import Derived.WalkSmall
namespace Go.Proofs.Ytmgmlebkmdpddaa
open Go.RowKit
set_option linter.unusedVariables false
set_option linter.unusedSimpArgs false

theorem eqX_any : ∀ (a e : Int) (p q r s : Nat) (w : World), (Op.equalIn 10000 33 (.agg #[.int .i64 a, .complex .f64 p q]) (.agg #[.int .i64 e, .complex .f64 r s])).run Try.prog w = .ok (a == e && ((FloatKind.f64.format.order p r == some .eq) && (FloatKind.f64.format.order q s == some .eq))) w := by
  intro a e p q r s w
  have u3 := Try.underlying3
  have a3 := Try.isAgg3
  have z3 := Try.sizeOf3
  have u4 := Try.underlying30
  have a4 := Try.isAgg30
  have z4 := Try.sizeOf30
  have hS : Try.prog.underlying 33 = some (.struct (Try.prog.fieldsOf 33)) := by kernel_rfl
  have hC : ∀ d w, (Op.equalIn (d + 1) 30 (.complex .f64 p q) (.complex .f64 r s)).run Try.prog w = .ok ((FloatKind.f64.format.order p r == some .eq) && (FloatKind.f64.format.order q s == some .eq)) w := fun d w => by
    simp [Op.equalIn, run_underlying u4, Op.floatEq]
  rw [show (10000 : Nat) = 9999 + 1 from rfl, run_equalIn_agg w 9999 33 _ _ hS (by kernel_rfl)]
  simp only [Program.fieldsOf, Try.underlying33]
  have hC' := hC 9998
  go_simp
  by_cases h1 : a = e <;> by_cases h2 : FloatKind.f64.format.order p r = some .eq <;> by_cases h3 : FloatKind.f64.format.order q s = some .eq <;> simp [h1, h2, h3]

set_option maxRecDepth 100000 in
set_option maxHeartbeats 1600000 in
/-- Two lists of the same extents. -/
theorem equalE_true {w : World} {ao bo : Option Addr} {m c1 c2 : Nat} {xs : List EX} (hX : EIs w ao m xs) (hY : EIs w bo m xs) :
    Calls Try.prog 27 #[.slice ao m c1, .slice bo m c2] w fun e w' => e = .returned (.bool true) ∧ Below w.heap.size w w' := by
  have hm := hX.2.1
  have HX := Lib.hid hX
  have HY := Lib.hid hY
  have EX := eqX_any
  clear hX hY
  go_enter Try.func27, Try.ntmps27
  go_wp2_with fail
  go_loopw [13] (fun iv wr => ∃ i : Nat, iv = .int .i64 (i : Int) ∧ i ≤ m ∧ Hid (Below w.heap.size w wr)) (fun iv _ => m - (intOf iv).toNat)
  case atStart => exact ⟨0, rfl, Nat.zero_le _, Lib.hid (Below.refl _ _)⟩
  case round =>
    obtain ⟨i, rfl, hi, HB⟩ := hrel
    by_cases hlt : i < m
    · obtain ⟨b, off, x, p, q, rfl, hx, hmem, c1, c2, f1, f2⟩ := HX.out.at hlt
      obtain ⟨b', off', y, p', q', rfl, hy, hmem', e1, e2, g1, g2⟩ := HY.out.at hlt
      rw [hx] at hy
      cases hy
      have d1 : wr.cell? ⟨b, off + i * 2, none⟩ = some (.int .i64 x.a) := cell_later HB.out c1
      have d2 : wr.cell? ⟨b, off + i * 2 + 1, none⟩ = some (.complex .f64 p q) := cell_later HB.out c2
      have d3 : wr.cell? ⟨b', off' + i * 2, none⟩ = some (.int .i64 x.a) := cell_later HB.out e1
      have d4 : wr.cell? ⟨b', off' + i * 2 + 1, none⟩ = some (.complex .f64 p' q') := cell_later HB.out e2
      have o1 := fi_eq f1 g1 rfl
      have o2 := fi_eq f2 g2 rfl
      have i1 : (i : Int) < (m : Int) := by omega
      clear hx hmem c1 c2 f1 f2 hmem' e1 e2 g1 g2
      go_wp2_with fail
      go_quiet (fail)
      go_wp2_with fail
      go_roundw
      case rel => exact ⟨i + 1, by go_num, by omega, Lib.hid (below_drewN HB.out _)⟩
      case measure => simp [intOf]; omega
    · have hin : i = m := by omega
      subst hin
      go_wp2_with fail
      go_ret
      exact ⟨rfl, HB.out⟩

end Go.Proofs.Ytmgmlebkmdpddaa
