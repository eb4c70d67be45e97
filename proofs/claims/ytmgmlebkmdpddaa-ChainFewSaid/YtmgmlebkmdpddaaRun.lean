/-
  Proved here: what the landed code of package run answers of a sound run: Sound, Parts.
  The conditions stand at each theorem: both parts are floats that hold whole numbers.
-/
import Derived.Test.YtmgmlebkmdpddaaMem
import Derived.Test.YtmgmlebkmdpddaaFlo
import Derived.Laws.Externs
namespace Go.Proofs.Ytmgmlebkmdpddaa
open Go.RowKit

theorem archTrunc_any (x : Nat) (n : Int) (w : World) (h : FI x n) :
    (callFunc 63 #[.float .f64 x]).run Try.prog w = .ok (.value (.float .f64 (cutBits x))) w := by
  rw [run_callFunc_extern Try.func63 (by kernel_rfl) (by kernel_rfl) (by kernel_rfl) (e := Extern.MathFloor.toIntegral "math.archTrunc" .zero) (by kernel_rfl) _ w]
  obtain ⟨s, m, e, hd⟩ := (show DI (FloatKind.f64.decode x) n from h).num
  have hr : Extern.MathFloor.toIntegral "math.archTrunc" .zero #[.float .f64 x] = pure (.float .f64 (cutBits x)) := by
    unfold cutBits
    rw [hd]
    conv => lhs; whnf
    rw [hd]
  rw [hr]
  rfl

set_option maxHeartbeats 400000 in
theorem Trunc_any (x : Nat) (n : Int) (w : World) (h : FI x n) :
    Calls Try.prog 59 #[.float .f64 x] w fun e w' => e = .returned (.float .f64 (cutBits x)) ∧ w = w' := by
  have hd : ∀ w, (callFunc 63 #[.float .f64 x]).run Try.prog w = .ok (.value (.float .f64 (cutBits x))) w := fun w => archTrunc_any x n w h
  clear h
  go_enter Try.func59, Try.ntmps59
  go_wp2
  go_ret
  exact ⟨rfl, rfl⟩

set_option maxHeartbeats 400000 in
theorem wholePart_any (x : Nat) (n : Int) (w : World) (h : FI x n) (h0 : -1048576 ≤ n) (h1 : n ≤ 1048576) :
    Calls Try.prog 51 #[.float .f64 x] w fun e w' => e = .returned (.bool true) ∧ w = w' := by
  have c := Trunc_any x n w h
  have o1 := fi_ge h fi_neg20 h0
  have o2 := fi_le h fi_20 h1
  have o3 := fi_eq h (fi_cut h (by omega)) rfl
  clear h
  go_enter Try.func51, Try.ntmps51
  go_wp2_with (go_at_call 59; refine c.mono ?_; rintro e w' ⟨rfl, rfl⟩)
  go_ret
  exact ⟨rfl, rfl⟩

set_option maxHeartbeats 400000 in
theorem Whole_any (x y : Nat) (a b : Int) (w : World) (hx : FI x a) (hy : FI y b) (ha : -1048576 ≤ a ∧ a ≤ 1048576) (hb : -1048576 ≤ b ∧ b ≤ 1048576) :
    Calls Try.prog 42 #[.complex .f64 x y] w fun e w' => e = .returned (.bool true) ∧ w = w' := by
  have c1 := wholePart_any x a w hx ha.1 ha.2
  have c2 := wholePart_any y b w hy hb.1 hb.2
  go_enter Try.func42, Try.ntmps42
  go_wp2_with (go_at_call 51; first | ((with_reducible refine c1.mono ?_); rintro e w' ⟨rfl, rfl⟩) | ((with_reducible refine c2.mono ?_); rintro e w' ⟨rfl, rfl⟩))
  go_ret
  exact ⟨rfl, rfl⟩

set_option maxHeartbeats 400000 in
theorem Sound_any (x y : Nat) (a b : Int) (w : World) (hx : FI x a) (hy : FI y b) (h0 : 0 ≤ a) (h1 : 1 ≤ b) (h2 : a + b ≤ 480) :
    Calls Try.prog 32 #[.complex .f64 x y] w fun e w' => e = .returned (.bool true) ∧ w = w' := by
  have c := Whole_any x y a b w hx hy (by omega) (by omega)
  have o1 := fi_ge hx fi_zero h0
  have o2 := fi_ge hy fi_one h1
  obtain ⟨r, hr, hf⟩ := fi_add hx hy (by omega)
  have o3 := fi_le hf fi_480 h2
  have o4 : ∀ t w, (binOp .add t (.float .f64 x) (.float .f64 y)).run Try.prog w = .ok (.float .f64 r) w := fun t w => run_float_arith w .add t .f64 x y r hr
  clear hx hy hf
  go_enter Try.func32, Try.ntmps32
  go_wp2_with (go_at_call 42; refine c.mono ?_; rintro e w' ⟨rfl, rfl⟩)
  go_ret
  exact ⟨rfl, rfl⟩

set_option maxHeartbeats 400000 in
theorem Parts_any (x y : Nat) (a b : Int) (w : World) (hx : FI x a) (hy : FI y b) (h0 : 0 ≤ a) (h1 : 1 ≤ b) (h2 : a + b ≤ 480) :
    Calls Try.prog 23 #[.complex .f64 x y] w fun e w' => e = .returned (.tuple #[.int .i64 a, .int .i64 b, .int .i64 0]) ∧ w = w' := by
  have c := Sound_any x y a b w hx hy h0 h1 h2
  have hv1 := fi_toInt .i64 hx (by show -9223372036854775808 ≤ a; omega) (by show a ≤ 9223372036854775807; omega)
  have hv2 := fi_toInt .i64 hy (by show -9223372036854775808 ≤ b; omega) (by show b ≤ 9223372036854775807; omega)
  have o1 : ∀ w, (convert 31 3 (.float .f64 x)).run Try.prog w = .ok (.int .i64 a) w := fun w => run_convert_float_int w 31 3 .f64 .i64 x a (by rw [Try.underlying31]; rfl) Try.underlying3 hv1
  have o2 : ∀ w, (convert 31 3 (.float .f64 y)).run Try.prog w = .ok (.int .i64 b) w := fun w => run_convert_float_int w 31 3 .f64 .i64 y b (by rw [Try.underlying31]; rfl) Try.underlying3 hv2
  clear hx hy hv1 hv2
  go_enter Try.func23, Try.ntmps23
  go_wp2_with (go_at_call 32; refine c.mono ?_; rintro e w' ⟨rfl, rfl⟩)
  go_ret3
  exact ⟨rfl, rfl⟩

end Go.Proofs.Ytmgmlebkmdpddaa
