/-
  Proved here: what '==' says of two arrays of four numbers, of two extents, of two slots.
  No conditions.
-/
import Derived.Test.YtojfhhmjoledjaaNode
import Derived.Laws.StructEq
import Derived.Laws.Tables
import Derived.Laws.Cover2
import Derived.KernelRfl
namespace Go.Proofs.Ytojfhhmjoledjaa
open Go.RowKit

/-- Two variables that were made: a cell of the elder, a cell of the younger. -/
theorem made2_a (w : World) (c0 c1 : Array Value) (T0 T1 : TypeId) (j : Nat) (v : Value) (h : c0[j]? = some v) : ((w.alloc (.cells c0 T0)).alloc (.cells c1 T1)).cell? ⟨w.heap.size, j, none⟩ = some v :=
  cell_later ((Below.refl _ _).alloc (Nat.le_refl _) _) (by rw [World.cell?_alloc_new]; exact h)
theorem made2_b (w : World) (c0 c1 : Array Value) (T0 T1 : TypeId) (j : Nat) (v : Value) (h : c1[j]? = some v) : ((w.alloc (.cells c0 T0)).alloc (.cells c1 T1)).cell? ⟨w.heap.size + 1, j, none⟩ = some v := by
  rw [← World.size_alloc w (.cells c0 T0), World.cell?_alloc_new]; exact h

theorem eqD_any : ∀ (a b c d e f g h : Int) (w : World), (Op.equalIn 10000 23 (.agg #[.int .i64 a, .int .i64 b, .int .i64 c, .int .i64 d]) (.agg #[.int .i64 e, .int .i64 f, .int .i64 g, .int .i64 h])).run Try.prog w = .ok (a == e && (b == f && (c == g && d == h))) w := by
  intro a b c d e f g h w
  have u3 := Try.underlying3
  have a3 := Try.isAgg3
  have z3 := Try.sizeOf3
  rw [show (10000 : Nat) = 9999 + 1 from rfl, Op.equalIn]
  simp only [Sem.run_bind, run_underlying Try.underlying23, Result.andThen_ok]
  simp only [Std.Legacy.Range.forIn_eq_forIn_range', Std.Legacy.Range.size, Nat.sub_zero, Nat.add_sub_cancel, Nat.div_one, List.range'_succ, List.range'_zero, List.forIn_cons, List.forIn_nil]
  go_simp
  by_cases h1 : a = e <;> by_cases h2 : b = f <;> by_cases h3 : c = g <;> by_cases h4 : d = h <;> simp [h1, h2, h3, h4]

theorem eqS_any : ∀ (a b c e f g : Int) (w : World), (Op.equalIn 10000 44 (.agg #[.int .i64 a, .int .i64 b, .int .i64 c]) (.agg #[.int .i64 e, .int .i64 f, .int .i64 g])).run Try.prog w = .ok (a == e && (b == f && c == g)) w := by
  intro a b c e f g w
  have u3 := Try.underlying3
  have a3 := Try.isAgg3
  have z3 := Try.sizeOf3
  have hS : Try.prog.underlying 44 = some (.struct (Try.prog.fieldsOf 44)) := by kernel_rfl
  rw [show (10000 : Nat) = 9999 + 1 from rfl, run_equalIn_agg w 9999 44 _ _ hS (by kernel_rfl)]
  simp only [Program.fieldsOf, Try.underlying44]
  go_simp
  by_cases h1 : a = e <;> by_cases h2 : b = f <;> by_cases h3 : c = g <;> simp [h1, h2, h3]

theorem eqX_any : ∀ (a e : Int) (p q r s : Nat) (w : World), (Op.equalIn 10000 40 (.agg #[.int .i64 a, .complex .f64 p q]) (.agg #[.int .i64 e, .complex .f64 r s])).run Try.prog w = .ok (a == e && ((FloatKind.f64.format.order p r == some .eq) && (FloatKind.f64.format.order q s == some .eq))) w := by
  intro a e p q r s w
  have u3 := Try.underlying3
  have a3 := Try.isAgg3
  have z3 := Try.sizeOf3
  have u4 := Try.underlying38
  have a4 := Try.isAgg38
  have z4 := Try.sizeOf38
  have hS : Try.prog.underlying 40 = some (.struct (Try.prog.fieldsOf 40)) := by kernel_rfl
  have hC : ∀ d w, (Op.equalIn (d + 1) 38 (.complex .f64 p q) (.complex .f64 r s)).run Try.prog w = .ok ((FloatKind.f64.format.order p r == some .eq) && (FloatKind.f64.format.order q s == some .eq)) w := fun d w => by
    simp [Op.equalIn, run_underlying u4, Op.floatEq]
  rw [show (10000 : Nat) = 9999 + 1 from rfl, run_equalIn_agg w 9999 40 _ _ hS (by kernel_rfl)]
  simp only [Program.fieldsOf, Try.underlying40]
  have hC' := hC 9998
  go_simp
  by_cases h1 : a = e <;> by_cases h2 : FloatKind.f64.format.order p r = some .eq <;> by_cases h3 : FloatKind.f64.format.order q s = some .eq <;> simp [h1, h2, h3]

end Go.Proofs.Ytojfhhmjoledjaa
