/-
  Proved here: comparing 64-bit floats that hold whole numbers below 2^53 is comparing these numbers, and cutting such a float leaves its number as it is.
  No conditions but those that each theorem names. Nothing of the program is read here.
-/
import Derived.Test.YtmgmlebkmdpddaaFl
namespace Go.Proofs.Ytmgmlebkmdpddaa
open Ieee

theorem compare_scaled {A B a b p q : Int} (hp : 0 < p) (hq : 0 < q) (h1 : A * p = a * q) (h2 : B * p = b * q) : compare A B = compare a b := by
  have hlt : A < B ↔ a < b := by
    rw [← Int.mul_lt_mul_right hp, h1, h2, Int.mul_lt_mul_right hq]
  have hgt : B < A ↔ b < a := by
    rw [← Int.mul_lt_mul_right hp, h1, h2, Int.mul_lt_mul_right hq]
  show compareOfLessAndEq A B = compareOfLessAndEq a b
  unfold compareOfLessAndEq
  by_cases hl : a < b
  · rw [if_pos hl, if_pos (hlt.2 hl)]
  · have hl' : ¬ A < B := fun h => hl (hlt.1 h)
    rw [if_neg hl, if_neg hl']
    by_cases he : a = b
    · rw [if_pos he, if_pos (by have : ¬ B < A := fun h => by have := hgt.1 h; omega
                                omega)]
    · rw [if_neg he, if_neg (by have : B < A := hgt.2 (by omega)
                                omega)]

theorem di_order {x y : Datum} {a b : Int} (hx : DI x a) (hy : DI y b) : x.order y = some (compare a b) := by
  obtain ⟨s, m, i, rfl⟩ := hx.num
  obtain ⟨t, n, j, rfl⟩ := hy.num
  show some (compare (signed s m (i - min i j).toNat) (signed t n (j - min i j).toNat)) = _
  congr 1
  generalize hbase : min i j = base
  have hi : base ≤ i := by omega
  have hj : base ≤ j := by omega
  refine compare_scaled (p := 2 ^ (base + ((-base).toNat : Int)).toNat) (q := 2 ^ (-base).toNat) (Int.pow_pos (by decide)) (Int.pow_pos (by decide)) ?_ ?_
  · rw [← signed_add]
    have e1 : (i - base).toNat + (base + ((-base).toNat : Int)).toNat = (i + ((-base).toNat : Int)).toNat := by omega
    rw [e1, hx.at' _ (by omega)]
  · rw [← signed_add]
    have e2 : (j - base).toNat + (base + ((-base).toNat : Int)).toNat = (j + ((-base).toNat : Int)).toNat := by omega
    rw [e2, hy.at' _ (by omega)]

theorem di_integral {d : Datum} {n : Int} (h : DI d n) : DI (d.integral .zero) n := by
  obtain ⟨s, m, e, rfl⟩ := h.num
  have ht := di_toInt h
  have ht2 : signed s (Toward.zero.cut s (m <<< e.toNat) (-e).toNat) 0 = n := Option.some.inj ht
  exact ⟨s, _, 0, 0, rfl, by decide, by rw [Int.pow_zero, Int.mul_one]; exact ht2⟩

theorem fi_order {x y : Nat} {a b : Int} (hx : FI x a) (hy : FI y b) : FloatKind.f64.format.order x y = some (compare a b) := di_order hx hy

theorem compare_lt {a b : Int} (h : a < b) : compare a b = .lt := by
  show compareOfLessAndEq a b = _
  unfold compareOfLessAndEq
  rw [if_pos h]

theorem compare_gt {a b : Int} (h : b < a) : compare a b = .gt := by
  show compareOfLessAndEq a b = _
  unfold compareOfLessAndEq
  rw [if_neg (by omega), if_neg (by omega)]

theorem compare_eq (a : Int) : compare a a = .eq := by
  show compareOfLessAndEq a a = _
  unfold compareOfLessAndEq
  rw [if_neg (by omega), if_pos rfl]

theorem fi_lt {x y : Nat} {a b : Int} (hx : FI x a) (hy : FI y b) (h : a < b) : FloatKind.f64.format.order x y = some .lt := by
  rw [fi_order hx hy, compare_lt h]
theorem fi_gt {x y : Nat} {a b : Int} (hx : FI x a) (hy : FI y b) (h : b < a) : FloatKind.f64.format.order x y = some .gt := by
  rw [fi_order hx hy, compare_gt h]
theorem fi_eq {x y : Nat} {a b : Int} (hx : FI x a) (hy : FI y b) (h : a = b) : FloatKind.f64.format.order x y = some .eq := by
  rw [fi_order hx hy, h, compare_eq]
theorem fi_ge {x y : Nat} {a b : Int} (hx : FI x a) (hy : FI y b) (h : b ≤ a) : (FloatKind.f64.format.order x y == some .gt || FloatKind.f64.format.order x y == some .eq) = true := by
  rcases Int.lt_or_eq_of_le h with h | h
  · rw [fi_gt hx hy h]; rfl
  · rw [fi_eq hx hy h.symm]; rfl
theorem fi_le {x y : Nat} {a b : Int} (hx : FI x a) (hy : FI y b) (h : a ≤ b) : (FloatKind.f64.format.order x y == some .lt || FloatKind.f64.format.order x y == some .eq) = true := by
  rcases Int.lt_or_eq_of_le h with h | h
  · rw [fi_lt hx hy h]; rfl
  · rw [fi_eq hx hy h]; rfl

theorem fi_neg20 : FI 13920626448202203136 (-1048576) := by
  have e : (13920626448202203136 : Nat) = floatOfInt .f64 (-1048576) := by decide +kernel
  rw [e]; exact fi_ofInt _ (by decide)
theorem fi_20 : FI 4697254411347427328 1048576 := by
  have e : (4697254411347427328 : Nat) = floatOfInt .f64 1048576 := by decide +kernel
  rw [e]; exact fi_ofInt _ (by decide)
theorem fi_480 : FI 4647151865492930560 480 := by
  have e : (4647151865492930560 : Nat) = floatOfInt .f64 480 := by decide +kernel
  rw [e]; exact fi_ofInt _ (by decide)

/-- The float cut towards zero. -/
def cutBits (x : Nat) : Nat := FloatKind.f64.encode ((FloatKind.f64.decode x).integral .zero)

theorem fi_cut {x : Nat} {n : Int} (h : FI x n) (hn : n.natAbs < 9007199254740992) : FI (cutBits x) n := di_write (di_integral h) hn

end Go.Proofs.Ytmgmlebkmdpddaa
