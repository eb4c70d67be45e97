/-
  Proved here: what the bit operations of the language give of numbers that fit.
  The conditions stand at each theorem.
-/
import Derived.Test.YtpmggbdmoopkfaaMem
import Derived.IntWalk
namespace Go.Proofs.Ytpmggbdmoopkfaa
open Go.RowKit

theorem big64 : 9223372036854775808 < 2 ^ 64 := by decide

theorem below64 {a b : Nat} (h : a + b < 9223372036854775808) : a < 2 ^ 64 := by
  have := big64
  generalize 2 ^ 64 = B at *
  omega

theorem or_parts {a x : Int} {m : Nat} (ha : 0 ≤ a ∧ a < 2 ^ m) (hx : 0 ≤ x) (hs : a + x * 2 ^ m < 9223372036854775808) : bits .or .i64 a (x * 2 ^ m) = a + x * 2 ^ m := by
  obtain ⟨a, rfl⟩ := Int.eq_ofNat_of_zero_le ha.1
  obtain ⟨x, rfl⟩ := Int.eq_ofNat_of_zero_le hx
  have hp : ((2 : Int) ^ m) = ((2 ^ m : Nat) : Int) := by rw [Int.natCast_pow]; rfl
  have ha2 : a < 2 ^ m := by have h := ha.2; rw [hp] at h; exact Int.ofNat_lt.1 h
  have he : ((x : Int) * 2 ^ m) = ((2 ^ m * x : Nat) : Int) := by rw [hp, Nat.mul_comm]; exact (Int.natCast_mul _ _).symm
  rw [he] at hs ⊢
  have h3 : 2 ^ m * x + a < 9223372036854775808 := by omega
  have h1 : (BitVec.ofInt 64 (a : Int)).toNat = a := by
    rw [BitVec.ofInt_natCast, BitVec.toNat_ofNat]; exact Nat.mod_eq_of_lt (below64 (b := 2 ^ m * x) (by rw [Nat.add_comm]; exact h3))
  have h2 : (BitVec.ofInt 64 ((2 ^ m * x : Nat) : Int)).toNat = 2 ^ m * x := by
    rw [BitVec.ofInt_natCast, BitVec.toNat_ofNat]; exact Nat.mod_eq_of_lt (below64 h3)
  show IntKind.i64.wrap ((BitVec.ofInt 64 (a : Int) ||| BitVec.ofInt 64 ((2 ^ m * x : Nat) : Int)).toNat : Int) = _
  rw [BitVec.toNat_or, h1, h2, Nat.or_comm, ← Nat.two_pow_add_eq_or_of_lt ha2, IntWalk.i64_in _ (by omega)]
  omega

/-! Bits of bytes -/

theorem byte_bits : ∀ (x : Fin 256) (k : Fin 8),
    (bits .and .u8 ((x.val : Int) / 2 ^ k.val) 1 = (x.val : Int) / 2 ^ k.val % 2) ∧
    (0 ≤ bits .or .u8 (x.val : Int) (2 ^ k.val) ∧ bits .or .u8 (x.val : Int) (2 ^ k.val) ≤ 255) ∧
    (0 ≤ bits .andNot .u8 (x.val : Int) (2 ^ k.val) ∧ bits .andNot .u8 (x.val : Int) (2 ^ k.val) ≤ 255) ∧
    (∀ i : Fin 8, (bits .or .u8 (x.val : Int) (2 ^ k.val) / 2 ^ i.val % 2 = if i = k then 1 else (x.val : Int) / 2 ^ i.val % 2) ∧
      (bits .andNot .u8 (x.val : Int) (2 ^ k.val) / 2 ^ i.val % 2 = if i = k then 0 else (x.val : Int) / 2 ^ i.val % 2)) := by
  decide +kernel

theorem byte_fin {x : Int} (h : 0 ≤ x ∧ x ≤ 255) : ∃ y : Fin 256, x = (y.val : Int) := ⟨⟨x.toNat, by omega⟩, by show x = (x.toNat : Int); omega⟩

theorem and_one {x : Int} {k : Nat} (h : 0 ≤ x ∧ x ≤ 255) (hk : k < 8) : bits .and .u8 (x / 2 ^ k) 1 = x / 2 ^ k % 2 := by
  obtain ⟨y, rfl⟩ := byte_fin h
  exact (byte_bits y ⟨k, hk⟩).1

theorem or_bit {x : Int} {k : Nat} (h : 0 ≤ x ∧ x ≤ 255) (hk : k < 8) : (0 ≤ bits .or .u8 x (2 ^ k) ∧ bits .or .u8 x (2 ^ k) ≤ 255) ∧ ∀ i, i < 8 → bits .or .u8 x (2 ^ k) / 2 ^ i % 2 = if i = k then 1 else x / 2 ^ i % 2 := by
  obtain ⟨y, rfl⟩ := byte_fin h
  have hb := byte_bits y ⟨k, hk⟩
  refine ⟨hb.2.1, fun i hi => ?_⟩
  have e := (hb.2.2.2 ⟨i, hi⟩).1
  by_cases h : i = k
  · rw [if_pos (Fin.ext h)] at e
    rw [if_pos h]
    exact e
  · rw [if_neg (fun e => h (Fin.val_eq_of_eq e))] at e
    rw [if_neg h]
    exact e

theorem andNot_bit {x : Int} {k : Nat} (h : 0 ≤ x ∧ x ≤ 255) (hk : k < 8) : (0 ≤ bits .andNot .u8 x (2 ^ k) ∧ bits .andNot .u8 x (2 ^ k) ≤ 255) ∧ ∀ i, i < 8 → bits .andNot .u8 x (2 ^ k) / 2 ^ i % 2 = if i = k then 0 else x / 2 ^ i % 2 := by
  obtain ⟨y, rfl⟩ := byte_fin h
  have hb := byte_bits y ⟨k, hk⟩
  refine ⟨hb.2.2.1, fun i hi => ?_⟩
  have e := (hb.2.2.2 ⟨i, hi⟩).2
  by_cases h : i = k
  · rw [if_pos (Fin.ext h)] at e
    rw [if_pos h]
    exact e
  · rw [if_neg (fun e => h (Fin.val_eq_of_eq e))] at e
    rw [if_neg h]
    exact e

end Go.Proofs.Ytpmggbdmoopkfaa
