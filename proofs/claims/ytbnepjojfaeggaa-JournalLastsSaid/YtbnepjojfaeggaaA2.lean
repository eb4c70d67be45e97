/-
  Proved here: adding, subtracting and multiplying 64-bit floats that hold whole numbers below 2^53 is exact, whatever sign a zero has. No conditions but those that each theorem names. Nothing of the program is read here. Proved here: what each function of the package spin answers, whatever memory it is called in: the register's steps, its sum, its powers. The conditions stand at each theorem: registers are reduced, bytes lie in the cells that a slice leads to. Proved here: what the document's own reckoning of check sums (drydockref03) answers: the same numbers as the package spin. The conditions stand at each theorem. Proved here: what the document's own making of sealed blocks (drydockref04: Put) answers. The conditions stand at each theorem. Proved here: what the document's own making of sealed blocks (drydockref04: Put, Seal) answers. The conditions stand at each theorem. Proved here: what the document's own reckoning of a number in a block (drydockref04.Num) answers. The conditions stand at the theorem.
-/
import Derived.Laws.ComplexArith
import Derived.Test.YtbnepjojfaeggaaA1
import Derived.Test.YtbnepjojfaeggaaA0
import Derived.WalkKit
import Derived.WalkSpells
import Derived.WalkLawsBesides
import Derived.Lib.Hide
import Derived.Outline
import Derived.Deep.RegionWith
import Derived.Deep.QuietTactic
import Derived.BigQuiet
namespace Go.Proofs.Ytbnepjojfaeggaa
open Ieee

theorem signed_add (s : Bool) (m a b : Nat) : signed s m (a + b) = signed s m a * 2 ^ b := by
  unfold signed
  simp only [Nat.shiftLeft_eq, Nat.pow_add]
  split <;> simp [Int.mul_assoc, Int.neg_mul]

theorem signed_zero (s : Bool) (a : Nat) : signed s 0 a = 0 := by
  unfold signed
  simp

theorem two_pow_ne (k : Nat) : (2 : Int) ^ k ≠ 0 := by
  have h := Int.pow_pos (n := 2) (m := k) (by decide)
  omega

/-- The datum is the whole number n. -/
def DIf (d : Datum) (n : Int) : Prop :=
  ∃ s m e, ∃ K : Nat, d = .number s m e ∧ 0 ≤ e + (K : Int) ∧ signed s m (e + K).toNat = n * 2 ^ K

theorem DIf.at' {s : Bool} {m : Nat} {e n : Int} (h : DIf (.number s m e) n) (K : Nat) (hK : 0 ≤ e + (K : Int)) :
    signed s m (e + K).toNat = n * 2 ^ K := by
  obtain ⟨s', m', e', K', hd, h0, h1⟩ := h
  cases hd
  have e1 : (e + K).toNat + K' = (e + K').toNat + K := by omega
  have e2 := signed_add s m (e + K).toNat K'
  rw [e1, signed_add, h1] at e2
  have e3 : n * 2 ^ K * 2 ^ K' = signed s m (e + K).toNat * 2 ^ K' := by rw [← e2, Int.mul_assoc, Int.mul_assoc, Int.mul_comm (2 ^ K)]
  exact (Int.mul_eq_mul_right_iff (two_pow_ne K')).1 e3.symm

theorem DIf.num {d : Datum} {n : Int} (h : DIf d n) : ∃ s m e, d = .number s m e := by
  obtain ⟨s, m, e, K, h, _, _⟩ := h
  exact ⟨s, m, e, h⟩

theorem signed_natAbs (t : Int) (sg : Bool) (h : t ≠ 0 → sg = decide (t < 0)) (k : Nat) : signed sg t.natAbs k = t * 2 ^ k := by
  have e := signed_add sg t.natAbs 0 k
  rw [Nat.zero_add] at e
  rw [e]
  have e2 : signed sg t.natAbs 0 = t := by
    by_cases h0 : t = 0
    · subst h0; exact signed_zero _ _
    · rw [h h0]
      unfold signed
      by_cases hn : t < 0
      · simp [hn]; omega
      · simp [hn]; omega
  rw [e2]

theorem di_sum {x y : Datum} {a b : Int} (hx : DIf x a) (hy : DIf y b) : ∃ d, x.sum y = some d ∧ DIf d (a + b) := by
  obtain ⟨s, m, i, rfl⟩ := hx.num
  obtain ⟨t, n, j, rfl⟩ := hy.num
  refine ⟨_, rfl, ?_⟩
  generalize hbase : min i j = base
  have hi : base ≤ i := by omega
  have hj : base ≤ j := by omega
  generalize htot : signed s m (i - base).toNat + signed t n (j - base).toNat = tot
  refine ⟨_, _, _, (-base).toNat, rfl, by omega, ?_⟩
  rw [signed_natAbs _ _ (by intro h; rw [if_neg h])]
  rw [← htot, Int.add_mul, ← signed_add, ← signed_add]
  have e1 : (i - base).toNat + (base + ((-base).toNat : Int)).toNat = (i + ((-base).toNat : Int)).toNat := by omega
  have e2 : (j - base).toNat + (base + ((-base).toNat : Int)).toNat = (j + ((-base).toNat : Int)).toNat := by omega
  rw [e1, e2, hx.at' _ (by omega), hy.at' _ (by omega), Int.add_mul]

theorem signed_mul (s t : Bool) (m n a b : Nat) : signed (s ^^ t) (m * n) (a + b) = signed s m a * signed t n b := by
  have e : m * n * 2 ^ (a + b) = (m * 2 ^ a) * (n * 2 ^ b) := by rw [Nat.pow_add]; ac_rfl
  unfold signed
  rw [Nat.shiftLeft_eq, Nat.shiftLeft_eq, Nat.shiftLeft_eq, e, Int.natCast_mul]
  cases s <;> cases t <;> simp [Int.neg_mul, Int.mul_neg]

theorem di_product {x y : Datum} {a b : Int} (hx : DIf x a) (hy : DIf y b) : ∃ d, x.product y = some d ∧ DIf d (a * b) := by
  obtain ⟨s, m, i, rfl⟩ := hx.num
  obtain ⟨t, n, j, rfl⟩ := hy.num
  refine ⟨_, rfl, ?_⟩
  refine ⟨_, _, _, (-i).toNat + (-j).toNat, rfl, by omega, ?_⟩
  have e1 : (i + j + (((-i).toNat + (-j).toNat : Nat) : Int)).toNat = (i + ((-i).toNat : Int)).toNat + (j + ((-j).toNat : Int)).toNat := by omega
  rw [e1, signed_mul, hx.at' _ (by omega), hy.at' _ (by omega), Int.pow_add]
  ac_rfl

theorem di_opposite {x : Datum} {a : Int} (hx : DIf x a) : DIf x.opposite (-a) := by
  obtain ⟨s, m, e, K, rfl, h0, h1⟩ := hx
  refine ⟨!s, m, e, K, rfl, h0, ?_⟩
  rw [Int.neg_mul, ← h1]
  unfold signed
  cases s <;> simp

theorem log2_shift (m a : Nat) (h : m ≠ 0) : (m * 2 ^ a).log2 = m.log2 + a := by
  have hp : 0 < 2 ^ a := Nat.two_pow_pos a
  have h0 : m * 2 ^ a ≠ 0 := Nat.mul_ne_zero h (by omega)
  have h1 := Nat.log2_self_le h
  have h2 := @Nat.lt_log2_self m
  have h3 : m.log2 + a ≤ (m * 2 ^ a).log2 := (Nat.le_log2 h0).2 (by rw [Nat.pow_add]; exact Nat.mul_le_mul_right _ h1)
  have h4 : (m * 2 ^ a).log2 < m.log2 + 1 + a := (Nat.log2_lt h0).2 (by rw [Nat.pow_add _ _ a]; exact Nat.mul_lt_mul_of_pos_right h2 hp)
  omega

theorem cut_exact (way : Toward) (s : Bool) (x drop : Nat) : way.cut s (x * 2 ^ drop) drop = x := by
  have hp : 0 < 2 ^ drop := Nat.two_pow_pos drop
  by_cases hx : x = 0
  · subst hx
    unfold Toward.cut
    cases way <;> simp [Nat.shiftLeft_eq]
  · have hd : min drop ((x * 2 ^ drop).log2 + 2) = drop := by rw [log2_shift x drop hx]; omega
    unfold Toward.cut
    rw [hd]
    simp only [Nat.shiftLeft_eq, Nat.one_mul, Nat.mul_mod_left, Nat.mul_div_cancel _ hp]
    have hz : (2 ^ drop == 0) = false := by simp
    cases way <;> simp [hz]

theorem double_fractionBits : double.fractionBits = 52 := rfl
theorem double_leastPlace : double.leastPlace = -1074 := by decide
theorem double_binade : double.binade = 4503599627370496 := by decide
theorem double_infRung : double.infRung = 9218868437227405312 := by decide
theorem double_signWeight : double.signWeight = 9223372036854775808 := by decide

theorem read_word (s : Bool) (L kept : Nat) (hL : L ≤ 52) (h1 : 4503599627370496 ≤ kept) (h2 : kept < 9007199254740992) :
    double.read (double.word s ((L + 1022) * 4503599627370496 + kept)) = .number s kept ((L : Int) - 52) := by
  unfold Format.read Format.word
  dsimp only
  rw [double_signWeight, double_binade, double_infRung, double_leastPlace]
  cases s
  · have e1 : ((L + 1022) * 4503599627370496 + kept) % 9223372036854775808 = (L + 1022) * 4503599627370496 + kept := by omega
    have e2 : ((L + 1022) * 4503599627370496 + kept) / 9223372036854775808 % 2 = 0 := by omega
    have e3 : ¬ (L + 1022) * 4503599627370496 + kept < 4503599627370496 := by omega
    have e4 : (L + 1022) * 4503599627370496 + kept < 9218868437227405312 := by omega
    have e5 : 4503599627370496 + ((L + 1022) * 4503599627370496 + kept) % 4503599627370496 = kept := by omega
    have e6 : ((L + 1022) * 4503599627370496 + kept) / 4503599627370496 = L + 1023 := by omega
    rw [if_neg Bool.false_ne_true, e1, e2, if_neg e3, if_pos e4, e5, e6]
    exact congrArg _ (by omega)
  · have e0 : (9223372036854775808 + ((L + 1022) * 4503599627370496 + kept)) % 9223372036854775808 = (L + 1022) * 4503599627370496 + kept := by omega
    have e2 : (9223372036854775808 + ((L + 1022) * 4503599627370496 + kept)) / 9223372036854775808 % 2 = 1 := by omega
    have e3 : ¬ (L + 1022) * 4503599627370496 + kept < 4503599627370496 := by omega
    have e4 : (L + 1022) * 4503599627370496 + kept < 9218868437227405312 := by omega
    have e5 : 4503599627370496 + ((L + 1022) * 4503599627370496 + kept) % 4503599627370496 = kept := by omega
    have e6 : ((L + 1022) * 4503599627370496 + kept) / 4503599627370496 = L + 1023 := by omega
    rw [if_pos rfl, e0, e2, if_neg e3, if_pos e4, e5, e6]
    exact congrArg _ (by omega)

theorem di_signs {s : Bool} {m : Nat} {e n : Int} (h : DIf (.number s m e) n) (K : Nat) (hK : 0 ≤ e + (K : Int)) :
    m * 2 ^ (e + K).toNat = n.natAbs * 2 ^ K ∧ (m ≠ 0 → s = decide (n < 0)) := by
  have h1 := h.at' K hK
  have hp : 0 < (2 : Int) ^ K := Int.pow_pos (by decide)
  have hq : 0 < (2 : Nat) ^ (e + K).toNat := Nat.two_pow_pos _
  unfold signed at h1
  rw [Nat.shiftLeft_eq] at h1
  refine ⟨?_, ?_⟩
  · have h2 := congrArg Int.natAbs h1
    rw [Int.natAbs_mul, Int.natAbs_pow] at h2
    cases s
    · simpa [Int.natAbs_mul, Int.natAbs_pow] using h2
    · simpa [Int.natAbs_mul, Int.natAbs_pow] using h2
  · intro hm
    have hmp : 0 < m * 2 ^ (e + K).toNat := Nat.mul_pos (Nat.pos_of_ne_zero hm) hq
    by_cases hn : n < 0
    · have : n * 2 ^ K < 0 := Int.mul_neg_of_neg_of_pos hn hp
      cases s
      · simp only [Bool.false_eq_true, if_false] at h1; omega
      · simp [hn]
    · have : 0 ≤ n * 2 ^ K := Int.mul_nonneg (by omega) (by omega)
      cases s
      · simp [hn]
      · simp only [if_true] at h1; omega

theorem di_write {d : Datum} {n : Int} (h : DIf d n) (hn : n.natAbs < 9007199254740992) : DIf (double.read (double.write d)) n := by
  obtain ⟨s, m, e, rfl⟩ := h.num
  by_cases hm : m = 0
  · subst hm
    have h1 := (di_signs h (-e).toNat (by omega)).1
    rw [Nat.zero_mul] at h1
    have hz : n.natAbs = 0 := by
      rcases Nat.mul_eq_zero.1 h1.symm with h | h
      · exact h
      · exact absurd h (by have := Nat.two_pow_pos (-e).toNat; omega)
    have hn0 : n = 0 := by omega
    subst hn0
    have hr : double.read (double.write (.number s 0 e)) = .number s 0 (-1074) := by
      have hw : double.write (.number s 0 e) = double.word s 0 := rfl
      rw [hw]
      cases s <;> decide
    rw [hr]
    exact ⟨s, 0, -1074, 1074, rfl, by decide, by rw [signed_zero, Int.zero_mul]⟩
  · have hN : n.natAbs ≠ 0 := by
      intro h0
      have h1 := (di_signs h (-e).toNat (by omega)).1
      rw [h0, Nat.zero_mul] at h1
      rcases Nat.mul_eq_zero.1 h1 with h | h
      · exact hm h
      · exact absurd h (by have := Nat.two_pow_pos (e + ((-e).toNat : Int)).toNat; omega)
    have hs := (di_signs h (-e).toNat (by omega)).2 hm
    have hlog : (m.log2 : Int) + e = n.natAbs.log2 := by
      have h1 := congrArg Nat.log2 (di_signs h (-e).toNat (by omega)).1
      rw [log2_shift _ _ hm, log2_shift _ _ hN] at h1
      omega
    have hL : n.natAbs.log2 ≤ 52 := by
      have := (Nat.log2_lt hN (k := 53)).2 (by omega)
      omega
    have hlo := Nat.log2_self_le hN
    have hhi := @Nat.lt_log2_self n.natAbs
    generalize hLg : n.natAbs.log2 = L at *
    have hlast : max (e + (m.log2 : Int) - 52) (-1074) = (L : Int) - 52 := by omega
    have hkept : Toward.even.cut s (m <<< (e - ((L : Int) - 52)).toNat) ((L : Int) - 52 - e).toNat = n.natAbs * 2 ^ (52 - L) := by
      rw [Nat.shiftLeft_eq]
      have hx : m * 2 ^ (e - ((L : Int) - 52)).toNat = n.natAbs * 2 ^ (52 - L) * 2 ^ ((L : Int) - 52 - e).toNat := by
        by_cases hc : 0 ≤ e + ((52 - L : Nat) : Int)
        · have h1 := (di_signs h (52 - L) hc).1
          have e1 : (e - ((L : Int) - 52)).toNat = (e + ((52 - L : Nat) : Int)).toNat := by omega
          have e2 : ((L : Int) - 52 - e).toNat = 0 := by omega
          rw [e1, e2, h1]; simp
        · have h1 := (di_signs h ((52 - L) + ((L : Int) - 52 - e).toNat) (by omega)).1
          have e1 : (e - ((L : Int) - 52)).toNat = (e + (((52 - L) + ((L : Int) - 52 - e).toNat : Nat) : Int)).toNat := by omega
          rw [e1, h1, Nat.pow_add, Nat.mul_assoc]
      rw [hx, cut_exact]
    have hk1 : 4503599627370496 ≤ n.natAbs * 2 ^ (52 - L) := by
      have h1 : 2 ^ L * 2 ^ (52 - L) ≤ n.natAbs * 2 ^ (52 - L) := Nat.mul_le_mul_right _ hlo
      rw [← Nat.pow_add] at h1
      have e1 : L + (52 - L) = 52 := by omega
      rw [e1] at h1
      exact h1
    have hk2 : n.natAbs * 2 ^ (52 - L) < 9007199254740992 := by
      have h1 : n.natAbs * 2 ^ (52 - L) < 2 ^ (L + 1) * 2 ^ (52 - L) := Nat.mul_lt_mul_of_pos_right hhi (Nat.two_pow_pos _)
      rw [← Nat.pow_add] at h1
      have e1 : L + 1 + (52 - L) = 53 := by omega
      rw [e1] at h1
      exact h1
    have hwrite : double.write (.number s m e) = double.word s ((L + 1022) * 4503599627370496 + n.natAbs * 2 ^ (52 - L)) := by
      show double.nearest s m e = _
      unfold Format.nearest
      rw [if_neg hm]
      simp only [double_fractionBits, double_leastPlace, double_binade, double_infRung]
      have e52 : ((52 : Nat) : Int) = 52 := rfl
      rw [e52, hlast, hkept]
      have e1 : ((L : Int) - 52 - -1074).toNat = L + 1022 := by omega
      rw [e1, Nat.min_eq_left (by omega)]
    rw [hwrite, read_word s L _ hL hk1 hk2]
    refine ⟨s, _, _, 52 - L, rfl, by omega, ?_⟩
    have e1 : ((L : Int) - 52 + ((52 - L : Nat) : Int)).toNat = 0 := by omega
    rw [e1]
    unfold signed
    rw [hs]
    have hpc : ((2 ^ (52 - L) : Nat) : Int) = (2 : Int) ^ (52 - L) := by simp
    by_cases hneg : n < 0
    · simp only [hneg, decide_true, if_true, Nat.shiftLeft_zero]
      rw [Int.natCast_mul, hpc, ← Int.neg_mul]
      congr 1
      omega
    · simp only [hneg, decide_false, Bool.false_eq_true, if_false, Nat.shiftLeft_zero]
      rw [Int.natCast_mul, hpc]
      congr 1
      omega

theorem di_toInt {d : Datum} {n : Int} (h : DIf d n) : d.toInt .zero = some n := by
  obtain ⟨s, m, e, rfl⟩ := h.num
  show some (signed s (Toward.zero.cut s (m <<< e.toNat) (-e).toNat) 0) = some n
  rw [Nat.shiftLeft_eq]
  have h1 := di_signs h (-e).toNat (by omega)
  have e1 : (e + ((-e).toNat : Int)).toNat = e.toNat := by omega
  rw [e1] at h1
  rw [h1.1, cut_exact]
  by_cases hm : m = 0
  · have h0 := h1.1
    rw [hm, Nat.zero_mul] at h0
    have hz : n.natAbs = 0 := by
      rcases Nat.mul_eq_zero.1 h0.symm with h | h
      · exact h
      · exact absurd h (by have := Nat.two_pow_pos (-e).toNat; omega)
    rw [hz, signed_zero]
    congr 1
    omega
  · rw [signed_natAbs n s (fun _ => h1.2 hm)]
    simp

/-- The bits are those of a 64-bit float that holds the whole number n. -/
def FI (b : Nat) (n : Int) : Prop := DIf (FloatKind.f64.format.read b) n

theorem fi_map {d : Option Datum} {n : Int} (hd : ∃ x, d = some x ∧ DIf x n) (hn : n.natAbs < 9007199254740992) : ∃ r, d.map FloatKind.f64.format.write = some r ∧ FI r n := by
  obtain ⟨x, rfl, hx⟩ := hd
  exact ⟨_, rfl, di_write hx hn⟩

theorem fi_add {x y : Nat} {a b : Int} (hx : FI x a) (hy : FI y b) (h : (a + b).natAbs < 9007199254740992) : ∃ r, floatBits .add .f64 x y = some r ∧ FI r (a + b) :=
  fi_map (di_sum hx hy) h

theorem fi_sub {x y : Nat} {a b : Int} (hx : FI x a) (hy : FI y b) (h : (a - b).natAbs < 9007199254740992) : ∃ r, floatBits .sub .f64 x y = some r ∧ FI r (a - b) :=
  fi_map (di_sum hx (di_opposite hy)) h

theorem fi_mul {x y : Nat} {a b : Int} (hx : FI x a) (hy : FI y b) (h : (a * b).natAbs < 9007199254740992) : ∃ r, floatBits .mul .f64 x y = some r ∧ FI r (a * b) :=
  fi_map (di_product hx hy) h

theorem fi_ofInt (n : Int) (h : n.natAbs < 9007199254740992) : FI (floatOfInt .f64 n) n := by
  refine di_write (d := .number (n < 0) n.natAbs 0) ⟨_, _, _, 0, rfl, by decide, ?_⟩ h
  rw [signed_natAbs n _ (fun _ => rfl)]
  simp

theorem fi_toInt {b : Nat} {n : Int} (dst : IntKind) (h : FI b n) (h1 : dst.min ≤ n) (h2 : n ≤ dst.max) : floatToIntVal .f64 b dst = some n := by
  have e : (FloatKind.f64.decode b).toInt .zero = some n := di_toInt h
  unfold floatToIntVal
  rw [e]
  simp [h1, h2]

theorem ci_mul {a b c d : Nat} {A B C D : Int} (ha : FI a A) (hb : FI b B) (hc : FI c C) (hd : FI d D)
    (bA : A.natAbs ≤ 65536) (bB : B.natAbs ≤ 65536) (bC : C.natAbs ≤ 65536) (bD : D.natAbs ≤ 65536) :
    ∃ re im, cMulBits a b c d = some (re, im) ∧ FI re (A * C - B * D) ∧ FI im (A * D + B * C) := by
  have bound : ∀ {X Y : Int}, X.natAbs ≤ 65536 → Y.natAbs ≤ 65536 → (X * Y).natAbs ≤ 4294967296 := fun hX hY => by
    rw [Int.natAbs_mul]; exact Nat.mul_le_mul hX hY
  have b1 := bound bA bC
  have b2 := bound bB bD
  have b3 := bound bA bD
  have b4 := bound bB bC
  obtain ⟨ac, e1, f1⟩ := fi_mul ha hc (by omega)
  obtain ⟨bd, e2, f2⟩ := fi_mul hb hd (by omega)
  obtain ⟨re, e3, f3⟩ := fi_sub f1 f2 (by omega)
  obtain ⟨ad, e4, f4⟩ := fi_mul ha hd (by omega)
  obtain ⟨bc, e5, f5⟩ := fi_mul hb hc (by omega)
  obtain ⟨im, e6, f6⟩ := fi_add f4 f5 (by omega)
  exact ⟨re, im, by simp [cMulBits, e1, e2, e3, e4, e5, e6], f3, f6⟩

theorem ci_add {a b c d : Nat} {A B C D : Int} (ha : FI a A) (hb : FI b B) (hc : FI c C) (hd : FI d D)
    (h1 : (A + C).natAbs < 9007199254740992) (h2 : (B + D).natAbs < 9007199254740992) :
    ∃ re im, cSumBits .add .f64 a b c d = some (re, im) ∧ FI re (A + C) ∧ FI im (B + D) := by
  obtain ⟨re, e1, f1⟩ := fi_add ha hc h1
  obtain ⟨im, e2, f2⟩ := fi_add hb hd h2
  exact ⟨re, im, by simp [cSumBits, e1, e2], f1, f2⟩

theorem ci_sub {a b c d : Nat} {A B C D : Int} (ha : FI a A) (hb : FI b B) (hc : FI c C) (hd : FI d D)
    (h1 : (A - C).natAbs < 9007199254740992) (h2 : (B - D).natAbs < 9007199254740992) :
    ∃ re im, cSumBits .sub .f64 a b c d = some (re, im) ∧ FI re (A - C) ∧ FI im (B - D) := by
  obtain ⟨re, e1, f1⟩ := fi_sub ha hc h1
  obtain ⟨im, e2, f2⟩ := fi_sub hb hd h2
  exact ⟨re, im, by simp [cSumBits, e1, e2], f1, f2⟩

theorem fi_one : FI 4607182418800017408 1 := by
  have e : (4607182418800017408 : Nat) = floatOfInt .f64 1 := by decide +kernel
  rw [e]; exact fi_ofInt 1 (by decide)

theorem fi_two : FI 4611686018427387904 2 := by
  have e : (4611686018427387904 : Nat) = floatOfInt .f64 2 := by decide +kernel
  rw [e]; exact fi_ofInt 2 (by decide)

theorem fi_zero : FI 0 0 := by
  have e : (0 : Nat) = floatOfInt .f64 0 := by decide +kernel
  rw [e]; exact fi_ofInt 0 (by decide)

end Go.Proofs.Ytbnepjojfaeggaa

namespace Go.Proofs.Ytbnepjojfaeggaa
open Go.RowKit

theorem tmod_lt (n : Int) (h : n.tmod 65521 < 0) : n.tmod 65521 + 65521 = n % 65521 := (tmod_facts n).2.2.2.2.2 h
theorem tmod_ge (n : Int) (h : ¬ n.tmod 65521 < 0) : n.tmod 65521 = n % 65521 := (tmod_facts n).2.2.2.2.1 (by omega)

/-- A register as the program holds it. -/
def regV (r : Pair) : Value := .complex .f64 (floatOfInt .f64 r.1) (floatOfInt .f64 r.2)

set_option maxHeartbeats 400000 in
theorem rest_any (b : Nat) (n : Int) (w : World) (h : FI b n) (hn : n.natAbs < 9007199254740992) :
    Calls Try.prog 100 #[.float .f64 b] w fun e w' => e = .returned (.float .f64 (floatOfInt .f64 (n % 65521))) ∧ w = w' := by
  have hv := fi_toInt .i64 h (by show -9223372036854775808 ≤ n; omega) (by show n ≤ 9223372036854775807; omega)
  have hop : ∀ w, (convert 157 2 (.float .f64 b)).run Try.prog w = .ok (.int .i64 n) w := fun w => run_convert_float_int w 157 2 .f64 .i64 b n (by rw [Try.underlying157]; rfl) Try.underlying2 hv
  have ht := tmod_facts n
  have h1 := ht.2.1
  have h2 := ht.2.2.1
  clear hv ht
  by_cases hneg : n.tmod 65521 < 0
  · have he := tmod_lt n hneg
    go_enter Try.func100, Try.ntmps100
    go_wp2_with (simp only [hop])
    go_ret
    exact ⟨rfl, rfl⟩
  · have he := tmod_ge n hneg
    go_enter Try.func100, Try.ntmps100
    go_wp2_with (simp only [hop])
    go_ret
    exact ⟨rfl, rfl⟩

set_option maxHeartbeats 400000 in
theorem reduced_any (x y : Nat) (a b : Int) (w : World) (hx : FI x a) (hy : FI y b) (ha : a.natAbs < 9007199254740992) (hb : b.natAbs < 9007199254740992) :
    Calls Try.prog 99 #[.complex .f64 x y] w fun e w' => e = .returned (regV (red (a, b))) ∧ w = w' := by
  go_enter Try.func99, Try.ntmps99
  go_wp2_with (go_at_call 100; refine (rest_any _ _ _ (by assumption) (by assumption)).mono ?_; rintro e w' ⟨rfl, rfl⟩)
  go_ret
  exact ⟨rfl, rfl⟩

theorem fi_fst {r : Pair} (h : Red r) : FI (floatOfInt .f64 r.1) r.1 := fi_ofInt _ (by unfold Red at h; omega)
theorem fi_snd {r : Pair} (h : Red r) : FI (floatOfInt .f64 r.2) r.2 := fi_ofInt _ (by unfold Red at h; omega)

set_option maxHeartbeats 400000 in
theorem sum_any (r : Pair) (w : World) (h : Red r) :
    Calls Try.prog 98 #[regV r] w fun e w' => e = .returned (.int .u32 (sm r)) ∧ w = w' := by
  have hR := h
  unfold Red at hR
  obtain ⟨k0, k1, k2, k3⟩ := hR
  have c1 : ∀ w, (convert 157 112 (.float .f64 (floatOfInt .f64 r.1))).run Try.prog w = .ok (.int .u32 r.1) w := fun w =>
    run_convert_float_int w 157 112 .f64 .u32 _ r.1 (by rw [Try.underlying157]; rfl) Try.underlying112 (fi_toInt .u32 (fi_fst h) (by show 0 ≤ r.1; omega) (by show r.1 ≤ 4294967295; omega))
  have c2 : ∀ w, (convert 157 112 (.float .f64 (floatOfInt .f64 r.2))).run Try.prog w = .ok (.int .u32 r.2) w := fun w =>
    run_convert_float_int w 157 112 .f64 .u32 _ r.2 (by rw [Try.underlying157]; rfl) Try.underlying112 (fi_toInt .u32 (fi_snd h) (by show 0 ≤ r.2; omega) (by show r.2 ≤ 4294967295; omega))
  clear h
  unfold regV
  go_enter Try.func98, Try.ntmps98
  go_wp2_with (simp only [c1, c2])
  go_ret
  exact ⟨rfl, rfl⟩

/-- A step of the register, as the program takes it. -/
theorem step_ops (R : Pair) (hR : Red R) (x : Int) (h0 : 0 ≤ x) (h1 : x ≤ 255) :
    ∃ re im re2 im2 : Nat, (∀ t w, (binOp .mul t (.complex .f64 4611686018427387904 4607182418800017408) (.complex .f64 (floatOfInt .f64 R.1) (floatOfInt .f64 R.2))).run Try.prog w = .ok (.complex .f64 re im) w) ∧
      (∀ t w, (binOp .add t (.complex .f64 re im) (.complex .f64 (floatOfInt .f64 x) 0)).run Try.prog w = .ok (.complex .f64 re2 im2) w) ∧
      FI re2 (stepU R x).1 ∧ FI im2 (stepU R x).2 ∧ (stepU R x).1.natAbs < 9007199254740992 ∧ (stepU R x).2.natAbs < 9007199254740992 := by
  have hR' := hR
  unfold Red at hR'
  obtain ⟨re, im, e1, f1, f2⟩ := ci_mul fi_two fi_one (fi_fst hR) (fi_snd hR) (by omega) (by omega) (by omega) (by omega)
  have fx := fi_ofInt x (by omega)
  obtain ⟨re2, im2, e2, f3, f4⟩ := ci_add f1 f2 fx fi_zero (by omega) (by omega)
  have s1 : 2 * R.1 - 1 * R.2 + x = (stepU R x).1 := by unfold stepU; simp only; omega
  have s2 : 2 * R.2 + 1 * R.1 + 0 = (stepU R x).2 := by unfold stepU; simp only; omega
  rw [s1] at f3
  rw [s2] at f4
  refine ⟨re, im, re2, im2, fun t w => run_complex_mul w t _ _ _ _ _ _ e1, fun t w => run_complex_sum w .add (Or.inl rfl) t .f64 _ _ _ _ _ _ e2, f3, f4, ?_, ?_⟩
  · rw [← s1]; omega
  · rw [← s2]; omega

set_option maxHeartbeats 400000 in
theorem behind_any (r : Pair) (a : Option Addr) (len cap : Nat) (zs : List Int) (w : World) (hr : Red r) (hb : Bts w a len zs) :
    Calls Try.prog 97 #[regV r, .slice a len cap] w fun e w' => e = .returned (regV (bhd zs r)) ∧ w = w' := by
  obtain ⟨hl, hm, hz, hc⟩ := hb
  rcases hc with rfl | ⟨b, off, rfl, hc⟩
  · have : zs = [] := List.length_eq_zero_iff.1 hl
    subst this
    unfold regV
    go_enter Try.func97, Try.ntmps97
    go_wp2
    go_loop [0, 9] (fun rv i => i = .int .i64 0 ∧ rv = .complex .f64 (floatOfInt .f64 r.1) (floatOfInt .f64 r.2)) (fun _ i => 0 - (intOf i).toNat)
    case atStart => exact ⟨rfl, rfl⟩
    case round =>
      obtain ⟨rfl, rfl⟩ := hrel
      go_wp2
      go_ret
      exact ⟨rfl, rfl⟩
  · have HL : Hid (zs.length = len) := Lib.hid hl
    clear hl
    unfold regV
    go_enter Try.func97, Try.ntmps97
    go_wp2
    go_loop [0, 9] (fun rv i => ∃ (k : Nat) (R : Pair), k ≤ len ∧ i = .int .i64 k ∧ rv = .complex .f64 (floatOfInt .f64 R.1) (floatOfInt .f64 R.2) ∧ R = bhd (zs.take k) r) (fun _ i => len - (intOf i).toNat)
    case atStart => exact ⟨0, r, Nat.zero_le _, rfl, rfl, rfl⟩
    case round =>
      obtain ⟨k, R, hk, rfl, rfl, hR⟩ := hrel
      have hRed : Red R := by rw [hR]; exact bhd_Red _ hr
      have HR : Hid (R = bhd (zs.take k) r) := Lib.hid hR
      clear hR
      by_cases hlt : k < len
      · have hcell := hc k hlt
        have hx := hz _ (getD_mem (l := zs) (k := k) (by rw [HL.out]; exact hlt))
        have HN : Hid (bhd (zs.take (k + 1)) r = red (stepU R (zs.getD k 0))) := Lib.hid (by rw [take_snoc zs k (by rw [HL.out]; exact hlt), bhd_snoc, HR.out])
        obtain ⟨x, HX⟩ : ∃ x, Hid (x = zs.getD k 0) := ⟨_, Lib.hid rfl⟩
        rw [← HX.out] at hcell hx HN
        obtain ⟨hx0, hx1⟩ := hx
        obtain ⟨re, im, re2, im2, o1, o2, f1, f2, b1, b2⟩ := step_ops R hRed x hx0 hx1
        clear hz hc
        go_wp2_with (first | (go_at_call 99; refine (reduced_any _ _ _ _ _ f1 f2 b1 b2).mono ?_; rintro e w' ⟨rfl, rfl⟩))
        go_round
        case rel => exact ⟨k + 1, red (stepU R x), by omega, by go_num, rfl, HN.out.symm⟩
        case measure => simp [intOf]; omega
      · have : k = len := by omega
        subst this
        go_wp2
        go_ret
        have e1 : zs.take k = zs := List.take_of_length_le (by rw [HL.out]; exact Nat.le_refl _)
        have e2 : R = bhd zs r := by rw [HR.out, e1]
        exact ⟨by rw [e2]; rfl, rfl⟩

theorem one_bits : (4607182418800017408 : Nat) = floatOfInt .f64 1 := by decide +kernel
theorem two_bits : (4611686018427387904 : Nat) = floatOfInt .f64 2 := by decide +kernel
theorem zero_bits : (0 : Nat) = floatOfInt .f64 0 := by decide +kernel

theorem begin_regV : Value.complex .f64 4607182418800017408 0 = regV (1, 0) := by rw [one_bits]; rfl

set_option maxHeartbeats 400000 in
theorem Sum_any (a : Option Addr) (len cap : Nat) (zs : List Int) (w : World) (hb : Bts w a len zs) :
    Calls Try.prog 93 #[.slice a len cap] w fun e w' => e = .returned (.int .u32 (sumS zs)) ∧ w = w' := by
  have c2 := behind_any (1, 0) a len cap zs w one_Red hb
  have c3 := sum_any (bhd zs (1, 0)) w (bhd_Red zs one_Red)
  rw [← begin_regV] at c2
  clear hb
  go_enter Try.func93, Try.ntmps93
  go_wp2_with (first | (go_at_call 97; refine c2.mono ?_; rintro e w' ⟨rfl, rfl⟩) | (go_at_call 98; refine c3.mono ?_; rintro e w' ⟨rfl, rfl⟩))
  go_ret
  exact ⟨rfl, rfl⟩

theorem tmod_again (x : Int) : (x.tmod 65521 + 65521) % 65521 = x % 65521 := by
  obtain ⟨⟨k, hk⟩, h⟩ := tmod_facts x
  omega

theorem tmod_emod (x : Int) : x.tmod 65521 % 65521 = x % 65521 := by
  obtain ⟨⟨k, hk⟩, h⟩ := tmod_facts x
  omega

end Go.Proofs.Ytbnepjojfaeggaa

namespace Go.Proofs.Ytbnepjojfaeggaa
open Go.RowKit

set_option maxHeartbeats 400000 in
theorem refMore_any (s : Int) (a : Option Addr) (len cap : Nat) (zs : List Int) (w : World) (h0 : 0 ≤ s) (h1 : s < 4294967296) (hb : Bts w a len zs) :
    Calls Try.prog 77 #[.int .u32 s, .slice a len cap] w fun e w' => e = .returned (.int .u32 (moreS s zs)) ∧ w = w' := by
  obtain ⟨hl, hm, hz, hc⟩ := hb
  rcases hc with rfl | ⟨b, off, rfl, hc⟩
  · have : zs = [] := List.length_eq_zero_iff.1 hl
    subst this
    obtain ⟨R, HR⟩ : ∃ R, Hid (R = ofS s) := ⟨_, Lib.hid rfl⟩
    have hRed : Red R := by rw [HR.out]; exact ofS_Red s
    unfold Red at hRed
    obtain ⟨k0, k1, k2, k3⟩ := hRed
    go_enter Try.func77, Try.ntmps77
    go_wp2
    go_loop [5, 6, 7] (fun av bv i => i = .int .i64 0 ∧ av = .int .i64 R.1 ∧ bv = .int .i64 R.2) (fun _ _ i => 0 - (intOf i).toNat)
    case atStart => exact ⟨rfl, by rw [HR.out]; rfl, by rw [HR.out]; rfl⟩
    case round =>
      obtain ⟨rfl, rfl, rfl⟩ := hrel
      go_wp2
      go_ret
      exact ⟨ret_int (by show R.1 * 65536 + R.2 = sm (ofS s); rw [HR.out]; rfl), rfl⟩
  · have HL : Hid (zs.length = len) := Lib.hid hl
    clear hl
    go_enter Try.func77, Try.ntmps77
    go_wp2
    go_loop [5, 6, 7] (fun av bv i => ∃ (k : Nat) (R : Pair), k ≤ len ∧ i = .int .i64 k ∧ av = .int .i64 R.1 ∧ bv = .int .i64 R.2 ∧ R = bhd (zs.take k) (ofS s)) (fun _ _ i => len - (intOf i).toNat)
    case atStart => exact ⟨0, ofS s, Nat.zero_le _, rfl, rfl, rfl, rfl⟩
    case round =>
      obtain ⟨k, R, hk, rfl, rfl, rfl, hR⟩ := hrel
      have hRed : Red R := by rw [hR]; exact bhd_Red _ (ofS_Red s)
      have HR : Hid (R = bhd (zs.take k) (ofS s)) := Lib.hid hR
      clear hR
      have hRed' := hRed
      unfold Red at hRed'
      obtain ⟨k0, k1, k2, k3⟩ := hRed'
      by_cases hlt : k < len
      · have hcell := hc k hlt
        have hx := hz _ (getD_mem (l := zs) (k := k) (by rw [HL.out]; exact hlt))
        have HN : Hid (bhd (zs.take (k + 1)) (ofS s) = red (stepU R (zs.getD k 0))) := Lib.hid (by rw [take_snoc zs k (by rw [HL.out]; exact hlt), bhd_snoc, HR.out])
        obtain ⟨x, HX⟩ : ∃ x, Hid (x = zs.getD k 0) := ⟨_, Lib.hid rfl⟩
        rw [← HX.out] at hcell hx HN
        obtain ⟨hx0, hx1⟩ := hx
        have ht := tmod_facts (2 * R.1 - R.2 + x)
        have ht1 := ht.2.1
        have ht2 := ht.2.2.1
        clear hz hc ht
        go_wp2
        go_round
        case rel => exact ⟨k + 1, red (stepU R x), by omega, by go_num, by rw [tmod_again]; rfl, rfl, HN.out.symm⟩
        case measure => simp [intOf]; omega
      · have : k = len := by omega
        subst this
        go_wp2
        go_ret
        have e1 : zs.take k = zs := List.take_of_length_le (by rw [HL.out]; exact Nat.le_refl _)
        have e2 : R = bhd zs (ofS s) := by rw [HR.out, e1]
        exact ⟨ret_int (by unfold moreS; rw [← e2]; rfl), rfl⟩

set_option maxHeartbeats 400000 in
theorem refSum_any (a : Option Addr) (len cap : Nat) (zs : List Int) (w : World) (hb : Bts w a len zs) :
    Calls Try.prog 62 #[.slice a len cap] w fun e w' => e = .returned (.int .u32 (sumS zs)) ∧ w = w' := by
  have c := refMore_any 65536 a len cap zs w (by decide) (by decide) hb
  rw [← sumS_more] at c
  clear hb
  go_enter Try.func62, Try.ntmps62
  go_wp2_with (go_at_call 77; refine c.mono ?_; rintro e w' ⟨rfl, rfl⟩)
  go_ret
  exact ⟨rfl, rfl⟩

end Go.Proofs.Ytbnepjojfaeggaa

namespace Go.Proofs.Ytbnepjojfaeggaa
open Go.RowKit

/-- What Put hands back: the bytes l in a row of the call's own. -/
def PutPost (base : Nat) (w0 : World) (n : Nat) (l : List Int) (e : Ending) (w' : World) : Prop :=
  ∃ v, e = .returned v ∧ w'.ownsRow base 5 1 v n (l.map (Value.int .u8)) ∧ Below base w0 w'

set_option maxHeartbeats 400000 in
theorem Put04_any (base : Nat) (v : Value) (len : Nat) (zs : List Int) (n : Int) (k : Nat) (w : World) (hown : w.ownsRow base 5 1 v len (zs.map (Value.int .u8))) (hbase : base ≤ w.heap.size)
    (hn0 : 0 ≤ n) (hn1 : n ≤ 9223372036854775807) (hk : k ≤ 8) (hlen : len ≤ 140737488355320) :
    Calls Try.prog 45 #[v, .int .i64 n, .int .i64 k] w (PutPost base w (len + k) (zs ++ leB n k)) := by
  go_enter Try.func45, Try.ntmps45
  go_wp2
  have HO := Lib.hid hown
  clear hown
  go_loopw [0, 7] (fun vv iv wr => ∃ j : Nat, j ≤ k ∧ iv = .int .i64 j ∧ Hid (wr.ownsRow base 5 1 vv (len + j) ((zs ++ leB n j).map (Value.int .u8))) ∧ Hid (Below base w wr)) (fun _ iv _ => k - (intOf iv).toNat)
  case atStart => exact ⟨0, Nat.zero_le _, rfl, Lib.hid (by rw [show leB n 0 = [] from rfl, List.append_nil]; exact HO.out), Lib.hid (Below.refl _ _)⟩
  case round =>
    obtain ⟨j, hj, rfl, HR, HB⟩ := hrel
    by_cases hlt : j < k
    · have HX : Hid (0 ≤ n / 2 ^ (8 * j) % 256 ∧ n / 2 ^ (8 * j) % 256 ≤ 255) := Lib.hid (by omega)
      have HS : Hid (base ≤ wr.heap.size + 1) := Lib.hid (by have := HB.out.size; omega)
      go_wp2_with (at_builtin; refine wp_append_bytes rfl (.tmp 13) (.tmp 21) rfl base (len + j) _ _ rfl (HR.out.alloc _) (some ⟨wr.heap.size, 0, none⟩) 1 1 [n / 2 ^ (8 * j) % 256] rfl (one_bts wr _ HX.out) (by simp) (by omega) (by simpa using HS.out) ?_; intro v1 w1 hown1 hb1; have HO1 := Lib.hid hown1; have HB1 := Lib.hid hb1; clear hown1 hb1)
      go_roundw
      case rel =>
        refine ⟨j + 1, by omega, by go_num, Lib.hid ?_, Lib.hid ((HB.out.alloc (by have := HB.out.size; omega) _).trans HB1.out)⟩
        have e := HO1.out
        rw [pow_two_bytes, ← List.map_append, List.append_assoc] at e
        exact e
      case measure => simp [intOf]; omega
    · have hjk : j = k := by omega
      subst hjk
      go_wp2
      go_ret
      exact ⟨_, rfl, HR.out, HB.out⟩

end Go.Proofs.Ytbnepjojfaeggaa

namespace Go.Proofs.Ytbnepjojfaeggaa
open Go.RowKit

set_option maxHeartbeats 400000 in
theorem Seal04_any (ao : Option Addr) (len cap : Nat) (zs : List Int) (w : World) (hA : Arg w ao len cap zs) :
    Calls Try.prog 46 #[.slice ao len cap] w (Gives w.heap.size w (sealOf sumS zs)) := by
  obtain ⟨hB, hnil, _, hlen⟩ := hA
  have hown := World.ownsRow_made (base := w.heap.size) (e := 5) (size := 1) w #[] 0 (Nat.le_refl _) (by decide) rfl
  have hb0 : Below w.heap.size w (w.alloc (.cells #[] 5)) := (Below.refl _ _).alloc (Nat.le_refl _) _
  have hA0 := hB.later hb0
  have HL := Lib.hid hB.1
  have HZ := Lib.hid hB.2.2.1
  have HN := Lib.hid hnil
  clear hB hnil
  go_enter Try.func46, Try.ntmps46
  go_wp2_with (at_builtin; refine wp_append_bytes rfl (.tmp 4) (.tmp 5) rfl w.heap.size 0 _ [] rfl hown ao len cap zs rfl hA0 HN.out (by omega) (by simp) ?_; intro v1 w1 hown1 hb1; have HB1 := Lib.hid (hb0.trans hb1); have HO1 := Lib.hid hown1; clear hown1 hb1 hown hA0)
  have HF : Hid (∃ ao1 c1, v1 = .slice ao1 len c1) := Lib.hid (by
    have h := HO1.out
    rw [Nat.zero_add, List.nil_append] at h
    obtain ⟨a, c, hv, _⟩ := owns_bts h HZ.out (by omega)
    exact ⟨a, c, hv⟩)
  go_loopw [3] (fun vv wr => ∃ (j : Nat) (ao1 : Option Addr) (c1 : Nat), (j = 0 ∨ len + j ≤ 60) ∧ vv = .slice ao1 (len + j) c1 ∧ Hid (wr.ownsRow w.heap.size 5 1 (.slice ao1 (len + j) c1) (len + j) ((zs ++ List.replicate j 0).map (Value.int .u8))) ∧ Hid (Below w.heap.size w wr)) (fun vv _ => 60 - (match vv with | .slice _ n _ => n | _ => 0))
  case atStart =>
    obtain ⟨a, c, hv⟩ := HF.out
    refine ⟨0, a, c, Or.inl rfl, hv, Lib.hid ?_, HB1⟩
    have h := HO1.out
    rw [hv, Nat.zero_add, List.nil_append] at h
    simpa using h
  case round =>
    obtain ⟨j, ao1, c1, hj, rfl, HR, HB⟩ := hrel
    by_cases hlt : len + j < 60
    · have i1 : ((len + j : Nat) : Int) < 60 := by omega
      have HS : Hid (w.heap.size ≤ wr.heap.size + 1) := Lib.hid (by have := HB.out.size; omega)
      go_wp2_with (at_builtin; refine wp_append_bytes rfl (.tmp 10) (.tmp 11) rfl w.heap.size (len + j) _ _ rfl (HR.out.alloc _) (some ⟨wr.heap.size, 0, none⟩) 1 1 [0] rfl (one_bts wr 0 (by decide)) (by simp) (by omega) (by simpa using HS.out) ?_; intro v1 w1 hown1 hb1; have HO2 := Lib.hid hown1; have HB2 := Lib.hid hb1; clear hown1 hb1)
      have HF2 : Hid (∃ ao2 c2, v1 = .slice ao2 (len + (j + 1)) c2) := Lib.hid (by
        have h := HO2.out
        have e : zs ++ List.replicate j 0 ++ [0] = zs ++ List.replicate (j + 1) 0 := by rw [List.append_assoc, ← List.replicate_succ']
        rw [← List.map_append, e] at h
        obtain ⟨a, c, hv, _⟩ := owns_bts h (by
          intro z hz
          rcases List.mem_append.1 hz with hz | hz
          · exact HZ.out z hz
          · rw [List.eq_of_mem_replicate hz]; decide) (by omega)
        exact ⟨a, c, hv⟩)
      obtain ⟨a, c, hv⟩ := HF2.out
      refine ⟨⟨j + 1, a, c, by omega, hv, Lib.hid ?_, Lib.hid ((HB.out.alloc (by have := HB.out.size; omega) _).trans HB2.out)⟩, ?_⟩
      · have h := HO2.out
        have e : zs ++ List.replicate j 0 ++ [0] = zs ++ List.replicate (j + 1) 0 := by rw [List.append_assoc, ← List.replicate_succ']
        rw [← List.map_append, e, hv] at h
        exact h
      · rw [hv]
        show 60 - (len + (j + 1)) < 60 - (len + j)
        omega
    · have HT : Hid ((zs ++ List.replicate j 0).take 60 = (zs ++ List.replicate (60 - zs.length) 0).take 60) := Lib.hid (by
        have hl := HL.out
        rcases hj with rfl | hj
        · have e : 60 - zs.length = 0 := by omega
          rw [e]
        · have e : 60 - zs.length = j := by omega
          rw [e])
      have HLL : Hid (∀ z ∈ (zs ++ List.replicate j 0).take 60, 0 ≤ z ∧ z ≤ 255) := Lib.hid (by
        intro z hz
        rcases List.mem_append.1 (List.mem_of_mem_take hz) with hz | hz
        · exact HZ.out z hz
        · rw [List.eq_of_mem_replicate hz]; decide)
      obtain ⟨g, c2, hv, _, _⟩ := HR.out.form (by omega)
      simp only [Value.slice.injEq, true_and] at hv
      obtain ⟨rfl, rfl⟩ := hv
      have HR2 := Lib.hid (owns_take (k := 60) HR.out (by omega))
      rw [← List.map_take, HT.out] at HR2
      rw [HT.out] at HLL
      have hcap : len + j ≤ c1 := by
        rcases HR.out.2 with ⟨h, _⟩ | ⟨g', cap', cur, h, _, _, hc, _⟩
        · cases h
        · simp only [Value.slice.injEq, Option.some.injEq, Addr.mk.injEq, and_true, true_and] at h
          omega
      obtain ⟨ao3, c3, hv3, hB3⟩ := owns_bts HR2.out HLL.out (by decide)
      simp only [Value.slice.injEq, true_and] at hv3
      obtain ⟨rfl, rfl⟩ := hv3
      have HG : Hid (sealOf sumS zs = (zs ++ List.replicate (60 - zs.length) 0).take 60 ++ leB (sumS ((zs ++ List.replicate (60 - zs.length) 0).take 60)) 4) := Lib.hid rfl
      generalize (zs ++ List.replicate (60 - zs.length) 0).take 60 = L at *
      have cS := refSum_any (some ⟨g, 0, none⟩) 60 c1 L wr.drew ((show Bts wr.drew (some ⟨g, 0, none⟩) 60 L from hB3))
      have hSb := sumS_bounds L
      have cP := Put04_any w.heap.size (.slice (some ⟨g, 0, none⟩) 60 c1) 60 L (sumS L) 4 wr.drew HR2.out.drew (show w.heap.size ≤ wr.heap.size from HB.out.size) hSb.1 (by omega) (by decide) (by decide)
      rw [show ((4 : Nat) : Int) = 4 from rfl] at cP
      generalize sumS L = S at *
      clear hB3
      have i1 : ¬ ((len + j : Nat) : Int) < 60 := by omega
      have i2 : (60 : Int) ≤ (c1 : Int) := by omega
      have hw : IntKind.i64.wrap S = S := IntWalk.i64_in _ (by omega)
      go_wp2_with fail
      go_region_with (first | (go_at_call 62; refine cS.mono ?_; rintro e w' ⟨rfl, rfl⟩) | (go_at_call 45; refine cP.mono ?_; rintro e w5 ⟨v5, rfl, h5, b5⟩; have H5 := Lib.hid h5; have B5 := Lib.hid b5; clear h5 b5))
      clear hw
      go_wp2_with fail
      go_ret
      refine ⟨_, rfl, ?_, HB.out.drew.trans B5.out⟩
      rw [HG.out]
      exact fresh_of_owns H5.out (fun z hz => (List.mem_append.1 hz).elim (HLL.out z) (leB_bytes _ _ z)) (by decide)

theorem sealOf_bytes {sum : List Int → Int} {zs : List Int} (hz : ∀ z ∈ zs, 0 ≤ z ∧ z ≤ 255) : ∀ z ∈ sealOf sum zs, 0 ≤ z ∧ z ≤ 255 := by
  intro z h
  unfold sealOf at h
  rcases List.mem_append.1 h with h | h
  · rcases List.mem_append.1 (List.mem_of_mem_take h) with h | h
    · exact hz z h
    · rw [List.eq_of_mem_replicate h]; decide
  · exact leB_bytes _ _ z h

end Go.Proofs.Ytbnepjojfaeggaa

namespace Go.Proofs.Ytbnepjojfaeggaa
open Go.RowKit

set_option maxHeartbeats 400000 in
theorem Num04_any (ao : Option Addr) (len cap : Nat) (zs : List Int) (p k : Nat) (w : World) (hB : Bts w ao len zs) (hk : k ≤ 4) (hpk : p + k ≤ len) :
    Calls Try.prog 39 #[.slice ao len cap, .int .i64 p, .int .i64 k] w fun e w' => e = .returned (.int .i64 (leN zs p k)) ∧ w = w' := by
  obtain ⟨hl, hm, hz, hc⟩ := hB
  have HL := Lib.hid hl
  have hb := leN_four hz p k (by omega) hk
  obtain ⟨t, HT⟩ : ∃ t, Hid (t = leN zs p k) := ⟨_, Lib.hid rfl⟩
  rw [← HT.out] at hb ⊢
  clear hl
  rcases hc with rfl | ⟨b, off, rfl, hc⟩
  · have hk0 : k = 0 := by omega
    subst hk0
    have ht : t = 0 := HT.out
    subst ht
    go_enter Try.func39, Try.ntmps39
    go_wp2
    go_loop [7, 8] (fun nv iv => iv = .int .i64 (-1) ∧ nv = .int .i64 0) (fun _ iv => (intOf iv + 1).toNat)
    case atStart => exact ⟨rfl, rfl⟩
    case round =>
      obtain ⟨rfl, rfl⟩ := hrel
      go_wp2
      go_ret
      exact ⟨rfl, rfl⟩
  · go_enter Try.func39, Try.ntmps39
    go_wp2
    go_loop [7, 8] (fun nv iv => ∃ (j : Nat) (n : Int), j ≤ k ∧ iv = .int .i64 ((j : Int) - 1) ∧ nv = .int .i64 n ∧ 0 ≤ n ∧ n ≤ t ∧ n * 256 ^ j + leN zs p j = t) (fun _ iv => (intOf iv + 1).toNat)
    case atStart => exact ⟨k, 0, Nat.le_refl _, rfl, rfl, by decide, by omega, by rw [Int.zero_mul, Int.zero_add, HT.out]⟩
    case round =>
      obtain ⟨j, n, hj, rfl, rfl, hn0, hn1, hrel⟩ := hrel
      rcases j with _ | j
      · have : n = t := by rw [← hrel]; show n = n * 1 + 0; omega
        subst this
        clear hrel
        go_wp2
        go_ret
        exact ⟨rfl, rfl⟩
      · have HS := Lib.hid (le_step hrel)
        have hx := hz _ (getD_mem (l := zs) (k := p + j) (by rw [HL.out]; omega))
        have hpart := le_part hz (n := n * 256 + zs.getD (p + j) 0) (k := j) (p := p) (by omega) (by rw [HL.out]; omega) HS.out
        have hcell := hc (p + j) (by omega)
        obtain ⟨x, HX⟩ : ∃ x, Hid (x = zs.getD (p + j) 0) := ⟨_, Lib.hid rfl⟩
        rw [← HX.out] at hx hpart hcell HS
        obtain ⟨hx0, hx1⟩ := hx
        clear hz hc hrel
        have e1 : ((j + 1 : Nat) : Int) - 1 = (j : Int) := by omega
        rw [e1]
        clear e1
        have i1 : (0 : Int) ≤ (p : Int) + (j : Int) := by omega
        have i2 : (p : Int) + (j : Int) < (len : Int) := by omega
        go_wp2
        go_round
        case rel => exact ⟨j, n * 256 + x, by omega, rfl, rfl, by omega, hpart, HS.out⟩
        case measure => simp [intOf]

end Go.Proofs.Ytbnepjojfaeggaa
