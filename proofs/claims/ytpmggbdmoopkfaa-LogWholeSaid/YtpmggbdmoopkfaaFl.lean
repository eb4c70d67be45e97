/-
  Proved here: adding, subtracting and multiplying 64-bit floats that hold whole numbers below 2^53 is exact, whatever sign a zero has.
  No conditions but those that each theorem names. Nothing of the program is read here.
-/
import Derived.Laws.ComplexArith
namespace Go.Proofs.Ytpmggbdmoopkfaa
open Ieee

theorem signed_add (s : Bool) (m a b : Nat) : signed s m (a + b) = signed s m a * 2 ^ b := by
  unfold signed
  simp only [Nat.shiftLeft_eq, Nat.pow_add]
  split <;> simp [Int.mul_assoc, Int.neg_mul]

theorem signed_zero (s : Bool) (a : Nat) : signed s 0 a = 0 := by
  unfold signed
  simp

theorem two_pow_ne (k : Nat) : (2 : Int) ^ k ≠ 0 := by
  have h := Int.pow_pos (n := 2) (m := k) (by decide)
  omega

/-- The datum is the whole number n. -/
def DI (d : Datum) (n : Int) : Prop :=
  ∃ s m e, ∃ K : Nat, d = .number s m e ∧ 0 ≤ e + (K : Int) ∧ signed s m (e + K).toNat = n * 2 ^ K

theorem DI.at' {s : Bool} {m : Nat} {e n : Int} (h : DI (.number s m e) n) (K : Nat) (hK : 0 ≤ e + (K : Int)) :
    signed s m (e + K).toNat = n * 2 ^ K := by
  obtain ⟨s', m', e', K', hd, h0, h1⟩ := h
  cases hd
  have e1 : (e + K).toNat + K' = (e + K').toNat + K := by omega
  have e2 := signed_add s m (e + K).toNat K'
  rw [e1, signed_add, h1] at e2
  have e3 : n * 2 ^ K * 2 ^ K' = signed s m (e + K).toNat * 2 ^ K' := by rw [← e2, Int.mul_assoc, Int.mul_assoc, Int.mul_comm (2 ^ K)]
  exact (Int.mul_eq_mul_right_iff (two_pow_ne K')).1 e3.symm

theorem DI.num {d : Datum} {n : Int} (h : DI d n) : ∃ s m e, d = .number s m e := by
  obtain ⟨s, m, e, K, h, _, _⟩ := h
  exact ⟨s, m, e, h⟩

theorem signed_natAbs (t : Int) (sg : Bool) (h : t ≠ 0 → sg = decide (t < 0)) (k : Nat) : signed sg t.natAbs k = t * 2 ^ k := by
  have e := signed_add sg t.natAbs 0 k
  rw [Nat.zero_add] at e
  rw [e]
  have e2 : signed sg t.natAbs 0 = t := by
    by_cases h0 : t = 0
    · subst h0; exact signed_zero _ _
    · rw [h h0]
      unfold signed
      by_cases hn : t < 0
      · simp [hn]; omega
      · simp [hn]; omega
  rw [e2]

theorem di_sum {x y : Datum} {a b : Int} (hx : DI x a) (hy : DI y b) : ∃ d, x.sum y = some d ∧ DI d (a + b) := by
  obtain ⟨s, m, i, rfl⟩ := hx.num
  obtain ⟨t, n, j, rfl⟩ := hy.num
  refine ⟨_, rfl, ?_⟩
  generalize hbase : min i j = base
  have hi : base ≤ i := by omega
  have hj : base ≤ j := by omega
  generalize htot : signed s m (i - base).toNat + signed t n (j - base).toNat = tot
  refine ⟨_, _, _, (-base).toNat, rfl, by omega, ?_⟩
  rw [signed_natAbs _ _ (by intro h; rw [if_neg h])]
  rw [← htot, Int.add_mul, ← signed_add, ← signed_add]
  have e1 : (i - base).toNat + (base + ((-base).toNat : Int)).toNat = (i + ((-base).toNat : Int)).toNat := by omega
  have e2 : (j - base).toNat + (base + ((-base).toNat : Int)).toNat = (j + ((-base).toNat : Int)).toNat := by omega
  rw [e1, e2, hx.at' _ (by omega), hy.at' _ (by omega), Int.add_mul]

theorem signed_mul (s t : Bool) (m n a b : Nat) : signed (s ^^ t) (m * n) (a + b) = signed s m a * signed t n b := by
  have e : m * n * 2 ^ (a + b) = (m * 2 ^ a) * (n * 2 ^ b) := by rw [Nat.pow_add]; ac_rfl
  unfold signed
  rw [Nat.shiftLeft_eq, Nat.shiftLeft_eq, Nat.shiftLeft_eq, e, Int.natCast_mul]
  cases s <;> cases t <;> simp [Int.neg_mul, Int.mul_neg]

theorem di_product {x y : Datum} {a b : Int} (hx : DI x a) (hy : DI y b) : ∃ d, x.product y = some d ∧ DI d (a * b) := by
  obtain ⟨s, m, i, rfl⟩ := hx.num
  obtain ⟨t, n, j, rfl⟩ := hy.num
  refine ⟨_, rfl, ?_⟩
  refine ⟨_, _, _, (-i).toNat + (-j).toNat, rfl, by omega, ?_⟩
  have e1 : (i + j + (((-i).toNat + (-j).toNat : Nat) : Int)).toNat = (i + ((-i).toNat : Int)).toNat + (j + ((-j).toNat : Int)).toNat := by omega
  rw [e1, signed_mul, hx.at' _ (by omega), hy.at' _ (by omega), Int.pow_add]
  ac_rfl

theorem di_opposite {x : Datum} {a : Int} (hx : DI x a) : DI x.opposite (-a) := by
  obtain ⟨s, m, e, K, rfl, h0, h1⟩ := hx
  refine ⟨!s, m, e, K, rfl, h0, ?_⟩
  rw [Int.neg_mul, ← h1]
  unfold signed
  cases s <;> simp

theorem log2_shift (m a : Nat) (h : m ≠ 0) : (m * 2 ^ a).log2 = m.log2 + a := by
  have hp : 0 < 2 ^ a := Nat.two_pow_pos a
  have h0 : m * 2 ^ a ≠ 0 := Nat.mul_ne_zero h (by omega)
  have h1 := Nat.log2_self_le h
  have h2 := @Nat.lt_log2_self m
  have h3 : m.log2 + a ≤ (m * 2 ^ a).log2 := (Nat.le_log2 h0).2 (by rw [Nat.pow_add]; exact Nat.mul_le_mul_right _ h1)
  have h4 : (m * 2 ^ a).log2 < m.log2 + 1 + a := (Nat.log2_lt h0).2 (by rw [Nat.pow_add _ _ a]; exact Nat.mul_lt_mul_of_pos_right h2 hp)
  omega

theorem cut_exact (way : Toward) (s : Bool) (x drop : Nat) : way.cut s (x * 2 ^ drop) drop = x := by
  have hp : 0 < 2 ^ drop := Nat.two_pow_pos drop
  by_cases hx : x = 0
  · subst hx
    unfold Toward.cut
    cases way <;> simp [Nat.shiftLeft_eq]
  · have hd : min drop ((x * 2 ^ drop).log2 + 2) = drop := by rw [log2_shift x drop hx]; omega
    unfold Toward.cut
    rw [hd]
    simp only [Nat.shiftLeft_eq, Nat.one_mul, Nat.mul_mod_left, Nat.mul_div_cancel _ hp]
    have hz : (2 ^ drop == 0) = false := by simp
    cases way <;> simp [hz]

theorem double_fractionBits : double.fractionBits = 52 := rfl
theorem double_leastPlace : double.leastPlace = -1074 := by decide
theorem double_binade : double.binade = 4503599627370496 := by decide
theorem double_infRung : double.infRung = 9218868437227405312 := by decide
theorem double_signWeight : double.signWeight = 9223372036854775808 := by decide

theorem read_word (s : Bool) (L kept : Nat) (hL : L ≤ 52) (h1 : 4503599627370496 ≤ kept) (h2 : kept < 9007199254740992) :
    double.read (double.word s ((L + 1022) * 4503599627370496 + kept)) = .number s kept ((L : Int) - 52) := by
  unfold Format.read Format.word
  dsimp only
  rw [double_signWeight, double_binade, double_infRung, double_leastPlace]
  cases s
  · have e1 : ((L + 1022) * 4503599627370496 + kept) % 9223372036854775808 = (L + 1022) * 4503599627370496 + kept := by omega
    have e2 : ((L + 1022) * 4503599627370496 + kept) / 9223372036854775808 % 2 = 0 := by omega
    have e3 : ¬ (L + 1022) * 4503599627370496 + kept < 4503599627370496 := by omega
    have e4 : (L + 1022) * 4503599627370496 + kept < 9218868437227405312 := by omega
    have e5 : 4503599627370496 + ((L + 1022) * 4503599627370496 + kept) % 4503599627370496 = kept := by omega
    have e6 : ((L + 1022) * 4503599627370496 + kept) / 4503599627370496 = L + 1023 := by omega
    rw [if_neg Bool.false_ne_true, e1, e2, if_neg e3, if_pos e4, e5, e6]
    exact congrArg _ (by omega)
  · have e0 : (9223372036854775808 + ((L + 1022) * 4503599627370496 + kept)) % 9223372036854775808 = (L + 1022) * 4503599627370496 + kept := by omega
    have e2 : (9223372036854775808 + ((L + 1022) * 4503599627370496 + kept)) / 9223372036854775808 % 2 = 1 := by omega
    have e3 : ¬ (L + 1022) * 4503599627370496 + kept < 4503599627370496 := by omega
    have e4 : (L + 1022) * 4503599627370496 + kept < 9218868437227405312 := by omega
    have e5 : 4503599627370496 + ((L + 1022) * 4503599627370496 + kept) % 4503599627370496 = kept := by omega
    have e6 : ((L + 1022) * 4503599627370496 + kept) / 4503599627370496 = L + 1023 := by omega
    rw [if_pos rfl, e0, e2, if_neg e3, if_pos e4, e5, e6]
    exact congrArg _ (by omega)

theorem di_signs {s : Bool} {m : Nat} {e n : Int} (h : DI (.number s m e) n) (K : Nat) (hK : 0 ≤ e + (K : Int)) :
    m * 2 ^ (e + K).toNat = n.natAbs * 2 ^ K ∧ (m ≠ 0 → s = decide (n < 0)) := by
  have h1 := h.at' K hK
  have hp : 0 < (2 : Int) ^ K := Int.pow_pos (by decide)
  have hq : 0 < (2 : Nat) ^ (e + K).toNat := Nat.two_pow_pos _
  unfold signed at h1
  rw [Nat.shiftLeft_eq] at h1
  refine ⟨?_, ?_⟩
  · have h2 := congrArg Int.natAbs h1
    rw [Int.natAbs_mul, Int.natAbs_pow] at h2
    cases s
    · simpa [Int.natAbs_mul, Int.natAbs_pow] using h2
    · simpa [Int.natAbs_mul, Int.natAbs_pow] using h2
  · intro hm
    have hmp : 0 < m * 2 ^ (e + K).toNat := Nat.mul_pos (Nat.pos_of_ne_zero hm) hq
    by_cases hn : n < 0
    · have : n * 2 ^ K < 0 := Int.mul_neg_of_neg_of_pos hn hp
      cases s
      · simp only [Bool.false_eq_true, if_false] at h1; omega
      · simp [hn]
    · have : 0 ≤ n * 2 ^ K := Int.mul_nonneg (by omega) (by omega)
      cases s
      · simp [hn]
      · simp only [if_true] at h1; omega

theorem di_write {d : Datum} {n : Int} (h : DI d n) (hn : n.natAbs < 9007199254740992) : DI (double.read (double.write d)) n := by
  obtain ⟨s, m, e, rfl⟩ := h.num
  by_cases hm : m = 0
  · subst hm
    have h1 := (di_signs h (-e).toNat (by omega)).1
    rw [Nat.zero_mul] at h1
    have hz : n.natAbs = 0 := by
      rcases Nat.mul_eq_zero.1 h1.symm with h | h
      · exact h
      · exact absurd h (by have := Nat.two_pow_pos (-e).toNat; omega)
    have hn0 : n = 0 := by omega
    subst hn0
    have hr : double.read (double.write (.number s 0 e)) = .number s 0 (-1074) := by
      have hw : double.write (.number s 0 e) = double.word s 0 := rfl
      rw [hw]
      cases s <;> decide
    rw [hr]
    exact ⟨s, 0, -1074, 1074, rfl, by decide, by rw [signed_zero, Int.zero_mul]⟩
  · have hN : n.natAbs ≠ 0 := by
      intro h0
      have h1 := (di_signs h (-e).toNat (by omega)).1
      rw [h0, Nat.zero_mul] at h1
      rcases Nat.mul_eq_zero.1 h1 with h | h
      · exact hm h
      · exact absurd h (by have := Nat.two_pow_pos (e + ((-e).toNat : Int)).toNat; omega)
    have hs := (di_signs h (-e).toNat (by omega)).2 hm
    have hlog : (m.log2 : Int) + e = n.natAbs.log2 := by
      have h1 := congrArg Nat.log2 (di_signs h (-e).toNat (by omega)).1
      rw [log2_shift _ _ hm, log2_shift _ _ hN] at h1
      omega
    have hL : n.natAbs.log2 ≤ 52 := by
      have := (Nat.log2_lt hN (k := 53)).2 (by omega)
      omega
    have hlo := Nat.log2_self_le hN
    have hhi := @Nat.lt_log2_self n.natAbs
    generalize hLg : n.natAbs.log2 = L at *
    have hlast : max (e + (m.log2 : Int) - 52) (-1074) = (L : Int) - 52 := by omega
    have hkept : Toward.even.cut s (m <<< (e - ((L : Int) - 52)).toNat) ((L : Int) - 52 - e).toNat = n.natAbs * 2 ^ (52 - L) := by
      rw [Nat.shiftLeft_eq]
      have hx : m * 2 ^ (e - ((L : Int) - 52)).toNat = n.natAbs * 2 ^ (52 - L) * 2 ^ ((L : Int) - 52 - e).toNat := by
        by_cases hc : 0 ≤ e + ((52 - L : Nat) : Int)
        · have h1 := (di_signs h (52 - L) hc).1
          have e1 : (e - ((L : Int) - 52)).toNat = (e + ((52 - L : Nat) : Int)).toNat := by omega
          have e2 : ((L : Int) - 52 - e).toNat = 0 := by omega
          rw [e1, e2, h1]; simp
        · have h1 := (di_signs h ((52 - L) + ((L : Int) - 52 - e).toNat) (by omega)).1
          have e1 : (e - ((L : Int) - 52)).toNat = (e + (((52 - L) + ((L : Int) - 52 - e).toNat : Nat) : Int)).toNat := by omega
          rw [e1, h1, Nat.pow_add, Nat.mul_assoc]
      rw [hx, cut_exact]
    have hk1 : 4503599627370496 ≤ n.natAbs * 2 ^ (52 - L) := by
      have h1 : 2 ^ L * 2 ^ (52 - L) ≤ n.natAbs * 2 ^ (52 - L) := Nat.mul_le_mul_right _ hlo
      rw [← Nat.pow_add] at h1
      have e1 : L + (52 - L) = 52 := by omega
      rw [e1] at h1
      exact h1
    have hk2 : n.natAbs * 2 ^ (52 - L) < 9007199254740992 := by
      have h1 : n.natAbs * 2 ^ (52 - L) < 2 ^ (L + 1) * 2 ^ (52 - L) := Nat.mul_lt_mul_of_pos_right hhi (Nat.two_pow_pos _)
      rw [← Nat.pow_add] at h1
      have e1 : L + 1 + (52 - L) = 53 := by omega
      rw [e1] at h1
      exact h1
    have hwrite : double.write (.number s m e) = double.word s ((L + 1022) * 4503599627370496 + n.natAbs * 2 ^ (52 - L)) := by
      show double.nearest s m e = _
      unfold Format.nearest
      rw [if_neg hm]
      simp only [double_fractionBits, double_leastPlace, double_binade, double_infRung]
      have e52 : ((52 : Nat) : Int) = 52 := rfl
      rw [e52, hlast, hkept]
      have e1 : ((L : Int) - 52 - -1074).toNat = L + 1022 := by omega
      rw [e1, Nat.min_eq_left (by omega)]
    rw [hwrite, read_word s L _ hL hk1 hk2]
    refine ⟨s, _, _, 52 - L, rfl, by omega, ?_⟩
    have e1 : ((L : Int) - 52 + ((52 - L : Nat) : Int)).toNat = 0 := by omega
    rw [e1]
    unfold signed
    rw [hs]
    have hpc : ((2 ^ (52 - L) : Nat) : Int) = (2 : Int) ^ (52 - L) := by simp
    by_cases hneg : n < 0
    · simp only [hneg, decide_true, if_true, Nat.shiftLeft_zero]
      rw [Int.natCast_mul, hpc, ← Int.neg_mul]
      congr 1
      omega
    · simp only [hneg, decide_false, Bool.false_eq_true, if_false, Nat.shiftLeft_zero]
      rw [Int.natCast_mul, hpc]
      congr 1
      omega

theorem di_toInt {d : Datum} {n : Int} (h : DI d n) : d.toInt .zero = some n := by
  obtain ⟨s, m, e, rfl⟩ := h.num
  show some (signed s (Toward.zero.cut s (m <<< e.toNat) (-e).toNat) 0) = some n
  rw [Nat.shiftLeft_eq]
  have h1 := di_signs h (-e).toNat (by omega)
  have e1 : (e + ((-e).toNat : Int)).toNat = e.toNat := by omega
  rw [e1] at h1
  rw [h1.1, cut_exact]
  by_cases hm : m = 0
  · have h0 := h1.1
    rw [hm, Nat.zero_mul] at h0
    have hz : n.natAbs = 0 := by
      rcases Nat.mul_eq_zero.1 h0.symm with h | h
      · exact h
      · exact absurd h (by have := Nat.two_pow_pos (-e).toNat; omega)
    rw [hz, signed_zero]
    congr 1
    omega
  · rw [signed_natAbs n s (fun _ => h1.2 hm)]
    simp

/-- The bits are those of a 64-bit float that holds the whole number n. -/
def FI (b : Nat) (n : Int) : Prop := DI (FloatKind.f64.format.read b) n

theorem fi_map {d : Option Datum} {n : Int} (hd : ∃ x, d = some x ∧ DI x n) (hn : n.natAbs < 9007199254740992) : ∃ r, d.map FloatKind.f64.format.write = some r ∧ FI r n := by
  obtain ⟨x, rfl, hx⟩ := hd
  exact ⟨_, rfl, di_write hx hn⟩

theorem fi_add {x y : Nat} {a b : Int} (hx : FI x a) (hy : FI y b) (h : (a + b).natAbs < 9007199254740992) : ∃ r, floatBits .add .f64 x y = some r ∧ FI r (a + b) :=
  fi_map (di_sum hx hy) h

theorem fi_sub {x y : Nat} {a b : Int} (hx : FI x a) (hy : FI y b) (h : (a - b).natAbs < 9007199254740992) : ∃ r, floatBits .sub .f64 x y = some r ∧ FI r (a - b) :=
  fi_map (di_sum hx (di_opposite hy)) h

theorem fi_mul {x y : Nat} {a b : Int} (hx : FI x a) (hy : FI y b) (h : (a * b).natAbs < 9007199254740992) : ∃ r, floatBits .mul .f64 x y = some r ∧ FI r (a * b) :=
  fi_map (di_product hx hy) h

theorem fi_ofInt (n : Int) (h : n.natAbs < 9007199254740992) : FI (floatOfInt .f64 n) n := by
  refine di_write (d := .number (n < 0) n.natAbs 0) ⟨_, _, _, 0, rfl, by decide, ?_⟩ h
  rw [signed_natAbs n _ (fun _ => rfl)]
  simp

theorem fi_toInt {b : Nat} {n : Int} (dst : IntKind) (h : FI b n) (h1 : dst.min ≤ n) (h2 : n ≤ dst.max) : floatToIntVal .f64 b dst = some n := by
  have e : (FloatKind.f64.decode b).toInt .zero = some n := di_toInt h
  unfold floatToIntVal
  rw [e]
  simp [h1, h2]

theorem ci_mul {a b c d : Nat} {A B C D : Int} (ha : FI a A) (hb : FI b B) (hc : FI c C) (hd : FI d D)
    (bA : A.natAbs ≤ 65536) (bB : B.natAbs ≤ 65536) (bC : C.natAbs ≤ 65536) (bD : D.natAbs ≤ 65536) :
    ∃ re im, cMulBits a b c d = some (re, im) ∧ FI re (A * C - B * D) ∧ FI im (A * D + B * C) := by
  have bound : ∀ {X Y : Int}, X.natAbs ≤ 65536 → Y.natAbs ≤ 65536 → (X * Y).natAbs ≤ 4294967296 := fun hX hY => by
    rw [Int.natAbs_mul]; exact Nat.mul_le_mul hX hY
  have b1 := bound bA bC
  have b2 := bound bB bD
  have b3 := bound bA bD
  have b4 := bound bB bC
  obtain ⟨ac, e1, f1⟩ := fi_mul ha hc (by omega)
  obtain ⟨bd, e2, f2⟩ := fi_mul hb hd (by omega)
  obtain ⟨re, e3, f3⟩ := fi_sub f1 f2 (by omega)
  obtain ⟨ad, e4, f4⟩ := fi_mul ha hd (by omega)
  obtain ⟨bc, e5, f5⟩ := fi_mul hb hc (by omega)
  obtain ⟨im, e6, f6⟩ := fi_add f4 f5 (by omega)
  exact ⟨re, im, by simp [cMulBits, e1, e2, e3, e4, e5, e6], f3, f6⟩

theorem ci_add {a b c d : Nat} {A B C D : Int} (ha : FI a A) (hb : FI b B) (hc : FI c C) (hd : FI d D)
    (h1 : (A + C).natAbs < 9007199254740992) (h2 : (B + D).natAbs < 9007199254740992) :
    ∃ re im, cSumBits .add .f64 a b c d = some (re, im) ∧ FI re (A + C) ∧ FI im (B + D) := by
  obtain ⟨re, e1, f1⟩ := fi_add ha hc h1
  obtain ⟨im, e2, f2⟩ := fi_add hb hd h2
  exact ⟨re, im, by simp [cSumBits, e1, e2], f1, f2⟩

theorem ci_sub {a b c d : Nat} {A B C D : Int} (ha : FI a A) (hb : FI b B) (hc : FI c C) (hd : FI d D)
    (h1 : (A - C).natAbs < 9007199254740992) (h2 : (B - D).natAbs < 9007199254740992) :
    ∃ re im, cSumBits .sub .f64 a b c d = some (re, im) ∧ FI re (A - C) ∧ FI im (B - D) := by
  obtain ⟨re, e1, f1⟩ := fi_sub ha hc h1
  obtain ⟨im, e2, f2⟩ := fi_sub hb hd h2
  exact ⟨re, im, by simp [cSumBits, e1, e2], f1, f2⟩

theorem fi_one : FI 4607182418800017408 1 := by
  have e : (4607182418800017408 : Nat) = floatOfInt .f64 1 := by decide +kernel
  rw [e]; exact fi_ofInt 1 (by decide)

theorem fi_two : FI 4611686018427387904 2 := by
  have e : (4611686018427387904 : Nat) = floatOfInt .f64 2 := by decide +kernel
  rw [e]; exact fi_ofInt 2 (by decide)

theorem fi_zero : FI 0 0 := by
  have e : (0 : Nat) = floatOfInt .f64 0 := by decide +kernel
  rw [e]; exact fi_ofInt 0 (by decide)

end Go.Proofs.Ytpmggbdmoopkfaa
