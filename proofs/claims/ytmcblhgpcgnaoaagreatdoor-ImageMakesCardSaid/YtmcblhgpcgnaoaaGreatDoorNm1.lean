/-
  Proved here: adding, subtracting and multiplying 64-bit floats that hold whole numbers below 2^53 is exact, whatever sign a zero has. No conditions but those that each theorem names. Nothing of the program is read here. Proved here: plain facts on pairs of whole numbers (complex numbers with whole parts) modulo 65521: powers of 2 + i, the steps of a check sum, how sums are joined, that no step loses anything. No conditions but those that each theorem names. Nothing of the program is read here. Proved here: what each function of the package spin answers, whatever memory it is called in: the register's steps, its sum, its powers. The conditions stand at each theorem: registers are reduced, bytes lie in the cells that a slice leads to. Proved here: what the landed code of package field answers: sum and Seal. The conditions stand at each theorem. Proved here: plain facts on short texts that were sealed. No conditions but those that each theorem names. Nothing of the program is read here. Proved here: what the document's own reckoning of check sums (drydockref03) answers: the same numbers as the package spin. The conditions stand at each theorem. Proved here: what the document's own making of sealed blocks (drydockref04: Put) answers. The conditions stand at each theorem. Proved here: what the document's own making of sealed blocks (drydockref04: Put, Seal) answers. The conditions stand at each theorem. Said here: what is told of a volume, and of its log, as blocks, in plain words; what the landed calls of package super are to answer (SupOk); plain facts on these. No conditions but those that each theorem names. Proved here: plain facts on blocks of Supers and Heads: what was made is read as it was; no block is both; a block of which one byte ahead of the sum is another one is neither. No conditions but those that each theorem names. Proved here: a number that was put in a block is read from it, all other bytes are as they were, and two numbers at places that do not meet may be put in either order. The conditions stand at each theorem. Nothing of the program is read here. Proved here: blocks of Supers and Heads that are made by package field's words (Text, Set, Seal; in plain words textOut, setOut, sealOut) are the blocks that the document asks. The conditions stand at each theorem. Nothing of the program is read here. Proved here: what the landed code of package field answers: place. The conditions stand at each theorem. Proved here: what the landed code of package field answers: number. The conditions stand at each theorem. Proved here: what the landed code of package field answers: Set. The conditions stand at each theorem. Proved here: what the landed code of package field answers: Get. The conditions stand at each theorem. Proved here: what the landed code of package field answers: Text. The conditions stand at each theorem.
-/
import Derived.Laws.ComplexArith
import Derived.Test.YtmcblhgpcgnaoaaGreatDoorNm0
import Derived.WalkKit
import Derived.WalkSpells
import Derived.WalkLawsBesides
import Derived.Lib.Hide
import Derived.Outline
import Derived.Deep.RegionWith
import Derived.Deep.QuietTactic
import Derived.BigQuiet
namespace Go.Proofs.YtmcblhgpcgnaoaaGreatDoor
open Ieee

theorem signed_add (s : Bool) (m a b : Nat) : signed s m (a + b) = signed s m a * 2 ^ b := by
  unfold signed
  simp only [Nat.shiftLeft_eq, Nat.pow_add]
  split <;> simp [Int.mul_assoc, Int.neg_mul]

theorem signed_zero (s : Bool) (a : Nat) : signed s 0 a = 0 := by
  unfold signed
  simp

theorem two_pow_ne (k : Nat) : (2 : Int) ^ k ≠ 0 := by
  have h := Int.pow_pos (n := 2) (m := k) (by decide)
  omega

/-- The datum is the whole number n. -/
def DIf (d : Datum) (n : Int) : Prop :=
  ∃ s m e, ∃ K : Nat, d = .number s m e ∧ 0 ≤ e + (K : Int) ∧ signed s m (e + K).toNat = n * 2 ^ K

theorem DIf.at' {s : Bool} {m : Nat} {e n : Int} (h : DIf (.number s m e) n) (K : Nat) (hK : 0 ≤ e + (K : Int)) :
    signed s m (e + K).toNat = n * 2 ^ K := by
  obtain ⟨s', m', e', K', hd, h0, h1⟩ := h
  cases hd
  have e1 : (e + K).toNat + K' = (e + K').toNat + K := by omega
  have e2 := signed_add s m (e + K).toNat K'
  rw [e1, signed_add, h1] at e2
  have e3 : n * 2 ^ K * 2 ^ K' = signed s m (e + K).toNat * 2 ^ K' := by rw [← e2, Int.mul_assoc, Int.mul_assoc, Int.mul_comm (2 ^ K)]
  exact (Int.mul_eq_mul_right_iff (two_pow_ne K')).1 e3.symm

theorem DIf.num {d : Datum} {n : Int} (h : DIf d n) : ∃ s m e, d = .number s m e := by
  obtain ⟨s, m, e, K, h, _, _⟩ := h
  exact ⟨s, m, e, h⟩

theorem signed_natAbs (t : Int) (sg : Bool) (h : t ≠ 0 → sg = decide (t < 0)) (k : Nat) : signed sg t.natAbs k = t * 2 ^ k := by
  have e := signed_add sg t.natAbs 0 k
  rw [Nat.zero_add] at e
  rw [e]
  have e2 : signed sg t.natAbs 0 = t := by
    by_cases h0 : t = 0
    · subst h0; exact signed_zero _ _
    · rw [h h0]
      unfold signed
      by_cases hn : t < 0
      · simp [hn]; omega
      · simp [hn]; omega
  rw [e2]

theorem di_sum {x y : Datum} {a b : Int} (hx : DIf x a) (hy : DIf y b) : ∃ d, x.sum y = some d ∧ DIf d (a + b) := by
  obtain ⟨s, m, i, rfl⟩ := hx.num
  obtain ⟨t, n, j, rfl⟩ := hy.num
  refine ⟨_, rfl, ?_⟩
  generalize hbase : min i j = base
  have hi : base ≤ i := by omega
  have hj : base ≤ j := by omega
  generalize htot : signed s m (i - base).toNat + signed t n (j - base).toNat = tot
  refine ⟨_, _, _, (-base).toNat, rfl, by omega, ?_⟩
  rw [signed_natAbs _ _ (by intro h; rw [if_neg h])]
  rw [← htot, Int.add_mul, ← signed_add, ← signed_add]
  have e1 : (i - base).toNat + (base + ((-base).toNat : Int)).toNat = (i + ((-base).toNat : Int)).toNat := by omega
  have e2 : (j - base).toNat + (base + ((-base).toNat : Int)).toNat = (j + ((-base).toNat : Int)).toNat := by omega
  rw [e1, e2, hx.at' _ (by omega), hy.at' _ (by omega), Int.add_mul]

theorem signed_mul (s t : Bool) (m n a b : Nat) : signed (s ^^ t) (m * n) (a + b) = signed s m a * signed t n b := by
  have e : m * n * 2 ^ (a + b) = (m * 2 ^ a) * (n * 2 ^ b) := by rw [Nat.pow_add]; ac_rfl
  unfold signed
  rw [Nat.shiftLeft_eq, Nat.shiftLeft_eq, Nat.shiftLeft_eq, e, Int.natCast_mul]
  cases s <;> cases t <;> simp [Int.neg_mul, Int.mul_neg]

theorem di_product {x y : Datum} {a b : Int} (hx : DIf x a) (hy : DIf y b) : ∃ d, x.product y = some d ∧ DIf d (a * b) := by
  obtain ⟨s, m, i, rfl⟩ := hx.num
  obtain ⟨t, n, j, rfl⟩ := hy.num
  refine ⟨_, rfl, ?_⟩
  refine ⟨_, _, _, (-i).toNat + (-j).toNat, rfl, by omega, ?_⟩
  have e1 : (i + j + (((-i).toNat + (-j).toNat : Nat) : Int)).toNat = (i + ((-i).toNat : Int)).toNat + (j + ((-j).toNat : Int)).toNat := by omega
  rw [e1, signed_mul, hx.at' _ (by omega), hy.at' _ (by omega), Int.pow_add]
  ac_rfl

theorem di_opposite {x : Datum} {a : Int} (hx : DIf x a) : DIf x.opposite (-a) := by
  obtain ⟨s, m, e, K, rfl, h0, h1⟩ := hx
  refine ⟨!s, m, e, K, rfl, h0, ?_⟩
  rw [Int.neg_mul, ← h1]
  unfold signed
  cases s <;> simp

theorem log2_shift (m a : Nat) (h : m ≠ 0) : (m * 2 ^ a).log2 = m.log2 + a := by
  have hp : 0 < 2 ^ a := Nat.two_pow_pos a
  have h0 : m * 2 ^ a ≠ 0 := Nat.mul_ne_zero h (by omega)
  have h1 := Nat.log2_self_le h
  have h2 := @Nat.lt_log2_self m
  have h3 : m.log2 + a ≤ (m * 2 ^ a).log2 := (Nat.le_log2 h0).2 (by rw [Nat.pow_add]; exact Nat.mul_le_mul_right _ h1)
  have h4 : (m * 2 ^ a).log2 < m.log2 + 1 + a := (Nat.log2_lt h0).2 (by rw [Nat.pow_add _ _ a]; exact Nat.mul_lt_mul_of_pos_right h2 hp)
  omega

theorem cut_exact (way : Toward) (s : Bool) (x drop : Nat) : way.cut s (x * 2 ^ drop) drop = x := by
  have hp : 0 < 2 ^ drop := Nat.two_pow_pos drop
  by_cases hx : x = 0
  · subst hx
    unfold Toward.cut
    cases way <;> simp [Nat.shiftLeft_eq]
  · have hd : min drop ((x * 2 ^ drop).log2 + 2) = drop := by rw [log2_shift x drop hx]; omega
    unfold Toward.cut
    rw [hd]
    simp only [Nat.shiftLeft_eq, Nat.one_mul, Nat.mul_mod_left, Nat.mul_div_cancel _ hp]
    have hz : (2 ^ drop == 0) = false := by simp
    cases way <;> simp [hz]

theorem double_fractionBits : double.fractionBits = 52 := rfl
theorem double_leastPlace : double.leastPlace = -1074 := by decide
theorem double_binade : double.binade = 4503599627370496 := by decide
theorem double_infRung : double.infRung = 9218868437227405312 := by decide
theorem double_signWeight : double.signWeight = 9223372036854775808 := by decide

theorem read_word (s : Bool) (L kept : Nat) (hL : L ≤ 52) (h1 : 4503599627370496 ≤ kept) (h2 : kept < 9007199254740992) :
    double.read (double.word s ((L + 1022) * 4503599627370496 + kept)) = .number s kept ((L : Int) - 52) := by
  unfold Format.read Format.word
  dsimp only
  rw [double_signWeight, double_binade, double_infRung, double_leastPlace]
  cases s
  · have e1 : ((L + 1022) * 4503599627370496 + kept) % 9223372036854775808 = (L + 1022) * 4503599627370496 + kept := by omega
    have e2 : ((L + 1022) * 4503599627370496 + kept) / 9223372036854775808 % 2 = 0 := by omega
    have e3 : ¬ (L + 1022) * 4503599627370496 + kept < 4503599627370496 := by omega
    have e4 : (L + 1022) * 4503599627370496 + kept < 9218868437227405312 := by omega
    have e5 : 4503599627370496 + ((L + 1022) * 4503599627370496 + kept) % 4503599627370496 = kept := by omega
    have e6 : ((L + 1022) * 4503599627370496 + kept) / 4503599627370496 = L + 1023 := by omega
    rw [if_neg Bool.false_ne_true, e1, e2, if_neg e3, if_pos e4, e5, e6]
    exact congrArg _ (by omega)
  · have e0 : (9223372036854775808 + ((L + 1022) * 4503599627370496 + kept)) % 9223372036854775808 = (L + 1022) * 4503599627370496 + kept := by omega
    have e2 : (9223372036854775808 + ((L + 1022) * 4503599627370496 + kept)) / 9223372036854775808 % 2 = 1 := by omega
    have e3 : ¬ (L + 1022) * 4503599627370496 + kept < 4503599627370496 := by omega
    have e4 : (L + 1022) * 4503599627370496 + kept < 9218868437227405312 := by omega
    have e5 : 4503599627370496 + ((L + 1022) * 4503599627370496 + kept) % 4503599627370496 = kept := by omega
    have e6 : ((L + 1022) * 4503599627370496 + kept) / 4503599627370496 = L + 1023 := by omega
    rw [if_pos rfl, e0, e2, if_neg e3, if_pos e4, e5, e6]
    exact congrArg _ (by omega)

theorem di_signs {s : Bool} {m : Nat} {e n : Int} (h : DIf (.number s m e) n) (K : Nat) (hK : 0 ≤ e + (K : Int)) :
    m * 2 ^ (e + K).toNat = n.natAbs * 2 ^ K ∧ (m ≠ 0 → s = decide (n < 0)) := by
  have h1 := h.at' K hK
  have hp : 0 < (2 : Int) ^ K := Int.pow_pos (by decide)
  have hq : 0 < (2 : Nat) ^ (e + K).toNat := Nat.two_pow_pos _
  unfold signed at h1
  rw [Nat.shiftLeft_eq] at h1
  refine ⟨?_, ?_⟩
  · have h2 := congrArg Int.natAbs h1
    rw [Int.natAbs_mul, Int.natAbs_pow] at h2
    cases s
    · simpa [Int.natAbs_mul, Int.natAbs_pow] using h2
    · simpa [Int.natAbs_mul, Int.natAbs_pow] using h2
  · intro hm
    have hmp : 0 < m * 2 ^ (e + K).toNat := Nat.mul_pos (Nat.pos_of_ne_zero hm) hq
    by_cases hn : n < 0
    · have : n * 2 ^ K < 0 := Int.mul_neg_of_neg_of_pos hn hp
      cases s
      · simp only [Bool.false_eq_true, if_false] at h1; omega
      · simp [hn]
    · have : 0 ≤ n * 2 ^ K := Int.mul_nonneg (by omega) (by omega)
      cases s
      · simp [hn]
      · simp only [if_true] at h1; omega

theorem di_write {d : Datum} {n : Int} (h : DIf d n) (hn : n.natAbs < 9007199254740992) : DIf (double.read (double.write d)) n := by
  obtain ⟨s, m, e, rfl⟩ := h.num
  by_cases hm : m = 0
  · subst hm
    have h1 := (di_signs h (-e).toNat (by omega)).1
    rw [Nat.zero_mul] at h1
    have hz : n.natAbs = 0 := by
      rcases Nat.mul_eq_zero.1 h1.symm with h | h
      · exact h
      · exact absurd h (by have := Nat.two_pow_pos (-e).toNat; omega)
    have hn0 : n = 0 := by omega
    subst hn0
    have hr : double.read (double.write (.number s 0 e)) = .number s 0 (-1074) := by
      have hw : double.write (.number s 0 e) = double.word s 0 := rfl
      rw [hw]
      cases s <;> decide
    rw [hr]
    exact ⟨s, 0, -1074, 1074, rfl, by decide, by rw [signed_zero, Int.zero_mul]⟩
  · have hN : n.natAbs ≠ 0 := by
      intro h0
      have h1 := (di_signs h (-e).toNat (by omega)).1
      rw [h0, Nat.zero_mul] at h1
      rcases Nat.mul_eq_zero.1 h1 with h | h
      · exact hm h
      · exact absurd h (by have := Nat.two_pow_pos (e + ((-e).toNat : Int)).toNat; omega)
    have hs := (di_signs h (-e).toNat (by omega)).2 hm
    have hlog : (m.log2 : Int) + e = n.natAbs.log2 := by
      have h1 := congrArg Nat.log2 (di_signs h (-e).toNat (by omega)).1
      rw [log2_shift _ _ hm, log2_shift _ _ hN] at h1
      omega
    have hL : n.natAbs.log2 ≤ 52 := by
      have := (Nat.log2_lt hN (k := 53)).2 (by omega)
      omega
    have hlo := Nat.log2_self_le hN
    have hhi := @Nat.lt_log2_self n.natAbs
    generalize hLg : n.natAbs.log2 = L at *
    have hlast : max (e + (m.log2 : Int) - 52) (-1074) = (L : Int) - 52 := by omega
    have hkept : Toward.even.cut s (m <<< (e - ((L : Int) - 52)).toNat) ((L : Int) - 52 - e).toNat = n.natAbs * 2 ^ (52 - L) := by
      rw [Nat.shiftLeft_eq]
      have hx : m * 2 ^ (e - ((L : Int) - 52)).toNat = n.natAbs * 2 ^ (52 - L) * 2 ^ ((L : Int) - 52 - e).toNat := by
        by_cases hc : 0 ≤ e + ((52 - L : Nat) : Int)
        · have h1 := (di_signs h (52 - L) hc).1
          have e1 : (e - ((L : Int) - 52)).toNat = (e + ((52 - L : Nat) : Int)).toNat := by omega
          have e2 : ((L : Int) - 52 - e).toNat = 0 := by omega
          rw [e1, e2, h1]; simp
        · have h1 := (di_signs h ((52 - L) + ((L : Int) - 52 - e).toNat) (by omega)).1
          have e1 : (e - ((L : Int) - 52)).toNat = (e + (((52 - L) + ((L : Int) - 52 - e).toNat : Nat) : Int)).toNat := by omega
          rw [e1, h1, Nat.pow_add, Nat.mul_assoc]
      rw [hx, cut_exact]
    have hk1 : 4503599627370496 ≤ n.natAbs * 2 ^ (52 - L) := by
      have h1 : 2 ^ L * 2 ^ (52 - L) ≤ n.natAbs * 2 ^ (52 - L) := Nat.mul_le_mul_right _ hlo
      rw [← Nat.pow_add] at h1
      have e1 : L + (52 - L) = 52 := by omega
      rw [e1] at h1
      exact h1
    have hk2 : n.natAbs * 2 ^ (52 - L) < 9007199254740992 := by
      have h1 : n.natAbs * 2 ^ (52 - L) < 2 ^ (L + 1) * 2 ^ (52 - L) := Nat.mul_lt_mul_of_pos_right hhi (Nat.two_pow_pos _)
      rw [← Nat.pow_add] at h1
      have e1 : L + 1 + (52 - L) = 53 := by omega
      rw [e1] at h1
      exact h1
    have hwrite : double.write (.number s m e) = double.word s ((L + 1022) * 4503599627370496 + n.natAbs * 2 ^ (52 - L)) := by
      show double.nearest s m e = _
      unfold Format.nearest
      rw [if_neg hm]
      simp only [double_fractionBits, double_leastPlace, double_binade, double_infRung]
      have e52 : ((52 : Nat) : Int) = 52 := rfl
      rw [e52, hlast, hkept]
      have e1 : ((L : Int) - 52 - -1074).toNat = L + 1022 := by omega
      rw [e1, Nat.min_eq_left (by omega)]
    rw [hwrite, read_word s L _ hL hk1 hk2]
    refine ⟨s, _, _, 52 - L, rfl, by omega, ?_⟩
    have e1 : ((L : Int) - 52 + ((52 - L : Nat) : Int)).toNat = 0 := by omega
    rw [e1]
    unfold signed
    rw [hs]
    have hpc : ((2 ^ (52 - L) : Nat) : Int) = (2 : Int) ^ (52 - L) := by simp
    by_cases hneg : n < 0
    · simp only [hneg, decide_true, if_true, Nat.shiftLeft_zero]
      rw [Int.natCast_mul, hpc, ← Int.neg_mul]
      congr 1
      omega
    · simp only [hneg, decide_false, Bool.false_eq_true, if_false, Nat.shiftLeft_zero]
      rw [Int.natCast_mul, hpc]
      congr 1
      omega

theorem di_toInt {d : Datum} {n : Int} (h : DIf d n) : d.toInt .zero = some n := by
  obtain ⟨s, m, e, rfl⟩ := h.num
  show some (signed s (Toward.zero.cut s (m <<< e.toNat) (-e).toNat) 0) = some n
  rw [Nat.shiftLeft_eq]
  have h1 := di_signs h (-e).toNat (by omega)
  have e1 : (e + ((-e).toNat : Int)).toNat = e.toNat := by omega
  rw [e1] at h1
  rw [h1.1, cut_exact]
  by_cases hm : m = 0
  · have h0 := h1.1
    rw [hm, Nat.zero_mul] at h0
    have hz : n.natAbs = 0 := by
      rcases Nat.mul_eq_zero.1 h0.symm with h | h
      · exact h
      · exact absurd h (by have := Nat.two_pow_pos (-e).toNat; omega)
    rw [hz, signed_zero]
    congr 1
    omega
  · rw [signed_natAbs n s (fun _ => h1.2 hm)]
    simp

/-- The bits are those of a 64-bit float that holds the whole number n. -/
def FI (b : Nat) (n : Int) : Prop := DIf (FloatKind.f64.format.read b) n

theorem fi_map {d : Option Datum} {n : Int} (hd : ∃ x, d = some x ∧ DIf x n) (hn : n.natAbs < 9007199254740992) : ∃ r, d.map FloatKind.f64.format.write = some r ∧ FI r n := by
  obtain ⟨x, rfl, hx⟩ := hd
  exact ⟨_, rfl, di_write hx hn⟩

theorem fi_add {x y : Nat} {a b : Int} (hx : FI x a) (hy : FI y b) (h : (a + b).natAbs < 9007199254740992) : ∃ r, floatBits .add .f64 x y = some r ∧ FI r (a + b) :=
  fi_map (di_sum hx hy) h

theorem fi_sub {x y : Nat} {a b : Int} (hx : FI x a) (hy : FI y b) (h : (a - b).natAbs < 9007199254740992) : ∃ r, floatBits .sub .f64 x y = some r ∧ FI r (a - b) :=
  fi_map (di_sum hx (di_opposite hy)) h

theorem fi_mul {x y : Nat} {a b : Int} (hx : FI x a) (hy : FI y b) (h : (a * b).natAbs < 9007199254740992) : ∃ r, floatBits .mul .f64 x y = some r ∧ FI r (a * b) :=
  fi_map (di_product hx hy) h

theorem fi_ofInt (n : Int) (h : n.natAbs < 9007199254740992) : FI (floatOfInt .f64 n) n := by
  refine di_write (d := .number (n < 0) n.natAbs 0) ⟨_, _, _, 0, rfl, by decide, ?_⟩ h
  rw [signed_natAbs n _ (fun _ => rfl)]
  simp

theorem fi_toInt {b : Nat} {n : Int} (dst : IntKind) (h : FI b n) (h1 : dst.min ≤ n) (h2 : n ≤ dst.max) : floatToIntVal .f64 b dst = some n := by
  have e : (FloatKind.f64.decode b).toInt .zero = some n := di_toInt h
  unfold floatToIntVal
  rw [e]
  simp [h1, h2]

theorem ci_mul {a b c d : Nat} {A B C D : Int} (ha : FI a A) (hb : FI b B) (hc : FI c C) (hd : FI d D)
    (bA : A.natAbs ≤ 65536) (bB : B.natAbs ≤ 65536) (bC : C.natAbs ≤ 65536) (bD : D.natAbs ≤ 65536) :
    ∃ re im, cMulBits a b c d = some (re, im) ∧ FI re (A * C - B * D) ∧ FI im (A * D + B * C) := by
  have bound : ∀ {X Y : Int}, X.natAbs ≤ 65536 → Y.natAbs ≤ 65536 → (X * Y).natAbs ≤ 4294967296 := fun hX hY => by
    rw [Int.natAbs_mul]; exact Nat.mul_le_mul hX hY
  have b1 := bound bA bC
  have b2 := bound bB bD
  have b3 := bound bA bD
  have b4 := bound bB bC
  obtain ⟨ac, e1, f1⟩ := fi_mul ha hc (by omega)
  obtain ⟨bd, e2, f2⟩ := fi_mul hb hd (by omega)
  obtain ⟨re, e3, f3⟩ := fi_sub f1 f2 (by omega)
  obtain ⟨ad, e4, f4⟩ := fi_mul ha hd (by omega)
  obtain ⟨bc, e5, f5⟩ := fi_mul hb hc (by omega)
  obtain ⟨im, e6, f6⟩ := fi_add f4 f5 (by omega)
  exact ⟨re, im, by simp [cMulBits, e1, e2, e3, e4, e5, e6], f3, f6⟩

theorem ci_add {a b c d : Nat} {A B C D : Int} (ha : FI a A) (hb : FI b B) (hc : FI c C) (hd : FI d D)
    (h1 : (A + C).natAbs < 9007199254740992) (h2 : (B + D).natAbs < 9007199254740992) :
    ∃ re im, cSumBits .add .f64 a b c d = some (re, im) ∧ FI re (A + C) ∧ FI im (B + D) := by
  obtain ⟨re, e1, f1⟩ := fi_add ha hc h1
  obtain ⟨im, e2, f2⟩ := fi_add hb hd h2
  exact ⟨re, im, by simp [cSumBits, e1, e2], f1, f2⟩

theorem fi_one : FI 4607182418800017408 1 := by
  have e : (4607182418800017408 : Nat) = floatOfInt .f64 1 := by decide +kernel
  rw [e]; exact fi_ofInt 1 (by decide)

theorem fi_two : FI 4611686018427387904 2 := by
  have e : (4611686018427387904 : Nat) = floatOfInt .f64 2 := by decide +kernel
  rw [e]; exact fi_ofInt 2 (by decide)

theorem fi_zero : FI 0 0 := by
  have e : (0 : Nat) = floatOfInt .f64 0 := by decide +kernel
  rw [e]; exact fi_ofInt 0 (by decide)

end Go.Proofs.YtmcblhgpcgnaoaaGreatDoor


namespace Go.Proofs.YtmcblhgpcgnaoaaGreatDoor

abbrev Pair := Int × Int

def red (r : Pair) : Pair := (r.1 % 65521, r.2 % 65521)
def stepU (r : Pair) (x : Int) : Pair := (2 * r.1 - r.2 + x, r.1 + 2 * r.2)
def bhdU (l : List Int) (r : Pair) : Pair := l.foldl stepU r
def bhd (l : List Int) (r : Pair) : Pair := l.foldl (fun r x => red (stepU r x)) r
def sm (r : Pair) : Int := r.1 * 65536 + r.2
def ofS (s : Int) : Pair := ((s / 65536) % 65521, (s % 65536) % 65521)
def Red (r : Pair) : Prop := 0 ≤ r.1 ∧ r.1 < 65521 ∧ 0 ≤ r.2 ∧ r.2 < 65521

theorem red_Red (r : Pair) : Red (red r) := by unfold Red red; simp only; omega
theorem red_of_Red {r : Pair} (h : Red r) : red r = r := by
  unfold Red at h; unfold red
  exact Prod.ext (by simp only; omega) (by simp only; omega)
theorem red_stepU (r : Pair) (x : Int) : red (stepU (red r) x) = red (stepU r x) := by
  unfold red stepU
  exact Prod.ext (by simp only; omega) (by simp only; omega)

theorem bhd_red (l : List Int) : ∀ r : Pair, bhd l (red r) = red (bhdU l r) := by
  induction l with
  | nil => intro r; rfl
  | cons x l ih =>
    intro r
    show bhd l (red (stepU (red r) x)) = red (bhdU l (stepU r x))
    rw [red_stepU, ih]

theorem bhd_of_Red (l : List Int) {r : Pair} (h : Red r) : bhd l r = red (bhdU l r) := by
  rw [← bhd_red, red_of_Red h]

theorem bhd_Red (l : List Int) {r : Pair} (h : Red r) : Red (bhd l r) := by
  rw [bhd_of_Red l h]; exact red_Red _

theorem bhd_snoc (l : List Int) (x : Int) (r : Pair) : bhd (l ++ [x]) r = red (stepU (bhd l r) x) := by
  unfold bhd; rw [List.foldl_append]; rfl

theorem ofS_Red (s : Int) : Red (ofS s) := by unfold Red ofS; simp only; omega

theorem sm_bounds {r : Pair} (h : Red r) : 0 ≤ sm r ∧ sm r < 4294967296 := by
  unfold Red at h; unfold sm; omega

/-- What More answers. -/
def moreS (s : Int) (l : List Int) : Int := sm (bhd l (ofS s))
/-- What Sum answers. -/
def sumS (l : List Int) : Int := sm (bhd l (1, 0))
theorem one_Red : Red (1, 0) := by unfold Red; simp only; omega

theorem sumS_bounds (l : List Int) : 0 ≤ sumS l ∧ sumS l < 4294967296 := sm_bounds (bhd_Red l one_Red)
theorem ofS_65536 : ofS 65536 = (1, 0) := by decide

theorem sumS_more (l : List Int) : sumS l = moreS 65536 l := by unfold sumS moreS; rw [ofS_65536]

/-- Go's remainder by 65521: what is taken away, and where it lies. -/
theorem tmod_facts (x : Int) : (∃ k, x = x.tmod 65521 + 65521 * k) ∧ -65521 < x.tmod 65521 ∧ x.tmod 65521 < 65521 ∧ (0 ≤ x → x.tmod 65521 = x % 65521) ∧ (0 ≤ x.tmod 65521 → x.tmod 65521 = x % 65521) ∧ (x.tmod 65521 < 0 → x.tmod 65521 + 65521 = x % 65521) := by
  have h1 := Int.tmod_add_mul_tdiv x 65521
  have h2 : x.tmod 65521 < 65521 := Int.tmod_lt_of_pos x (by decide)
  have h3 : -65521 < x.tmod 65521 := by
    have := Int.lt_tmod_of_pos x (b := 65521) (by decide)
    omega
  refine ⟨⟨x.tdiv 65521, h1.symm⟩, h3, h2, fun h => Int.tmod_eq_emod_of_nonneg h, fun h => ?_, fun h => ?_⟩ <;> omega

end Go.Proofs.YtmcblhgpcgnaoaaGreatDoor


namespace Go.Proofs.YtmcblhgpcgnaoaaGreatDoor
open Go.RowKit

theorem tmod_lt (n : Int) (h : n.tmod 65521 < 0) : n.tmod 65521 + 65521 = n % 65521 := (tmod_facts n).2.2.2.2.2 h
theorem tmod_ge (n : Int) (h : ¬ n.tmod 65521 < 0) : n.tmod 65521 = n % 65521 := (tmod_facts n).2.2.2.2.1 (by omega)

/-- A register as the program holds it. -/
def regV (r : Pair) : Value := .complex .f64 (floatOfInt .f64 r.1) (floatOfInt .f64 r.2)

set_option maxHeartbeats 400000 in
theorem rest_any (b : Nat) (n : Int) (w : World) (h : FI b n) (hn : n.natAbs < 9007199254740992) :
    Calls Tryz.prog 301 #[.float .f64 b] w fun e w' => e = .returned (.float .f64 (floatOfInt .f64 (n % 65521))) ∧ w = w' := by
  have hv := fi_toInt .i64 h (by show -9223372036854775808 ≤ n; omega) (by show n ≤ 9223372036854775807; omega)
  have hop : ∀ w, (convert 166 2 (.float .f64 b)).run Tryz.prog w = .ok (.int .i64 n) w := fun w => run_convert_float_int w 166 2 .f64 .i64 b n (by rw [Tryz.underlying166]; rfl) Tryz.underlying2 hv
  have ht := tmod_facts n
  have h1 := ht.2.1
  have h2 := ht.2.2.1
  clear hv ht
  by_cases hneg : n.tmod 65521 < 0
  · have he := tmod_lt n hneg
    go_enter Tryz.func301, Tryz.ntmps301
    go_wp2_with (simp only [hop])
    go_ret
    exact ⟨rfl, rfl⟩
  · have he := tmod_ge n hneg
    go_enter Tryz.func301, Tryz.ntmps301
    go_wp2_with (simp only [hop])
    go_ret
    exact ⟨rfl, rfl⟩

set_option maxHeartbeats 400000 in
theorem reduced_any (x y : Nat) (a b : Int) (w : World) (hx : FI x a) (hy : FI y b) (ha : a.natAbs < 9007199254740992) (hb : b.natAbs < 9007199254740992) :
    Calls Tryz.prog 282 #[.complex .f64 x y] w fun e w' => e = .returned (regV (red (a, b))) ∧ w = w' := by
  go_enter Tryz.func282, Tryz.ntmps282
  go_wp2_with (go_at_call 301; refine (rest_any _ _ _ (by assumption) (by assumption)).mono ?_; rintro e w' ⟨rfl, rfl⟩)
  go_ret
  exact ⟨rfl, rfl⟩

theorem fi_fst {r : Pair} (h : Red r) : FI (floatOfInt .f64 r.1) r.1 := fi_ofInt _ (by unfold Red at h; omega)
theorem fi_snd {r : Pair} (h : Red r) : FI (floatOfInt .f64 r.2) r.2 := fi_ofInt _ (by unfold Red at h; omega)

set_option maxHeartbeats 400000 in
theorem sum_any (r : Pair) (w : World) (h : Red r) :
    Calls Tryz.prog 246 #[regV r] w fun e w' => e = .returned (.int .u32 (sm r)) ∧ w = w' := by
  have hR := h
  unfold Red at hR
  obtain ⟨k0, k1, k2, k3⟩ := hR
  have c1 : ∀ w, (convert 166 167 (.float .f64 (floatOfInt .f64 r.1))).run Tryz.prog w = .ok (.int .u32 r.1) w := fun w =>
    run_convert_float_int w 166 167 .f64 .u32 _ r.1 (by rw [Tryz.underlying166]; rfl) Tryz.underlying167 (fi_toInt .u32 (fi_fst h) (by show 0 ≤ r.1; omega) (by show r.1 ≤ 4294967295; omega))
  have c2 : ∀ w, (convert 166 167 (.float .f64 (floatOfInt .f64 r.2))).run Tryz.prog w = .ok (.int .u32 r.2) w := fun w =>
    run_convert_float_int w 166 167 .f64 .u32 _ r.2 (by rw [Tryz.underlying166]; rfl) Tryz.underlying167 (fi_toInt .u32 (fi_snd h) (by show 0 ≤ r.2; omega) (by show r.2 ≤ 4294967295; omega))
  clear h
  unfold regV
  go_enter Tryz.func246, Tryz.ntmps246
  go_wp2_with (simp only [c1, c2])
  go_ret
  exact ⟨rfl, rfl⟩

/-- A step of the register, as the program takes it. -/
theorem step_ops (R : Pair) (hR : Red R) (x : Int) (h0 : 0 ≤ x) (h1 : x ≤ 255) :
    ∃ re im re2 im2 : Nat, (∀ t w, (binOp .mul t (.complex .f64 4611686018427387904 4607182418800017408) (.complex .f64 (floatOfInt .f64 R.1) (floatOfInt .f64 R.2))).run Tryz.prog w = .ok (.complex .f64 re im) w) ∧
      (∀ t w, (binOp .add t (.complex .f64 re im) (.complex .f64 (floatOfInt .f64 x) 0)).run Tryz.prog w = .ok (.complex .f64 re2 im2) w) ∧
      FI re2 (stepU R x).1 ∧ FI im2 (stepU R x).2 ∧ (stepU R x).1.natAbs < 9007199254740992 ∧ (stepU R x).2.natAbs < 9007199254740992 := by
  have hR' := hR
  unfold Red at hR'
  obtain ⟨re, im, e1, f1, f2⟩ := ci_mul fi_two fi_one (fi_fst hR) (fi_snd hR) (by omega) (by omega) (by omega) (by omega)
  have fx := fi_ofInt x (by omega)
  obtain ⟨re2, im2, e2, f3, f4⟩ := ci_add f1 f2 fx fi_zero (by omega) (by omega)
  have s1 : 2 * R.1 - 1 * R.2 + x = (stepU R x).1 := by unfold stepU; simp only; omega
  have s2 : 2 * R.2 + 1 * R.1 + 0 = (stepU R x).2 := by unfold stepU; simp only; omega
  rw [s1] at f3
  rw [s2] at f4
  refine ⟨re, im, re2, im2, fun t w => run_complex_mul w t _ _ _ _ _ _ e1, fun t w => run_complex_sum w .add (Or.inl rfl) t .f64 _ _ _ _ _ _ e2, f3, f4, ?_, ?_⟩
  · rw [← s1]; omega
  · rw [← s2]; omega

set_option maxHeartbeats 400000 in
theorem behind_any (r : Pair) (a : Option Addr) (len cap : Nat) (zs : List Int) (w : World) (hr : Red r) (hb : Bts w a len zs) :
    Calls Tryz.prog 245 #[regV r, .slice a len cap] w fun e w' => e = .returned (regV (bhd zs r)) ∧ w = w' := by
  obtain ⟨hl, hm, hz, hc⟩ := hb
  rcases hc with rfl | ⟨b, off, rfl, hc⟩
  · have : zs = [] := List.length_eq_zero_iff.1 hl
    subst this
    unfold regV
    go_enter Tryz.func245, Tryz.ntmps245
    go_wp2
    go_loop [0, 9] (fun rv i => i = .int .i64 0 ∧ rv = .complex .f64 (floatOfInt .f64 r.1) (floatOfInt .f64 r.2)) (fun _ i => 0 - (intOf i).toNat)
    case atStart => exact ⟨rfl, rfl⟩
    case round =>
      obtain ⟨rfl, rfl⟩ := hrel
      go_wp2
      go_ret
      exact ⟨rfl, rfl⟩
  · have HL : Hid (zs.length = len) := Lib.hid hl
    clear hl
    unfold regV
    go_enter Tryz.func245, Tryz.ntmps245
    go_wp2
    go_loop [0, 9] (fun rv i => ∃ (k : Nat) (R : Pair), k ≤ len ∧ i = .int .i64 k ∧ rv = .complex .f64 (floatOfInt .f64 R.1) (floatOfInt .f64 R.2) ∧ R = bhd (zs.take k) r) (fun _ i => len - (intOf i).toNat)
    case atStart => exact ⟨0, r, Nat.zero_le _, rfl, rfl, rfl⟩
    case round =>
      obtain ⟨k, R, hk, rfl, rfl, hR⟩ := hrel
      have hRed : Red R := by rw [hR]; exact bhd_Red _ hr
      have HR : Hid (R = bhd (zs.take k) r) := Lib.hid hR
      clear hR
      by_cases hlt : k < len
      · have hcell := hc k hlt
        have hx := hz _ (getD_mem (l := zs) (k := k) (by rw [HL.out]; exact hlt))
        have HN : Hid (bhd (zs.take (k + 1)) r = red (stepU R (zs.getD k 0))) := Lib.hid (by rw [take_snoc zs k (by rw [HL.out]; exact hlt), bhd_snoc, HR.out])
        obtain ⟨x, HX⟩ : ∃ x, Hid (x = zs.getD k 0) := ⟨_, Lib.hid rfl⟩
        rw [← HX.out] at hcell hx HN
        obtain ⟨hx0, hx1⟩ := hx
        obtain ⟨re, im, re2, im2, o1, o2, f1, f2, b1, b2⟩ := step_ops R hRed x hx0 hx1
        clear hz hc
        go_wp2_with (first | (go_at_call 282; refine (reduced_any _ _ _ _ _ f1 f2 b1 b2).mono ?_; rintro e w' ⟨rfl, rfl⟩))
        go_round
        case rel => exact ⟨k + 1, red (stepU R x), by omega, by go_num, rfl, HN.out.symm⟩
        case measure => simp [intOf]; omega
      · have : k = len := by omega
        subst this
        go_wp2
        go_ret
        have e1 : zs.take k = zs := List.take_of_length_le (by rw [HL.out]; exact Nat.le_refl _)
        have e2 : R = bhd zs r := by rw [HR.out, e1]
        exact ⟨by rw [e2]; rfl, rfl⟩

theorem one_bits : (4607182418800017408 : Nat) = floatOfInt .f64 1 := by decide +kernel
theorem begin_regV : Value.complex .f64 4607182418800017408 0 = regV (1, 0) := by rw [one_bits]; rfl

set_option maxHeartbeats 400000 in
theorem Sum_any (a : Option Addr) (len cap : Nat) (zs : List Int) (w : World) (hb : Bts w a len zs) :
    Calls Tryz.prog 199 #[.slice a len cap] w fun e w' => e = .returned (.int .u32 (sumS zs)) ∧ w = w' := by
  have c2 := behind_any (1, 0) a len cap zs w one_Red hb
  have c3 := sum_any (bhd zs (1, 0)) w (bhd_Red zs one_Red)
  rw [← begin_regV] at c2
  clear hb
  go_enter Tryz.func199, Tryz.ntmps199
  go_wp2_with (first | (go_at_call 245; refine c2.mono ?_; rintro e w' ⟨rfl, rfl⟩) | (go_at_call 246; refine c3.mono ?_; rintro e w' ⟨rfl, rfl⟩))
  go_ret
  exact ⟨rfl, rfl⟩

theorem tmod_again (x : Int) : (x.tmod 65521 + 65521) % 65521 = x % 65521 := by
  obtain ⟨⟨k, hk⟩, h⟩ := tmod_facts x
  omega

end Go.Proofs.YtmcblhgpcgnaoaaGreatDoor


namespace Go.Proofs.YtmcblhgpcgnaoaaGreatDoor
open Go.RowKit

set_option maxHeartbeats 400000 in
theorem fSum_any (ao : Option Addr) (cap : Nat) (zs : List Int) (w : World) (hA : Arg w ao 64 cap zs) :
    Calls Tryz.prog 163 #[.slice ao 64 cap] w fun e w' => e = .returned (.string (str (leB (sumS (zs.take 60)) 4))) ∧ Below w.heap.size w w' := by
  obtain ⟨hB, _, hcap, _⟩ := hA
  obtain ⟨b, off, rfl, _⟩ := hB.2.2.2.resolve_left (by decide)
  have cS := Sum_any (some ⟨b, off, none⟩) 60 cap (zs.take 60) w (bts_take hB (by decide))
  have hSb := sumS_bounds (zs.take 60)
  have cB := fBytes_any 4 (sumS (zs.take 60)) w (by decide)
  rw [show ((4 : Nat) : Int) = 4 from rfl] at cB
  generalize sumS (zs.take 60) = S at *
  have i2 : (60 : Int) ≤ (cap : Int) := by omega
  clear hB
  go_enter Tryz.func163, Tryz.ntmps163
  go_wp2_with (first | (go_at_call 199; refine cS.mono ?_; rintro e w' ⟨rfl, rfl⟩) | (go_at_call 218; refine cB.mono ?_; rintro e w2 ⟨rfl, hb2⟩; have HB2 := Lib.hid hb2; clear hb2))
  go_ret
  exact ⟨rfl, HB2.out⟩

set_option maxHeartbeats 400000 in
theorem fSeal_any (ao : Option Addr) (len cap : Nat) (zs : List Int) (w : World) (hA : Arg w ao len cap zs) :
    Calls Tryz.prog 98 #[.slice ao len cap] w (Handed w.heap.size w (sealOut sumS zs) (sealErr len)) := by
  have hl := hA.1.1
  by_cases h64 : len = 64
  · subst h64
    have HE8 : Hid (sealOut sumS zs = lay zs 60 (bytesOf (str (leB (sumS (zs.take 60)) 4)))) := Lib.hid (by
      unfold sealOut
      rw [if_pos hl, sealOf_take hl, bytesOf_str (leB_bytes _ _), lay_eq _ _ _ (by rw [hl, leB_length]; decide), leB_length, List.drop_of_length_le (by rw [hl]; decide), List.append_nil])
    have cS := fSum_any ao cap zs w hA
    have HC : Hid (∀ w2, Below w.heap.size w w2 → Calls Tryz.prog 162 #[.slice ao 64 cap, .int .i64 60, .string (str (leB (sumS (zs.take 60)) 4))] w2 (Gives w2.heap.size w2 (lay zs 60 (bytesOf (str (leB (sumS (zs.take 60)) 4)))))) :=
      Lib.hid (fun w2 hb => fWith_any ao cap zs 60 _ w2 (hA.1.later hb) (by rw [str_size, leB_length]; decide) (by decide))
    clear hA hl
    rw [show sealErr 64 = 0 from rfl]
    go_enter Tryz.func98, Tryz.ntmps98
    go_wp2_with (first | (go_at_call 163; refine cS.mono ?_; rintro e w2 ⟨rfl, hb2⟩; have HB2 := Lib.hid hb2; clear hb2) | (go_at_call 162; refine (HC.out _ HB2.out).mono ?_; rintro e w3 ⟨v3, rfl, hf3, hb3⟩; have HF3 := Lib.hid hf3; have HB3 := Lib.hid hb3; clear hf3 hb3))
    go_ret2
    exact ⟨v3, rfl, by rw [HE8.out]; exact HF3.out.mono HB2.out.size, HB2.out.trans (HB3.out.mono HB2.out.size)⟩
  · have HE8 : Hid (sealOut sumS zs = []) := Lib.hid (by unfold sealOut; rw [if_neg (by omega)])
    have hne : ((len : Int) != 64) = true := by simp; omega
    have HE7 : Hid (sealErr len = 2) := Lib.hid (by unfold sealErr; rw [if_neg h64])
    clear hA hl
    go_enter Tryz.func98, Tryz.ntmps98
    go_wp2
    go_ret2
    exact ⟨.slice none 0 0, by rw [HE7.out]; rfl, by rw [HE8.out]; exact Fresh.nil _ _, Below.refl _ _⟩

end Go.Proofs.YtmcblhgpcgnaoaaGreatDoor


namespace Go.Proofs.YtmcblhgpcgnaoaaGreatDoor

/-- A short text, sealed. -/
theorem seal_short {sum : List Int → Int} {l : List Int} (h : l.length ≤ 60) : sealOf sum l = (l ++ List.replicate (60 - l.length) 0) ++ leB (sum (l ++ List.replicate (60 - l.length) 0)) 4 := by
  have e : (l ++ List.replicate (60 - l.length) 0).take 60 = l ++ List.replicate (60 - l.length) 0 := List.take_of_length_le (by rw [List.length_append, List.length_replicate]; omega)
  unfold sealOf
  rw [e]

theorem seal_short_length {sum : List Int → Int} {l : List Int} (h : l.length ≤ 60) : (sealOf sum l).length = 64 := by
  rw [seal_short h, List.length_append, leB_length, List.length_append, List.length_replicate]
  omega

/-- The first bytes of a short text, sealed, are its own. -/
theorem seal_short_at {sum : List Int → Int} {l : List Int} (h : l.length ≤ 60) {k : Nat} (hk : k < l.length) : (sealOf sum l).getD k 0 = l.getD k 0 := by
  rw [seal_short h, List.append_assoc, List.getD_eq_getElem?_getD, List.getElem?_append_left hk, ← List.getD_eq_getElem?_getD]

theorem leN_of_eq {zs ys : List Int} {p q : Nat} : ∀ (k : Nat), (∀ j, j < k → zs.getD (p + j) 0 = ys.getD (q + j) 0) → leN zs p k = leN ys q k
  | 0, _ => rfl
  | k + 1, h => by
    show leN zs p k + zs.getD (p + k) 0 * 256 ^ k = leN ys q k + ys.getD (q + k) 0 * 256 ^ k
    rw [leN_of_eq k (fun j hj => h j (by omega)), h k (by omega)]

/-- 64 bytes that are right ahead of the sum, sealed. -/
theorem sealed_of {zs l : List Int} (hl : l.length ≤ 60) (h64 : zs.length = 64) (h : ∀ k, k < 60 → zs.getD k 0 = l.getD k 0) : sealOf sumS zs = sealOf sumS l := by
  have e : zs.take 60 = l ++ List.replicate (60 - l.length) 0 := by
    refine List.ext_getElem (by rw [List.length_take, List.length_append, List.length_replicate]; omega) (fun k h1 h2 => ?_)
    rw [List.length_take] at h1
    have hk := h k (by omega)
    rw [List.getD_eq_getElem?_getD, List.getElem?_eq_getElem (by omega), Option.getD_some] at hk
    rw [List.getElem_take, hk]
    by_cases hkl : k < l.length
    · rw [List.getElem_append_left hkl]
      simp [List.getD, hkl]
    · rw [List.getElem_append_right (by omega), List.getElem_replicate]
      simp [List.getD, List.getElem?_eq_none (show l.length ≤ k by omega)]
  rw [sealOf_take h64, seal_short hl, e]

end Go.Proofs.YtmcblhgpcgnaoaaGreatDoor


namespace Go.Proofs.YtmcblhgpcgnaoaaGreatDoor
open Go.RowKit

set_option maxHeartbeats 400000 in
theorem refMore_any (s : Int) (a : Option Addr) (len cap : Nat) (zs : List Int) (w : World) (h0 : 0 ≤ s) (h1 : s < 4294967296) (hb : Bts w a len zs) :
    Calls Tryz.prog 165 #[.int .u32 s, .slice a len cap] w fun e w' => e = .returned (.int .u32 (moreS s zs)) ∧ w = w' := by
  obtain ⟨hl, hm, hz, hc⟩ := hb
  rcases hc with rfl | ⟨b, off, rfl, hc⟩
  · have : zs = [] := List.length_eq_zero_iff.1 hl
    subst this
    obtain ⟨R, HR⟩ : ∃ R, Hid (R = ofS s) := ⟨_, Lib.hid rfl⟩
    have hRed : Red R := by rw [HR.out]; exact ofS_Red s
    unfold Red at hRed
    obtain ⟨k0, k1, k2, k3⟩ := hRed
    go_enter Tryz.func165, Tryz.ntmps165
    go_wp2
    go_loop [5, 6, 7] (fun av bv i => i = .int .i64 0 ∧ av = .int .i64 R.1 ∧ bv = .int .i64 R.2) (fun _ _ i => 0 - (intOf i).toNat)
    case atStart => exact ⟨rfl, by rw [HR.out]; rfl, by rw [HR.out]; rfl⟩
    case round =>
      obtain ⟨rfl, rfl, rfl⟩ := hrel
      go_wp2
      go_ret
      exact ⟨ret_int (by show R.1 * 65536 + R.2 = sm (ofS s); rw [HR.out]; rfl), rfl⟩
  · have HL : Hid (zs.length = len) := Lib.hid hl
    clear hl
    go_enter Tryz.func165, Tryz.ntmps165
    go_wp2
    go_loop [5, 6, 7] (fun av bv i => ∃ (k : Nat) (R : Pair), k ≤ len ∧ i = .int .i64 k ∧ av = .int .i64 R.1 ∧ bv = .int .i64 R.2 ∧ R = bhd (zs.take k) (ofS s)) (fun _ _ i => len - (intOf i).toNat)
    case atStart => exact ⟨0, ofS s, Nat.zero_le _, rfl, rfl, rfl, rfl⟩
    case round =>
      obtain ⟨k, R, hk, rfl, rfl, rfl, hR⟩ := hrel
      have hRed : Red R := by rw [hR]; exact bhd_Red _ (ofS_Red s)
      have HR : Hid (R = bhd (zs.take k) (ofS s)) := Lib.hid hR
      clear hR
      have hRed' := hRed
      unfold Red at hRed'
      obtain ⟨k0, k1, k2, k3⟩ := hRed'
      by_cases hlt : k < len
      · have hcell := hc k hlt
        have hx := hz _ (getD_mem (l := zs) (k := k) (by rw [HL.out]; exact hlt))
        have HN : Hid (bhd (zs.take (k + 1)) (ofS s) = red (stepU R (zs.getD k 0))) := Lib.hid (by rw [take_snoc zs k (by rw [HL.out]; exact hlt), bhd_snoc, HR.out])
        obtain ⟨x, HX⟩ : ∃ x, Hid (x = zs.getD k 0) := ⟨_, Lib.hid rfl⟩
        rw [← HX.out] at hcell hx HN
        obtain ⟨hx0, hx1⟩ := hx
        have ht := tmod_facts (2 * R.1 - R.2 + x)
        have ht1 := ht.2.1
        have ht2 := ht.2.2.1
        clear hz hc ht
        go_wp2
        go_round
        case rel => exact ⟨k + 1, red (stepU R x), by omega, by go_num, by rw [tmod_again]; rfl, rfl, HN.out.symm⟩
        case measure => simp [intOf]; omega
      · have : k = len := by omega
        subst this
        go_wp2
        go_ret
        have e1 : zs.take k = zs := List.take_of_length_le (by rw [HL.out]; exact Nat.le_refl _)
        have e2 : R = bhd zs (ofS s) := by rw [HR.out, e1]
        exact ⟨ret_int (by unfold moreS; rw [← e2]; rfl), rfl⟩

set_option maxHeartbeats 400000 in
theorem refSum_any (a : Option Addr) (len cap : Nat) (zs : List Int) (w : World) (hb : Bts w a len zs) :
    Calls Tryz.prog 105 #[.slice a len cap] w fun e w' => e = .returned (.int .u32 (sumS zs)) ∧ w = w' := by
  have c := refMore_any 65536 a len cap zs w (by decide) (by decide) hb
  rw [← sumS_more] at c
  clear hb
  go_enter Tryz.func105, Tryz.ntmps105
  go_wp2_with (go_at_call 165; refine c.mono ?_; rintro e w' ⟨rfl, rfl⟩)
  go_ret
  exact ⟨rfl, rfl⟩

end Go.Proofs.YtmcblhgpcgnaoaaGreatDoor


namespace Go.Proofs.YtmcblhgpcgnaoaaGreatDoor
open Go.RowKit

/-- What Put hands back: the bytes l in a row of the call's own. -/
def PutPost (base : Nat) (w0 : World) (n : Nat) (l : List Int) (e : Ending) (w' : World) : Prop :=
  ∃ v, e = .returned v ∧ w'.ownsRow base 5 1 v n (l.map (Value.int .u8)) ∧ Below base w0 w'

set_option maxHeartbeats 400000 in
theorem Put04_any (base : Nat) (v : Value) (len : Nat) (zs : List Int) (n : Int) (k : Nat) (w : World) (hown : w.ownsRow base 5 1 v len (zs.map (Value.int .u8))) (hbase : base ≤ w.heap.size)
    (hn0 : 0 ≤ n) (hn1 : n ≤ 9223372036854775807) (hk : k ≤ 8) (hlen : len ≤ 140737488355320) :
    Calls Tryz.prog 90 #[v, .int .i64 n, .int .i64 k] w (PutPost base w (len + k) (zs ++ leB n k)) := by
  go_enter Tryz.func90, Tryz.ntmps90
  go_wp2
  have HO := Lib.hid hown
  clear hown
  go_loopw [0, 7] (fun vv iv wr => ∃ j : Nat, j ≤ k ∧ iv = .int .i64 j ∧ Hid (wr.ownsRow base 5 1 vv (len + j) ((zs ++ leB n j).map (Value.int .u8))) ∧ Hid (Below base w wr)) (fun _ iv _ => k - (intOf iv).toNat)
  case atStart => exact ⟨0, Nat.zero_le _, rfl, Lib.hid (by rw [show leB n 0 = [] from rfl, List.append_nil]; exact HO.out), Lib.hid (Below.refl _ _)⟩
  case round =>
    obtain ⟨j, hj, rfl, HR, HB⟩ := hrel
    by_cases hlt : j < k
    · have HX : Hid (0 ≤ n / 2 ^ (8 * j) % 256 ∧ n / 2 ^ (8 * j) % 256 ≤ 255) := Lib.hid (by omega)
      have HS : Hid (base ≤ wr.heap.size + 1) := Lib.hid (by have := HB.out.size; omega)
      go_wp2_with (at_builtin; refine wp_append_bytes rfl (.tmp 13) (.tmp 21) rfl base (len + j) _ _ rfl (HR.out.alloc _) (some ⟨wr.heap.size, 0, none⟩) 1 1 [n / 2 ^ (8 * j) % 256] rfl (one_bts wr _ HX.out) (by simp) (by omega) (by simpa using HS.out) ?_; intro v1 w1 hown1 hb1; have HO1 := Lib.hid hown1; have HB1 := Lib.hid hb1; clear hown1 hb1)
      go_roundw
      case rel =>
        refine ⟨j + 1, by omega, by go_num, Lib.hid ?_, Lib.hid ((HB.out.alloc (by have := HB.out.size; omega) _).trans HB1.out)⟩
        have e := HO1.out
        rw [pow_two_bytes, ← List.map_append, List.append_assoc] at e
        exact e
      case measure => simp [intOf]; omega
    · have hjk : j = k := by omega
      subst hjk
      go_wp2
      go_ret
      exact ⟨_, rfl, HR.out, HB.out⟩

end Go.Proofs.YtmcblhgpcgnaoaaGreatDoor


namespace Go.Proofs.YtmcblhgpcgnaoaaGreatDoor
open Go.RowKit

set_option maxHeartbeats 400000 in
theorem Seal04_any (ao : Option Addr) (len cap : Nat) (zs : List Int) (w : World) (hA : Arg w ao len cap zs) :
    Calls Tryz.prog 56 #[.slice ao len cap] w (Gives w.heap.size w (sealOf sumS zs)) := by
  obtain ⟨hB, hnil, _, hlen⟩ := hA
  have hown := World.ownsRow_made (base := w.heap.size) (e := 5) (size := 1) w #[] 0 (Nat.le_refl _) (by decide) rfl
  have hb0 : Below w.heap.size w (w.alloc (.cells #[] 5)) := (Below.refl _ _).alloc (Nat.le_refl _) _
  have hA0 := hB.later hb0
  have HL := Lib.hid hB.1
  have HZ := Lib.hid hB.2.2.1
  have HN := Lib.hid hnil
  clear hB hnil
  go_enter Tryz.func56, Tryz.ntmps56
  go_wp2_with (at_builtin; refine wp_append_bytes rfl (.tmp 4) (.tmp 5) rfl w.heap.size 0 _ [] rfl hown ao len cap zs rfl hA0 HN.out (by omega) (by simp) ?_; intro v1 w1 hown1 hb1; have HB1 := Lib.hid (hb0.trans hb1); have HO1 := Lib.hid hown1; clear hown1 hb1 hown hA0)
  have HF : Hid (∃ ao1 c1, v1 = .slice ao1 len c1) := Lib.hid (by
    have h := HO1.out
    rw [Nat.zero_add, List.nil_append] at h
    obtain ⟨a, c, hv, _⟩ := owns_bts h HZ.out (by omega)
    exact ⟨a, c, hv⟩)
  go_loopw [3] (fun vv wr => ∃ (j : Nat) (ao1 : Option Addr) (c1 : Nat), (j = 0 ∨ len + j ≤ 60) ∧ vv = .slice ao1 (len + j) c1 ∧ Hid (wr.ownsRow w.heap.size 5 1 (.slice ao1 (len + j) c1) (len + j) ((zs ++ List.replicate j 0).map (Value.int .u8))) ∧ Hid (Below w.heap.size w wr)) (fun vv _ => 60 - (match vv with | .slice _ n _ => n | _ => 0))
  case atStart =>
    obtain ⟨a, c, hv⟩ := HF.out
    refine ⟨0, a, c, Or.inl rfl, hv, Lib.hid ?_, HB1⟩
    have h := HO1.out
    rw [hv, Nat.zero_add, List.nil_append] at h
    simpa using h
  case round =>
    obtain ⟨j, ao1, c1, hj, rfl, HR, HB⟩ := hrel
    by_cases hlt : len + j < 60
    · have i1 : ((len + j : Nat) : Int) < 60 := by omega
      have HS : Hid (w.heap.size ≤ wr.heap.size + 1) := Lib.hid (by have := HB.out.size; omega)
      go_wp2_with (at_builtin; refine wp_append_bytes rfl (.tmp 10) (.tmp 11) rfl w.heap.size (len + j) _ _ rfl (HR.out.alloc _) (some ⟨wr.heap.size, 0, none⟩) 1 1 [0] rfl (one_bts wr 0 (by decide)) (by simp) (by omega) (by simpa using HS.out) ?_; intro v1 w1 hown1 hb1; have HO2 := Lib.hid hown1; have HB2 := Lib.hid hb1; clear hown1 hb1)
      have HF2 : Hid (∃ ao2 c2, v1 = .slice ao2 (len + (j + 1)) c2) := Lib.hid (by
        have h := HO2.out
        have e : zs ++ List.replicate j 0 ++ [0] = zs ++ List.replicate (j + 1) 0 := by rw [List.append_assoc, ← List.replicate_succ']
        rw [← List.map_append, e] at h
        obtain ⟨a, c, hv, _⟩ := owns_bts h (by
          intro z hz
          rcases List.mem_append.1 hz with hz | hz
          · exact HZ.out z hz
          · rw [List.eq_of_mem_replicate hz]; decide) (by omega)
        exact ⟨a, c, hv⟩)
      obtain ⟨a, c, hv⟩ := HF2.out
      refine ⟨⟨j + 1, a, c, by omega, hv, Lib.hid ?_, Lib.hid ((HB.out.alloc (by have := HB.out.size; omega) _).trans HB2.out)⟩, ?_⟩
      · have h := HO2.out
        have e : zs ++ List.replicate j 0 ++ [0] = zs ++ List.replicate (j + 1) 0 := by rw [List.append_assoc, ← List.replicate_succ']
        rw [← List.map_append, e, hv] at h
        exact h
      · rw [hv]
        show 60 - (len + (j + 1)) < 60 - (len + j)
        omega
    · have HT : Hid ((zs ++ List.replicate j 0).take 60 = (zs ++ List.replicate (60 - zs.length) 0).take 60) := Lib.hid (by
        have hl := HL.out
        rcases hj with rfl | hj
        · have e : 60 - zs.length = 0 := by omega
          rw [e]
        · have e : 60 - zs.length = j := by omega
          rw [e])
      have HLL : Hid (∀ z ∈ (zs ++ List.replicate j 0).take 60, 0 ≤ z ∧ z ≤ 255) := Lib.hid (by
        intro z hz
        rcases List.mem_append.1 (List.mem_of_mem_take hz) with hz | hz
        · exact HZ.out z hz
        · rw [List.eq_of_mem_replicate hz]; decide)
      obtain ⟨g, c2, hv, _, _⟩ := HR.out.form (by omega)
      simp only [Value.slice.injEq, true_and] at hv
      obtain ⟨rfl, rfl⟩ := hv
      have HR2 := Lib.hid (owns_take (k := 60) HR.out (by omega))
      rw [← List.map_take, HT.out] at HR2
      rw [HT.out] at HLL
      have hcap : len + j ≤ c1 := by
        rcases HR.out.2 with ⟨h, _⟩ | ⟨g', cap', cur, h, _, _, hc, _⟩
        · cases h
        · simp only [Value.slice.injEq, Option.some.injEq, Addr.mk.injEq, and_true, true_and] at h
          omega
      obtain ⟨ao3, c3, hv3, hB3⟩ := owns_bts HR2.out HLL.out (by decide)
      simp only [Value.slice.injEq, true_and] at hv3
      obtain ⟨rfl, rfl⟩ := hv3
      have HG : Hid (sealOf sumS zs = (zs ++ List.replicate (60 - zs.length) 0).take 60 ++ leB (sumS ((zs ++ List.replicate (60 - zs.length) 0).take 60)) 4) := Lib.hid rfl
      generalize (zs ++ List.replicate (60 - zs.length) 0).take 60 = L at *
      have cS := refSum_any (some ⟨g, 0, none⟩) 60 c1 L wr.drew ((show Bts wr.drew (some ⟨g, 0, none⟩) 60 L from hB3))
      have hSb := sumS_bounds L
      have cP := Put04_any w.heap.size (.slice (some ⟨g, 0, none⟩) 60 c1) 60 L (sumS L) 4 wr.drew HR2.out.drew (show w.heap.size ≤ wr.heap.size from HB.out.size) hSb.1 (by omega) (by decide) (by decide)
      rw [show ((4 : Nat) : Int) = 4 from rfl] at cP
      generalize sumS L = S at *
      clear hB3
      have i1 : ¬ ((len + j : Nat) : Int) < 60 := by omega
      have i2 : (60 : Int) ≤ (c1 : Int) := by omega
      have hw : IntKind.i64.wrap S = S := IntWalk.i64_in _ (by omega)
      go_wp2_with fail
      go_region_with (first | (go_at_call 105; refine cS.mono ?_; rintro e w' ⟨rfl, rfl⟩) | (go_at_call 90; refine cP.mono ?_; rintro e w5 ⟨v5, rfl, h5, b5⟩; have H5 := Lib.hid h5; have B5 := Lib.hid b5; clear h5 b5))
      clear hw
      go_wp2_with fail
      go_ret
      refine ⟨_, rfl, ?_, HB.out.drew.trans B5.out⟩
      rw [HG.out]
      exact fresh_of_owns H5.out (fun z hz => (List.mem_append.1 hz).elim (HLL.out z) (leB_bytes _ _ z)) (by decide)

end Go.Proofs.YtmcblhgpcgnaoaaGreatDoor


namespace Go.Proofs.YtmcblhgpcgnaoaaGreatDoor
open Go.RowKit

def dryd : List Int := [68, 82, 89, 68]
def headT : List Int := [72, 69, 65, 68]

/-- What is told of a volume. -/
structure PSup where
  a : Int
  b : Int
  c : Int
  d : Int
  e : Int
  deriving DecidableEq

structure PHead where
  a : Int
  b : Int
  deriving DecidableEq

def PSup.sound (s : PSup) : Bool := decide (64 ≤ s.a ∧ s.a ≤ 480 ∧ 1 ≤ s.b ∧ s.b ≤ 3 ∧ 0 ≤ s.c ∧ s.c ≤ 3 ∧ 0 ≤ s.d ∧ s.d ≤ 32 ∧ 0 ≤ s.e ∧ s.e ≤ 480)
def PHead.sound (h : PHead) : Bool := decide (0 ≤ h.a ∧ h.a ≤ 39 ∧ 1 ≤ h.b ∧ h.b ≤ 1073741824)
def supB (s : PSup) : List Int := dryd ++ leB s.a 2 ++ leB s.b 1 ++ leB s.c 1 ++ leB s.d 2 ++ leB s.e 2
def headB (h : PHead) : List Int := headT ++ leB h.a 4 ++ leB h.b 4
def supBlock (s : PSup) : List Int := sealOf sumS (supB s)
def headBlock (h : PHead) : List Int := sealOf sumS (headB h)
def supErr (s : PSup) : Int := if s.sound = true then 0 else 2
def supOut (s : PSup) : List Int := if s.sound = true then supBlock s else []
def headErr (h : PHead) : Int := if h.sound = true then 0 else 2
def headOut (h : PHead) : List Int := if h.sound = true then headBlock h else []
def noSup : PSup := ⟨0, 0, 0, 0, 0⟩
/-- What a block is as a Super, its soundness apart. -/
def readSup (zs : List Int) : PSup := ⟨leN zs 4 2, zs.getD 6 0, zs.getD 7 0, zs.getD 8 0, leN zs 10 2⟩
def readHead (zs : List Int) : PHead := ⟨zs.getD 4 0, leN zs 8 4⟩
def isSup (zs : List Int) : Bool := decide (zs.length = 64) && ((readSup zs).sound && decide (supBlock (readSup zs) = zs))
def isHead (zs : List Int) : Bool := decide (zs.length = 64) && ((readHead zs).sound && decide (headBlock (readHead zs) = zs))
def getSup (zs : List Int) : PSup := if isSup zs = true then readSup zs else noSup
def getSupErr (zs : List Int) : Int := if isSup zs = true then 0 else 2
def getHeadErr (zs : List Int) : Int := if isHead zs = true then 0 else 2

def PSup.val (s : PSup) : Value := .agg #[.int .i64 s.a, .int .i64 s.b, .int .i64 s.c, .int .i64 s.d, .int .i64 s.e]
def PHead.val (h : PHead) : Value := .agg #[.int .i64 h.a, .int .i64 h.b]
def i64w (x : Int) : Prop := -9223372036854775808 ≤ x ∧ x ≤ 9223372036854775807
def PSup.in64 (s : PSup) : Prop := i64w s.a ∧ i64w s.b ∧ i64w s.c ∧ i64w s.d ∧ i64w s.e
def PHead.in64 (h : PHead) : Prop := i64w h.a ∧ i64w h.b

/-! ### Plain facts -/

theorem supB_length (s : PSup) : (supB s).length = 12 := by
  unfold supB
  simp only [List.length_append, leB_length]
  rfl
theorem headB_length (h : PHead) : (headB h).length = 12 := by
  unfold headB
  simp only [List.length_append, leB_length]
  rfl
theorem supB_bytes (s : PSup) : ∀ z ∈ supB s, 0 ≤ z ∧ z ≤ 255 := by
  intro z hz
  unfold supB at hz
  simp only [List.mem_append] at hz
  rcases hz with ((((h | h) | h) | h) | h) | h
  · unfold dryd at h; simp at h; omega
  all_goals exact leB_bytes _ _ z h
theorem headB_bytes (h : PHead) : ∀ z ∈ headB h, 0 ≤ z ∧ z ≤ 255 := by
  intro z hz
  unfold headB at hz
  simp only [List.mem_append] at hz
  rcases hz with (h' | h') | h'
  · unfold headT at h'; simp at h'; omega
  all_goals exact leB_bytes _ _ z h'

end Go.Proofs.YtmcblhgpcgnaoaaGreatDoor


namespace Go.Proofs.YtmcblhgpcgnaoaaGreatDoor
open Go.RowKit

theorem supBlock_length (s : PSup) : (supBlock s).length = 64 := seal_short_length (by rw [supB_length]; decide)
theorem headBlock_length (s : PHead) : (headBlock s).length = 64 := seal_short_length (by rw [headB_length]; decide)
theorem supBlock_at (s : PSup) {k : Nat} (h : k < 12) : (supBlock s).getD k 0 = (supB s).getD k 0 := seal_short_at (by rw [supB_length]; decide) (by rw [supB_length]; exact h)
theorem headBlock_at (s : PHead) {k : Nat} (h : k < 12) : (headBlock s).getD k 0 = (headB s).getD k 0 := seal_short_at (by rw [headB_length]; decide) (by rw [headB_length]; exact h)

theorem leN2 (zs : List Int) (p : Nat) : leN zs p 2 = zs.getD p 0 + zs.getD (p + 1) 0 * 256 := by
  show (0 + zs.getD (p + 0) 0 * 256 ^ 0) + zs.getD (p + 1) 0 * 256 ^ 1 = _
  rw [Nat.add_zero]
  omega
theorem leN4 (zs : List Int) (p : Nat) : leN zs p 4 = zs.getD p 0 + zs.getD (p + 1) 0 * 256 + zs.getD (p + 2) 0 * 65536 + zs.getD (p + 3) 0 * 16777216 := by
  show (((0 + zs.getD (p + 0) 0 * 256 ^ 0) + zs.getD (p + 1) 0 * 256 ^ 1) + zs.getD (p + 2) 0 * 256 ^ 2) + zs.getD (p + 3) 0 * 256 ^ 3 = _
  rw [Nat.add_zero]
  omega

theorem read_sup {s : PSup} (h : s.sound = true) : readSup (supBlock s) = s := by
  obtain ⟨a, b, c, d, e⟩ := s
  have h' : 64 ≤ a ∧ a ≤ 480 ∧ 1 ≤ b ∧ b ≤ 3 ∧ 0 ≤ c ∧ c ≤ 3 ∧ 0 ≤ d ∧ d ≤ 32 ∧ 0 ≤ e ∧ e ≤ 480 := of_decide_eq_true h
  obtain ⟨p, hp⟩ : ∃ p : PSup, p = ⟨a, b, c, d, e⟩ := ⟨_, rfl⟩
  have g4 : (supBlock p).getD 4 0 = a / 256 ^ 0 % 256 := by rw [supBlock_at _ (by decide), hp]; rfl
  have g5 : (supBlock p).getD 5 0 = a / 256 ^ 1 % 256 := by rw [supBlock_at _ (by decide), hp]; rfl
  have g6 : (supBlock p).getD 6 0 = b / 256 ^ 0 % 256 := by rw [supBlock_at _ (by decide), hp]; rfl
  have g7 : (supBlock p).getD 7 0 = c / 256 ^ 0 % 256 := by rw [supBlock_at _ (by decide), hp]; rfl
  have g8 : (supBlock p).getD 8 0 = d / 256 ^ 0 % 256 := by rw [supBlock_at _ (by decide), hp]; rfl
  have g10 : (supBlock p).getD 10 0 = e / 256 ^ 0 % 256 := by rw [supBlock_at _ (by decide), hp]; rfl
  have g11 : (supBlock p).getD 11 0 = e / 256 ^ 1 % 256 := by rw [supBlock_at _ (by decide), hp]; rfl
  rw [← hp]
  unfold readSup
  rw [leN2, leN2, g4, g5, g6, g7, g8, g10, g11, hp]
  have e1 : a / 256 ^ 0 % 256 + a / 256 ^ 1 % 256 * 256 = a := by omega
  have e2 : b / 256 ^ 0 % 256 = b := by omega
  have e3 : c / 256 ^ 0 % 256 = c := by omega
  have e4 : d / 256 ^ 0 % 256 = d := by omega
  have e5 : e / 256 ^ 0 % 256 + e / 256 ^ 1 % 256 * 256 = e := by omega
  rw [e1, e2, e3, e4, e5]

theorem read_head {s : PHead} (h : s.sound = true) : readHead (headBlock s) = s := by
  obtain ⟨a, b⟩ := s
  have h' : 0 ≤ a ∧ a ≤ 39 ∧ 1 ≤ b ∧ b ≤ 1073741824 := of_decide_eq_true h
  obtain ⟨p, hp⟩ : ∃ p : PHead, p = ⟨a, b⟩ := ⟨_, rfl⟩
  have g4 : (headBlock p).getD 4 0 = a / 256 ^ 0 % 256 := by rw [headBlock_at _ (by decide), hp]; rfl
  have g8 : (headBlock p).getD 8 0 = b / 256 ^ 0 % 256 := by rw [headBlock_at _ (by decide), hp]; rfl
  have g9 : (headBlock p).getD 9 0 = b / 256 ^ 1 % 256 := by rw [headBlock_at _ (by decide), hp]; rfl
  have g10 : (headBlock p).getD 10 0 = b / 256 ^ 2 % 256 := by rw [headBlock_at _ (by decide), hp]; rfl
  have g11 : (headBlock p).getD 11 0 = b / 256 ^ 3 % 256 := by rw [headBlock_at _ (by decide), hp]; rfl
  rw [← hp]
  unfold readHead
  rw [leN4, g4, g8, g9, g10, g11, hp]
  have e1 : a / 256 ^ 0 % 256 = a := by omega
  have e2 : b / 256 ^ 0 % 256 + b / 256 ^ 1 % 256 * 256 + b / 256 ^ 2 % 256 * 65536 + b / 256 ^ 3 % 256 * 16777216 = b := by omega
  rw [e1, e2]

theorem is_sup {s : PSup} (h : s.sound = true) : isSup (supBlock s) = true := by
  unfold isSup
  rw [read_sup h, h, supBlock_length]
  simp
theorem is_head {s : PHead} (h : s.sound = true) : isHead (headBlock s) = true := by
  unfold isHead
  rw [read_head h, h, headBlock_length]
  simp

theorem isHead_block {zs : List Int} (h : isHead zs = true) : (readHead zs).sound = true ∧ headBlock (readHead zs) = zs := by
  unfold isHead at h
  simp only [Bool.and_eq_true, decide_eq_true_iff] at h
  exact h.2

/-- No block is both. -/
theorem sup_not_head (s : PSup) : isHead (supBlock s) = false := by
  rw [← Bool.not_eq_true]
  intro h
  have e := congrArg (fun l => l.getD 0 0) (isHead_block h).2
  simp only [headBlock_at _ (show (0 : Nat) < 12 by decide), supBlock_at _ (show (0 : Nat) < 12 by decide)] at e
  exact absurd (show (72 : Int) = 68 from e) (by decide)
/-! ### What calls answer of such blocks -/

theorem getSup_block {s : PSup} (h : s.sound = true) : getSup (supBlock s) = s ∧ getSupErr (supBlock s) = 0 ∧ getHeadErr (supBlock s) = 2 := by
  unfold getSup getSupErr getHeadErr
  rw [is_sup h, sup_not_head, read_sup h]
  exact ⟨rfl, rfl, rfl⟩
theorem sup_of_sealed {zs : List Int} (s : PSup) (h64 : zs.length = 64) (h : ∀ k, k < 60 → zs.getD k 0 = (supB s).getD k 0) : sealOf sumS zs = supBlock s :=
  sealed_of (by rw [supB_length]; decide) h64 h
theorem head_of_sealed {zs : List Int} (s : PHead) (h64 : zs.length = 64) (h : ∀ k, k < 60 → zs.getD k 0 = (headB s).getD k 0) : sealOf sumS zs = headBlock s :=
  sealed_of (by rw [headB_length]; decide) h64 h

end Go.Proofs.YtmcblhgpcgnaoaaGreatDoor


namespace Go.Proofs.YtmcblhgpcgnaoaaGreatDoor

theorem getD_put (zs : List Int) (p : Nat) (n : Int) (k : Nat) (h : p + k ≤ zs.length) (i : Nat) :
    (putK zs p n k).1.getD i 0 = if p ≤ i ∧ i < p + k then (putK [] 0 n (i - p)).2 % 256 else zs.getD i 0 := by
  induction k with
  | zero => rw [if_neg (by omega)]; rfl
  | succ k ih =>
    have ih := ih (by omega)
    show ((putK zs p n k).1.set (p + k) ((putK zs p n k).2 % 256)).getD i 0 = _
    rw [getD_set _ _ _ _ (by rw [putK_length]; omega)]
    by_cases h1 : i = p + k
    · subst h1
      rw [if_pos rfl, if_pos (by omega), putK_rest zs [] p 0 n k]
      have e : p + k - p = k := by omega
      rw [e]
    · rw [if_neg h1, ih]
      by_cases h2 : p ≤ i ∧ i < p + k
      · rw [if_pos h2, if_pos (by omega)]
      · rw [if_neg h2, if_neg (by omega)]

theorem setErr_ok {len : Nat} {p size n : Int} (h : setErr len p size n = 0) : fErr len p size = 0 ∧ 0 ≤ n ∧ (putK [] 0 n size.toNat).2 = 0 := by
  unfold setErr at h
  by_cases h1 : fErr len p size = 0
  · rw [if_neg (by simp [h1])] at h
    by_cases h2 : n < 0 ∨ 0 < (putK [] 0 n size.toNat).2
    · rw [if_pos h2] at h; exact absurd h (by decide)
    · have h3 : 0 ≤ n := by omega
      have h4 := (putK_nonneg [] 0 h3 size.toNat).1
      exact ⟨h1, h3, by omega⟩
  · rw [if_pos h1] at h; exact absurd h h1

theorem setOut_length {zs : List Int} {p size n : Int} (h : setErr zs.length p size n = 0) : (setOut zs p size n).length = 64 := by
  rw [setOut_ok h, putK_length]
  exact (fErr_ok (setErr_ok h).1).1

theorem set_other {zs : List Int} {p size n : Int} (h : setErr zs.length p size n = 0) {i : Nat} (hi : ¬ (p ≤ i ∧ (i : Int) < p + size)) : (setOut zs p size n).getD i 0 = zs.getD i 0 := by
  have ho := fErr_ok (setErr_ok h).1
  rw [setOut_ok h, getD_put _ _ _ _ (by omega), if_neg (by omega)]

end Go.Proofs.YtmcblhgpcgnaoaaGreatDoor


namespace Go.Proofs.YtmcblhgpcgnaoaaGreatDoor
open Go.RowKit

theorem putK_over (zs : List Int) (p : Nat) (n : Int) : ∀ k : Nat, (putK zs p n k).2 = n / 256 ^ k
  | 0 => by
    show n = n / 1
    omega
  | k + 1 => by
    show (putK zs p n k).2 / 256 = _
    rw [putK_over zs p n k, Int.pow_succ, ← Int.ediv_ediv_of_nonneg (by have := pow256_pos k; omega)]

/-- A number that fits is put without an error. -/
theorem setErr_none {p size : Nat} {n : Int} (h1 : 1 ≤ size) (h2 : size ≤ 4) (h3 : p + size ≤ 60) (h4 : 0 ≤ n) (h5 : n < 256 ^ size) : setErr 64 p size n = 0 := by
  have hf : fErr 64 p size = 0 := by
    unfold fErr
    rw [if_pos rfl, if_neg (by omega)]
  unfold setErr
  rw [if_neg (by simp [hf]), if_neg]
  rintro (h | h)
  · omega
  · rw [putK_over, Int.toNat_natCast, Int.ediv_eq_zero_of_lt h4 h5] at h
    omega

theorem put_at {zs : List Int} {p size : Nat} {n : Int} (h : setErr zs.length p size n = 0) {i : Nat} (hi : p ≤ i ∧ i < p + size) : (setOut zs p size n).getD i 0 = n / 256 ^ (i - p) % 256 := by
  have ho := fErr_ok (setErr_ok h).1
  rw [setOut_ok h, Int.toNat_natCast, Int.toNat_natCast, getD_put _ _ _ _ (by omega), if_pos hi, putK_over]

theorem put_off {zs : List Int} {p size : Nat} {n : Int} (h : setErr zs.length p size n = 0) {i : Nat} (hi : ¬ (p ≤ i ∧ i < p + size)) : (setOut zs p size n).getD i 0 = zs.getD i 0 := set_other h (by omega)

def zeroes64 : List Int := List.replicate 64 0
/-- A text of four bytes at the beginning of nothing but 0. -/
def begun4 (t : List Int) : List Int := textOut zeroes64 0 t
theorem begun_dryd : begun4 dryd = dryd ++ List.replicate 60 0 := by decide
theorem begun_head : begun4 headT = headT ++ List.replicate 60 0 := by decide

/-- What Set by Set comes of a Super. -/
def madeSup (s : PSup) : List Int := setOut (setOut (setOut (setOut (setOut (begun4 dryd) (4 : Nat) (2 : Nat) s.a) (6 : Nat) (1 : Nat) s.b) (7 : Nat) (1 : Nat) s.c) (8 : Nat) (1 : Nat) s.d) (10 : Nat) (2 : Nat) s.e
def madeHead (s : PHead) : List Int := setOut (setOut (begun4 headT) (4 : Nat) (1 : Nat) s.a) (8 : Nat) (4 : Nat) s.b

theorem made_sup {s : PSup} (h : s.sound = true) : (madeSup s).length = 64 ∧ sealOf sumS (madeSup s) = supBlock s := by
  obtain ⟨a, b, c, d, e⟩ := s
  have h' : 64 ≤ a ∧ a ≤ 480 ∧ 1 ≤ b ∧ b ≤ 3 ∧ 0 ≤ c ∧ c ≤ 3 ∧ 0 ≤ d ∧ d ≤ 32 ∧ 0 ≤ e ∧ e ≤ 480 := of_decide_eq_true h
  have l0 : (begun4 dryd).length = 64 := by decide
  have p2 : (256 : Int) ^ 2 = 65536 := by decide
  have p1 : (256 : Int) ^ 1 = 256 := by decide
  have p0 : (256 : Int) ^ 0 = 1 := by decide
  have e1 : setErr (begun4 dryd).length (4 : Nat) (2 : Nat) a = 0 := by rw [l0]; exact setErr_none (by decide) (by decide) (by decide) (by omega) (by omega)
  have l1 := setOut_length e1
  have e2 : setErr (setOut (begun4 dryd) (4 : Nat) (2 : Nat) a).length (6 : Nat) (1 : Nat) b = 0 := by rw [l1]; exact setErr_none (by decide) (by decide) (by decide) (by omega) (by omega)
  have l2 := setOut_length e2
  have e3 : setErr (setOut (setOut (begun4 dryd) (4 : Nat) (2 : Nat) a) (6 : Nat) (1 : Nat) b).length (7 : Nat) (1 : Nat) c = 0 := by rw [l2]; exact setErr_none (by decide) (by decide) (by decide) (by omega) (by omega)
  have l3 := setOut_length e3
  have e4 : setErr (setOut (setOut (setOut (begun4 dryd) (4 : Nat) (2 : Nat) a) (6 : Nat) (1 : Nat) b) (7 : Nat) (1 : Nat) c).length (8 : Nat) (1 : Nat) d = 0 := by rw [l3]; exact setErr_none (by decide) (by decide) (by decide) (by omega) (by omega)
  have l4 := setOut_length e4
  have e5 : setErr (setOut (setOut (setOut (setOut (begun4 dryd) (4 : Nat) (2 : Nat) a) (6 : Nat) (1 : Nat) b) (7 : Nat) (1 : Nat) c) (8 : Nat) (1 : Nat) d).length (10 : Nat) (2 : Nat) e = 0 := by rw [l4]; exact setErr_none (by decide) (by decide) (by decide) (by omega) (by omega)
  refine ⟨setOut_length e5, sup_of_sealed _ (setOut_length e5) (fun k hk => ?_)⟩
  show (setOut (setOut (setOut (setOut (setOut (begun4 dryd) (4 : Nat) (2 : Nat) a) (6 : Nat) (1 : Nat) b) (7 : Nat) (1 : Nat) c) (8 : Nat) (1 : Nat) d) (10 : Nat) (2 : Nat) e).getD k 0 = _
  by_cases k12 : 12 ≤ k
  · rw [put_off e5 (by omega), put_off e4 (by omega), put_off e3 (by omega), put_off e2 (by omega), put_off e1 (by omega), begun_dryd]
    have hs : (supB ⟨a, b, c, d, e⟩).getD k 0 = 0 := by
      rw [List.getD_eq_getElem?_getD, List.getElem?_eq_none (by rw [supB_length]; exact k12), Option.getD_none]
    rw [hs, List.getD_eq_getElem?_getD, List.getElem?_append_right (show dryd.length ≤ k by show 4 ≤ k; omega)]
    rw [List.getElem?_replicate]
    split
    · rfl
    · rfl
  · by_cases k4 : k < 4
    · rw [put_off e5 (by omega), put_off e4 (by omega), put_off e3 (by omega), put_off e2 (by omega), put_off e1 (by omega), begun_dryd]
      obtain rfl | rfl | rfl | rfl : k = 0 ∨ k = 1 ∨ k = 2 ∨ k = 3 := by omega
      all_goals rfl
    · by_cases k6 : k < 6
      · rw [put_off e5 (by omega), put_off e4 (by omega), put_off e3 (by omega), put_off e2 (by omega), put_at e1 (by omega)]
        obtain rfl | rfl : k = 4 ∨ k = 5 := by omega
        all_goals rfl
      · by_cases k7 : k = 6
        · subst k7
          rw [put_off e5 (by omega), put_off e4 (by omega), put_off e3 (by omega), put_at e2 (by omega)]
          rfl
        · by_cases k8 : k = 7
          · subst k8
            rw [put_off e5 (by omega), put_off e4 (by omega), put_at e3 (by omega)]
            rfl
          · by_cases k9 : k = 8
            · subst k9
              rw [put_off e5 (by omega), put_at e4 (by omega)]
              rfl
            · by_cases k10 : k = 9
              · subst k10
                rw [put_off e5 (by omega), put_off e4 (by omega), put_off e3 (by omega), put_off e2 (by omega), put_off e1 (by omega), begun_dryd]
                show (0 : Int) = d / 256 ^ 1 % 256
                omega
              · rw [put_at e5 (by omega)]
                obtain rfl | rfl : k = 10 ∨ k = 11 := by omega
                all_goals rfl

theorem made_head {s : PHead} (h : s.sound = true) : (madeHead s).length = 64 ∧ sealOf sumS (madeHead s) = headBlock s := by
  obtain ⟨a, b⟩ := s
  have h' : 0 ≤ a ∧ a ≤ 39 ∧ 1 ≤ b ∧ b ≤ 1073741824 := of_decide_eq_true h
  have l0 : (begun4 headT).length = 64 := by decide
  have p4 : (256 : Int) ^ 4 = 4294967296 := by decide
  have p1 : (256 : Int) ^ 1 = 256 := by decide
  have e1 : setErr (begun4 headT).length (4 : Nat) (1 : Nat) a = 0 := by rw [l0]; exact setErr_none (by decide) (by decide) (by decide) (by omega) (by omega)
  have l1 := setOut_length e1
  have e2 : setErr (setOut (begun4 headT) (4 : Nat) (1 : Nat) a).length (8 : Nat) (4 : Nat) b = 0 := by rw [l1]; exact setErr_none (by decide) (by decide) (by decide) (by omega) (by omega)
  refine ⟨setOut_length e2, head_of_sealed _ (setOut_length e2) (fun k hk => ?_)⟩
  show (setOut (setOut (begun4 headT) (4 : Nat) (1 : Nat) a) (8 : Nat) (4 : Nat) b).getD k 0 = _
  by_cases k12 : 12 ≤ k
  · rw [put_off e2 (by omega), put_off e1 (by omega), begun_head]
    have hs : (headB ⟨a, b⟩).getD k 0 = 0 := by
      rw [List.getD_eq_getElem?_getD, List.getElem?_eq_none (by rw [headB_length]; exact k12), Option.getD_none]
    rw [hs, List.getD_eq_getElem?_getD, List.getElem?_append_right (show headT.length ≤ k by show 4 ≤ k; omega)]
    rw [List.getElem?_replicate]
    split
    · rfl
    · rfl
  · by_cases k4 : k < 4
    · rw [put_off e2 (by omega), put_off e1 (by omega), begun_head]
      obtain rfl | rfl | rfl | rfl : k = 0 ∨ k = 1 ∨ k = 2 ∨ k = 3 := by omega
      all_goals rfl
    · by_cases k5 : k = 4
      · subst k5
        rw [put_off e2 (by omega), put_at e1 (by omega)]
        rfl
      · by_cases k8 : k < 8
        · rw [put_off e2 (by omega), put_off e1 (by omega), begun_head]
          obtain rfl | rfl | rfl : k = 5 ∨ k = 6 ∨ k = 7 := by omega
          · show (0 : Int) = a / 256 ^ 1 % 256
            omega
          · show (0 : Int) = a / 256 ^ 2 % 256
            omega
          · show (0 : Int) = a / 256 ^ 3 % 256
            omega
        · rw [put_at e2 (by omega)]
          obtain rfl | rfl | rfl | rfl : k = 8 ∨ k = 9 ∨ k = 10 ∨ k = 11 := by omega
          all_goals rfl

end Go.Proofs.YtmcblhgpcgnaoaaGreatDoor


namespace Go.Proofs.YtmcblhgpcgnaoaaGreatDoor
open Go.RowKit

/-- The error of a place of so many bytes. -/
def placeErr (len : Nat) (p n : Int) : Int := if len = 64 then (if p < 0 ∨ 60 - p < n then 1 else 0) else 2

set_option maxHeartbeats 400000 in
theorem fPlace_any (ao : Option Addr) (len cap : Nat) (p n : Int) (w : World) (hl : len ≤ 140737488351232) (hp : -9223372036854775808 ≤ p ∧ p ≤ 9223372036854775807) :
    Calls Tryz.prog 216 #[.slice ao len cap, .int .i64 p, .int .i64 n] w fun e w' => e = .returned (.int .i64 (placeErr len p n)) ∧ w = w' := by
  unfold placeErr
  by_cases h0 : len = 64
  · subst h0
    rw [if_pos rfl]
    by_cases h1 : p < 0
    · rw [if_pos (Or.inl h1)]
      go_enter Tryz.func216, Tryz.ntmps216
      go_wp2
      go_ret
      exact ⟨rfl, rfl⟩
    · by_cases h2 : 60 - p < n
      · rw [if_pos (Or.inr h2)]
        go_enter Tryz.func216, Tryz.ntmps216
        go_wp2
        go_ret
        exact ⟨rfl, rfl⟩
      · rw [if_neg (by omega)]
        go_enter Tryz.func216, Tryz.ntmps216
        go_wp2
        go_ret
        exact ⟨rfl, rfl⟩
  · rw [if_neg h0]
    have hne : ((len : Int) != 64) = true := by simp; omega
    go_enter Tryz.func216, Tryz.ntmps216
    go_wp2
    go_ret
    exact ⟨rfl, rfl⟩

theorem fErr_place (len : Nat) (p n : Int) : fErr len p n = if placeErr len p n = 0 then (if n < 1 ∨ 4 < n then 1 else 0) else placeErr len p n := by
  unfold fErr placeErr
  by_cases hl : len = 64
  · rw [if_pos hl, if_pos hl]
    by_cases h2 : p < 0 ∨ 60 - p < n
    · rw [if_pos h2, if_neg (show ¬ (1 : Int) = 0 by decide)]
      by_cases h3 : n < 1 ∨ 4 < n ∨ p < 0 ∨ 60 < p ∨ 60 < p + n
      · rw [if_pos h3]
      · omega
    · rw [if_neg h2, if_pos rfl]
      by_cases h3 : n < 1 ∨ 4 < n
      · rw [if_pos h3, if_pos (by omega)]
      · rw [if_neg h3, if_neg (by omega)]
  · rw [if_neg hl, if_neg hl, if_neg (by decide)]

end Go.Proofs.YtmcblhgpcgnaoaaGreatDoor


namespace Go.Proofs.YtmcblhgpcgnaoaaGreatDoor
open Go.RowKit

set_option maxHeartbeats 400000 in
theorem fNumber_any (ao : Option Addr) (len cap : Nat) (p n : Int) (w : World) (hl : len ≤ 140737488351232) (hp : -9223372036854775808 ≤ p ∧ p ≤ 9223372036854775807) :
    Calls Tryz.prog 217 #[.slice ao len cap, .int .i64 p, .int .i64 n] w fun e w' => e = .returned (.int .i64 (fErr len p n)) ∧ w = w' := by
  have c := fPlace_any ao len cap p n w hl hp
  rw [fErr_place]
  clear hl hp
  by_cases hE : placeErr len p n = 0
  · rw [if_pos hE]
    rw [hE] at c
    clear hE
    by_cases h1 : n < 1
    · rw [if_pos (Or.inl h1)]
      go_enter Tryz.func217, Tryz.ntmps217
      go_wp2_with (go_at_call 216; refine c.mono ?_; rintro e w' ⟨rfl, rfl⟩)
      go_ret
      exact ⟨rfl, rfl⟩
    · by_cases h2 : 4 < n
      · rw [if_pos (Or.inr h2)]
        go_enter Tryz.func217, Tryz.ntmps217
        go_wp2_with (go_at_call 216; refine c.mono ?_; rintro e w' ⟨rfl, rfl⟩)
        go_ret
        exact ⟨rfl, rfl⟩
      · rw [if_neg (by omega)]
        go_enter Tryz.func217, Tryz.ntmps217
        go_wp2_with (go_at_call 216; refine c.mono ?_; rintro e w' ⟨rfl, rfl⟩)
        go_ret
        exact ⟨rfl, rfl⟩
  · rw [if_neg hE]
    obtain ⟨E, HE⟩ : ∃ E, Hid (placeErr len p n = E) := ⟨_, Lib.hid rfl⟩
    rw [HE.out] at hE c ⊢
    have hne : (E != 0) = true := by simp; exact hE
    clear hE
    go_enter Tryz.func217, Tryz.ntmps217
    go_wp2_with (go_at_call 216; refine c.mono ?_; rintro e w' ⟨rfl, rfl⟩)
    go_ret
    exact ⟨rfl, rfl⟩

end Go.Proofs.YtmcblhgpcgnaoaaGreatDoor


namespace Go.Proofs.YtmcblhgpcgnaoaaGreatDoor
open Go.RowKit

theorem putK_quot (zs : List Int) (p : Nat) (n : Int) (k : Nat) : (putK zs p n k).2 = n / 256 ^ k := by
  induction k with
  | zero => show n = n / 1; omega
  | succ k ih =>
    show (putK zs p n k).2 / 256 = _
    rw [ih, Int.pow_succ, ← Int.ediv_ediv_of_nonneg (by have := pow256_pos k; omega)]

theorem putK_lay (zs : List Int) (p : Nat) (n : Int) (k : Nat) : (putK zs p n k).1 = lay zs p (leB n k) := by
  induction k with
  | zero => rfl
  | succ k ih =>
    show (putK zs p n k).1.set (p + k) ((putK zs p n k).2 % 256) = lay zs p (leB n k ++ [n / 256 ^ k % 256])
    rw [lay_snoc, leB_length, ih, putK_quot]

set_option maxHeartbeats 400000 in
theorem fSet_any (ao : Option Addr) (len cap : Nat) (zs : List Int) (p size n : Int) (w : World) (hA : Arg w ao len cap zs) (hp : -9223372036854775808 ≤ p ∧ p ≤ 9223372036854775807) (hs : -9223372036854775808 ≤ size ∧ size ≤ 9223372036854775807) (hn : -9223372036854775808 ≤ n ∧ n ≤ 9223372036854775807) :
    Calls Tryz.prog 161 #[.slice ao len cap, .int .i64 p, .int .i64 size, .int .i64 n] w (Handed w.heap.size w (setOut zs p size n) (setErr len p size n)) := by
  obtain ⟨hB, _, _, hlen⟩ := hA
  have hl := hB.1
  have cK := fNumber_any ao len cap p size w hlen hp
  by_cases hE : fErr len p size = 0
  · have ho := fErr_ok hE
    have hlen : len = 64 := ho.1
    subst hlen
    obtain ⟨k, hk⟩ : ∃ k : Nat, size = k := ⟨size.toNat, by omega⟩
    obtain ⟨q, hq⟩ : ∃ q : Nat, p = q := ⟨p.toNat, by omega⟩
    subst hk
    subst hq
    have e1 : Int.toNat (k : Int) = k := by omega
    have e2 : Int.toNat (q : Int) = q := by omega
    have k1 : 1 ≤ k := by omega
    have k4 : k ≤ 4 := by omega
    have hq60 : q + k ≤ 60 := by omega
    have HO : Hid (setErr 64 q k n = if n < 0 ∨ 0 < n / 2 ^ (8 * k) then 7 else 0) := Lib.hid (by
      unfold setErr
      rw [hE, if_neg (by decide), e1, putK_quot, pow_two_bytes])
    have HO2 : Hid (setErr 64 q k n = 0 → setOut zs q k n = lay zs q (leB n k)) := Lib.hid (fun h => by
      rw [setOut_ok (by rw [hl]; exact h), e1, e2, putK_lay])
    have HO3 : Hid (setErr 64 q k n ≠ 0 → setOut zs q k n = []) := Lib.hid (fun h => setOut_err (by rw [hl]; exact h))
    rw [hE] at cK
    have HL := Lib.hid hl
    have HB := Lib.hid hB
    clear hE ho hB hl hp hs e1 e2 hlen
    by_cases hneg : n < 0
    · have HE7 : Hid (setErr 64 q k n = 7) := Lib.hid (by rw [HO.out, if_pos (Or.inl hneg)])
      have HE8 : Hid (setOut zs q k n = []) := Lib.hid (HO3.out (by rw [HE7.out]; decide))
      go_enter Tryz.func161, Tryz.ntmps161
      go_wp2_with (go_at_call 217; refine cK.mono ?_; rintro e w' ⟨rfl, rfl⟩)
      go_ret2
      exact ⟨.slice none 0 0, by rw [HE7.out]; rfl, by rw [HE8.out]; exact Fresh.nil _ _, Below.refl _ _⟩
    · have hn0 : 0 ≤ n := by omega
      by_cases hbig : 0 < n / 2 ^ (8 * k)
      · have HE7 : Hid (setErr 64 q k n = 7) := Lib.hid (by rw [HO.out, if_pos (Or.inr hbig)])
        have HE8 : Hid (setOut zs q k n = []) := Lib.hid (HO3.out (by rw [HE7.out]; decide))
        go_enter Tryz.func161, Tryz.ntmps161
        go_wp2_with (go_at_call 217; refine cK.mono ?_; rintro e w' ⟨rfl, rfl⟩)
        go_ret2
        exact ⟨.slice none 0 0, by rw [HE7.out]; rfl, by rw [HE8.out]; exact Fresh.nil _ _, Below.refl _ _⟩
      · have HE7 : Hid (setErr 64 q k n = 0) := Lib.hid (by rw [HO.out, if_neg (by omega)])
        have HE8 : Hid (setOut zs q k n = lay zs q (bytesOf (str (leB n k)))) := Lib.hid (by rw [HO2.out HE7.out, bytesOf_str (leB_bytes n k)])
        have cB := fBytes_any k n w k4
        have HC : Hid (∀ w2, Below w.heap.size w w2 → Calls Tryz.prog 162 #[.slice ao 64 cap, .int .i64 q, .string (str (leB n k))] w2 (Gives w2.heap.size w2 (lay zs q (bytesOf (str (leB n k)))))) :=
          Lib.hid (fun w2 hb => fWith_any ao cap zs q _ w2 (HB.out.later hb) (by rw [str_size, leB_length]; omega) (by omega))
        go_enter Tryz.func161, Tryz.ntmps161
        go_wp2_with (first | (go_at_call 217; refine cK.mono ?_; rintro e w' ⟨rfl, rfl⟩) | (go_at_call 218; refine cB.mono ?_; rintro e w2 ⟨rfl, hb2⟩; have HB2 := Lib.hid hb2; clear hb2) | (go_at_call 162; refine (HC.out _ HB2.out).mono ?_; rintro e w3 ⟨v3, rfl, hf3, hb3⟩; have HF3 := Lib.hid hf3; have HB3 := Lib.hid hb3; clear hf3 hb3))
        go_ret2
        exact ⟨v3, by rw [HE7.out]; rfl, by rw [HE8.out]; exact HF3.out.mono HB2.out.size, HB2.out.trans (HB3.out.mono HB2.out.size)⟩
  · have HE7 : Hid (setErr len p size n = fErr len p size) := Lib.hid (by unfold setErr; rw [if_pos hE])
    have HE8 : Hid (setOut zs p size n = []) := Lib.hid (setOut_err (by rw [hl, HE7.out]; exact hE))
    obtain ⟨E, HE⟩ : ∃ E, Hid (fErr len p size = E) := ⟨_, Lib.hid rfl⟩
    rw [HE.out] at hE cK HE7
    have hne : (E != 0) = true := by simp; exact hE
    clear hB hl hE hp hs hn hlen
    go_enter Tryz.func161, Tryz.ntmps161
    go_wp2_with (go_at_call 217; refine cK.mono ?_; rintro e w' ⟨rfl, rfl⟩)
    go_ret2
    exact ⟨.slice none 0 0, by rw [HE7.out]; rfl, by rw [HE8.out]; exact Fresh.nil _ _, Below.refl _ _⟩

end Go.Proofs.YtmcblhgpcgnaoaaGreatDoor


namespace Go.Proofs.YtmcblhgpcgnaoaaGreatDoor
open Go.RowKit

set_option maxHeartbeats 400000 in
theorem fGet_any (ao : Option Addr) (len cap : Nat) (zs : List Int) (p size : Int) (w : World) (hA : Arg w ao len cap zs) (hp : -9223372036854775808 ≤ p ∧ p ≤ 9223372036854775807) (hs : -9223372036854775808 ≤ size ∧ size ≤ 9223372036854775807) :
    Calls Tryz.prog 220 #[.slice ao len cap, .int .i64 p, .int .i64 size] w fun e w' => e = .returned (.tuple #[.int .i64 (getOut zs p size), .int .i64 (fErr len p size)]) ∧ w = w' := by
  obtain ⟨hB, _, _, hlen⟩ := hA
  have hl := hB.1
  have cK := fNumber_any ao len cap p size w hlen hp
  unfold getOut
  rw [hl]
  by_cases hE : fErr len p size = 0
  · have ho := fErr_ok hE
    have hlen : len = 64 := ho.1
    subst hlen
    obtain ⟨k, hk⟩ : ∃ k : Nat, size = k := ⟨size.toNat, by omega⟩
    obtain ⟨q, hq⟩ : ∃ q : Nat, p = q := ⟨p.toNat, by omega⟩
    subst hk
    subst hq
    rw [if_pos hE, hE]
    rw [hE] at cK
    have e1 : Int.toNat (q : Int) = q := by omega
    have e2 : Int.toNat (k : Int) = k := by omega
    rw [e1, e2]
    have k4 : k ≤ 4 := by omega
    have hq60 : q + k ≤ 60 := by omega
    obtain ⟨b, off, rfl, hc⟩ := hB.2.2.2.resolve_left (by decide)
    have hz := hB.2.2.1
    have HL := Lib.hid hl
    clear hB hl hE ho e1 e2 hp hs hlen
    go_enter Tryz.func220, Tryz.ntmps220
    go_wp2_with (go_at_call 217; refine cK.mono ?_; rintro e w' ⟨rfl, rfl⟩)
    go_loop [9, 19] (fun nv iv => ∃ j : Nat, j ≤ k ∧ iv = .int .i64 j ∧ nv = .int .i64 (leN zs q j)) (fun _ iv => k - (intOf iv).toNat)
    case atStart => exact ⟨0, Nat.zero_le _, rfl, rfl⟩
    case round =>
      obtain ⟨j, hj, rfl, rfl⟩ := hrel
      by_cases hlt : j < k
      · have hx := hz _ (getD_mem (l := zs) (k := q + j) (by rw [HL.out]; omega))
        have hb := leN_bounds hz q j (by rw [HL.out]; omega)
        have hb4 := leN_four hz q (j + 1) (by rw [HL.out]; omega) (by omega)
        have hcell := hc (q + j) (by omega)
        have HN : Hid (leN zs q (j + 1) = leN zs q j + zs.getD (q + j) 0 * 2 ^ (8 * j)) := Lib.hid (by rw [pow_two_bytes]; rfl)
        rw [HN.out] at hb4
        rw [← pow_two_bytes] at hb
        generalize leN zs q j = a at *
        obtain ⟨x, HX⟩ : ∃ x, Hid (x = zs.getD (q + j) 0) := ⟨_, Lib.hid rfl⟩
        rw [← HX.out] at hx hcell hb4 HN
        have hor := or_parts hb hx.1 (by omega)
        have hm : 0 ≤ x * 2 ^ (8 * j) := Int.mul_nonneg hx.1 (Int.le_of_lt (Int.pow_pos (by decide)))
        have hm2 : x * 2 ^ (8 * j) ≤ 4294967295 := by omega
        obtain ⟨hx0, hx1⟩ := hx
        obtain ⟨ha0, _⟩ := hb
        clear hz hc hb4
        have i1 : (0 : Int) ≤ (q : Int) + (j : Int) := by omega
        have i2 : (q : Int) + (j : Int) < (64 : Int) := by omega
        go_wp2
        go_round
        case rel => exact ⟨j + 1, by omega, by go_num, by rw [HN.out]⟩
        case measure => simp [intOf]; omega
      · have hjk : j = k := by omega
        subst hjk
        clear hz hc
        go_wp2
        go_ret2
        exact ⟨rfl, rfl⟩
  · rw [if_neg hE]
    obtain ⟨E, HE⟩ : ∃ E, Hid (fErr len p size = E) := ⟨_, Lib.hid rfl⟩
    rw [HE.out] at hE cK ⊢
    have hne : (E != 0) = true := by simp; exact hE
    clear hB hl hE hp hs hlen
    go_enter Tryz.func220, Tryz.ntmps220
    go_wp2_with (go_at_call 217; refine cK.mono ?_; rintro e w' ⟨rfl, rfl⟩)
    go_ret2
    exact ⟨rfl, rfl⟩

end Go.Proofs.YtmcblhgpcgnaoaaGreatDoor


namespace Go.Proofs.YtmcblhgpcgnaoaaGreatDoor
open Go.RowKit

theorem textErr_place (len : Nat) (p : Int) (n : Nat) : textErr len p n = placeErr len p n := by
  unfold textErr placeErr
  by_cases h : len = 64
  · rw [if_pos h, if_pos h]
    by_cases h1 : p < 0 ∨ 60 - p < n
    · rw [if_pos h1, if_pos (by omega)]
    · rw [if_neg h1, if_neg (by omega)]
  · rw [if_neg h, if_neg h]

set_option maxHeartbeats 400000 in
theorem fText_any (ao : Option Addr) (len cap : Nat) (zs : List Int) (p : Int) (s : ByteArray) (w : World) (hA : Arg w ao len cap zs) (hp : -9223372036854775808 ≤ p ∧ p ≤ 9223372036854775807) (hsz : s.size ≤ 9223372036854775807) :
    Calls Tryz.prog 160 #[.slice ao len cap, .int .i64 p, .string s] w (Handed w.heap.size w (textOut zs p (bytesOf s)) (textErr len p s.size)) := by
  obtain ⟨hB, _, _, hlen⟩ := hA
  have hl := hB.1
  have cK := fPlace_any ao len cap p s.size w hlen hp
  have HO : Hid (textOut zs p (bytesOf s) = if placeErr len p s.size = 0 then zs.take p.toNat ++ bytesOf s ++ zs.drop (p.toNat + (bytesOf s).length) else []) := Lib.hid (by
    unfold textOut
    rw [hl, bytesOf_length, textErr_place])
  rw [textErr_place]
  by_cases hE : placeErr len p s.size = 0
  · have ho : len = 64 ∧ 0 ≤ p ∧ p + s.size ≤ 60 := by
      unfold placeErr at hE
      by_cases h : len = 64
      · rw [if_pos h] at hE
        by_cases h1 : p < 0 ∨ 60 - p < s.size
        · rw [if_pos h1] at hE; exact absurd hE (by decide)
        · omega
      · rw [if_neg h] at hE; exact absurd hE (by decide)
    have hlen : len = 64 := ho.1
    subst hlen
    obtain ⟨q, hq⟩ : ∃ q : Nat, p = q := ⟨p.toNat, by omega⟩
    subst hq
    have e2 : Int.toNat (q : Int) = q := by omega
    have HE8 : Hid (textOut zs q (bytesOf s) = lay zs q (bytesOf s)) := Lib.hid (by
      rw [HO.out, if_pos hE, e2, lay_eq _ _ _ (by rw [hl, bytesOf_length]; omega)])
    rw [hE] at cK ⊢
    have cW := fWith_any ao cap zs q s w hB (by omega) (by omega)
    clear hB hl hE ho hlen e2 hp HO
    go_enter Tryz.func160, Tryz.ntmps160
    go_wp2_with (first | (go_at_call 216; refine cK.mono ?_; rintro e w' ⟨rfl, rfl⟩) | (go_at_call 162; refine cW.mono ?_; rintro e w3 ⟨v3, rfl, hf3, hb3⟩; have HF3 := Lib.hid hf3; have HB3 := Lib.hid hb3; clear hf3 hb3))
    go_ret2
    exact ⟨v3, rfl, by rw [HE8.out]; exact HF3.out, HB3.out⟩
  · have HE8 : Hid (textOut zs p (bytesOf s) = []) := Lib.hid (by rw [HO.out, if_neg hE])
    obtain ⟨E, HE⟩ : ∃ E, Hid (placeErr len p s.size = E) := ⟨_, Lib.hid rfl⟩
    rw [HE.out] at hE cK ⊢
    have hne : (E != 0) = true := by simp; exact hE
    clear hB hl hE hp hlen HO
    go_enter Tryz.func160, Tryz.ntmps160
    go_wp2_with (go_at_call 216; refine cK.mono ?_; rintro e w' ⟨rfl, rfl⟩)
    go_ret2
    exact ⟨.slice none 0 0, rfl, by rw [HE8.out]; exact Fresh.nil _ _, Below.refl _ _⟩

end Go.Proofs.YtmcblhgpcgnaoaaGreatDoor

