/-
  Proved here: a number that was put in a block is read from it, all other bytes are as they were, and two numbers at places that do not meet may be put in either order. The conditions stand at each theorem. Nothing of the program is read here. Proved here: what the landed code of package field answers: place. The conditions stand at each theorem. Proved here: what the landed code of package field answers: number. The conditions stand at each theorem. Proved here: what the bit operations of the language give of numbers that fit. The conditions stand at each theorem. Proved here: what the landed code of package field answers: bytesOf. The conditions stand at each theorem. Proved here: what the landed code of package field answers: with. The conditions stand at each theorem. Proved here: what the landed code of package field answers: Set. The conditions stand at each theorem. Proved here: what the landed code of package field answers: Get. The conditions stand at each theorem. Proved here: what the landed code of package field answers: Text. The conditions stand at each theorem. Proved here: what the landed code of package field answers: sum and Seal. The conditions stand at each theorem.
-/
import Derived.Test.YtbnepjojfaeggaaA0
import Derived.Test.YtbnepjojfaeggaaA1
import Derived.IntWalk
import Derived.Test.YtbnepjojfaeggaaA2
namespace Go.Proofs.Ytbnepjojfaeggaa

theorem getD_put (zs : List Int) (p : Nat) (n : Int) (k : Nat) (h : p + k ≤ zs.length) (i : Nat) :
    (putK zs p n k).1.getD i 0 = if p ≤ i ∧ i < p + k then (putK [] 0 n (i - p)).2 % 256 else zs.getD i 0 := by
  induction k with
  | zero => rw [if_neg (by omega)]; rfl
  | succ k ih =>
    have ih := ih (by omega)
    show ((putK zs p n k).1.set (p + k) ((putK zs p n k).2 % 256)).getD i 0 = _
    rw [getD_set _ _ _ _ (by rw [putK_length]; omega)]
    by_cases h1 : i = p + k
    · subst h1
      rw [if_pos rfl, if_pos (by omega), putK_rest zs [] p 0 n k]
      have e : p + k - p = k := by omega
      rw [e]
    · rw [if_neg h1, ih]
      by_cases h2 : p ≤ i ∧ i < p + k
      · rw [if_pos h2, if_pos (by omega)]
      · rw [if_neg h2, if_neg (by omega)]

theorem ext_getD {l m : List Int} (hl : l.length = m.length) (h : ∀ i, i < l.length → l.getD i 0 = m.getD i 0) : l = m := by
  refine List.ext_getElem hl (fun i h1 h2 => ?_)
  have := h i h1
  simpa [List.getD, h1, h2] using this

theorem put_apart (zs : List Int) {p q k : Nat} (n m : Int) (hp : p + k ≤ zs.length) (hq : q + k ≤ zs.length) (h : ¬ (p < q + k ∧ q < p + k)) :
    (putK (putK zs p n k).1 q m k).1 = (putK (putK zs q m k).1 p n k).1 := by
  refine ext_getD (by rw [putK_length, putK_length, putK_length, putK_length]) (fun i _ => ?_)
  rw [getD_put (putK zs p n k).1 q m k (by rw [putK_length]; exact hq) i, getD_put zs p n k hp i, getD_put (putK zs q m k).1 p n k (by rw [putK_length]; exact hp) i, getD_put zs q m k hq i]
  by_cases h1 : p ≤ i ∧ i < p + k
  · rw [if_neg (by omega), if_pos h1, if_pos h1]
  · rw [if_neg h1, if_neg h1]

theorem leN_set (L : List Int) (p j k : Nat) (y : Int) (hj : p + k ≤ j) (hl : j < L.length) : leN (L.set j y) p k = leN L p k := by
  induction k with
  | zero => rfl
  | succ k ih =>
    show leN (L.set j y) p k + (L.set j y).getD (p + k) 0 * 256 ^ k = leN L p k + L.getD (p + k) 0 * 256 ^ k
    rw [ih (by omega), getD_set _ _ _ _ hl, if_neg (by omega)]

theorem le_put (zs : List Int) (p : Nat) (n : Int) (k : Nat) (h : p + k ≤ zs.length) : leN (putK zs p n k).1 p k + 256 ^ k * (putK zs p n k).2 = n := by
  induction k with
  | zero => show 0 + 1 * n = n; omega
  | succ k ih =>
    have ih := ih (by omega)
    show leN ((putK zs p n k).1.set (p + k) ((putK zs p n k).2 % 256)) p k + ((putK zs p n k).1.set (p + k) ((putK zs p n k).2 % 256)).getD (p + k) 0 * 256 ^ k + 256 ^ (k + 1) * ((putK zs p n k).2 / 256) = n
    rw [leN_set _ _ _ _ _ (by omega) (by rw [putK_length]; omega), getD_set _ _ _ _ (by rw [putK_length]; omega), if_pos rfl, Int.pow_succ]
    have e := Int.emod_add_mul_ediv (putK zs p n k).2 256
    generalize (putK zs p n k).2 = R at *
    generalize leN (putK zs p n k).1 p k = A at *
    rw [← ih]
    have e2 : R % 256 * 256 ^ k + 256 ^ k * 256 * (R / 256) = 256 ^ k * (R % 256 + 256 * (R / 256)) := by grind
    rw [Int.add_assoc, e2, e]

theorem setErr_ok {len : Nat} {p size n : Int} (h : setErr len p size n = 0) : fErr len p size = 0 ∧ 0 ≤ n ∧ (putK [] 0 n size.toNat).2 = 0 := by
  unfold setErr at h
  by_cases h1 : fErr len p size = 0
  · rw [if_neg (by simp [h1])] at h
    by_cases h2 : n < 0 ∨ 0 < (putK [] 0 n size.toNat).2
    · rw [if_pos h2] at h; exact absurd h (by decide)
    · have h3 : 0 ≤ n := by omega
      have h4 := (putK_nonneg [] 0 h3 size.toNat).1
      exact ⟨h1, h3, by omega⟩
  · rw [if_pos h1] at h; exact absurd h h1

theorem setOut_length {zs : List Int} {p size n : Int} (h : setErr zs.length p size n = 0) : (setOut zs p size n).length = 64 := by
  rw [setOut_ok h, putK_length]
  exact (fErr_ok (setErr_ok h).1).1

theorem get_set {zs : List Int} {p size n : Int} (h : setErr zs.length p size n = 0) : getOut (setOut zs p size n) p size = n := by
  obtain ⟨h1, h2, h3⟩ := setErr_ok h
  have ho := fErr_ok h1
  unfold getOut
  rw [setOut_length h, show fErr 64 p size = 0 from by rw [← ho.1]; exact h1, if_pos rfl, setOut_ok h]
  have e := le_put zs p.toNat n size.toNat (by omega)
  rw [putK_rest zs [] p.toNat 0 n size.toNat, h3] at e
  omega

theorem set_other {zs : List Int} {p size n : Int} (h : setErr zs.length p size n = 0) {i : Nat} (hi : ¬ (p ≤ i ∧ (i : Int) < p + size)) : (setOut zs p size n).getD i 0 = zs.getD i 0 := by
  have ho := fErr_ok (setErr_ok h).1
  rw [setOut_ok h, getD_put _ _ _ _ (by omega), if_neg (by omega)]

theorem get_other {zs : List Int} {p size n q : Int} (h : setErr zs.length p size n = 0) (hq : ¬ (p ≤ q ∧ q < p + size)) : getOut (setOut zs p size n) q 1 = getOut zs q 1 := by
  have ho := fErr_ok (setErr_ok h).1
  unfold getOut
  rw [setOut_length h, ho.1]
  by_cases hE : fErr 64 q 1 = 0
  · rw [if_pos hE, if_pos hE]
    have hq2 := fErr_ok hE
    show 0 + (setOut zs p size n).getD (q.toNat + 0) 0 * 1 = 0 + zs.getD (q.toNat + 0) 0 * 1
    rw [set_other h (by omega)]
  · rw [if_neg hE, if_neg hE]

theorem set_apart {zs : List Int} {p q size n m : Int} (h1 : setErr zs.length p size n = 0) (h2 : setErr zs.length q size m = 0) (h : ¬ (p < q + size ∧ q < p + size)) :
    setErr 64 q size m = 0 ∧ setErr 64 p size n = 0 ∧ setOut (setOut zs p size n) q size m = setOut (setOut zs q size m) p size n := by
  have o1 := fErr_ok (setErr_ok h1).1
  have o2 := fErr_ok (setErr_ok h2).1
  have e1 := h1
  have e2 := h2
  rw [o1.1] at e1 e2
  refine ⟨e2, e1, ?_⟩
  rw [setOut_ok (zs := setOut zs p size n) (by rw [setOut_length h1]; exact e2), setOut_ok (zs := setOut zs q size m) (by rw [setOut_length h2]; exact e1), setOut_ok h1, setOut_ok h2]
  exact put_apart zs n m (by omega) (by omega) (by omega)

end Go.Proofs.Ytbnepjojfaeggaa

namespace Go.Proofs.Ytbnepjojfaeggaa
open Go.RowKit

/-- The error of a place of so many bytes. -/
def placeErr (len : Nat) (p n : Int) : Int := if len = 64 then (if p < 0 ∨ 60 - p < n then 1 else 0) else 2

set_option maxHeartbeats 400000 in
theorem fPlace_any (ao : Option Addr) (len cap : Nat) (p n : Int) (w : World) (hl : len ≤ 140737488351232) (hp : -9223372036854775808 ≤ p ∧ p ≤ 9223372036854775807) :
    Calls Try.prog 94 #[.slice ao len cap, .int .i64 p, .int .i64 n] w fun e w' => e = .returned (.int .i64 (placeErr len p n)) ∧ w = w' := by
  unfold placeErr
  by_cases h0 : len = 64
  · subst h0
    rw [if_pos rfl]
    by_cases h1 : p < 0
    · rw [if_pos (Or.inl h1)]
      go_enter Try.func94, Try.ntmps94
      go_wp2
      go_ret
      exact ⟨rfl, rfl⟩
    · by_cases h2 : 60 - p < n
      · rw [if_pos (Or.inr h2)]
        go_enter Try.func94, Try.ntmps94
        go_wp2
        go_ret
        exact ⟨rfl, rfl⟩
      · rw [if_neg (by omega)]
        go_enter Try.func94, Try.ntmps94
        go_wp2
        go_ret
        exact ⟨rfl, rfl⟩
  · rw [if_neg h0]
    have hne : ((len : Int) != 64) = true := by simp; omega
    go_enter Try.func94, Try.ntmps94
    go_wp2
    go_ret
    exact ⟨rfl, rfl⟩

theorem fErr_place (len : Nat) (p n : Int) : fErr len p n = if placeErr len p n = 0 then (if n < 1 ∨ 4 < n then 1 else 0) else placeErr len p n := by
  unfold fErr placeErr
  by_cases hl : len = 64
  · rw [if_pos hl, if_pos hl]
    by_cases h2 : p < 0 ∨ 60 - p < n
    · rw [if_pos h2, if_neg (show ¬ (1 : Int) = 0 by decide)]
      by_cases h3 : n < 1 ∨ 4 < n ∨ p < 0 ∨ 60 < p ∨ 60 < p + n
      · rw [if_pos h3]
      · omega
    · rw [if_neg h2, if_pos rfl]
      by_cases h3 : n < 1 ∨ 4 < n
      · rw [if_pos h3, if_pos (by omega)]
      · rw [if_neg h3, if_neg (by omega)]
  · rw [if_neg hl, if_neg hl, if_neg (by decide)]

end Go.Proofs.Ytbnepjojfaeggaa

namespace Go.Proofs.Ytbnepjojfaeggaa
open Go.RowKit

set_option maxHeartbeats 400000 in
theorem fNumber_any (ao : Option Addr) (len cap : Nat) (p n : Int) (w : World) (hl : len ≤ 140737488351232) (hp : -9223372036854775808 ≤ p ∧ p ≤ 9223372036854775807) :
    Calls Try.prog 91 #[.slice ao len cap, .int .i64 p, .int .i64 n] w fun e w' => e = .returned (.int .i64 (fErr len p n)) ∧ w = w' := by
  have c := fPlace_any ao len cap p n w hl hp
  rw [fErr_place]
  clear hl hp
  by_cases hE : placeErr len p n = 0
  · rw [if_pos hE]
    rw [hE] at c
    clear hE
    by_cases h1 : n < 1
    · rw [if_pos (Or.inl h1)]
      go_enter Try.func91, Try.ntmps91
      go_wp2_with (go_at_call 94; refine c.mono ?_; rintro e w' ⟨rfl, rfl⟩)
      go_ret
      exact ⟨rfl, rfl⟩
    · by_cases h2 : 4 < n
      · rw [if_pos (Or.inr h2)]
        go_enter Try.func91, Try.ntmps91
        go_wp2_with (go_at_call 94; refine c.mono ?_; rintro e w' ⟨rfl, rfl⟩)
        go_ret
        exact ⟨rfl, rfl⟩
      · rw [if_neg (by omega)]
        go_enter Try.func91, Try.ntmps91
        go_wp2_with (go_at_call 94; refine c.mono ?_; rintro e w' ⟨rfl, rfl⟩)
        go_ret
        exact ⟨rfl, rfl⟩
  · rw [if_neg hE]
    obtain ⟨E, HE⟩ : ∃ E, Hid (placeErr len p n = E) := ⟨_, Lib.hid rfl⟩
    rw [HE.out] at hE c ⊢
    have hne : (E != 0) = true := by simp; exact hE
    clear hE
    go_enter Try.func91, Try.ntmps91
    go_wp2_with (go_at_call 94; refine c.mono ?_; rintro e w' ⟨rfl, rfl⟩)
    go_ret
    exact ⟨rfl, rfl⟩

end Go.Proofs.Ytbnepjojfaeggaa

namespace Go.Proofs.Ytbnepjojfaeggaa
open Go.RowKit

theorem big64 : 9223372036854775808 < 2 ^ 64 := by decide

theorem below64 {a b : Nat} (h : a + b < 9223372036854775808) : a < 2 ^ 64 := by
  have := big64
  generalize 2 ^ 64 = B at *
  omega

theorem or_parts {a x : Int} {m : Nat} (ha : 0 ≤ a ∧ a < 2 ^ m) (hx : 0 ≤ x) (hs : a + x * 2 ^ m < 9223372036854775808) : bits .or .i64 a (x * 2 ^ m) = a + x * 2 ^ m := by
  obtain ⟨a, rfl⟩ := Int.eq_ofNat_of_zero_le ha.1
  obtain ⟨x, rfl⟩ := Int.eq_ofNat_of_zero_le hx
  have hp : ((2 : Int) ^ m) = ((2 ^ m : Nat) : Int) := by rw [Int.natCast_pow]; rfl
  have ha2 : a < 2 ^ m := by have h := ha.2; rw [hp] at h; exact Int.ofNat_lt.1 h
  have he : ((x : Int) * 2 ^ m) = ((2 ^ m * x : Nat) : Int) := by rw [hp, Nat.mul_comm]; exact (Int.natCast_mul _ _).symm
  rw [he] at hs ⊢
  have h3 : 2 ^ m * x + a < 9223372036854775808 := by omega
  have h1 : (BitVec.ofInt 64 (a : Int)).toNat = a := by
    rw [BitVec.ofInt_natCast, BitVec.toNat_ofNat]; exact Nat.mod_eq_of_lt (below64 (b := 2 ^ m * x) (by rw [Nat.add_comm]; exact h3))
  have h2 : (BitVec.ofInt 64 ((2 ^ m * x : Nat) : Int)).toNat = 2 ^ m * x := by
    rw [BitVec.ofInt_natCast, BitVec.toNat_ofNat]; exact Nat.mod_eq_of_lt (below64 h3)
  show IntKind.i64.wrap ((BitVec.ofInt 64 (a : Int) ||| BitVec.ofInt 64 ((2 ^ m * x : Nat) : Int)).toNat : Int) = _
  rw [BitVec.toNat_or, h1, h2, Nat.or_comm, ← Nat.two_pow_add_eq_or_of_lt ha2, IntWalk.i64_in _ (by omega)]
  omega

/-! Bits of bytes -/

theorem byte_bits : ∀ (x : Fin 256) (k : Fin 8),
    (bits .and .u8 ((x.val : Int) / 2 ^ k.val) 1 = (x.val : Int) / 2 ^ k.val % 2) ∧
    (0 ≤ bits .or .u8 (x.val : Int) (2 ^ k.val) ∧ bits .or .u8 (x.val : Int) (2 ^ k.val) ≤ 255) ∧
    (0 ≤ bits .andNot .u8 (x.val : Int) (2 ^ k.val) ∧ bits .andNot .u8 (x.val : Int) (2 ^ k.val) ≤ 255) ∧
    (∀ i : Fin 8, (bits .or .u8 (x.val : Int) (2 ^ k.val) / 2 ^ i.val % 2 = if i = k then 1 else (x.val : Int) / 2 ^ i.val % 2) ∧
      (bits .andNot .u8 (x.val : Int) (2 ^ k.val) / 2 ^ i.val % 2 = if i = k then 0 else (x.val : Int) / 2 ^ i.val % 2)) := by
  decide +kernel

theorem byte_fin {x : Int} (h : 0 ≤ x ∧ x ≤ 255) : ∃ y : Fin 256, x = (y.val : Int) := ⟨⟨x.toNat, by omega⟩, by show x = (x.toNat : Int); omega⟩

theorem and_one {x : Int} {k : Nat} (h : 0 ≤ x ∧ x ≤ 255) (hk : k < 8) : bits .and .u8 (x / 2 ^ k) 1 = x / 2 ^ k % 2 := by
  obtain ⟨y, rfl⟩ := byte_fin h
  exact (byte_bits y ⟨k, hk⟩).1

theorem or_bit {x : Int} {k : Nat} (h : 0 ≤ x ∧ x ≤ 255) (hk : k < 8) : (0 ≤ bits .or .u8 x (2 ^ k) ∧ bits .or .u8 x (2 ^ k) ≤ 255) ∧ ∀ i, i < 8 → bits .or .u8 x (2 ^ k) / 2 ^ i % 2 = if i = k then 1 else x / 2 ^ i % 2 := by
  obtain ⟨y, rfl⟩ := byte_fin h
  have hb := byte_bits y ⟨k, hk⟩
  refine ⟨hb.2.1, fun i hi => ?_⟩
  have e := (hb.2.2.2 ⟨i, hi⟩).1
  by_cases h : i = k
  · rw [if_pos (Fin.ext h)] at e
    rw [if_pos h]
    exact e
  · rw [if_neg (fun e => h (Fin.val_eq_of_eq e))] at e
    rw [if_neg h]
    exact e

theorem andNot_bit {x : Int} {k : Nat} (h : 0 ≤ x ∧ x ≤ 255) (hk : k < 8) : (0 ≤ bits .andNot .u8 x (2 ^ k) ∧ bits .andNot .u8 x (2 ^ k) ≤ 255) ∧ ∀ i, i < 8 → bits .andNot .u8 x (2 ^ k) / 2 ^ i % 2 = if i = k then 0 else x / 2 ^ i % 2 := by
  obtain ⟨y, rfl⟩ := byte_fin h
  have hb := byte_bits y ⟨k, hk⟩
  refine ⟨hb.2.2.1, fun i hi => ?_⟩
  have e := (hb.2.2.2 ⟨i, hi⟩).2
  by_cases h : i = k
  · rw [if_pos (Fin.ext h)] at e
    rw [if_pos h]
    exact e
  · rw [if_neg (fun e => h (Fin.val_eq_of_eq e))] at e
    rw [if_neg h]
    exact e

end Go.Proofs.Ytbnepjojfaeggaa

namespace Go.Proofs.Ytbnepjojfaeggaa
open Go.RowKit

/-- What bytesOf has laid behind j rounds. -/
def begun (n : Int) (k j : Nat) : List Int := leB n j ++ List.replicate (k - j) 0

theorem begun_length (n : Int) (k j : Nat) (h : j ≤ k) : (begun n k j).length = k := by
  unfold begun; rw [List.length_append, leB_length, List.length_replicate]; omega

theorem begun_step (n : Int) (k j : Nat) (h : j < k) : (begun n k j).set j (n / 256 ^ j % 256) = begun n k (j + 1) := by
  have e : k - j = (k - (j + 1)) + 1 := by omega
  unfold begun
  rw [e, List.replicate_succ, List.set_append_right _ _ (by rw [leB_length]; exact Nat.le_refl _), leB_length, Nat.sub_self, List.set_cons_zero]
  show _ = (leB n j ++ [n / 256 ^ j % 256]) ++ _
  rw [List.append_assoc]
  rfl

set_option maxHeartbeats 400000 in
theorem fBytes_any (k : Nat) (n : Int) (w : World) (hk : k ≤ 4) :
    Calls Try.prog 92 #[.int .i64 k, .int .i64 n] w fun e w' => e = .returned (.string (str (leB n k))) ∧ Below w.heap.size w w' := by
  have hmk := run_make_bytes w k (by omega)
  have HO := Lib.hid (made_own w k)
  generalize hw1 : w.alloc (.cells (madeCells #[.int .u8 0] k) 5) = w1 at *
  have HW1 := Lib.hid hw1
  clear hw1
  go_enter Try.func92, Try.ntmps92
  go_wp2
  go_loopw [11] (fun iv wr => ∃ j : Nat, j ≤ k ∧ iv = .int .i64 j ∧ Hid (Own w.heap.size w w.heap.size (begun n k j) wr)) (fun iv _ => k - (intOf iv).toNat)
  case atStart => exact ⟨0, Nat.zero_le _, rfl, HO⟩
  case round =>
    obtain ⟨j, hj, rfl, HR⟩ := hrel
    by_cases hlt : j < k
    · have hcell := HR.out.2.1 j (by rw [begun_length _ _ _ hj]; exact hlt)
      have hfr := HR.out.2.2.1 j
      obtain ⟨x, hx⟩ : ∃ x, (begun n k j).getD j 0 = x := ⟨_, rfl⟩
      rw [hx] at hcell
      clear hx
      have HS := Lib.hid (HR.out.store (k := j) (y := n / 256 ^ j % 256) (by rw [begun_length _ _ _ hj]; exact hlt) (by omega))
      rw [begun_step n k j hlt, ← pow_two_bytes] at HS
      go_wp2
      go_roundw
      case rel => exact ⟨j + 1, by omega, by go_num, HS⟩
      case measure => simp [intOf]; omega
    · have hjk : j = k := by omega
      subst hjk
      have e0 : begun n j j = leB n j := by unfold begun; rw [Nat.sub_self]; simp
      have hO := HR.out
      rw [e0] at hO
      have hb := hO.bts (by rw [leB_length]; omega)
      rw [leB_length] at hb
      have hs := str_bytes (cap := j) hb
      have HB := Lib.hid hO.2.2.2.2
      clear hO hb e0
      go_wp2
      go_ret
      exact ⟨rfl, HB.out⟩

end Go.Proofs.Ytbnepjojfaeggaa

namespace Go.Proofs.Ytbnepjojfaeggaa
open Go.RowKit

set_option maxHeartbeats 400000 in
set_option maxRecDepth 100000 in
theorem fWith_any (ao : Option Addr) (cap : Nat) (zs : List Int) (q : Nat) (s : ByteArray) (w : World) (hB : Bts w ao 64 zs) (hq : q + s.size ≤ 64) (hq64 : q < 64) :
    Calls Try.prog 82 #[.slice ao 64 cap, .int .i64 q, .string s] w (Gives w.heap.size w (lay zs q (bytesOf s))) := by
  have hmk := run_make_bytes w 64 (by decide)
  rw [show ((64 : Nat) : Int) = 64 from rfl] at hmk
  have HO := Lib.hid (made_own w 64)
  have HL := Lib.hid hB.1
  have HB := Lib.hid (hB.later HO.out.2.2.2.2)
  clear hB
  have HZ : Hid (lay (List.replicate 64 0) 0 zs = zs) := Lib.hid (by
    rw [lay_eq _ _ _ (by rw [HL.out]; decide), HL.out]
    simp)
  generalize hw1 : w.alloc (.cells (madeCells #[.int .u8 0] 64) 5) = w1 at *
  have HW1 := Lib.hid hw1
  clear hw1
  have i1 : (q : Int) ≤ 64 := by omega
  go_enter Try.func82, Try.ntmps82
  go_wp2_with (first | (refine wp_copy rfl (.tmp 9) (.tmp 10) 46 46 rfl _ _ rfl rfl _ (own_copy_bytes HO.out (by decide) ao 64 cap zs HB.out (by decide) _) ?_; rintro v2 w2 ⟨rfl, hO2⟩; rw [HZ.out] at hO2; have HO2 := Lib.hid hO2; clear hO2) | (refine wp_copy rfl (.tmp 14) (.tmp 15) 46 9 rfl _ _ rfl rfl _ (own_copy_text HO2.out (by rw [HL.out]; omega) s (by omega) _) ?_; rintro v3 w3 ⟨rfl, hO3⟩; have HO3 := Lib.hid hO3; clear hO3))
  go_ret
  have hf := HO3.out.fresh (cap := 64) (by rw [lay_length, HL.out]; decide) (by rw [lay_length, HL.out]; decide)
  rw [lay_length, HL.out] at hf
  exact ⟨_, rfl, hf, HO3.out.2.2.2.2⟩

end Go.Proofs.Ytbnepjojfaeggaa

namespace Go.Proofs.Ytbnepjojfaeggaa
open Go.RowKit

theorem putK_quot (zs : List Int) (p : Nat) (n : Int) (k : Nat) : (putK zs p n k).2 = n / 256 ^ k := by
  induction k with
  | zero => show n = n / 1; omega
  | succ k ih =>
    show (putK zs p n k).2 / 256 = _
    rw [ih, Int.pow_succ, ← Int.ediv_ediv_of_nonneg (by have := pow256_pos k; omega)]

theorem putK_lay (zs : List Int) (p : Nat) (n : Int) (k : Nat) : (putK zs p n k).1 = lay zs p (leB n k) := by
  induction k with
  | zero => rfl
  | succ k ih =>
    show (putK zs p n k).1.set (p + k) ((putK zs p n k).2 % 256) = lay zs p (leB n k ++ [n / 256 ^ k % 256])
    rw [lay_snoc, leB_length, ih, putK_quot]

set_option maxHeartbeats 400000 in
theorem fSet_any (ao : Option Addr) (len cap : Nat) (zs : List Int) (p size n : Int) (w : World) (hA : Arg w ao len cap zs) (hp : -9223372036854775808 ≤ p ∧ p ≤ 9223372036854775807) (hs : -9223372036854775808 ≤ size ∧ size ≤ 9223372036854775807) (hn : -9223372036854775808 ≤ n ∧ n ≤ 9223372036854775807) :
    Calls Try.prog 79 #[.slice ao len cap, .int .i64 p, .int .i64 size, .int .i64 n] w (Handed w.heap.size w (setOut zs p size n) (setErr len p size n)) := by
  obtain ⟨hB, _, _, hlen⟩ := hA
  have hl := hB.1
  have cK := fNumber_any ao len cap p size w hlen hp
  by_cases hE : fErr len p size = 0
  · have ho := fErr_ok hE
    have hlen : len = 64 := ho.1
    subst hlen
    obtain ⟨k, hk⟩ : ∃ k : Nat, size = k := ⟨size.toNat, by omega⟩
    obtain ⟨q, hq⟩ : ∃ q : Nat, p = q := ⟨p.toNat, by omega⟩
    subst hk
    subst hq
    have e1 : Int.toNat (k : Int) = k := by omega
    have e2 : Int.toNat (q : Int) = q := by omega
    have k1 : 1 ≤ k := by omega
    have k4 : k ≤ 4 := by omega
    have hq60 : q + k ≤ 60 := by omega
    have HO : Hid (setErr 64 q k n = if n < 0 ∨ 0 < n / 2 ^ (8 * k) then 7 else 0) := Lib.hid (by
      unfold setErr
      rw [hE, if_neg (by decide), e1, putK_quot, pow_two_bytes])
    have HO2 : Hid (setErr 64 q k n = 0 → setOut zs q k n = lay zs q (leB n k)) := Lib.hid (fun h => by
      rw [setOut_ok (by rw [hl]; exact h), e1, e2, putK_lay])
    have HO3 : Hid (setErr 64 q k n ≠ 0 → setOut zs q k n = []) := Lib.hid (fun h => setOut_err (by rw [hl]; exact h))
    rw [hE] at cK
    have HL := Lib.hid hl
    have HB := Lib.hid hB
    clear hE ho hB hl hp hs e1 e2 hlen
    by_cases hneg : n < 0
    · have HE7 : Hid (setErr 64 q k n = 7) := Lib.hid (by rw [HO.out, if_pos (Or.inl hneg)])
      have HE8 : Hid (setOut zs q k n = []) := Lib.hid (HO3.out (by rw [HE7.out]; decide))
      go_enter Try.func79, Try.ntmps79
      go_wp2_with (go_at_call 91; refine cK.mono ?_; rintro e w' ⟨rfl, rfl⟩)
      go_ret2
      exact ⟨.slice none 0 0, by rw [HE7.out]; rfl, by rw [HE8.out]; exact Fresh.nil _ _, Below.refl _ _⟩
    · have hn0 : 0 ≤ n := by omega
      by_cases hbig : 0 < n / 2 ^ (8 * k)
      · have HE7 : Hid (setErr 64 q k n = 7) := Lib.hid (by rw [HO.out, if_pos (Or.inr hbig)])
        have HE8 : Hid (setOut zs q k n = []) := Lib.hid (HO3.out (by rw [HE7.out]; decide))
        go_enter Try.func79, Try.ntmps79
        go_wp2_with (go_at_call 91; refine cK.mono ?_; rintro e w' ⟨rfl, rfl⟩)
        go_ret2
        exact ⟨.slice none 0 0, by rw [HE7.out]; rfl, by rw [HE8.out]; exact Fresh.nil _ _, Below.refl _ _⟩
      · have HE7 : Hid (setErr 64 q k n = 0) := Lib.hid (by rw [HO.out, if_neg (by omega)])
        have HE8 : Hid (setOut zs q k n = lay zs q (bytesOf (str (leB n k)))) := Lib.hid (by rw [HO2.out HE7.out, bytesOf_str (leB_bytes n k)])
        have cB := fBytes_any k n w k4
        have HC : Hid (∀ w2, Below w.heap.size w w2 → Calls Try.prog 82 #[.slice ao 64 cap, .int .i64 q, .string (str (leB n k))] w2 (Gives w2.heap.size w2 (lay zs q (bytesOf (str (leB n k)))))) :=
          Lib.hid (fun w2 hb => fWith_any ao cap zs q _ w2 (HB.out.later hb) (by rw [str_size, leB_length]; omega) (by omega))
        go_enter Try.func79, Try.ntmps79
        go_wp2_with (first | (go_at_call 91; refine cK.mono ?_; rintro e w' ⟨rfl, rfl⟩) | (go_at_call 92; refine cB.mono ?_; rintro e w2 ⟨rfl, hb2⟩; have HB2 := Lib.hid hb2; clear hb2) | (go_at_call 82; refine (HC.out _ HB2.out).mono ?_; rintro e w3 ⟨v3, rfl, hf3, hb3⟩; have HF3 := Lib.hid hf3; have HB3 := Lib.hid hb3; clear hf3 hb3))
        go_ret2
        exact ⟨v3, by rw [HE7.out]; rfl, by rw [HE8.out]; exact HF3.out.mono HB2.out.size, HB2.out.trans (HB3.out.mono HB2.out.size)⟩
  · have HE7 : Hid (setErr len p size n = fErr len p size) := Lib.hid (by unfold setErr; rw [if_pos hE])
    have HE8 : Hid (setOut zs p size n = []) := Lib.hid (setOut_err (by rw [hl, HE7.out]; exact hE))
    obtain ⟨E, HE⟩ : ∃ E, Hid (fErr len p size = E) := ⟨_, Lib.hid rfl⟩
    rw [HE.out] at hE cK HE7
    have hne : (E != 0) = true := by simp; exact hE
    clear hB hl hE hp hs hn hlen
    go_enter Try.func79, Try.ntmps79
    go_wp2_with (go_at_call 91; refine cK.mono ?_; rintro e w' ⟨rfl, rfl⟩)
    go_ret2
    exact ⟨.slice none 0 0, by rw [HE7.out]; rfl, by rw [HE8.out]; exact Fresh.nil _ _, Below.refl _ _⟩

end Go.Proofs.Ytbnepjojfaeggaa

namespace Go.Proofs.Ytbnepjojfaeggaa
open Go.RowKit

set_option maxHeartbeats 400000 in
theorem fGet_any (ao : Option Addr) (len cap : Nat) (zs : List Int) (p size : Int) (w : World) (hA : Arg w ao len cap zs) (hp : -9223372036854775808 ≤ p ∧ p ≤ 9223372036854775807) (hs : -9223372036854775808 ≤ size ∧ size ≤ 9223372036854775807) :
    Calls Try.prog 81 #[.slice ao len cap, .int .i64 p, .int .i64 size] w fun e w' => e = .returned (.tuple #[.int .i64 (getOut zs p size), .int .i64 (fErr len p size)]) ∧ w = w' := by
  obtain ⟨hB, _, _, hlen⟩ := hA
  have hl := hB.1
  have cK := fNumber_any ao len cap p size w hlen hp
  unfold getOut
  rw [hl]
  by_cases hE : fErr len p size = 0
  · have ho := fErr_ok hE
    have hlen : len = 64 := ho.1
    subst hlen
    obtain ⟨k, hk⟩ : ∃ k : Nat, size = k := ⟨size.toNat, by omega⟩
    obtain ⟨q, hq⟩ : ∃ q : Nat, p = q := ⟨p.toNat, by omega⟩
    subst hk
    subst hq
    rw [if_pos hE, hE]
    rw [hE] at cK
    have e1 : Int.toNat (q : Int) = q := by omega
    have e2 : Int.toNat (k : Int) = k := by omega
    rw [e1, e2]
    have k4 : k ≤ 4 := by omega
    have hq60 : q + k ≤ 60 := by omega
    obtain ⟨b, off, rfl, hc⟩ := hB.2.2.2.resolve_left (by decide)
    have hz := hB.2.2.1
    have HL := Lib.hid hl
    clear hB hl hE ho e1 e2 hp hs hlen
    go_enter Try.func81, Try.ntmps81
    go_wp2_with (go_at_call 91; refine cK.mono ?_; rintro e w' ⟨rfl, rfl⟩)
    go_loop [9, 19] (fun nv iv => ∃ j : Nat, j ≤ k ∧ iv = .int .i64 j ∧ nv = .int .i64 (leN zs q j)) (fun _ iv => k - (intOf iv).toNat)
    case atStart => exact ⟨0, Nat.zero_le _, rfl, rfl⟩
    case round =>
      obtain ⟨j, hj, rfl, rfl⟩ := hrel
      by_cases hlt : j < k
      · have hx := hz _ (getD_mem (l := zs) (k := q + j) (by rw [HL.out]; omega))
        have hb := leN_bounds hz q j (by rw [HL.out]; omega)
        have hb4 := leN_four hz q (j + 1) (by rw [HL.out]; omega) (by omega)
        have hcell := hc (q + j) (by omega)
        have HN : Hid (leN zs q (j + 1) = leN zs q j + zs.getD (q + j) 0 * 2 ^ (8 * j)) := Lib.hid (by rw [pow_two_bytes]; rfl)
        rw [HN.out] at hb4
        rw [← pow_two_bytes] at hb
        generalize leN zs q j = a at *
        obtain ⟨x, HX⟩ : ∃ x, Hid (x = zs.getD (q + j) 0) := ⟨_, Lib.hid rfl⟩
        rw [← HX.out] at hx hcell hb4 HN
        have hor := or_parts hb hx.1 (by omega)
        have hm : 0 ≤ x * 2 ^ (8 * j) := Int.mul_nonneg hx.1 (Int.le_of_lt (Int.pow_pos (by decide)))
        have hm2 : x * 2 ^ (8 * j) ≤ 4294967295 := by omega
        obtain ⟨hx0, hx1⟩ := hx
        obtain ⟨ha0, _⟩ := hb
        clear hz hc hb4
        have i1 : (0 : Int) ≤ (q : Int) + (j : Int) := by omega
        have i2 : (q : Int) + (j : Int) < (64 : Int) := by omega
        go_wp2
        go_round
        case rel => exact ⟨j + 1, by omega, by go_num, by rw [HN.out]⟩
        case measure => simp [intOf]; omega
      · have hjk : j = k := by omega
        subst hjk
        clear hz hc
        go_wp2
        go_ret2
        exact ⟨rfl, rfl⟩
  · rw [if_neg hE]
    obtain ⟨E, HE⟩ : ∃ E, Hid (fErr len p size = E) := ⟨_, Lib.hid rfl⟩
    rw [HE.out] at hE cK ⊢
    have hne : (E != 0) = true := by simp; exact hE
    clear hB hl hE hp hs hlen
    go_enter Try.func81, Try.ntmps81
    go_wp2_with (go_at_call 91; refine cK.mono ?_; rintro e w' ⟨rfl, rfl⟩)
    go_ret2
    exact ⟨rfl, rfl⟩

end Go.Proofs.Ytbnepjojfaeggaa

namespace Go.Proofs.Ytbnepjojfaeggaa
open Go.RowKit

theorem textErr_place (len : Nat) (p : Int) (n : Nat) : textErr len p n = placeErr len p n := by
  unfold textErr placeErr
  by_cases h : len = 64
  · rw [if_pos h, if_pos h]
    by_cases h1 : p < 0 ∨ 60 - p < n
    · rw [if_pos h1, if_pos (by omega)]
    · rw [if_neg h1, if_neg (by omega)]
  · rw [if_neg h, if_neg h]

set_option maxHeartbeats 400000 in
theorem fText_any (ao : Option Addr) (len cap : Nat) (zs : List Int) (p : Int) (s : ByteArray) (w : World) (hA : Arg w ao len cap zs) (hp : -9223372036854775808 ≤ p ∧ p ≤ 9223372036854775807) (hsz : s.size ≤ 9223372036854775807) :
    Calls Try.prog 84 #[.slice ao len cap, .int .i64 p, .string s] w (Handed w.heap.size w (textOut zs p (bytesOf s)) (textErr len p s.size)) := by
  obtain ⟨hB, _, _, hlen⟩ := hA
  have hl := hB.1
  have cK := fPlace_any ao len cap p s.size w hlen hp
  have HO : Hid (textOut zs p (bytesOf s) = if placeErr len p s.size = 0 then zs.take p.toNat ++ bytesOf s ++ zs.drop (p.toNat + (bytesOf s).length) else []) := Lib.hid (by
    unfold textOut
    rw [hl, bytesOf_length, textErr_place])
  rw [textErr_place]
  by_cases hE : placeErr len p s.size = 0
  · have ho : len = 64 ∧ 0 ≤ p ∧ p + s.size ≤ 60 := by
      unfold placeErr at hE
      by_cases h : len = 64
      · rw [if_pos h] at hE
        by_cases h1 : p < 0 ∨ 60 - p < s.size
        · rw [if_pos h1] at hE; exact absurd hE (by decide)
        · omega
      · rw [if_neg h] at hE; exact absurd hE (by decide)
    have hlen : len = 64 := ho.1
    subst hlen
    obtain ⟨q, hq⟩ : ∃ q : Nat, p = q := ⟨p.toNat, by omega⟩
    subst hq
    have e2 : Int.toNat (q : Int) = q := by omega
    have HE8 : Hid (textOut zs q (bytesOf s) = lay zs q (bytesOf s)) := Lib.hid (by
      rw [HO.out, if_pos hE, e2, lay_eq _ _ _ (by rw [hl, bytesOf_length]; omega)])
    rw [hE] at cK ⊢
    have cW := fWith_any ao cap zs q s w hB (by omega) (by omega)
    clear hB hl hE ho hlen e2 hp HO
    go_enter Try.func84, Try.ntmps84
    go_wp2_with (first | (go_at_call 94; refine cK.mono ?_; rintro e w' ⟨rfl, rfl⟩) | (go_at_call 82; refine cW.mono ?_; rintro e w3 ⟨v3, rfl, hf3, hb3⟩; have HF3 := Lib.hid hf3; have HB3 := Lib.hid hb3; clear hf3 hb3))
    go_ret2
    exact ⟨v3, rfl, by rw [HE8.out]; exact HF3.out, HB3.out⟩
  · have HE8 : Hid (textOut zs p (bytesOf s) = []) := Lib.hid (by rw [HO.out, if_neg hE])
    obtain ⟨E, HE⟩ : ∃ E, Hid (placeErr len p s.size = E) := ⟨_, Lib.hid rfl⟩
    rw [HE.out] at hE cK ⊢
    have hne : (E != 0) = true := by simp; exact hE
    clear hB hl hE hp hlen HO
    go_enter Try.func84, Try.ntmps84
    go_wp2_with (go_at_call 94; refine cK.mono ?_; rintro e w' ⟨rfl, rfl⟩)
    go_ret2
    exact ⟨.slice none 0 0, rfl, by rw [HE8.out]; exact Fresh.nil _ _, Below.refl _ _⟩

end Go.Proofs.Ytbnepjojfaeggaa

namespace Go.Proofs.Ytbnepjojfaeggaa
open Go.RowKit

set_option maxHeartbeats 400000 in
theorem fSum_any (ao : Option Addr) (cap : Nat) (zs : List Int) (w : World) (hA : Arg w ao 64 cap zs) :
    Calls Try.prog 83 #[.slice ao 64 cap] w fun e w' => e = .returned (.string (str (leB (sumS (zs.take 60)) 4))) ∧ Below w.heap.size w w' := by
  obtain ⟨hB, _, hcap, _⟩ := hA
  obtain ⟨b, off, rfl, _⟩ := hB.2.2.2.resolve_left (by decide)
  have cS := Sum_any (some ⟨b, off, none⟩) 60 cap (zs.take 60) w (bts_take hB (by decide))
  have hSb := sumS_bounds (zs.take 60)
  have cB := fBytes_any 4 (sumS (zs.take 60)) w (by decide)
  rw [show ((4 : Nat) : Int) = 4 from rfl] at cB
  generalize sumS (zs.take 60) = S at *
  have i2 : (60 : Int) ≤ (cap : Int) := by omega
  clear hB
  go_enter Try.func83, Try.ntmps83
  go_wp2_with (first | (go_at_call 93; refine cS.mono ?_; rintro e w' ⟨rfl, rfl⟩) | (go_at_call 92; refine cB.mono ?_; rintro e w2 ⟨rfl, hb2⟩; have HB2 := Lib.hid hb2; clear hb2))
  go_ret
  exact ⟨rfl, HB2.out⟩

set_option maxHeartbeats 400000 in
theorem fSeal_any (ao : Option Addr) (len cap : Nat) (zs : List Int) (w : World) (hA : Arg w ao len cap zs) :
    Calls Try.prog 66 #[.slice ao len cap] w (Handed w.heap.size w (sealOut sumS zs) (sealErr len)) := by
  have hl := hA.1.1
  by_cases h64 : len = 64
  · subst h64
    have HE8 : Hid (sealOut sumS zs = lay zs 60 (bytesOf (str (leB (sumS (zs.take 60)) 4)))) := Lib.hid (by
      unfold sealOut
      rw [if_pos hl, sealOf_take hl, bytesOf_str (leB_bytes _ _), lay_eq _ _ _ (by rw [hl, leB_length]; decide), leB_length, List.drop_of_length_le (by rw [hl]; decide), List.append_nil])
    have cS := fSum_any ao cap zs w hA
    have HC : Hid (∀ w2, Below w.heap.size w w2 → Calls Try.prog 82 #[.slice ao 64 cap, .int .i64 60, .string (str (leB (sumS (zs.take 60)) 4))] w2 (Gives w2.heap.size w2 (lay zs 60 (bytesOf (str (leB (sumS (zs.take 60)) 4)))))) :=
      Lib.hid (fun w2 hb => fWith_any ao cap zs 60 _ w2 (hA.1.later hb) (by rw [str_size, leB_length]; decide) (by decide))
    clear hA hl
    rw [show sealErr 64 = 0 from rfl]
    go_enter Try.func66, Try.ntmps66
    go_wp2_with (first | (go_at_call 83; refine cS.mono ?_; rintro e w2 ⟨rfl, hb2⟩; have HB2 := Lib.hid hb2; clear hb2) | (go_at_call 82; refine (HC.out _ HB2.out).mono ?_; rintro e w3 ⟨v3, rfl, hf3, hb3⟩; have HF3 := Lib.hid hf3; have HB3 := Lib.hid hb3; clear hf3 hb3))
    go_ret2
    exact ⟨v3, rfl, by rw [HE8.out]; exact HF3.out.mono HB2.out.size, HB2.out.trans (HB3.out.mono HB2.out.size)⟩
  · have HE8 : Hid (sealOut sumS zs = []) := Lib.hid (by unfold sealOut; rw [if_neg (by omega)])
    have hne : ((len : Int) != 64) = true := by simp; omega
    have HE7 : Hid (sealErr len = 2) := Lib.hid (by unfold sealErr; rw [if_neg h64])
    clear hA hl
    go_enter Try.func66, Try.ntmps66
    go_wp2
    go_ret2
    exact ⟨.slice none 0 0, by rw [HE7.out]; rfl, by rw [HE8.out]; exact Fresh.nil _ _, Below.refl _ _⟩

end Go.Proofs.Ytbnepjojfaeggaa
