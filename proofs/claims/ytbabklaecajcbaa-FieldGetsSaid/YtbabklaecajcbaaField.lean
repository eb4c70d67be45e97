/-
  Proved here: what the landed code of package field answers: Set, Get, Text, Seal and Sealed.
  The conditions stand at each theorem.
-/
import Derived.Test.YtbabklaecajcbaaCopy
import Derived.Test.YtbabklaecajcbaaRef04
import Derived.Test.YtbabklaecajcbaaRef04Seal
import Derived.Test.YtbabklaecajcbaaRef04Text
namespace Go.Proofs.Ytbabklaecajcbaa
open Go.RowKit

/-- The error of a place of so many bytes. -/
def placeErr (len : Nat) (p n : Int) : Int := if len = 64 then (if p < 0 ∨ 60 - p < n then 1 else 0) else 2

set_option maxHeartbeats 400000 in
theorem fPlace_any (ao : Option Addr) (len cap : Nat) (p n : Int) (w : World) (hl : len ≤ 140737488351232) (hp : -9223372036854775808 ≤ p ∧ p ≤ 9223372036854775807) :
    Calls Try.prog 26 #[.slice ao len cap, .int .i64 p, .int .i64 n] w fun e w' => e = .returned (.int .i64 (placeErr len p n)) ∧ w = w' := by
  unfold placeErr
  by_cases h0 : len = 64
  · subst h0
    rw [if_pos rfl]
    by_cases h1 : p < 0
    · rw [if_pos (Or.inl h1)]
      go_enter Try.func26, Try.ntmps26
      go_wp2
      go_ret
      exact ⟨rfl, rfl⟩
    · by_cases h2 : 60 - p < n
      · rw [if_pos (Or.inr h2)]
        go_enter Try.func26, Try.ntmps26
        go_wp2
        go_ret
        exact ⟨rfl, rfl⟩
      · rw [if_neg (by omega)]
        go_enter Try.func26, Try.ntmps26
        go_wp2
        go_ret
        exact ⟨rfl, rfl⟩
  · rw [if_neg h0]
    have hne : ((len : Int) != 64) = true := by simp; omega
    go_enter Try.func26, Try.ntmps26
    go_wp2
    go_ret
    exact ⟨rfl, rfl⟩

theorem fErr_place (len : Nat) (p n : Int) : fErr len p n = if placeErr len p n = 0 then (if n < 1 ∨ 4 < n then 1 else 0) else placeErr len p n := by
  unfold fErr placeErr
  by_cases hl : len = 64
  · rw [if_pos hl, if_pos hl]
    by_cases h2 : p < 0 ∨ 60 - p < n
    · rw [if_pos h2, if_neg (show ¬ (1 : Int) = 0 by decide)]
      by_cases h3 : n < 1 ∨ 4 < n ∨ p < 0 ∨ 60 < p ∨ 60 < p + n
      · rw [if_pos h3]
      · omega
    · rw [if_neg h2, if_pos rfl]
      by_cases h3 : n < 1 ∨ 4 < n
      · rw [if_pos h3, if_pos (by omega)]
      · rw [if_neg h3, if_neg (by omega)]
  · rw [if_neg hl, if_neg hl, if_neg (by decide)]

set_option maxHeartbeats 400000 in
theorem fNumber_any (ao : Option Addr) (len cap : Nat) (p n : Int) (w : World) (hl : len ≤ 140737488351232) (hp : -9223372036854775808 ≤ p ∧ p ≤ 9223372036854775807) :
    Calls Try.prog 21 #[.slice ao len cap, .int .i64 p, .int .i64 n] w fun e w' => e = .returned (.int .i64 (fErr len p n)) ∧ w = w' := by
  have c := fPlace_any ao len cap p n w hl hp
  rw [fErr_place]
  clear hl hp
  by_cases hE : placeErr len p n = 0
  · rw [if_pos hE]
    rw [hE] at c
    clear hE
    by_cases h1 : n < 1
    · rw [if_pos (Or.inl h1)]
      go_enter Try.func21, Try.ntmps21
      go_wp2_with (go_at_call 26; refine c.mono ?_; rintro e w' ⟨rfl, rfl⟩)
      go_ret
      exact ⟨rfl, rfl⟩
    · by_cases h2 : 4 < n
      · rw [if_pos (Or.inr h2)]
        go_enter Try.func21, Try.ntmps21
        go_wp2_with (go_at_call 26; refine c.mono ?_; rintro e w' ⟨rfl, rfl⟩)
        go_ret
        exact ⟨rfl, rfl⟩
      · rw [if_neg (by omega)]
        go_enter Try.func21, Try.ntmps21
        go_wp2_with (go_at_call 26; refine c.mono ?_; rintro e w' ⟨rfl, rfl⟩)
        go_ret
        exact ⟨rfl, rfl⟩
  · rw [if_neg hE]
    obtain ⟨E, HE⟩ : ∃ E, Hid (placeErr len p n = E) := ⟨_, Lib.hid rfl⟩
    rw [HE.out] at hE c ⊢
    have hne : (E != 0) = true := by simp; exact hE
    clear hE
    go_enter Try.func21, Try.ntmps21
    go_wp2_with (go_at_call 26; refine c.mono ?_; rintro e w' ⟨rfl, rfl⟩)
    go_ret
    exact ⟨rfl, rfl⟩

/-- What bytesOf has laid behind j rounds. -/
def begun (n : Int) (k j : Nat) : List Int := leB n j ++ List.replicate (k - j) 0

theorem begun_length (n : Int) (k j : Nat) (h : j ≤ k) : (begun n k j).length = k := by
  unfold begun; rw [List.length_append, leB_length, List.length_replicate]; omega

theorem begun_step (n : Int) (k j : Nat) (h : j < k) : (begun n k j).set j (n / 256 ^ j % 256) = begun n k (j + 1) := by
  have e : k - j = (k - (j + 1)) + 1 := by omega
  unfold begun
  rw [e, List.replicate_succ, List.set_append_right _ _ (by rw [leB_length]; exact Nat.le_refl _), leB_length, Nat.sub_self, List.set_cons_zero]
  show _ = (leB n j ++ [n / 256 ^ j % 256]) ++ _
  rw [List.append_assoc]
  rfl

set_option maxHeartbeats 400000 in
theorem fBytes_any (k : Nat) (n : Int) (w : World) (hk : k ≤ 4) :
    Calls Try.prog 23 #[.int .i64 k, .int .i64 n] w fun e w' => e = .returned (.string (str (leB n k))) ∧ Below w.heap.size w w' := by
  have hmk := run_make_bytes w k (by omega)
  have HO := Lib.hid (made_own w k)
  generalize hw1 : w.alloc (.cells (madeCells #[.int .u8 0] k) 5) = w1 at *
  have HW1 := Lib.hid hw1
  clear hw1
  go_enter Try.func23, Try.ntmps23
  go_wp2
  go_loopw [11] (fun iv wr => ∃ j : Nat, j ≤ k ∧ iv = .int .i64 j ∧ Hid (Own w.heap.size w w.heap.size (begun n k j) wr)) (fun iv _ => k - (intOf iv).toNat)
  case atStart => exact ⟨0, Nat.zero_le _, rfl, HO⟩
  case round =>
    obtain ⟨j, hj, rfl, HR⟩ := hrel
    by_cases hlt : j < k
    · have hcell := HR.out.2.1 j (by rw [begun_length _ _ _ hj]; exact hlt)
      have hfr := HR.out.2.2.1 j
      obtain ⟨x, hx⟩ : ∃ x, (begun n k j).getD j 0 = x := ⟨_, rfl⟩
      rw [hx] at hcell
      clear hx
      have HS := Lib.hid (HR.out.store (k := j) (y := n / 256 ^ j % 256) (by rw [begun_length _ _ _ hj]; exact hlt) (by omega))
      rw [begun_step n k j hlt, ← pow_two_bytes] at HS
      go_wp2
      go_roundw
      case rel => exact ⟨j + 1, by omega, by go_num, HS⟩
      case measure => simp [intOf]; omega
    · have hjk : j = k := by omega
      subst hjk
      have e0 : begun n j j = leB n j := by unfold begun; rw [Nat.sub_self]; simp
      have hO := HR.out
      rw [e0] at hO
      have hb := hO.bts (by rw [leB_length]; omega)
      rw [leB_length] at hb
      have hs := str_bytes (cap := j) hb
      have HB := Lib.hid hO.2.2.2.2
      clear hO hb e0
      go_wp2
      go_ret
      exact ⟨rfl, HB.out⟩

set_option maxHeartbeats 400000 in
theorem fWith_any (ao : Option Addr) (cap : Nat) (zs : List Int) (q : Nat) (s : ByteArray) (w : World) (hB : Bts w ao 64 zs) (hq : q + s.size ≤ 64) (hq64 : q < 64) :
    Calls Try.prog 22 #[.slice ao 64 cap, .int .i64 q, .string s] w (Gives w.heap.size w (lay zs q (bytesOf s))) := by
  have hmk := run_make_bytes w 64 (by decide)
  rw [show ((64 : Nat) : Int) = 64 from rfl] at hmk
  have HO := Lib.hid (made_own w 64)
  have HL := Lib.hid hB.1
  have HB := Lib.hid (hB.later HO.out.2.2.2.2)
  clear hB
  have HZ : Hid (lay (List.replicate 64 0) 0 zs = zs) := Lib.hid (by
    rw [lay_eq _ _ _ (by rw [HL.out]; decide), HL.out]
    simp)
  generalize hw1 : w.alloc (.cells (madeCells #[.int .u8 0] 64) 5) = w1 at *
  have HW1 := Lib.hid hw1
  clear hw1
  have i1 : (q : Int) ≤ 64 := by omega
  go_enter Try.func22, Try.ntmps22
  go_wp2_with (first | (refine wp_copy rfl (.tmp 9) (.tmp 10) 22 22 rfl _ _ rfl rfl _ (own_copy_bytes HO.out (by decide) ao 64 cap zs HB.out (by decide) _) ?_; rintro v2 w2 ⟨rfl, hO2⟩; rw [HZ.out] at hO2; have HO2 := Lib.hid hO2; clear hO2) | (refine wp_copy rfl (.tmp 14) (.tmp 15) 22 9 rfl _ _ rfl rfl _ (own_copy_text HO2.out (by rw [HL.out]; omega) s (by omega) _) ?_; rintro v3 w3 ⟨rfl, hO3⟩; have HO3 := Lib.hid hO3; clear hO3))
  go_ret
  have hf := HO3.out.fresh (cap := 64) (by rw [lay_length, HL.out]; decide) (by rw [lay_length, HL.out]; decide)
  rw [lay_length, HL.out] at hf
  exact ⟨_, rfl, hf, HO3.out.2.2.2.2⟩

theorem putK_quot (zs : List Int) (p : Nat) (n : Int) (k : Nat) : (putK zs p n k).2 = n / 256 ^ k := by
  induction k with
  | zero => show n = n / 1; omega
  | succ k ih =>
    show (putK zs p n k).2 / 256 = _
    rw [ih, Int.pow_succ, ← Int.ediv_ediv_of_nonneg (by have := pow256_pos k; omega)]

theorem putK_lay (zs : List Int) (p : Nat) (n : Int) (k : Nat) : (putK zs p n k).1 = lay zs p (leB n k) := by
  induction k with
  | zero => rfl
  | succ k ih =>
    show (putK zs p n k).1.set (p + k) ((putK zs p n k).2 % 256) = lay zs p (leB n k ++ [n / 256 ^ k % 256])
    rw [lay_snoc, leB_length, ih, putK_quot]

theorem Fresh.mono {w : World} {base base' : Nat} {v : Value} {l : List Int} (h : Fresh w base' v l) (hb : base ≤ base') : Fresh w base v l := by
  obtain ⟨ao, cap, hv, hA, hf⟩ := h
  refine ⟨ao, cap, hv, hA, ?_⟩
  rcases hf with h0 | ⟨g, off, he, hg, hfr⟩
  · exact Or.inl h0
  · exact Or.inr ⟨g, off, he, Nat.le_trans hb hg, hfr⟩

set_option maxHeartbeats 400000 in
theorem fSet_any (ao : Option Addr) (len cap : Nat) (zs : List Int) (p size n : Int) (w : World) (hA : Arg w ao len cap zs) (hp : -9223372036854775808 ≤ p ∧ p ≤ 9223372036854775807) (hs : -9223372036854775808 ≤ size ∧ size ≤ 9223372036854775807) (hn : -9223372036854775808 ≤ n ∧ n ≤ 9223372036854775807) :
    Calls Try.prog 10 #[.slice ao len cap, .int .i64 p, .int .i64 size, .int .i64 n] w (Handed w.heap.size w (setOut zs p size n) (setErr len p size n)) := by
  obtain ⟨hB, _, _, hlen⟩ := hA
  have hl := hB.1
  have cK := fNumber_any ao len cap p size w hlen hp
  by_cases hE : fErr len p size = 0
  · have ho := fErr_ok hE
    have hlen : len = 64 := ho.1
    subst hlen
    obtain ⟨k, hk⟩ : ∃ k : Nat, size = k := ⟨size.toNat, by omega⟩
    obtain ⟨q, hq⟩ : ∃ q : Nat, p = q := ⟨p.toNat, by omega⟩
    subst hk
    subst hq
    have e1 : Int.toNat (k : Int) = k := by omega
    have e2 : Int.toNat (q : Int) = q := by omega
    have k1 : 1 ≤ k := by omega
    have k4 : k ≤ 4 := by omega
    have hq60 : q + k ≤ 60 := by omega
    have HO : Hid (setErr 64 q k n = if n < 0 ∨ 0 < n / 2 ^ (8 * k) then 7 else 0) := Lib.hid (by
      unfold setErr
      rw [hE, if_neg (by decide), e1, putK_quot, pow_two_bytes])
    have HO2 : Hid (setErr 64 q k n = 0 → setOut zs q k n = lay zs q (leB n k)) := Lib.hid (fun h => by
      rw [setOut_ok (by rw [hl]; exact h), e1, e2, putK_lay])
    have HO3 : Hid (setErr 64 q k n ≠ 0 → setOut zs q k n = []) := Lib.hid (fun h => setOut_err (by rw [hl]; exact h))
    rw [hE] at cK
    have HL := Lib.hid hl
    have HB := Lib.hid hB
    clear hE ho hB hl hp hs e1 e2 hlen
    by_cases hneg : n < 0
    · have HE7 : Hid (setErr 64 q k n = 7) := Lib.hid (by rw [HO.out, if_pos (Or.inl hneg)])
      have HE8 : Hid (setOut zs q k n = []) := Lib.hid (HO3.out (by rw [HE7.out]; decide))
      go_enter Try.func10, Try.ntmps10
      go_wp2_with (go_at_call 21; refine cK.mono ?_; rintro e w' ⟨rfl, rfl⟩)
      go_ret2
      exact ⟨.slice none 0 0, by rw [HE7.out]; rfl, by rw [HE8.out]; exact Fresh.nil _ _, Below.refl _ _⟩
    · have hn0 : 0 ≤ n := by omega
      by_cases hbig : 0 < n / 2 ^ (8 * k)
      · have HE7 : Hid (setErr 64 q k n = 7) := Lib.hid (by rw [HO.out, if_pos (Or.inr hbig)])
        have HE8 : Hid (setOut zs q k n = []) := Lib.hid (HO3.out (by rw [HE7.out]; decide))
        go_enter Try.func10, Try.ntmps10
        go_wp2_with (go_at_call 21; refine cK.mono ?_; rintro e w' ⟨rfl, rfl⟩)
        go_ret2
        exact ⟨.slice none 0 0, by rw [HE7.out]; rfl, by rw [HE8.out]; exact Fresh.nil _ _, Below.refl _ _⟩
      · have HE7 : Hid (setErr 64 q k n = 0) := Lib.hid (by rw [HO.out, if_neg (by omega)])
        have HE8 : Hid (setOut zs q k n = lay zs q (bytesOf (str (leB n k)))) := Lib.hid (by rw [HO2.out HE7.out, bytesOf_str (leB_bytes n k)])
        have cB := fBytes_any k n w k4
        have HC : Hid (∀ w2, Below w.heap.size w w2 → Calls Try.prog 22 #[.slice ao 64 cap, .int .i64 q, .string (str (leB n k))] w2 (Gives w2.heap.size w2 (lay zs q (bytesOf (str (leB n k)))))) :=
          Lib.hid (fun w2 hb => fWith_any ao cap zs q _ w2 (HB.out.later hb) (by rw [str_size, leB_length]; omega) (by omega))
        go_enter Try.func10, Try.ntmps10
        go_wp2_with (first | (go_at_call 21; refine cK.mono ?_; rintro e w' ⟨rfl, rfl⟩) | (go_at_call 23; refine cB.mono ?_; rintro e w2 ⟨rfl, hb2⟩; have HB2 := Lib.hid hb2; clear hb2) | (go_at_call 22; refine (HC.out _ HB2.out).mono ?_; rintro e w3 ⟨v3, rfl, hf3, hb3⟩; have HF3 := Lib.hid hf3; have HB3 := Lib.hid hb3; clear hf3 hb3))
        go_ret2
        exact ⟨v3, by rw [HE7.out]; rfl, by rw [HE8.out]; exact HF3.out.mono HB2.out.size, HB2.out.trans (HB3.out.mono HB2.out.size)⟩
  · have HE7 : Hid (setErr len p size n = fErr len p size) := Lib.hid (by unfold setErr; rw [if_pos hE])
    have HE8 : Hid (setOut zs p size n = []) := Lib.hid (setOut_err (by rw [hl, HE7.out]; exact hE))
    obtain ⟨E, HE⟩ : ∃ E, Hid (fErr len p size = E) := ⟨_, Lib.hid rfl⟩
    rw [HE.out] at hE cK HE7
    have hne : (E != 0) = true := by simp; exact hE
    clear hB hl hE hp hs hn hlen
    go_enter Try.func10, Try.ntmps10
    go_wp2_with (go_at_call 21; refine cK.mono ?_; rintro e w' ⟨rfl, rfl⟩)
    go_ret2
    exact ⟨.slice none 0 0, by rw [HE7.out]; rfl, by rw [HE8.out]; exact Fresh.nil _ _, Below.refl _ _⟩

theorem big64 : 9223372036854775808 < 2 ^ 64 := by decide

theorem below64 {a b : Nat} (h : a + b < 9223372036854775808) : a < 2 ^ 64 := by
  have := big64
  generalize 2 ^ 64 = B at *
  omega

theorem or_parts {a x : Int} {m : Nat} (ha : 0 ≤ a ∧ a < 2 ^ m) (hx : 0 ≤ x) (hs : a + x * 2 ^ m < 9223372036854775808) : bits .or .i64 a (x * 2 ^ m) = a + x * 2 ^ m := by
  obtain ⟨a, rfl⟩ := Int.eq_ofNat_of_zero_le ha.1
  obtain ⟨x, rfl⟩ := Int.eq_ofNat_of_zero_le hx
  have hp : ((2 : Int) ^ m) = ((2 ^ m : Nat) : Int) := by rw [Int.natCast_pow]; rfl
  have ha2 : a < 2 ^ m := by have h := ha.2; rw [hp] at h; exact Int.ofNat_lt.1 h
  have he : ((x : Int) * 2 ^ m) = ((2 ^ m * x : Nat) : Int) := by rw [hp, Nat.mul_comm]; exact (Int.natCast_mul _ _).symm
  rw [he] at hs ⊢
  have h3 : 2 ^ m * x + a < 9223372036854775808 := by omega
  have h1 : (BitVec.ofInt 64 (a : Int)).toNat = a := by
    rw [BitVec.ofInt_natCast, BitVec.toNat_ofNat]; exact Nat.mod_eq_of_lt (below64 (b := 2 ^ m * x) (by rw [Nat.add_comm]; exact h3))
  have h2 : (BitVec.ofInt 64 ((2 ^ m * x : Nat) : Int)).toNat = 2 ^ m * x := by
    rw [BitVec.ofInt_natCast, BitVec.toNat_ofNat]; exact Nat.mod_eq_of_lt (below64 h3)
  show IntKind.i64.wrap ((BitVec.ofInt 64 (a : Int) ||| BitVec.ofInt 64 ((2 ^ m * x : Nat) : Int)).toNat : Int) = _
  rw [BitVec.toNat_or, h1, h2, Nat.or_comm, ← Nat.two_pow_add_eq_or_of_lt ha2, IntWalk.i64_in _ (by omega)]
  omega

set_option maxHeartbeats 400000 in
theorem fGet_any (ao : Option Addr) (len cap : Nat) (zs : List Int) (p size : Int) (w : World) (hA : Arg w ao len cap zs) (hp : -9223372036854775808 ≤ p ∧ p ≤ 9223372036854775807) (hs : -9223372036854775808 ≤ size ∧ size ≤ 9223372036854775807) :
    Calls Try.prog 13 #[.slice ao len cap, .int .i64 p, .int .i64 size] w fun e w' => e = .returned (.tuple #[.int .i64 (getOut zs p size), .int .i64 (fErr len p size)]) ∧ w = w' := by
  obtain ⟨hB, _, _, hlen⟩ := hA
  have hl := hB.1
  have cK := fNumber_any ao len cap p size w hlen hp
  unfold getOut
  rw [hl]
  by_cases hE : fErr len p size = 0
  · have ho := fErr_ok hE
    have hlen : len = 64 := ho.1
    subst hlen
    obtain ⟨k, hk⟩ : ∃ k : Nat, size = k := ⟨size.toNat, by omega⟩
    obtain ⟨q, hq⟩ : ∃ q : Nat, p = q := ⟨p.toNat, by omega⟩
    subst hk
    subst hq
    rw [if_pos hE, hE]
    rw [hE] at cK
    have e1 : Int.toNat (q : Int) = q := by omega
    have e2 : Int.toNat (k : Int) = k := by omega
    rw [e1, e2]
    have k4 : k ≤ 4 := by omega
    have hq60 : q + k ≤ 60 := by omega
    obtain ⟨b, off, rfl, hc⟩ := hB.2.2.2.resolve_left (by decide)
    have hz := hB.2.2.1
    have HL := Lib.hid hl
    clear hB hl hE ho e1 e2 hp hs hlen
    go_enter Try.func13, Try.ntmps13
    go_wp2_with (go_at_call 21; refine cK.mono ?_; rintro e w' ⟨rfl, rfl⟩)
    go_loop [9, 19] (fun nv iv => ∃ j : Nat, j ≤ k ∧ iv = .int .i64 j ∧ nv = .int .i64 (leN zs q j)) (fun _ iv => k - (intOf iv).toNat)
    case atStart => exact ⟨0, Nat.zero_le _, rfl, rfl⟩
    case round =>
      obtain ⟨j, hj, rfl, rfl⟩ := hrel
      by_cases hlt : j < k
      · have hx := hz _ (getD_mem (l := zs) (k := q + j) (by rw [HL.out]; omega))
        have hb := leN_bounds hz q j (by rw [HL.out]; omega)
        have hb4 := leN_four hz q (j + 1) (by rw [HL.out]; omega) (by omega)
        have hcell := hc (q + j) (by omega)
        have HN : Hid (leN zs q (j + 1) = leN zs q j + zs.getD (q + j) 0 * 2 ^ (8 * j)) := Lib.hid (by rw [pow_two_bytes]; rfl)
        rw [HN.out] at hb4
        rw [← pow_two_bytes] at hb
        generalize leN zs q j = a at *
        obtain ⟨x, HX⟩ : ∃ x, Hid (x = zs.getD (q + j) 0) := ⟨_, Lib.hid rfl⟩
        rw [← HX.out] at hx hcell hb4 HN
        have hor := or_parts hb hx.1 (by omega)
        have hm : 0 ≤ x * 2 ^ (8 * j) := Int.mul_nonneg hx.1 (Int.le_of_lt (Int.pow_pos (by decide)))
        have hm2 : x * 2 ^ (8 * j) ≤ 4294967295 := by omega
        obtain ⟨hx0, hx1⟩ := hx
        obtain ⟨ha0, _⟩ := hb
        clear hz hc hb4
        have i1 : (0 : Int) ≤ (q : Int) + (j : Int) := by omega
        have i2 : (q : Int) + (j : Int) < (64 : Int) := by omega
        go_wp2
        go_round
        case rel => exact ⟨j + 1, by omega, by go_num, by rw [HN.out]⟩
        case measure => simp [intOf]; omega
      · have hjk : j = k := by omega
        subst hjk
        clear hz hc
        go_wp2
        go_ret2
        exact ⟨rfl, rfl⟩
  · rw [if_neg hE]
    obtain ⟨E, HE⟩ : ∃ E, Hid (fErr len p size = E) := ⟨_, Lib.hid rfl⟩
    rw [HE.out] at hE cK ⊢
    have hne : (E != 0) = true := by simp; exact hE
    clear hB hl hE hp hs hlen
    go_enter Try.func13, Try.ntmps13
    go_wp2_with (go_at_call 21; refine cK.mono ?_; rintro e w' ⟨rfl, rfl⟩)
    go_ret2
    exact ⟨rfl, rfl⟩

theorem textErr_place (len : Nat) (p : Int) (n : Nat) : textErr len p n = placeErr len p n := by
  unfold textErr placeErr
  by_cases h : len = 64
  · rw [if_pos h, if_pos h]
    by_cases h1 : p < 0 ∨ 60 - p < n
    · rw [if_pos h1, if_pos (by omega)]
    · rw [if_neg h1, if_neg (by omega)]
  · rw [if_neg h, if_neg h]

set_option maxHeartbeats 400000 in
theorem fText_any (ao : Option Addr) (len cap : Nat) (zs : List Int) (p : Int) (s : ByteArray) (w : World) (hA : Arg w ao len cap zs) (hp : -9223372036854775808 ≤ p ∧ p ≤ 9223372036854775807) (hsz : s.size ≤ 9223372036854775807) :
    Calls Try.prog 15 #[.slice ao len cap, .int .i64 p, .string s] w (Handed w.heap.size w (textOut zs p (bytesOf s)) (textErr len p s.size)) := by
  obtain ⟨hB, _, _, hlen⟩ := hA
  have hl := hB.1
  have cK := fPlace_any ao len cap p s.size w hlen hp
  have HO : Hid (textOut zs p (bytesOf s) = if placeErr len p s.size = 0 then zs.take p.toNat ++ bytesOf s ++ zs.drop (p.toNat + (bytesOf s).length) else []) := Lib.hid (by
    unfold textOut
    rw [hl, bytesOf_length, textErr_place])
  rw [textErr_place]
  by_cases hE : placeErr len p s.size = 0
  · have ho : len = 64 ∧ 0 ≤ p ∧ p + s.size ≤ 60 := by
      unfold placeErr at hE
      by_cases h : len = 64
      · rw [if_pos h] at hE
        by_cases h1 : p < 0 ∨ 60 - p < s.size
        · rw [if_pos h1] at hE; exact absurd hE (by decide)
        · omega
      · rw [if_neg h] at hE; exact absurd hE (by decide)
    have hlen : len = 64 := ho.1
    subst hlen
    obtain ⟨q, hq⟩ : ∃ q : Nat, p = q := ⟨p.toNat, by omega⟩
    subst hq
    have e2 : Int.toNat (q : Int) = q := by omega
    have HE8 : Hid (textOut zs q (bytesOf s) = lay zs q (bytesOf s)) := Lib.hid (by
      rw [HO.out, if_pos hE, e2, lay_eq _ _ _ (by rw [hl, bytesOf_length]; omega)])
    rw [hE] at cK ⊢
    have cW := fWith_any ao cap zs q s w hB (by omega) (by omega)
    clear hB hl hE ho hlen e2 hp HO
    go_enter Try.func15, Try.ntmps15
    go_wp2_with (first | (go_at_call 26; refine cK.mono ?_; rintro e w' ⟨rfl, rfl⟩) | (go_at_call 22; refine cW.mono ?_; rintro e w3 ⟨v3, rfl, hf3, hb3⟩; have HF3 := Lib.hid hf3; have HB3 := Lib.hid hb3; clear hf3 hb3))
    go_ret2
    exact ⟨v3, rfl, by rw [HE8.out]; exact HF3.out, HB3.out⟩
  · have HE8 : Hid (textOut zs p (bytesOf s) = []) := Lib.hid (by rw [HO.out, if_neg hE])
    obtain ⟨E, HE⟩ : ∃ E, Hid (placeErr len p s.size = E) := ⟨_, Lib.hid rfl⟩
    rw [HE.out] at hE cK ⊢
    have hne : (E != 0) = true := by simp; exact hE
    clear hB hl hE hp hlen HO
    go_enter Try.func15, Try.ntmps15
    go_wp2_with (go_at_call 26; refine cK.mono ?_; rintro e w' ⟨rfl, rfl⟩)
    go_ret2
    exact ⟨.slice none 0 0, rfl, by rw [HE8.out]; exact Fresh.nil _ _, Below.refl _ _⟩

set_option maxHeartbeats 400000 in
theorem fSum_any (ao : Option Addr) (cap : Nat) (zs : List Int) (w : World) (hA : Arg w ao 64 cap zs) :
    Calls Try.prog 27 #[.slice ao 64 cap] w fun e w' => e = .returned (.string (str (leB (sumS (zs.take 60)) 4))) ∧ Below w.heap.size w w' := by
  obtain ⟨hB, _, hcap, _⟩ := hA
  obtain ⟨b, off, rfl, _⟩ := hB.2.2.2.resolve_left (by decide)
  have cS := Sum_any (some ⟨b, off, none⟩) 60 cap (zs.take 60) w (bts_take hB (by decide))
  have hSb := sumS_bounds (zs.take 60)
  have cB := fBytes_any 4 (sumS (zs.take 60)) w (by decide)
  rw [show ((4 : Nat) : Int) = 4 from rfl] at cB
  generalize sumS (zs.take 60) = S at *
  have i2 : (60 : Int) ≤ (cap : Int) := by omega
  clear hB
  go_enter Try.func27, Try.ntmps27
  go_wp2_with (first | (go_at_call 30; refine cS.mono ?_; rintro e w' ⟨rfl, rfl⟩) | (go_at_call 23; refine cB.mono ?_; rintro e w2 ⟨rfl, hb2⟩; have HB2 := Lib.hid hb2; clear hb2))
  go_ret
  exact ⟨rfl, HB2.out⟩

set_option maxHeartbeats 400000 in
theorem fSeal_any (ao : Option Addr) (len cap : Nat) (zs : List Int) (w : World) (hA : Arg w ao len cap zs) :
    Calls Try.prog 17 #[.slice ao len cap] w (Handed w.heap.size w (sealOut sumS zs) (sealErr len)) := by
  have hl := hA.1.1
  by_cases h64 : len = 64
  · subst h64
    have HE8 : Hid (sealOut sumS zs = lay zs 60 (bytesOf (str (leB (sumS (zs.take 60)) 4)))) := Lib.hid (by
      unfold sealOut
      rw [if_pos hl, sealOf_take hl, bytesOf_str (leB_bytes _ _), lay_eq _ _ _ (by rw [hl, leB_length]; decide), leB_length, List.drop_of_length_le (by rw [hl]; decide), List.append_nil])
    have cS := fSum_any ao cap zs w hA
    have HC : Hid (∀ w2, Below w.heap.size w w2 → Calls Try.prog 22 #[.slice ao 64 cap, .int .i64 60, .string (str (leB (sumS (zs.take 60)) 4))] w2 (Gives w2.heap.size w2 (lay zs 60 (bytesOf (str (leB (sumS (zs.take 60)) 4)))))) :=
      Lib.hid (fun w2 hb => fWith_any ao cap zs 60 _ w2 (hA.1.later hb) (by rw [str_size, leB_length]; decide) (by decide))
    clear hA hl
    rw [show sealErr 64 = 0 from rfl]
    go_enter Try.func17, Try.ntmps17
    go_wp2_with (first | (go_at_call 27; refine cS.mono ?_; rintro e w2 ⟨rfl, hb2⟩; have HB2 := Lib.hid hb2; clear hb2) | (go_at_call 22; refine (HC.out _ HB2.out).mono ?_; rintro e w3 ⟨v3, rfl, hf3, hb3⟩; have HF3 := Lib.hid hf3; have HB3 := Lib.hid hb3; clear hf3 hb3))
    go_ret2
    exact ⟨v3, rfl, by rw [HE8.out]; exact HF3.out.mono HB2.out.size, HB2.out.trans (HB3.out.mono HB2.out.size)⟩
  · have HE8 : Hid (sealOut sumS zs = []) := Lib.hid (by unfold sealOut; rw [if_neg (by omega)])
    have hne : ((len : Int) != 64) = true := by simp; omega
    have HE7 : Hid (sealErr len = 2) := Lib.hid (by unfold sealErr; rw [if_neg h64])
    clear hA hl
    go_enter Try.func17, Try.ntmps17
    go_wp2
    go_ret2
    exact ⟨.slice none 0 0, by rw [HE7.out]; rfl, by rw [HE8.out]; exact Fresh.nil _ _, Below.refl _ _⟩

set_option maxHeartbeats 400000 in
theorem fSealed_any (ao : Option Addr) (len cap : Nat) (zs : List Int) (w : World) (hA : Arg w ao len cap zs) :
    Calls Try.prog 18 #[.slice ao len cap] w (Says w.heap.size w (sealedB zs)) := by
  have hl := hA.1.1
  by_cases h64 : len = 64
  · subst h64
    have hz := hA.1.2.2.1
    have HV : Hid (((str (zs.drop 60)).toList == (str (leB (sumS (zs.take 60)) 4)).toList) = sealedB zs) := Lib.hid (by
      rw [str_eq (fun z h => hz z (List.mem_of_mem_drop h)) (leB_bytes _ _)]
      unfold sealedB
      rw [sealOf_take hl, Bool.eq_iff_iff, decide_eq_true_iff, decide_eq_true_iff]
      have e : zs.take 60 ++ zs.drop 60 = zs := List.take_append_drop 60 zs
      constructor
      · intro h
        rw [← h]
        exact ⟨hl, e⟩
      · intro h
        have h2 := h.2
        conv at h2 => rhs; rw [← e]
        exact (List.append_cancel_left h2).symm)
    have cS := fSum_any ao cap zs w.drew (show Arg w.drew ao 64 cap zs from hA)
    obtain ⟨hB, _, hcap, _⟩ := hA
    obtain ⟨b, off, rfl, _⟩ := hB.2.2.2.resolve_left (by decide)
    have hD : Bts w.drew (some ⟨b, off + 60, none⟩) 4 (zs.drop 60) := bts_drop (k := 60) (show Bts w.drew (some ⟨b, off, none⟩) 64 zs from hB) (by decide)
    have HD := Lib.hid hD
    have s0 := str_bytes (cap := cap - 60) hD
    clear hB hD hl hz
    have hcne : ¬ cap = 60 := by omega
    have i2 : (60 : Int) ≤ (cap : Int) := by omega
    go_enter Try.func18, Try.ntmps18
    go_wp2_with fail
    go_region_with (first | (go_at_call 27; refine cS.mono ?_; rintro e w5 ⟨rfl, b5⟩; have B5 := Lib.hid b5; have s2 := str_bytes (cap := cap - 60) (HD.out.later b5); clear b5))
    all_goals (go_wp2_with fail; go_ret; exact ⟨by rw [← HV.out]; rfl, (Below.refl _ _).drew.trans B5.out⟩)
  · have hv : sealedB zs = false := by
      unfold sealedB
      rw [hl]
      simp [h64]
    have hne : ((len : Int) == 64) = false := by simp; omega
    rw [hv]
    go_enter Try.func18, Try.ntmps18
    go_wp2_with fail
    go_quiet (fail)
    go_wp2_with fail
    go_ret
    exact ⟨rfl, below_drewN (Below.refl _ _) _⟩

end Go.Proofs.Ytbabklaecajcbaa
