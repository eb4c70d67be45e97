/-
  Proved here: what the landed code of package field answers: Set.
  The conditions stand at each theorem.
-/
import Derived.Test.YtpmggbdmoopkfaaFieldNumber
import Derived.Test.YtpmggbdmoopkfaaFieldBytes
import Derived.Test.YtpmggbdmoopkfaaFieldWith
namespace Go.Proofs.Ytpmggbdmoopkfaa
open Go.RowKit

theorem putK_quot (zs : List Int) (p : Nat) (n : Int) (k : Nat) : (putK zs p n k).2 = n / 256 ^ k := by
  induction k with
  | zero => show n = n / 1; omega
  | succ k ih =>
    show (putK zs p n k).2 / 256 = _
    rw [ih, Int.pow_succ, ← Int.ediv_ediv_of_nonneg (by have := pow256_pos k; omega)]

theorem putK_lay (zs : List Int) (p : Nat) (n : Int) (k : Nat) : (putK zs p n k).1 = lay zs p (leB n k) := by
  induction k with
  | zero => rfl
  | succ k ih =>
    show (putK zs p n k).1.set (p + k) ((putK zs p n k).2 % 256) = lay zs p (leB n k ++ [n / 256 ^ k % 256])
    rw [lay_snoc, leB_length, ih, putK_quot]

set_option maxHeartbeats 400000 in
theorem fSet_any (ao : Option Addr) (len cap : Nat) (zs : List Int) (p size n : Int) (w : World) (hA : Arg w ao len cap zs) (hp : -9223372036854775808 ≤ p ∧ p ≤ 9223372036854775807) (hs : -9223372036854775808 ≤ size ∧ size ≤ 9223372036854775807) (hn : -9223372036854775808 ≤ n ∧ n ≤ 9223372036854775807) :
    Calls Try.prog 25 #[.slice ao len cap, .int .i64 p, .int .i64 size, .int .i64 n] w (Handed w.heap.size w (setOut zs p size n) (setErr len p size n)) := by
  obtain ⟨hB, _, _, hlen⟩ := hA
  have hl := hB.1
  have cK := fNumber_any ao len cap p size w hlen hp
  by_cases hE : fErr len p size = 0
  · have ho := fErr_ok hE
    have hlen : len = 64 := ho.1
    subst hlen
    obtain ⟨k, hk⟩ : ∃ k : Nat, size = k := ⟨size.toNat, by omega⟩
    obtain ⟨q, hq⟩ : ∃ q : Nat, p = q := ⟨p.toNat, by omega⟩
    subst hk
    subst hq
    have e1 : Int.toNat (k : Int) = k := by omega
    have e2 : Int.toNat (q : Int) = q := by omega
    have k1 : 1 ≤ k := by omega
    have k4 : k ≤ 4 := by omega
    have hq60 : q + k ≤ 60 := by omega
    have HO : Hid (setErr 64 q k n = if n < 0 ∨ 0 < n / 2 ^ (8 * k) then 7 else 0) := Lib.hid (by
      unfold setErr
      rw [hE, if_neg (by decide), e1, putK_quot, pow_two_bytes])
    have HO2 : Hid (setErr 64 q k n = 0 → setOut zs q k n = lay zs q (leB n k)) := Lib.hid (fun h => by
      rw [setOut_ok (by rw [hl]; exact h), e1, e2, putK_lay])
    have HO3 : Hid (setErr 64 q k n ≠ 0 → setOut zs q k n = []) := Lib.hid (fun h => setOut_err (by rw [hl]; exact h))
    rw [hE] at cK
    have HL := Lib.hid hl
    have HB := Lib.hid hB
    clear hE ho hB hl hp hs e1 e2 hlen
    by_cases hneg : n < 0
    · have HE7 : Hid (setErr 64 q k n = 7) := Lib.hid (by rw [HO.out, if_pos (Or.inl hneg)])
      have HE8 : Hid (setOut zs q k n = []) := Lib.hid (HO3.out (by rw [HE7.out]; decide))
      go_enter Try.func25, Try.ntmps25
      go_wp2_with (go_at_call 40; refine cK.mono ?_; rintro e w' ⟨rfl, rfl⟩)
      go_ret2
      exact ⟨.slice none 0 0, by rw [HE7.out]; rfl, by rw [HE8.out]; exact Fresh.nil _ _, Below.refl _ _⟩
    · have hn0 : 0 ≤ n := by omega
      by_cases hbig : 0 < n / 2 ^ (8 * k)
      · have HE7 : Hid (setErr 64 q k n = 7) := Lib.hid (by rw [HO.out, if_pos (Or.inr hbig)])
        have HE8 : Hid (setOut zs q k n = []) := Lib.hid (HO3.out (by rw [HE7.out]; decide))
        go_enter Try.func25, Try.ntmps25
        go_wp2_with (go_at_call 40; refine cK.mono ?_; rintro e w' ⟨rfl, rfl⟩)
        go_ret2
        exact ⟨.slice none 0 0, by rw [HE7.out]; rfl, by rw [HE8.out]; exact Fresh.nil _ _, Below.refl _ _⟩
      · have HE7 : Hid (setErr 64 q k n = 0) := Lib.hid (by rw [HO.out, if_neg (by omega)])
        have HE8 : Hid (setOut zs q k n = lay zs q (bytesOf (str (leB n k)))) := Lib.hid (by rw [HO2.out HE7.out, bytesOf_str (leB_bytes n k)])
        have cB := fBytes_any k n w k4
        have HC : Hid (∀ w2, Below w.heap.size w w2 → Calls Try.prog 41 #[.slice ao 64 cap, .int .i64 q, .string (str (leB n k))] w2 (Gives w2.heap.size w2 (lay zs q (bytesOf (str (leB n k)))))) :=
          Lib.hid (fun w2 hb => fWith_any ao cap zs q _ w2 (HB.out.later hb) (by rw [str_size, leB_length]; omega) (by omega))
        go_enter Try.func25, Try.ntmps25
        go_wp2_with (first | (go_at_call 40; refine cK.mono ?_; rintro e w' ⟨rfl, rfl⟩) | (go_at_call 42; refine cB.mono ?_; rintro e w2 ⟨rfl, hb2⟩; have HB2 := Lib.hid hb2; clear hb2) | (go_at_call 41; refine (HC.out _ HB2.out).mono ?_; rintro e w3 ⟨v3, rfl, hf3, hb3⟩; have HF3 := Lib.hid hf3; have HB3 := Lib.hid hb3; clear hf3 hb3))
        go_ret2
        exact ⟨v3, by rw [HE7.out]; rfl, by rw [HE8.out]; exact HF3.out.mono HB2.out.size, HB2.out.trans (HB3.out.mono HB2.out.size)⟩
  · have HE7 : Hid (setErr len p size n = fErr len p size) := Lib.hid (by unfold setErr; rw [if_pos hE])
    have HE8 : Hid (setOut zs p size n = []) := Lib.hid (setOut_err (by rw [hl, HE7.out]; exact hE))
    obtain ⟨E, HE⟩ : ∃ E, Hid (fErr len p size = E) := ⟨_, Lib.hid rfl⟩
    rw [HE.out] at hE cK HE7
    have hne : (E != 0) = true := by simp; exact hE
    clear hB hl hE hp hs hn hlen
    go_enter Try.func25, Try.ntmps25
    go_wp2_with (go_at_call 40; refine cK.mono ?_; rintro e w' ⟨rfl, rfl⟩)
    go_ret2
    exact ⟨.slice none 0 0, by rw [HE7.out]; rfl, by rw [HE8.out]; exact Fresh.nil _ _, Below.refl _ _⟩

end Go.Proofs.Ytpmggbdmoopkfaa
