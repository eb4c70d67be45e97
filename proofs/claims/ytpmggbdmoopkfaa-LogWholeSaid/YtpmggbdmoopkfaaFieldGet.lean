/-
  Proved here: what the landed code of package field answers: Get.
  The conditions stand at each theorem.
-/
import Derived.Test.YtpmggbdmoopkfaaFieldNumber
import Derived.Test.YtpmggbdmoopkfaaBits
namespace Go.Proofs.Ytpmggbdmoopkfaa
open Go.RowKit

set_option maxHeartbeats 400000 in
theorem fGet_any (ao : Option Addr) (len cap : Nat) (zs : List Int) (p size : Int) (w : World) (hA : Arg w ao len cap zs) (hp : -9223372036854775808 ≤ p ∧ p ≤ 9223372036854775807) (hs : -9223372036854775808 ≤ size ∧ size ≤ 9223372036854775807) :
    Calls Try.prog 31 #[.slice ao len cap, .int .i64 p, .int .i64 size] w fun e w' => e = .returned (.tuple #[.int .i64 (getOut zs p size), .int .i64 (fErr len p size)]) ∧ w = w' := by
  obtain ⟨hB, _, _, hlen⟩ := hA
  have hl := hB.1
  have cK := fNumber_any ao len cap p size w hlen hp
  unfold getOut
  rw [hl]
  by_cases hE : fErr len p size = 0
  · have ho := fErr_ok hE
    have hlen : len = 64 := ho.1
    subst hlen
    obtain ⟨k, hk⟩ : ∃ k : Nat, size = k := ⟨size.toNat, by omega⟩
    obtain ⟨q, hq⟩ : ∃ q : Nat, p = q := ⟨p.toNat, by omega⟩
    subst hk
    subst hq
    rw [if_pos hE, hE]
    rw [hE] at cK
    have e1 : Int.toNat (q : Int) = q := by omega
    have e2 : Int.toNat (k : Int) = k := by omega
    rw [e1, e2]
    have k4 : k ≤ 4 := by omega
    have hq60 : q + k ≤ 60 := by omega
    obtain ⟨b, off, rfl, hc⟩ := hB.2.2.2.resolve_left (by decide)
    have hz := hB.2.2.1
    have HL := Lib.hid hl
    clear hB hl hE ho e1 e2 hp hs hlen
    go_enter Try.func31, Try.ntmps31
    go_wp2_with (go_at_call 40; refine cK.mono ?_; rintro e w' ⟨rfl, rfl⟩)
    go_loop [9, 19] (fun nv iv => ∃ j : Nat, j ≤ k ∧ iv = .int .i64 j ∧ nv = .int .i64 (leN zs q j)) (fun _ iv => k - (intOf iv).toNat)
    case atStart => exact ⟨0, Nat.zero_le _, rfl, rfl⟩
    case round =>
      obtain ⟨j, hj, rfl, rfl⟩ := hrel
      by_cases hlt : j < k
      · have hx := hz _ (getD_mem (l := zs) (k := q + j) (by rw [HL.out]; omega))
        have hb := leN_bounds hz q j (by rw [HL.out]; omega)
        have hb4 := leN_four hz q (j + 1) (by rw [HL.out]; omega) (by omega)
        have hcell := hc (q + j) (by omega)
        have HN : Hid (leN zs q (j + 1) = leN zs q j + zs.getD (q + j) 0 * 2 ^ (8 * j)) := Lib.hid (by rw [pow_two_bytes]; rfl)
        rw [HN.out] at hb4
        rw [← pow_two_bytes] at hb
        generalize leN zs q j = a at *
        obtain ⟨x, HX⟩ : ∃ x, Hid (x = zs.getD (q + j) 0) := ⟨_, Lib.hid rfl⟩
        rw [← HX.out] at hx hcell hb4 HN
        have hor := or_parts hb hx.1 (by omega)
        have hm : 0 ≤ x * 2 ^ (8 * j) := Int.mul_nonneg hx.1 (Int.le_of_lt (Int.pow_pos (by decide)))
        have hm2 : x * 2 ^ (8 * j) ≤ 4294967295 := by omega
        obtain ⟨hx0, hx1⟩ := hx
        obtain ⟨ha0, _⟩ := hb
        clear hz hc hb4
        have i1 : (0 : Int) ≤ (q : Int) + (j : Int) := by omega
        have i2 : (q : Int) + (j : Int) < (64 : Int) := by omega
        go_wp2
        go_round
        case rel => exact ⟨j + 1, by omega, by go_num, by rw [HN.out]⟩
        case measure => simp [intOf]; omega
      · have hjk : j = k := by omega
        subst hjk
        clear hz hc
        go_wp2
        go_ret2
        exact ⟨rfl, rfl⟩
  · rw [if_neg hE]
    obtain ⟨E, HE⟩ : ∃ E, Hid (fErr len p size = E) := ⟨_, Lib.hid rfl⟩
    rw [HE.out] at hE cK ⊢
    have hne : (E != 0) = true := by simp; exact hE
    clear hB hl hE hp hs hlen
    go_enter Try.func31, Try.ntmps31
    go_wp2_with (go_at_call 40; refine cK.mono ?_; rintro e w' ⟨rfl, rfl⟩)
    go_ret2
    exact ⟨rfl, rfl⟩

end Go.Proofs.Ytpmggbdmoopkfaa
