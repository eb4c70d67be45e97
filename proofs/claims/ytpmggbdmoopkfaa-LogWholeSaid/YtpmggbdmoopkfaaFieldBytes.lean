/-
  Proved here: what the landed code of package field answers: bytesOf.
  The conditions stand at each theorem.
-/
import Derived.Test.YtpmggbdmoopkfaaFieldNum
import Derived.Test.YtpmggbdmoopkfaaCopy
import Derived.Test.YtpmggbdmoopkfaaBits
namespace Go.Proofs.Ytpmggbdmoopkfaa
open Go.RowKit

/-- What bytesOf has laid behind j rounds. -/
def begun (n : Int) (k j : Nat) : List Int := leB n j ++ List.replicate (k - j) 0

theorem begun_length (n : Int) (k j : Nat) (h : j ≤ k) : (begun n k j).length = k := by
  unfold begun; rw [List.length_append, leB_length, List.length_replicate]; omega

theorem begun_step (n : Int) (k j : Nat) (h : j < k) : (begun n k j).set j (n / 256 ^ j % 256) = begun n k (j + 1) := by
  have e : k - j = (k - (j + 1)) + 1 := by omega
  unfold begun
  rw [e, List.replicate_succ, List.set_append_right _ _ (by rw [leB_length]; exact Nat.le_refl _), leB_length, Nat.sub_self, List.set_cons_zero]
  show _ = (leB n j ++ [n / 256 ^ j % 256]) ++ _
  rw [List.append_assoc]
  rfl

set_option maxHeartbeats 400000 in
theorem fBytes_any (k : Nat) (n : Int) (w : World) (hk : k ≤ 4) :
    Calls Try.prog 42 #[.int .i64 k, .int .i64 n] w fun e w' => e = .returned (.string (str (leB n k))) ∧ Below w.heap.size w w' := by
  have hmk := run_make_bytes w k (by omega)
  have HO := Lib.hid (made_own w k)
  generalize hw1 : w.alloc (.cells (madeCells #[.int .u8 0] k) 5) = w1 at *
  have HW1 := Lib.hid hw1
  clear hw1
  go_enter Try.func42, Try.ntmps42
  go_wp2
  go_loopw [11] (fun iv wr => ∃ j : Nat, j ≤ k ∧ iv = .int .i64 j ∧ Hid (Own w.heap.size w w.heap.size (begun n k j) wr)) (fun iv _ => k - (intOf iv).toNat)
  case atStart => exact ⟨0, Nat.zero_le _, rfl, HO⟩
  case round =>
    obtain ⟨j, hj, rfl, HR⟩ := hrel
    by_cases hlt : j < k
    · have hcell := HR.out.2.1 j (by rw [begun_length _ _ _ hj]; exact hlt)
      have hfr := HR.out.2.2.1 j
      obtain ⟨x, hx⟩ : ∃ x, (begun n k j).getD j 0 = x := ⟨_, rfl⟩
      rw [hx] at hcell
      clear hx
      have HS := Lib.hid (HR.out.store (k := j) (y := n / 256 ^ j % 256) (by rw [begun_length _ _ _ hj]; exact hlt) (by omega))
      rw [begun_step n k j hlt, ← pow_two_bytes] at HS
      go_wp2
      go_roundw
      case rel => exact ⟨j + 1, by omega, by go_num, HS⟩
      case measure => simp [intOf]; omega
    · have hjk : j = k := by omega
      subst hjk
      have e0 : begun n j j = leB n j := by unfold begun; rw [Nat.sub_self]; simp
      have hO := HR.out
      rw [e0] at hO
      have hb := hO.bts (by rw [leB_length]; omega)
      rw [leB_length] at hb
      have hs := str_bytes (cap := j) hb
      have HB := Lib.hid hO.2.2.2.2
      clear hO hb e0
      go_wp2
      go_ret
      exact ⟨rfl, HB.out⟩

end Go.Proofs.Ytpmggbdmoopkfaa
