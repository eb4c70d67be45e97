/-
  Proved here: what the landed code of package field answers: with.
  The conditions stand at each theorem.
-/
import Derived.Test.YtpmggbdmoopkfaaFieldNum
import Derived.Test.YtpmggbdmoopkfaaCopy
namespace Go.Proofs.Ytpmggbdmoopkfaa
open Go.RowKit

set_option maxHeartbeats 400000 in
set_option maxRecDepth 100000 in
theorem fWith_any (ao : Option Addr) (cap : Nat) (zs : List Int) (q : Nat) (s : ByteArray) (w : World) (hB : Bts w ao 64 zs) (hq : q + s.size ≤ 64) (hq64 : q < 64) :
    Calls Try.prog 41 #[.slice ao 64 cap, .int .i64 q, .string s] w (Gives w.heap.size w (lay zs q (bytesOf s))) := by
  have hmk := run_make_bytes w 64 (by decide)
  rw [show ((64 : Nat) : Int) = 64 from rfl] at hmk
  have HO := Lib.hid (made_own w 64)
  have HL := Lib.hid hB.1
  have HB := Lib.hid (hB.later HO.out.2.2.2.2)
  clear hB
  have HZ : Hid (lay (List.replicate 64 0) 0 zs = zs) := Lib.hid (by
    rw [lay_eq _ _ _ (by rw [HL.out]; decide), HL.out]
    simp)
  generalize hw1 : w.alloc (.cells (madeCells #[.int .u8 0] 64) 5) = w1 at *
  have HW1 := Lib.hid hw1
  clear hw1
  have i1 : (q : Int) ≤ 64 := by omega
  go_enter Try.func41, Try.ntmps41
  go_wp2_with (first | (refine wp_copy rfl (.tmp 9) (.tmp 10) 25 25 rfl _ _ rfl rfl _ (own_copy_bytes HO.out (by decide) ao 64 cap zs HB.out (by decide) _) ?_; rintro v2 w2 ⟨rfl, hO2⟩; rw [HZ.out] at hO2; have HO2 := Lib.hid hO2; clear hO2) | (refine wp_copy rfl (.tmp 14) (.tmp 15) 25 9 rfl _ _ rfl rfl _ (own_copy_text HO2.out (by rw [HL.out]; omega) s (by omega) _) ?_; rintro v3 w3 ⟨rfl, hO3⟩; have HO3 := Lib.hid hO3; clear hO3))
  go_ret
  have hf := HO3.out.fresh (cap := 64) (by rw [lay_length, HL.out]; decide) (by rw [lay_length, HL.out]; decide)
  rw [lay_length, HL.out] at hf
  exact ⟨_, rfl, hf, HO3.out.2.2.2.2⟩

end Go.Proofs.Ytpmggbdmoopkfaa
