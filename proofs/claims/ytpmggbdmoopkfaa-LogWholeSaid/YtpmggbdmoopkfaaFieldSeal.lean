/-
  Proved here: what the landed code of package field answers: sum and Seal.
  The conditions stand at each theorem.
-/
import Derived.Test.YtpmggbdmoopkfaaFieldBytes
import Derived.Test.YtpmggbdmoopkfaaFieldWith
import Derived.Test.YtpmggbdmoopkfaaSpin
namespace Go.Proofs.Ytpmggbdmoopkfaa
open Go.RowKit

set_option maxHeartbeats 400000 in
theorem fSum_any (ao : Option Addr) (cap : Nat) (zs : List Int) (w : World) (hA : Arg w ao 64 cap zs) :
    Calls Try.prog 43 #[.slice ao 64 cap] w fun e w' => e = .returned (.string (str (leB (sumS (zs.take 60)) 4))) ∧ Below w.heap.size w w' := by
  obtain ⟨hB, _, hcap, _⟩ := hA
  obtain ⟨b, off, rfl, _⟩ := hB.2.2.2.resolve_left (by decide)
  have cS := Sum_any (some ⟨b, off, none⟩) 60 cap (zs.take 60) w (bts_take hB (by decide))
  have hSb := sumS_bounds (zs.take 60)
  have cB := fBytes_any 4 (sumS (zs.take 60)) w (by decide)
  rw [show ((4 : Nat) : Int) = 4 from rfl] at cB
  generalize sumS (zs.take 60) = S at *
  have i2 : (60 : Int) ≤ (cap : Int) := by omega
  clear hB
  go_enter Try.func43, Try.ntmps43
  go_wp2_with (first | (go_at_call 54; refine cS.mono ?_; rintro e w' ⟨rfl, rfl⟩) | (go_at_call 42; refine cB.mono ?_; rintro e w2 ⟨rfl, hb2⟩; have HB2 := Lib.hid hb2; clear hb2))
  go_ret
  exact ⟨rfl, HB2.out⟩

set_option maxHeartbeats 400000 in
theorem fSeal_any (ao : Option Addr) (len cap : Nat) (zs : List Int) (w : World) (hA : Arg w ao len cap zs) :
    Calls Try.prog 26 #[.slice ao len cap] w (Handed w.heap.size w (sealOut sumS zs) (sealErr len)) := by
  have hl := hA.1.1
  by_cases h64 : len = 64
  · subst h64
    have HE8 : Hid (sealOut sumS zs = lay zs 60 (bytesOf (str (leB (sumS (zs.take 60)) 4)))) := Lib.hid (by
      unfold sealOut
      rw [if_pos hl, sealOf_take hl, bytesOf_str (leB_bytes _ _), lay_eq _ _ _ (by rw [hl, leB_length]; decide), leB_length, List.drop_of_length_le (by rw [hl]; decide), List.append_nil])
    have cS := fSum_any ao cap zs w hA
    have HC : Hid (∀ w2, Below w.heap.size w w2 → Calls Try.prog 41 #[.slice ao 64 cap, .int .i64 60, .string (str (leB (sumS (zs.take 60)) 4))] w2 (Gives w2.heap.size w2 (lay zs 60 (bytesOf (str (leB (sumS (zs.take 60)) 4)))))) :=
      Lib.hid (fun w2 hb => fWith_any ao cap zs 60 _ w2 (hA.1.later hb) (by rw [str_size, leB_length]; decide) (by decide))
    clear hA hl
    rw [show sealErr 64 = 0 from rfl]
    go_enter Try.func26, Try.ntmps26
    go_wp2_with (first | (go_at_call 43; refine cS.mono ?_; rintro e w2 ⟨rfl, hb2⟩; have HB2 := Lib.hid hb2; clear hb2) | (go_at_call 41; refine (HC.out _ HB2.out).mono ?_; rintro e w3 ⟨v3, rfl, hf3, hb3⟩; have HF3 := Lib.hid hf3; have HB3 := Lib.hid hb3; clear hf3 hb3))
    go_ret2
    exact ⟨v3, rfl, by rw [HE8.out]; exact HF3.out.mono HB2.out.size, HB2.out.trans (HB3.out.mono HB2.out.size)⟩
  · have HE8 : Hid (sealOut sumS zs = []) := Lib.hid (by unfold sealOut; rw [if_neg (by omega)])
    have hne : ((len : Int) != 64) = true := by simp; omega
    have HE7 : Hid (sealErr len = 2) := Lib.hid (by unfold sealErr; rw [if_neg h64])
    clear hA hl
    go_enter Try.func26, Try.ntmps26
    go_wp2
    go_ret2
    exact ⟨.slice none 0 0, by rw [HE7.out]; rfl, by rw [HE8.out]; exact Fresh.nil _ _, Below.refl _ _⟩

end Go.Proofs.Ytpmggbdmoopkfaa
