/-
  Proved here: what the landed code of package field answers: Sealed.
  The conditions stand at each theorem.
-/
import Derived.Test.YtdbkhhmadefccaaFieldSeal
import Derived.Test.YtdbkhhmadefccaaSealedB
import Derived.Deep.RegionWith
import Derived.Deep.QuietTactic
import Derived.BigQuiet
namespace Go.Proofs.Ytdbkhhmadefccaa
open Go.RowKit

set_option maxHeartbeats 400000 in
theorem fSealed_any (ao : Option Addr) (len cap : Nat) (zs : List Int) (w : World) (hA : Arg w ao len cap zs) :
    Calls Try.prog 54 #[.slice ao len cap] w (Says w.heap.size w (sealedB zs)) := by
  have hl := hA.1.1
  by_cases h64 : len = 64
  · subst h64
    have hz := hA.1.2.2.1
    have HV : Hid (((str (zs.drop 60)).toList == (str (leB (sumS (zs.take 60)) 4)).toList) = sealedB zs) := Lib.hid (by
      rw [str_eq (fun z h => hz z (List.mem_of_mem_drop h)) (leB_bytes _ _)]
      unfold sealedB
      rw [sealOf_take hl, Bool.eq_iff_iff, decide_eq_true_iff, decide_eq_true_iff]
      have e : zs.take 60 ++ zs.drop 60 = zs := List.take_append_drop 60 zs
      constructor
      · intro h
        rw [← h]
        exact ⟨hl, e⟩
      · intro h
        have h2 := h.2
        conv at h2 => rhs; rw [← e]
        exact (List.append_cancel_left h2).symm)
    have cS := fSum_any ao cap zs w.drew (show Arg w.drew ao 64 cap zs from hA)
    obtain ⟨hB, _, hcap, _⟩ := hA
    obtain ⟨b, off, rfl, _⟩ := hB.2.2.2.resolve_left (by decide)
    have hD : Bts w.drew (some ⟨b, off + 60, none⟩) 4 (zs.drop 60) := bts_drop (k := 60) (show Bts w.drew (some ⟨b, off, none⟩) 64 zs from hB) (by decide)
    have HD := Lib.hid hD
    have s0 := str_bytes (cap := cap - 60) hD
    clear hB hD hl hz
    have hcne : ¬ cap = 60 := by omega
    have i2 : (60 : Int) ≤ (cap : Int) := by omega
    go_enter Try.func54, Try.ntmps54
    go_wp2_with fail
    go_region_with (first | (go_at_call 60; refine cS.mono ?_; rintro e w5 ⟨rfl, b5⟩; have B5 := Lib.hid b5; have s2 := str_bytes (cap := cap - 60) (HD.out.later b5); clear b5))
    all_goals (go_wp2_with fail; go_ret; exact ⟨by rw [← HV.out]; rfl, (Below.refl _ _).drew.trans B5.out⟩)
  · have hv : sealedB zs = false := by
      unfold sealedB
      rw [hl]
      simp [h64]
    have hne : ((len : Int) == 64) = false := by simp; omega
    rw [hv]
    go_enter Try.func54, Try.ntmps54
    go_wp2_with fail
    go_quiet (fail)
    go_wp2_with fail
    go_ret
    exact ⟨rfl, below_drewN (Below.refl _ _) _⟩

end Go.Proofs.Ytdbkhhmadefccaa
