/-
  Proved here: whether a number is among others (slices.Index, slices.Contains of numbers).
  The conditions stand at each theorem.
-/
import Derived.Test.YtdbkhhmadefccaaInts
namespace Go.Proofs.Ytdbkhhmadefccaa
open Go.RowKit
set_option linter.unusedVariables false
set_option linter.unusedSimpArgs false

set_option maxRecDepth 100000 in
set_option maxHeartbeats 1600000 in
theorem Index_any (ao : Option Addr) (len cap : Nat) (zs : List Int) (x : Int) (w : World) (hA : IArg w ao len cap zs) : Calls Try.prog 39 #[.slice ao len cap, .int .i64 x] w fun e w' => ∃ r : Int, e = .returned (.int .i64 r) ∧ decide (0 ≤ r) = decide (x ∈ zs) ∧ w = w' := by
  have HA := Lib.hid hA
  have HN := Lib.hid hA.len
  have hb := hA.big
  clear hA
  go_enter Try.func39, Try.ntmps39
  go_wp2_with fail
  go_loopw [8] (fun iv wr => ∃ i : Nat, iv = .int .i64 (i : Int) ∧ i ≤ len ∧ Hid (w = wr) ∧ Hid (x ∉ zs.take i)) (fun iv _ => len - (intOf iv).toNat)
  case atStart => exact ⟨0, rfl, Nat.zero_le _, Lib.hid rfl, Lib.hid (by simp)⟩
  case round =>
    obtain ⟨i, rfl, hi, HW, HQ⟩ := hrel
    by_cases hlt : i < len
    · obtain ⟨b, off, y, rfl, hy, hc, _⟩ := HA.out.at hlt
      have hc : wr.cell? ⟨b, off + i, none⟩ = some (.int .i64 y) := by rw [← HW.out]; exact hc
      have i1 : (i : Int) < (len : Int) := by omega
      have HY := Lib.hid hy
      clear hy
      by_cases he : x = y
      · have HM : Hid (x ∈ zs) := Lib.hid (by rw [he]; exact List.mem_of_getElem? HY.out)
        have b1 : (x == y) = true := by simpa using he
        clear he
        go_wp2_with fail
        go_ret
        exact ⟨(i : Int), rfl, by rw [decide_eq_true HM.out]; exact decide_eq_true (by omega), HW.out⟩
      · have HM : Hid (x ∉ zs.take (i + 1)) := Lib.hid (by
          rw [List.take_add_one, HY.out]
          intro h
          rcases List.mem_append.1 h with h | h
          · exact HQ.out h
          · exact he (by simpa using h))
        have b1 : (x == y) = false := by simpa using he
        clear he
        go_wp2_with fail
        go_roundw
        case rel => exact ⟨i + 1, by go_num, by omega, HW, HM⟩
        case measure => simp [intOf]; omega
    · obtain rfl : i = len := by omega
      have HM : Hid (x ∉ zs) := Lib.hid (by have := HQ.out; rwa [← HN.out, List.take_length] at this)
      go_wp2_with fail
      go_ret
      exact ⟨-1, rfl, by rw [decide_eq_false HM.out]; rfl, HW.out⟩

set_option maxHeartbeats 800000 in
theorem Contains_any (ao : Option Addr) (len cap : Nat) (zs : List Int) (x : Int) (w : World) (hA : IArg w ao len cap zs) : Calls Try.prog 23 #[.slice ao len cap, .int .i64 x] w fun e w' => e = .returned (.bool (decide (x ∈ zs))) ∧ w = w' := by
  have c := Index_any ao len cap zs x w hA
  clear hA
  go_enter Try.func23, Try.ntmps23
  go_wp2_with (go_at_call 39; refine c.mono ?_; rintro e w2 ⟨r, rfl, hr, rfl⟩; have HR := Lib.hid hr; clear hr)
  go_ret
  exact ⟨by rw [← HR.out]; rfl, rfl⟩

end Go.Proofs.Ytdbkhhmadefccaa
