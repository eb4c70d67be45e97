/-
  Proved here: the law's own look at a run's blocks (drydocklaw06.free) finds them free, where they are.
  The conditions stand at the theorem.
-/
import Derived.Test.YtfhfjnfejcggcaaRef06
namespace Go.Proofs.Ytfhfjnfejcggcaa
open Go.RowKit

set_option maxRecDepth 100000 in
set_option maxHeartbeats 800000 in
theorem free_any (ao : Option Addr) (cap : Nat) (zs : List Int) (x y a b lo hi : Nat) (w : World) (hB : Bts w ao 60 zs) (hx : FI x (a : Int)) (hy : FI y (b : Int)) (h1 : 1 ≤ b) (hlo : lo ≤ a) (hab : a + b ≤ hi) (hhi : hi ≤ 480)
    (hd : ∀ i, a ≤ i → i < a + b → downs zs i = true) :
    Calls Try.prog 19 #[.slice ao 60 cap, .complex .f64 x y, .int .i64 lo, .int .i64 hi] w (Tells w.heap.size w (.bool true)) := by
  have cU := Up05_any ao cap zs w hB
  have CP := Lib.hid (fun w => Parts02_any x y a b w hx hy (by omega) (by omega) (by omega))
  have HD := Lib.hid hd
  clear hB hx hy hd
  go_enter Try.func19, Try.ntmps19
  go_wp2_with fail
  refine cU.mono ?_
  rintro e w1 ⟨v1, rfl, hf1, hb1⟩
  have HB1 := Lib.hid hb1
  obtain ⟨ao1, c1, hv1, hV1, _, _⟩ := hf1
  rw [boolsV_length] at hv1 hV1
  have HV1 := Lib.hid hV1
  rw [hv1]
  clear hv1 hV1 hb1 cU
  go_wp2_with fail
  refine (CP.out _).mono ?_
  rintro e w2 ⟨rfl, hb2⟩
  have HV2 := Lib.hid (HV1.out.later hb2)
  have HB2 := Lib.hid (HB1.out.trans (hb2.mono HB1.out.size))
  clear hb2
  go_wp2_with fail
  go_loop [12, 13] (fun ov bv => ∃ j : Nat, j ≤ b ∧ bv = .int .i64 ((a : Int) + (j : Int)) ∧ ov = .bool true) (fun _ bv => a + b - (intOf bv).toNat)
  case atStart => exact ⟨0, Nat.zero_le _, by go_num, rfl⟩
  case round =>
    obtain ⟨j, hj, rfl, rfl⟩ := hrel
    by_cases hlt : j < b
    · obtain ⟨g, og, hg, hc⟩ := HV2.out.2.2.resolve_left (by decide)
      subst hg
      have hcell := hc (a + j) _ (boolsV_at (flag zs) (by omega))
      have hdn := HD.out (a + j) (by omega) (by omega)
      have hfl : flag zs (a + j) = false := by unfold downs at hdn; simpa using hdn
      rw [hfl] at hcell
      have i1 : (0 : Int) ≤ (a : Int) + (j : Int) := by omega
      have i2 : (a : Int) + (j : Int) < 480 := by omega
      have i3 : (lo : Int) ≤ (a : Int) + (j : Int) := by omega
      have i4 : (a : Int) + (j : Int) < (hi : Int) := by omega
      have i5 : (a : Int) + (j : Int) < (a : Int) + (b : Int) := by omega
      clear hc hdn hfl
      go_wp2_with fail
      go_round
      case rel => exact ⟨j + 1, by omega, by go_num, rfl⟩
      case measure => simp [intOf]; omega
    · have hjb : j = b := by omega
      subst hjb
      go_wp2_with fail
      go_ret
      exact ⟨rfl, HB2.out⟩

end Go.Proofs.Ytfhfjnfejcggcaa
