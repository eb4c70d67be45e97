/-
  Proved here: the simplest facts that each law of layer 6 begins with hold.
  No conditions.
-/
import Derived.Test.YtfhfjnfejcggcaaChoose
namespace Go.Proofs.Ytfhfjnfejcggcaa
open Go.RowKit

/-- The map of which two flags are up. -/
def two : List Int := (List.replicate 60 0).set 0 12

theorem two_gaps : gaps (downs two) 0 0 480 = [(0, 2), (4, 476)] := by decide +kernel
theorem two_down : downOut two 0 480 = [(0, 2), (4, 476)] := by
  unfold downOut
  rw [if_pos (by decide)]
  exact two_gaps

set_option maxHeartbeats 800000 in
theorem awake06_any (w : World) : Calls Try.prog 11 #[] w (Tells w.heap.size w (.bool true)) := by
  have hmk := run_make_bytes w 60 (by decide)
  rw [show ((60 : Nat) : Int) = 60 from rfl] at hmk
  have HO := Lib.hid (made_own w 60)
  have hc := (made_own w 60).2.1 0 (by decide)
  have hf := (made_own w 60).2.2.1 0
  rw [show (List.replicate 60 (0 : Int)).getD 0 0 = 0 from rfl] at hc
  have HS := Lib.hid (HO.out.store (k := 0) (y := 12) (by decide) (by decide))
  generalize hw1 : w.alloc (.cells (madeCells #[.int .u8 0] 60) 5) = w1 at *
  have HW1 := Lib.hid hw1
  clear hw1
  go_enter Try.func11, Try.ntmps11
  go_wp2_with fail
  have hA : Arg (w1.setCell ⟨w.heap.size, 0, none⟩ (.int .u8 12)) (some ⟨w.heap.size, 0, none⟩) 60 60 two := ⟨HS.out.bts (by decide), (fun h => by cases h), Nat.le_refl _, by decide⟩
  have HA := Lib.hid hA
  have HB := Lib.hid HS.out.2.2.2.2
  have c1 := cFirst_any _ 60 60 two 2 0 480 _ hA (by decide) (by decide) (by decide)
  rw [two_down] at c1
  clear hA hc hf hmk
  refine c1.mono ?_
  rintro e w2 ⟨x1, y1, rfl, f1, g1, hb2⟩
  have HB2 := Lib.hid (HB.out.trans (hb2.mono HB.out.size))
  have HA2 := Lib.hid (HA.out.later (hb2.mono (Nat.le_refl _)))
  have o1 : FloatKind.f64.format.order x1 0 = some .eq := fi_eq f1 fi_zero (by decide)
  have o2 : FloatKind.f64.format.order y1 4611686018427387904 = some .eq := fi_eq g1 fi_two (by decide)
  rw [show pickErr (gapErr 60 2 0 480) (firstGap [(0, 2), (4, 476)] (Int.toNat 2)) = 0 from by decide]
  clear f1 g1 hb2 c1
  go_wp2_with fail
  have c2 := cTight_any _ 60 60 two 2 0 480 w2 HA2.out (by decide) (by decide) (by decide)
  rw [two_down] at c2
  refine c2.mono ?_
  rintro e w3 ⟨x2, y2, rfl, f2, g2, hb3⟩
  have HB3 := Lib.hid (HB2.out.trans (hb3.mono HB2.out.size))
  have HA3 := Lib.hid (HA2.out.later (hb3.mono (Nat.le_refl _)))
  have o3 : FloatKind.f64.format.order x2 0 = some .eq := fi_eq f2 fi_zero (by decide)
  have o4 : FloatKind.f64.format.order y2 4611686018427387904 = some .eq := fi_eq g2 fi_two (by decide)
  rw [show pickErr (gapErr 60 2 0 480) (tightGap [(0, 2), (4, 476)] (Int.toNat 2)) = 0 from by decide]
  clear f2 g2 hb3 c2
  go_wp2_with fail
  have c3 := cSome_any _ 60 60 two 479 0 480 w3 HA3.out (by decide) (by decide) (by decide)
  rw [two_down, show someErr (gapErr 60 479 0 480) [(0, 2), (4, 476)] (Int.toNat 479) = 6 from by decide] at c3
  refine c3.mono ?_
  rintro e w4 ⟨v4, xs, rfl, hf4, hs4, hb4⟩
  have HB4 := Lib.hid (HB3.out.trans (hb4.mono HB3.out.size))
  obtain ⟨ao4, c4, hv4, _, _, _⟩ := hf4
  rw [hv4]
  clear hv4 hs4 hb4 c3
  go_wp2_with fail
  go_ret
  exact ⟨rfl, HB4.out⟩

end Go.Proofs.Ytfhfjnfejcggcaa
