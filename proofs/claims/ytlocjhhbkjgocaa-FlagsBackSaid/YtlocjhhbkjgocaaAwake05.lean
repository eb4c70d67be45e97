/-
  Proved here: the simplest facts that each law of layer 5 begins with hold.
  No conditions.
-/
import Derived.Test.YtlocjhhbkjgocaaFlagsDown
namespace Go.Proofs.Ytlocjhhbkjgocaa
open Go.RowKit

theorem fi_three : FI 4613937818241073152 3 := by
  have e : (4613937818241073152 : Nat) = floatOfInt .f64 3 := by decide +kernel
  rw [e]; exact fi_ofInt 3 (by decide)
theorem fi_four : FI 4616189618054758400 4 := by
  have e : (4616189618054758400 : Nat) = floatOfInt .f64 4 := by decide +kernel
  rw [e]; exact fi_ofInt 4 (by decide)
theorem fi_seven : FI 4619567317775286272 7 := by
  have e : (4619567317775286272 : Nat) = floatOfInt .f64 7 := by decide +kernel
  rw [e]; exact fi_ofInt 7 (by decide)

/-- One value in a new row, as a slice. -/
theorem one_vals (w : World) (x : Value) (t : TypeId) : Vals (w.alloc (.cells #[x] t)) (some ⟨w.heap.size, 0, none⟩) 1 [x] :=
  ⟨rfl, by decide, Or.inr ⟨_, _, rfl, fun j y hj => by
    match j, hj with
    | 0, hj =>
      simp at hj
      subst hj
      exact one_cell_new w x t
    | j + 1, hj => simp at hj⟩⟩

set_option maxHeartbeats 800000 in
theorem awake05_any (w : World) : Calls Try.prog 8 #[] w (Tells w.heap.size w (.bool true)) := by
  go_enter Try.func8, Try.ntmps8
  go_wp2_with fail
  refine (xNew_any _).mono ?_
  rintro e w1 ⟨v1, rfl, hf1, hb1⟩
  obtain ⟨ao1, cp1, hv1, hA1, _⟩ := hf1
  rw [List.length_replicate] at hv1 hA1
  rw [hv1]
  clear hv1
  have hb2 : Below w.heap.size w (w1.alloc (.cells #[.complex .f64 4613937818241073152 4616189618054758400] 37)) := hb1.alloc hb1.size _
  have hA2 := hA1.later ((Below.refl _ _).alloc (Nat.le_refl _) (.cells #[.complex .f64 4613937818241073152 4616189618054758400] 37))
  have cM := xMark_any ao1 cp1 _ true _ 1 _ _ 3 4 _ hA2 (one_vals w1 _ _) fi_three fi_four (by decide) (by decide)
  have HB2 := Lib.hid hb2
  clear hb1 hb2 hA1 hA2
  go_wp2_with fail
  refine cM.mono ?_
  rintro e w3 ⟨v3, L, rfl, hf3, hM, hb3⟩
  have HB3 := Lib.hid (HB2.out.trans (hb3.mono HB2.out.size))
  obtain ⟨ao3, cp3, hv3, hA3, _⟩ := hf3
  obtain ⟨k1, k2⟩ := four_cnt hM
  obtain ⟨k3, k4⟩ := four_down hM
  have HL := Lib.hid hM.1
  rw [HL.out] at hv3 hA3 k1 k3
  have cC := xCount_any ao3 60 cp3 L 5 w3 hA3 (by decide)
  have HA3 := Lib.hid hA3
  rw [k1, k2] at cC
  have K3 := Lib.hid k3
  have K4 := Lib.hid k4
  rw [hv3]
  clear hv3 hA3 hM hb3 cM k1 k2 k3 k4
  go_wp2_with fail
  refine cC.mono ?_
  rintro e w4 ⟨rfl, hb4⟩
  have cD := xDown_any ao3 60 cp3 L 0 10 w4 (HA3.out.later (hb4.mono (Nat.le_refl _))) (by decide) (by decide)
  have HB4 := Lib.hid (HB3.out.trans (hb4.mono HB3.out.size))
  rw [K3.out, K4.out] at cD
  clear cC hb4
  go_wp2_with fail
  refine cD.mono ?_
  rintro e w5 ⟨v5, xs, rfl, hf5, hS, hb5⟩
  have HB5 := Lib.hid (HB4.out.trans (hb5.mono HB4.out.size))
  obtain ⟨ao5, cp5, hv5, hV5, _, _⟩ := hf5
  have hl : xs.length = 2 := hS.1
  rw [hl] at hv5 hV5
  obtain ⟨b, off, rfl, hc⟩ := hV5.2.2.resolve_left (by decide)
  obtain ⟨x, hx⟩ : ∃ x, xs[1]? = some x := ⟨_, List.getElem?_eq_getElem (by omega)⟩
  obtain ⟨p, q, rfl, fp, fq⟩ := hS.2 1 x (7, 3) hx rfl
  have hcell := hc 1 _ hx
  have o1 := fi_eq fp fi_seven rfl
  have o2 := fi_eq fq fi_three rfl
  rw [hv5]
  clear hv5 hV5 hS hc hx fp fq hl hb5 cD
  go_wp2_with fail
  go_ret
  exact ⟨rfl, HB5.out⟩

end Go.Proofs.Ytlocjhhbkjgocaa
