/-
  Proved here: that the simplest facts of layer 13 hold (awake).
  The conditions stand at each theorem.
-/
import Derived.Test.YtmgmlebkmdpddaaChPlanOk
import Derived.Test.YtmgmlebkmdpddaaChReadN
namespace Go.Proofs.Ytmgmlebkmdpddaa
open Go.RowKit
set_option linter.unusedVariables false
set_option linter.unusedSimpArgs false

def four13 : List Int := fewP 60 4
theorem four_from : fromE 0 four13 = fewX 0 60 4 := few_from 4 0 60 (by decide)
theorem four_ok : ptrsOk four13 = true := few_ok (by decide) (by decide) (by decide)
theorem four_st : (stC (fromE 0 four13) [90] ((downs 1 1).map (·.1))).2 = 90 ∧ (stC (fromE 0 four13) [90] ((downs 1 1).map (·.1))).1 0 = some (90, chBlock [⟨6, 66, 1⟩] 0) := by
  rw [four_from]
  exact ⟨rfl, rfl⟩

theorem chBlock_len : (putX (setOut (setOut zeros64c 0 1 1) 2 2 0) [⟨6, 66, 1⟩] 1).length = 64 := by decide +kernel
theorem blk_one : chBlock [⟨6, 66, 1⟩] 0 = (putX (setOut (setOut zeros64c 0 1 1) 2 2 0) [⟨6, 66, 1⟩] 1).take 60 ++ leB (sumS ((putX (setOut (setOut zeros64c 0 1 1) 2 2 0) [⟨6, 66, 1⟩] 1).take 60)) 4 := by
  show sealOut sumS (putX (setOut (setOut zeros64c 0 1 1) 2 2 0) [⟨6, 66, 1⟩] 1) = _
  unfold sealOut
  rw [if_pos chBlock_len, sealOf_take chBlock_len]
theorem one_isBlk : IsBlk (chBlock [⟨6, 66, 1⟩] 0) [⟨6, 66, 1⟩] 0 := by
  refine ⟨?_, by decide, by decide, ?_, ?_, ⟨by decide, by decide⟩, rfl, ?_⟩
  · rw [blk_one]; decide +kernel
  · intro i x hx
    match i, hx with
    | 0, hx =>
      simp at hx
      subst hx
      rw [blk_one]
      decide +kernel
    | i + 1, hx => simp at hx
  · rw [blk_one]; decide +kernel
  · intro x hx
    simp at hx
    subst hx
    exact ⟨⟨by decide, by decide⟩, by decide, by decide, by decide⟩

theorem blk_len : (chBlock [⟨6, 66, 1⟩] 0).length = 64 := by rw [blk_one]; decide +kernel
theorem fi_60 : FI 4633641066610819072 60 := by
  have e : floatOfInt .f64 (60 : Int) = 4633641066610819072 := by kernel_rfl
  rw [← e]; exact fi_ofInt 60 (by decide)
theorem fi_62 : FI 4633922541587529728 62 := by
  have e : floatOfInt .f64 (62 : Int) = 4633922541587529728 := by kernel_rfl
  rw [← e]; exact fi_ofInt 62 (by decide)
theorem fi_64 : FI 4634204016564240384 64 := by
  have e : floatOfInt .f64 (64 : Int) = 4634204016564240384 := by kernel_rfl
  rw [← e]; exact fi_ofInt 64 (by decide)
theorem fi_66 : FI 4634344754052595712 66 := by
  have e : floatOfInt .f64 (66 : Int) = 4634344754052595712 := by kernel_rfl
  rw [← e]; exact fi_ofInt 66 (by decide)
theorem fi_1 : FI 4607182418800017408 1 := by
  have e : floatOfInt .f64 (1 : Int) = 4607182418800017408 := by kernel_rfl
  rw [← e]; exact fi_ofInt 1 (by decide)

theorem four_eis (w : World) (T : TypeId) : EIs (w.alloc (.cells #[.int .i64 0, .complex .f64 4633641066610819072 4607182418800017408, .int .i64 2, .complex .f64 4633922541587529728 4607182418800017408, .int .i64 4, .complex .f64 4634204016564240384 4607182418800017408, .int .i64 6, .complex .f64 4634344754052595712 4607182418800017408] T)) (some ⟨w.heap.size, 0, none⟩) 4 (fromE 0 four13) := by
  rw [four_from]
  refine ⟨rfl, by decide, Or.inr ⟨_, 0, rfl, fun i x hx => ?_⟩⟩
  rw [World.cell?_alloc_new, World.cell?_alloc_new]
  match i, hx with
  | 0, hx => cases hx; exact ⟨rfl, _, rfl, _, _, rfl, fi_60, fi_1⟩
  | 1, hx => cases hx; exact ⟨rfl, _, rfl, _, _, rfl, fi_62, fi_1⟩
  | 2, hx => cases hx; exact ⟨rfl, _, rfl, _, _, rfl, fi_64, fi_1⟩
  | 3, hx => cases hx; exact ⟨rfl, _, rfl, _, _, rfl, fi_66, fi_1⟩
  | i + 4, hx => exact absurd (List.getElem?_eq_some_iff.1 hx).1 (by show ¬ i + 4 < 4; omega)

theorem one_num (w : World) (x : Int) (hx : I64 x) (T : TypeId) : IArg (w.alloc (.cells #[.int .i64 x] T)) (some ⟨w.heap.size, 0, none⟩) 1 1 [x] :=
  iarg_of_range (zs := [x]) (cap := 1) (fun j v hj => by rw [Nat.zero_add, World.cell?_alloc_new]; have h : [Value.int .i64 x][j]? = some v := hj; simpa using h) (fun z hz => by simp at hz; rw [hz]; exact hx) (by simp) (by simp)

set_option maxRecDepth 100000 in
set_option maxHeartbeats 3200000 in
theorem awake13_any (w : World) : Calls Try.prog 6 #[] w fun e w' => e = .returned (.bool true) ∧ Below w.heap.size w w' := by
  have HE := Lib.hid (four_eis w 33)
  have HB0 : Hid (Below w.heap.size w (w.alloc (.cells #[.int .i64 0, .complex .f64 4633641066610819072 4607182418800017408, .int .i64 2, .complex .f64 4633922541587529728 4607182418800017408, .int .i64 4, .complex .f64 4634204016564240384 4607182418800017408, .int .i64 6, .complex .f64 4634344754052595712 4607182418800017408] 33))) := Lib.hid ((Below.refl _ _).alloc (Nat.le_refl _) _)
  obtain ⟨A1, hA1⟩ : ∃ A1, w.alloc (.cells #[.int .i64 0, .complex .f64 4633641066610819072 4607182418800017408, .int .i64 2, .complex .f64 4633922541587529728 4607182418800017408, .int .i64 4, .complex .f64 4634204016564240384 4607182418800017408, .int .i64 6, .complex .f64 4634344754052595712 4607182418800017408] 33) = A1 := ⟨_, rfl⟩
  have HSZ : Hid (A1.heap.size = w.heap.size + 1) := Lib.hid (by rw [← hA1]; simp)
  have HF := Lib.hid (one_num A1 90 ⟨by decide, by decide⟩ 3)
  have HB1 : Hid (Below A1.heap.size A1 (A1.alloc (.cells #[.int .i64 90] 3))) := Lib.hid ((Below.refl _ _).alloc (Nat.le_refl _) _)
  rw [hA1] at HE HB0
  have HP : Hid (Calls Try.prog 8 #[.slice (some ⟨w.heap.size, 0, none⟩) (4 : Nat) (4 : Nat), .slice (some ⟨w.heap.size + 1, 0, none⟩) (1 : Nat) (1 : Nat)] (A1.alloc (.cells #[.int .i64 90] 3)) fun e w' => ∃ ao' cap' g vo vc, e = .returned (.tuple #[nodeC (.slice ao' 3 cap') 2 90, .slice (some ⟨g, 0, none⟩) (1 : Nat) (1 : Nat), .int .i64 0]) ∧ EIs w' ao' 3 (fewX 0 60 3) ∧ w'.cell? ⟨g, 0, none⟩ = some (.int .i64 90) ∧ w'.cell? ⟨g, 1, none⟩ = some (.slice vo 64 vc) ∧ Arg w' vo 64 vc (chBlock [⟨6, 66, 1⟩] 0) ∧ Below (A1.alloc (.cells #[.int .i64 90] 3)).heap.size (A1.alloc (.cells #[.int .i64 90] 3)) w') := Lib.hid (by
    have hF := HF.out
    rw [HSZ.out] at hF
    refine (chPlan_ok (K := 1) (l := four13) (fs := [90]) (b := w.heap.size) (off := 0) (HE.out.later HB1.out) four_ok (fun h => by cases h) (fun _ => rfl) (by decide) hF (by decide) (by decide) (by decide) (by decide) (by decide) (by decide)).mono ?_
    rintro e w' ⟨ao', cap', g, B0, rfl, h1, h2, h3, h4⟩
    have h5 := h3 0 (by decide)
    rw [four_st.2] at h5
    obtain ⟨c1, v, c2, vo, vc, rfl, hA, _⟩ := h5
    rw [blk_len] at c2 hA
    rw [four_from] at h1
    refine ⟨ao', cap', g, vo, vc, by rw [four_st.1]; rfl, h1, c1, c2, hA, h4⟩)
  have HR : Hid (∀ (W : World) (xo : Option Addr) (xc g : Nat) (vo : Option Addr) (vc : Nat), EIs W xo 3 (fewX 0 60 3) → W.cell? ⟨g, 0, none⟩ = some (.int .i64 90) → W.cell? ⟨g, 1, none⟩ = some (.slice vo 64 vc) → Arg W vo 64 vc (chBlock [⟨6, 66, 1⟩] 0) →
      Calls Try.prog 9 #[nodeC (.slice xo 3 xc) 2 90, .slice (some ⟨g, 0, none⟩) (1 : Nat) (1 : Nat)] W fun e w' => ∃ lo lc oo oc, e = .returned (.tuple #[.slice lo (4 : Nat) lc, .slice oo (1 : Nat) oc, .int .i64 0]) ∧ Below W.heap.size W w') := Lib.hid (fun W xo xc g vo vc h1 h2 h3 h4 =>
    chReadN_one h1 (by decide) (by decide) h2 h3 h4 one_isBlk (by rw [four_from]; rfl) four_ok (by decide) 4 (by rw [four_from]; rfl) (by decide))
  unfold nodeC at HP HR
  clear HE HF
  subst hA1
  go_enter Try.func6, Try.ntmps6
  go_wp2_with (first
    | (go_at_call 9; refine (HR.out _ xo xc g vo vc (HE3.out.later HB4.out) (cell_later HB4.out C0.out) (cell_later HB4.out C1.out) (HA3.out.later HB4.out)).mono ?_; rintro e w5 ⟨lo, lc, oo, oc, rfl, hb5⟩; have HB5 := Lib.hid (HB3.out.trans ((HB4.out.trans (hb5.mono HB4.out.size)).mono HB3.out.size)); have c11 := cell_later hb5 C11.out; clear hb5)
    | (go_at_call 8; refine HP.out.mono ?_; rintro e w3 ⟨xo, xc, g, vo, vc, rfl, hE3, c0, c1, hA3, hb3⟩; have HE3 := Lib.hid hE3; have C0 := Lib.hid c0; have C1 := Lib.hid c1; have HA3 := Lib.hid hA3; have HB3 := Lib.hid ((HB0.out.trans (HB1.out.mono HB0.out.size)).trans (hb3.mono (HB0.out.trans (HB1.out.mono HB0.out.size)).size)); have HB4 : Hid (Below w3.heap.size w3 (w3.alloc (.cells #[.int .i64 0, .int .i64 2, .int .i64 0, .int .i64 0, .int .i64 0, .int .i64 0, .int .i64 0, .int .i64 0, .int .i64 0, .int .i64 0, .slice xo 3 xc, .int .i64 90] 37))) := Lib.hid ((Below.refl _ _).alloc (Nat.le_refl _) _); have C11 : Hid ((w3.alloc (.cells #[.int .i64 0, .int .i64 2, .int .i64 0, .int .i64 0, .int .i64 0, .int .i64 0, .int .i64 0, .int .i64 0, .int .i64 0, .int .i64 0, .slice xo 3 xc, .int .i64 90] 37)).cell? ⟨w3.heap.size, 11, none⟩ = some (.int .i64 90)) := Lib.hid (by rw [World.cell?_alloc_new]; rfl); clear hE3 c0 c1 hA3 hb3))
  go_ret
  exact ⟨rfl, HB5.out⟩

end Go.Proofs.Ytmgmlebkmdpddaa
