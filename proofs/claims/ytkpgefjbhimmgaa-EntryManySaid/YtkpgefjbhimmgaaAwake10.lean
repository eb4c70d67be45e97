/-
  Proved here: the law's own first check (awake) answers true.
  No conditions.
-/
import Derived.Test.YtkpgefjbhimmgaaEntDec
namespace Go.Proofs.Ytkpgefjbhimmgaa
open Go.RowKit
set_option linter.unusedVariables false
set_option linter.unusedSimpArgs false

def es1 : List PEnt := [⟨3, ⟨#[97]⟩⟩]
theorem sound1 : soundE [es1] = true := by decide
theorem find1 : findRes [es1] ⟨#[98]⟩ = (0, 0, 4) := by decide
theorem named1 : named ⟨#[97]⟩ = true := by decide

theorem ent1_arg (w : World) (T : TypeId) : EntArg (w.alloc (.cells #[.int .i64 3, .string ⟨#[97]⟩] T)) (some ⟨w.heap.size, 0, none⟩) 1 1 es1 := by
  refine ⟨⟨rfl, by decide, Or.inr ⟨w.heap.size, 0, rfl, fun j x hj => ?_⟩⟩, (fun h => by cases h), Nat.le_refl _⟩
  match j, hj with
  | 0, hj =>
    simp only [es1, List.getElem?_cons_zero, Option.some.injEq] at hj
    subst hj
    exact ⟨two_cells_new w _ _ T 0 _ rfl, by decide, two_cells_new w _ _ T 1 _ rfl, by decide⟩
  | j + 1, hj => simp [es1] at hj

set_option maxHeartbeats 1600000 in
theorem awake10_any (w : World) : Calls Try.prog 14 #[] w fun e w' => e = .returned (.bool true) ∧ Below w.heap.size w w' := by
  have hA := ent1_arg w 40
  have cE := eenc_any _ 1 1 es1 _ hA
  unfold EncDone entOut entErr at cE
  rw [if_pos sound1, if_pos sound1] at cE
  have HG := Lib.hid (getEnt_block sound1)
  have HL := Lib.hid (entBlock_length sound1)
  have B1 : Hid (Below w.heap.size w (w.alloc (.cells #[.int .i64 3, .string ⟨#[97]⟩] 40))) := Lib.hid ((Below.refl _ _).alloc (Nat.le_refl _) _)
  generalize entBlock es1 = O at *
  clear hA
  go_enter Try.func14, Try.ntmps14
  go_wp2_with fail
  go_at_call 12
  refine cE.mono ?_
  rintro e w2 ⟨v2, rfl, hf2, hb2⟩
  obtain ⟨a2, c2, rfl, hA2⟩ := fresh_form hf2
  rw [HL.out] at hA2
  rw [HL.out]
  have cD := edec_any a2 64 c2 O w2 hA2
  have B2 := Lib.hid (B1.out.trans (hb2.mono B1.out.size))
  unfold DecDone at cD
  rw [HG.out.1, HG.out.2] at cD
  clear hf2 hb2 hA2 cE
  go_wp2_with fail
  go_at_call 15
  refine cD.mono ?_
  rintro e w3 ⟨v3, rfl, hE3, hb3⟩
  obtain ⟨a3, c3, rfl, hE⟩ := hE3
  obtain ⟨eb, eo, x, rfl, hx, d1, d2, d3, d4⟩ := ent_at hE (i := 0) (by decide)
  obtain rfl : x = ⟨3, ⟨#[97]⟩⟩ := by simpa [es1] using hx.symm
  dsimp only at d1 d2 d3 d4
  have B3 := Lib.hid (B2.out.trans (hb3.mono B2.out.size))
  have hone := blk_one (T := 22) hE
  have cF := efind_any _ 1 1 [es1] ⟨#[98]⟩ _ hone (by decide)
  unfold FindDone at cF
  rw [find1] at cF
  have cN := fun W => Named_any ⟨#[97]⟩ W (by decide)
  rw [named1] at cN
  have B4 : Hid (Below w3.heap.size w3 (w3.alloc (.cells #[.slice (some ⟨eb, eo, none⟩) es1.length c3] 22))) := Lib.hid ((Below.refl _ _).alloc (Nat.le_refl _) _)
  rw [show es1.length = 1 from rfl] at cF B4
  rw [show es1.length = 1 from rfl]
  clear hx hE hb3 cD hone d1 d2 d4
  go_wp2_with fail
  go_at_call 20
  refine cF.mono ?_
  rintro e w4 ⟨rfl, hb4⟩
  have B5 := Lib.hid (B3.out.trans ((B4.out.trans (hb4.mono B4.out.size)).mono B3.out.size))
  have d5 := cell_later (B4.out.trans (hb4.mono B4.out.size)) d3
  clear hb4 cF d3
  simp only [Nat.zero_mul, Nat.add_zero] at d5
  go_wp2_with (go_at_call 18; refine (cN _).mono ?_; rintro e w' ⟨rfl, rfl⟩)
  go_ret
  exact ⟨rfl, B5.out⟩

end Go.Proofs.Ytkpgefjbhimmgaa
