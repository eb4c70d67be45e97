/-
  Proved here: what the landed node's body answers of the new format, and of any.
  The conditions stand at each theorem.
-/
import Derived.Test.YtojfhhmjoledjaaNBody
namespace Go.Proofs.Ytojfhhmjoledjaa
open Go.RowKit
set_option linter.unusedVariables false
set_option linter.unusedSimpArgs false

theorem alloc_drew (w : World) (o : Obj) : w.drew.alloc o = (w.alloc o).drew := rfl

set_option maxRecDepth 100000 in
set_option maxHeartbeats 6400000 in
theorem bodyNew_any (g : Nat) (w : World) (hf : w.cell? ⟨g, 1, none⟩ = some (.int .i64 2)) : Calls Try.prog 18 #[.pointer (some ⟨g, 0, none⟩)] w fun e w' => ∃ v, e = .returned v ∧ Places w' w.heap.size g v newPs ∧ Below w.heap.size w w' := by
  go_enter Try.func18, Try.ntmps18
  go_wp2_with fail
  go_loopw [3, 37] (fun lv iv wr => ∃ i : Int, iv = .int .i64 i ∧ (0 ≤ i ∧ i ≤ 3) ∧ Hid (wr.ownsRow w.heap.size 63 3 lv (3 * i.toNat) (placesV g (slotPs.take (3 * i.toNat)))) ∧ Hid (Below w.heap.size w wr)) (fun _ iv _ => 3 - (intOf iv).toNat)
  case atStart => exact ⟨0, rfl, by decide, Lib.hid (owns_nil9 _ _ _ _), Lib.hid (Below.refl _ _)⟩
  case round =>
    obtain ⟨i, rfl, hi, HR, HB⟩ := hrel
    by_cases hlt : i < 3
    · have HZ : Hid (w.heap.size ≤ wr.heap.size + 1) := Lib.hid (by have := HB.out.size; omega)
      obtain rfl | rfl | rfl : i = 0 ∨ i = 1 ∨ i = 2 := by omega
      · go_wp2_with fail
        go_region_law (refine step_append_ks (o := ⟨some 67, _, _, _, _, _⟩) elemPlace rfl (.tmp 48) (.tmp 66) rfl w.heap.size 0 _ _ rfl (owns_drew (HR.out.alloc _)) ⟨wr.heap.size, 0, none⟩ 3 3 (placesV g [(6, 1, 12), (7, 2, 13), (9, 1, 14)]) rfl rfl (news_made wr (placesV g [(6, 1, 12), (7, 2, 13), (9, 1, 14)]) _) (placesV_one g [(6, 1, 12), (7, 2, 13), (9, 1, 14)]) (by decide) (by simpa using HZ.out) ?_; intro v1 w1 hown1 hg1 hb1; have HO1 := Lib.hid hown1; have HB1 := Lib.hid ((HB.out.alloc HB.out.size _).drew.trans hb1); clear hown1 hg1 hb1)
        go_wp2_with fail
        go_roundw
        case rel => exact ⟨1, by go_num, by decide, HO1, HB1⟩
        case measure => simp [intOf]
      · go_wp2_with fail
        go_region_law (refine step_append_ks (o := ⟨some 67, _, _, _, _, _⟩) elemPlace rfl (.tmp 48) (.tmp 66) rfl w.heap.size 3 _ _ rfl (owns_drew (HR.out.alloc _)) ⟨wr.heap.size, 0, none⟩ 3 3 (placesV g [(10, 1, 15), (11, 2, 16), (13, 1, 17)]) rfl rfl (news_made wr (placesV g [(10, 1, 15), (11, 2, 16), (13, 1, 17)]) _) (placesV_one g [(10, 1, 15), (11, 2, 16), (13, 1, 17)]) (by decide) (by simpa using HZ.out) ?_; intro v1 w1 hown1 hg1 hb1; have HO1 := Lib.hid hown1; have HB1 := Lib.hid ((HB.out.alloc HB.out.size _).drew.trans hb1); clear hown1 hg1 hb1)
        go_wp2_with fail
        go_roundw
        case rel => exact ⟨2, by go_num, by decide, HO1, HB1⟩
        case measure => simp [intOf]
      · go_wp2_with fail
        go_region_law (refine step_append_ks (o := ⟨some 67, _, _, _, _, _⟩) elemPlace rfl (.tmp 48) (.tmp 66) rfl w.heap.size 6 _ _ rfl (owns_drew (HR.out.alloc _)) ⟨wr.heap.size, 0, none⟩ 3 3 (placesV g [(14, 1, 18), (15, 2, 19), (17, 1, 20)]) rfl rfl (news_made wr (placesV g [(14, 1, 18), (15, 2, 19), (17, 1, 20)]) _) (placesV_one g [(14, 1, 18), (15, 2, 19), (17, 1, 20)]) (by decide) (by simpa using HZ.out) ?_; intro v1 w1 hown1 hg1 hb1; have HO1 := Lib.hid hown1; have HB1 := Lib.hid ((HB.out.alloc HB.out.size _).drew.trans hb1); clear hown1 hg1 hb1)
        go_wp2_with fail
        go_roundw
        case rel => exact ⟨3, by go_num, by decide, HO1, HB1⟩
        case measure => simp [intOf]
    · have hin : i = 3 := by omega
      subst hin
      have HZ : Hid (w.heap.size ≤ wr.heap.size + 1) := Lib.hid (by have := HB.out.size; omega)
      go_wp2_with (at_builtin; refine wp_append_ks elemPlace rfl (.tmp 69) (.tmp 75) rfl w.heap.size 9 _ _ rfl (HR.out.alloc _) ⟨wr.heap.size, 0, none⟩ 1 1 (placeV g (18, 2, 11)) rfl rfl (news_made wr (placeV g (18, 2, 11)) _) (placesV_one g [(18, 2, 11)]) (by decide) (by simpa using HZ.out) ?_; intro v1 w1 hown1 hg1 hb1; have HO1 := Lib.hid hown1; have HB1 := Lib.hid ((HB.out.alloc HB.out.size _).trans hb1); clear hown1 hg1 hb1)
      go_ret
      exact ⟨_, rfl, HO1.out, HB1.out⟩

theorem bodyNone_any (g : Nat) (f : Int) (w : World) (hf : w.cell? ⟨g, 1, none⟩ = some (.int .i64 f)) (h1 : f ≠ 1) (h2 : f ≠ 2) : Calls Try.prog 18 #[.pointer (some ⟨g, 0, none⟩)] w fun e w' => e = .returned (.slice none 0 0) ∧ w = w' := by
  have e1 : (f == 1) = false := by simp [h1]
  have e2 : (f == 2) = false := by simp [h2]
  have e3 : decide (f = 1) = false := by simp [h1]
  have e4 : decide (f = 2) = false := by simp [h2]
  clear h1 h2
  go_enter Try.func18, Try.ntmps18
  go_wp2_with fail
  go_ret
  exact ⟨rfl, rfl⟩

theorem body9_any (g : Nat) (f : Int) (w : World) (hf : w.cell? ⟨g, 1, none⟩ = some (.int .i64 f)) : Calls Try.prog 18 #[.pointer (some ⟨g, 0, none⟩)] w fun e w' => ∃ v, e = .returned v ∧ Places w' w.heap.size g v (bodyPs f) ∧ (bodyPs f = [] → v = .slice none 0 0) ∧ Below w.heap.size w w' := by
  by_cases h1 : f = 1
  · subst h1
    exact (bodyOld_any g w hf).mono (fun e w' ⟨v, h1, h2, h3⟩ => ⟨v, h1, h2, (fun h => absurd h (by decide)), h3⟩)
  · by_cases h2 : f = 2
    · subst h2
      exact (bodyNew_any g w hf).mono (fun e w' ⟨v, h1, h2, h3⟩ => ⟨v, h1, h2, (fun h => absurd h (by decide)), h3⟩)
    · unfold bodyPs
      rw [if_neg h1, if_neg h2]
      exact (bodyNone_any g f w hf h1 h2).mono (fun e w' ⟨h1, h2⟩ => ⟨_, h1, owns_nil9 _ _ _ _, fun _ => rfl, by rw [← h2]; exact Below.refl _ _⟩)

end Go.Proofs.Ytojfhhmjoledjaa
