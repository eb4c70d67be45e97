/-
  Proved here: what the landed node's body answers.
  The conditions stand at each theorem.
-/
import Derived.Test.YtojfhhmjoledjaaNPlace
namespace Go.Proofs.Ytojfhhmjoledjaa
open Go.RowKit
set_option linter.unusedVariables false
set_option linter.unusedSimpArgs false

theorem owns_nil9 (w : World) (base : Nat) (e : TypeId) (sz : Nat) : w.ownsRow base e sz (.slice none 0 0) 0 [] := ⟨by simp, Or.inl ⟨rfl, rfl⟩⟩

/-- The list of addresses is as it was behind an append to a row of places. -/
theorem ptrs_grown {w w1 : World} {b g base n : Nat} {v : Value} {xs : List Value} {o : Obj} (h : PtrsAre w b g) (hb : b < base) (ho : w.ownsRow base 63 3 v n xs) (hg : (w.alloc o).grownBy w1 v.ownBlock) : PtrsAre w1 b g := fun j hj =>
  hg.cell (cell_later ((Below.refl _ _).alloc (Nat.le_refl _) _) (h j hj)) (fun e => by have := (ho.lt b e.symm).1; omega)

theorem owns_mono {w : World} {base base' n sz : Nat} {e : TypeId} {v : Value} {xs : List Value} (h : w.ownsRow base' e sz v n xs) (hb : base ≤ base') : w.ownsRow base e sz v n xs := by
  refine ⟨h.1, ?_⟩
  rcases h.2 with h2 | ⟨g, cap, cur, hv, hg, rest⟩
  · exact Or.inl h2
  · exact Or.inr ⟨g, cap, cur, hv, Nat.le_trans hb hg, rest⟩

set_option maxRecDepth 100000 in
set_option maxHeartbeats 6400000 in
theorem bodyOld_any (g : Nat) (w : World) (hf : w.cell? ⟨g, 1, none⟩ = some (.int .i64 1)) : Calls Try.prog 18 #[.pointer (some ⟨g, 0, none⟩)] w fun e w' => ∃ v, e = .returned v ∧ Places w' w.heap.size g v oldPs ∧ Below w.heap.size w w' := by
  go_enter Try.func18, Try.ntmps18
  go_wp2_with (go_at_call 29; refine (pointers_any _ _).mono ?_; rintro e w2 ⟨rfl, hp2, hb2⟩; have B2 := Lib.hid hb2; have P2 := Lib.hid hp2; clear hp2 hb2)
  go_loopw [3, 21] (fun lv iv wr => ∃ i : Int, iv = .int .i64 i ∧ (0 ≤ i ∧ i ≤ 6) ∧ Hid (wr.ownsRow (w.heap.size + 1) 63 3 lv i.toNat (placesV g (oldPs.take i.toNat))) ∧ Hid (Below w.heap.size w wr) ∧ Hid (PtrsAre wr w.heap.size g)) (fun _ iv _ => 6 - (intOf iv).toNat)
  case atStart => exact ⟨0, rfl, by decide, Lib.hid (owns_nil9 _ _ _ _), B2, P2⟩
  case round =>
    obtain ⟨i, rfl, hi, HR, HB, HP⟩ := hrel
    by_cases hlt : i < 6
    · have HZ : Hid (w.heap.size + 1 ≤ wr.heap.size + 1) := Lib.hid (by have := HB.out.size; omega)
      obtain rfl | rfl | rfl | rfl | rfl | rfl : i = 0 ∨ i = 1 ∨ i = 2 ∨ i = 3 ∨ i = 4 ∨ i = 5 := by omega
      · have c1 := HP.out 0 (by decide)
        go_wp2_with (at_builtin; refine wp_append_ks elemPlace rfl (.tmp 26) (.tmp 32) rfl (w.heap.size + 1) 0 _ _ rfl (HR.out.alloc _) ⟨wr.heap.size, 0, none⟩ 1 1 (placeV g (6, 2, 4)) rfl rfl (news_made wr (placeV g (6, 2, 4)) _) (placesV_one g [(6, 2, 4)]) (by decide) (by simpa using HZ.out) ?_; intro v1 w1 hown1 hg1 hb1; have HO1 := Lib.hid hown1; have HG1 := Lib.hid hg1; have HB1 := Lib.hid ((HB.out.alloc HB.out.size _).trans (hb1.mono (Nat.le_succ _))); clear hown1 hg1 hb1)
        go_roundw
        case rel => exact ⟨1, by go_num, by decide, HO1, HB1, Lib.hid (ptrs_grown HP.out (Nat.lt_succ_self _) HR.out HG1.out)⟩
        case measure => simp [intOf]
      · have c1 := HP.out 1 (by decide)
        go_wp2_with (at_builtin; refine wp_append_ks elemPlace rfl (.tmp 26) (.tmp 32) rfl (w.heap.size + 1) 1 _ _ rfl (HR.out.alloc _) ⟨wr.heap.size, 0, none⟩ 1 1 (placeV g (8, 2, 5)) rfl rfl (news_made wr (placeV g (8, 2, 5)) _) (placesV_one g [(8, 2, 5)]) (by decide) (by simpa using HZ.out) ?_; intro v1 w1 hown1 hg1 hb1; have HO1 := Lib.hid hown1; have HG1 := Lib.hid hg1; have HB1 := Lib.hid ((HB.out.alloc HB.out.size _).trans (hb1.mono (Nat.le_succ _))); clear hown1 hg1 hb1)
        go_roundw
        case rel => exact ⟨2, by go_num, by decide, HO1, HB1, Lib.hid (ptrs_grown HP.out (Nat.lt_succ_self _) HR.out HG1.out)⟩
        case measure => simp [intOf]
      · have c1 := HP.out 2 (by decide)
        go_wp2_with (at_builtin; refine wp_append_ks elemPlace rfl (.tmp 26) (.tmp 32) rfl (w.heap.size + 1) 2 _ _ rfl (HR.out.alloc _) ⟨wr.heap.size, 0, none⟩ 1 1 (placeV g (10, 2, 6)) rfl rfl (news_made wr (placeV g (10, 2, 6)) _) (placesV_one g [(10, 2, 6)]) (by decide) (by simpa using HZ.out) ?_; intro v1 w1 hown1 hg1 hb1; have HO1 := Lib.hid hown1; have HG1 := Lib.hid hg1; have HB1 := Lib.hid ((HB.out.alloc HB.out.size _).trans (hb1.mono (Nat.le_succ _))); clear hown1 hg1 hb1)
        go_roundw
        case rel => exact ⟨3, by go_num, by decide, HO1, HB1, Lib.hid (ptrs_grown HP.out (Nat.lt_succ_self _) HR.out HG1.out)⟩
        case measure => simp [intOf]
      · have c1 := HP.out 3 (by decide)
        go_wp2_with (at_builtin; refine wp_append_ks elemPlace rfl (.tmp 26) (.tmp 32) rfl (w.heap.size + 1) 3 _ _ rfl (HR.out.alloc _) ⟨wr.heap.size, 0, none⟩ 1 1 (placeV g (12, 2, 7)) rfl rfl (news_made wr (placeV g (12, 2, 7)) _) (placesV_one g [(12, 2, 7)]) (by decide) (by simpa using HZ.out) ?_; intro v1 w1 hown1 hg1 hb1; have HO1 := Lib.hid hown1; have HG1 := Lib.hid hg1; have HB1 := Lib.hid ((HB.out.alloc HB.out.size _).trans (hb1.mono (Nat.le_succ _))); clear hown1 hg1 hb1)
        go_roundw
        case rel => exact ⟨4, by go_num, by decide, HO1, HB1, Lib.hid (ptrs_grown HP.out (Nat.lt_succ_self _) HR.out HG1.out)⟩
        case measure => simp [intOf]
      · have c1 := HP.out 4 (by decide)
        go_wp2_with (at_builtin; refine wp_append_ks elemPlace rfl (.tmp 26) (.tmp 32) rfl (w.heap.size + 1) 4 _ _ rfl (HR.out.alloc _) ⟨wr.heap.size, 0, none⟩ 1 1 (placeV g (14, 2, 8)) rfl rfl (news_made wr (placeV g (14, 2, 8)) _) (placesV_one g [(14, 2, 8)]) (by decide) (by simpa using HZ.out) ?_; intro v1 w1 hown1 hg1 hb1; have HO1 := Lib.hid hown1; have HG1 := Lib.hid hg1; have HB1 := Lib.hid ((HB.out.alloc HB.out.size _).trans (hb1.mono (Nat.le_succ _))); clear hown1 hg1 hb1)
        go_roundw
        case rel => exact ⟨5, by go_num, by decide, HO1, HB1, Lib.hid (ptrs_grown HP.out (Nat.lt_succ_self _) HR.out HG1.out)⟩
        case measure => simp [intOf]
      · have c1 := HP.out 5 (by decide)
        go_wp2_with (at_builtin; refine wp_append_ks elemPlace rfl (.tmp 26) (.tmp 32) rfl (w.heap.size + 1) 5 _ _ rfl (HR.out.alloc _) ⟨wr.heap.size, 0, none⟩ 1 1 (placeV g (16, 2, 9)) rfl rfl (news_made wr (placeV g (16, 2, 9)) _) (placesV_one g [(16, 2, 9)]) (by decide) (by simpa using HZ.out) ?_; intro v1 w1 hown1 hg1 hb1; have HO1 := Lib.hid hown1; have HG1 := Lib.hid hg1; have HB1 := Lib.hid ((HB.out.alloc HB.out.size _).trans (hb1.mono (Nat.le_succ _))); clear hown1 hg1 hb1)
        go_roundw
        case rel => exact ⟨6, by go_num, by decide, HO1, HB1, Lib.hid (ptrs_grown HP.out (Nat.lt_succ_self _) HR.out HG1.out)⟩
        case measure => simp [intOf]
    · have hin : i = 6 := by omega
      subst hin
      go_wp2_with fail
      go_ret
      exact ⟨_, rfl, owns_mono HR.out (Nat.le_succ _), HB.out⟩

end Go.Proofs.Ytojfhhmjoledjaa
