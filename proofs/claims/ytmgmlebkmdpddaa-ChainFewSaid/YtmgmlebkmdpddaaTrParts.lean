/-
  Proved here: where the landed tree's pointers stand in a chart (parts).
  The conditions stand at each theorem.
-/
import Derived.Test.YtmgmlebkmdpddaaTrNeeds
import Derived.StillTailTactics
namespace Go.Proofs.Ytmgmlebkmdpddaa
open Go.RowKit
set_option linter.unusedVariables false
set_option linter.unusedSimpArgs false

def partV (g off n : Nat) : Value := .slice (some ⟨g, off, none⟩) n n
def partsV (g : Nat) : List Value := [partV g 0 4, partV g 4 30, partV g 64 30, partV g 94 30, partV g 124 30]
theorem parts_one (l : List (Nat × Nat)) (g : Nat) : ∀ u ∈ l.map (fun p => partV g p.1 p.2), u.oneCell' = true := by
  intro u hu
  obtain ⟨p, _, rfl⟩ := List.mem_map.1 hu
  rfl
theorem one_part (g o n : Nat) : ∀ u ∈ [partV g o n], u.oneCell' = true := by
  intro u hu
  rw [List.mem_singleton.1 hu]
  rfl

theorem elemRows : ElemR 105 34 (.slice none 0 0) 1 24 := ⟨Try.underlying105, by kernel_rfl, rfl, by decide, by decide⟩

theorem drew_of_r (w : World) : ({ w with drawn := w.drawn + 1 } : World) = w.drew := rfl

set_option maxRecDepth 100000 in
set_option maxHeartbeats 3200000 in
theorem parts_any (g : Nat) (w : World) : Calls Try.prog 56 #[.pointer (some ⟨g, 0, none⟩)] w fun e w' => ∃ v, e = .returned v ∧ w'.ownsRow w.heap.size 34 1 v 5 (partsV g) ∧ Below w.heap.size w w' := by
  go_enter Try.func56, Try.ntmps56
  go_wp2_with fail
  refine wp_region_still_tail 9 (by kernel_rfl) (by kernel_rfl) ?_
  simp only [List.take_succ_cons, List.take_zero, List.drop_succ_cons, List.drop_zero]
  try rw [drew_of_r]
  iterate 9 still_step
  refine wpStill_nil ?_
  go_wp2_with fail
  go_loopw [3, 4] (fun lv iv wr => ∃ i : Int, iv = .int .i64 i ∧ (2 ≤ i ∧ i ≤ 5) ∧ Hid (wr.ownsRow w.heap.size 34 1 lv i.toNat ((partsV g).take i.toNat)) ∧ Hid (Below w.heap.size w wr)) (fun _ iv _ => 5 - (intOf iv).toNat)
  case atStart => exact ⟨2, rfl, by decide, Lib.hid (World.ownsRow_lit (base := w.heap.size) (e := 34) (size := 1) w ((partsV g).take 2).toArray 2 (Nat.le_refl _) (by decide) rfl), Lib.hid (((Below.refl _ _).alloc (Nat.le_refl _) _).drew)⟩
  case round =>
    obtain ⟨i, rfl, hi, HR, HB⟩ := hrel
    by_cases hlt : i < 5
    · have HZ : Hid (w.heap.size ≤ wr.heap.size + 1) := Lib.hid (by have := HB.out.size; omega)
      obtain rfl | rfl | rfl : i = 2 ∨ i = 3 ∨ i = 4 := by omega
      · go_wp2_with (at_builtin; refine wp_append_r elemRows rfl (.tmp 19) (.tmp 26) rfl w.heap.size 2 _ _ rfl (HR.out.alloc _) ⟨wr.heap.size, 0, none⟩ 1 1 [partV g 64 30] rfl rfl (news_r wr [partV g 64 30] _) (one_part _ _ _) (by decide) (by simpa using HZ.out) ?_; intro v1 w1 hown1 hg1 hb1; have HO1 := Lib.hid hown1; have HB1 := Lib.hid ((HB.out.alloc HB.out.size _).trans hb1); clear hown1 hg1 hb1)
        go_roundw
        case rel => exact ⟨3, by go_num, by decide, HO1, HB1⟩
        case measure => simp [intOf]
      · go_wp2_with (at_builtin; refine wp_append_r elemRows rfl (.tmp 19) (.tmp 26) rfl w.heap.size 3 _ _ rfl (HR.out.alloc _) ⟨wr.heap.size, 0, none⟩ 1 1 [partV g 94 30] rfl rfl (news_r wr [partV g 94 30] _) (one_part _ _ _) (by decide) (by simpa using HZ.out) ?_; intro v1 w1 hown1 hg1 hb1; have HO1 := Lib.hid hown1; have HB1 := Lib.hid ((HB.out.alloc HB.out.size _).trans hb1); clear hown1 hg1 hb1)
        go_roundw
        case rel => exact ⟨4, by go_num, by decide, HO1, HB1⟩
        case measure => simp [intOf]
      · go_wp2_with (at_builtin; refine wp_append_r elemRows rfl (.tmp 19) (.tmp 26) rfl w.heap.size 4 _ _ rfl (HR.out.alloc _) ⟨wr.heap.size, 0, none⟩ 1 1 [partV g 124 30] rfl rfl (news_r wr [partV g 124 30] _) (one_part _ _ _) (by decide) (by simpa using HZ.out) ?_; intro v1 w1 hown1 hg1 hb1; have HO1 := Lib.hid hown1; have HB1 := Lib.hid ((HB.out.alloc HB.out.size _).trans hb1); clear hown1 hg1 hb1)
        go_roundw
        case rel => exact ⟨5, by go_num, by decide, HO1, HB1⟩
        case measure => simp [intOf]
    · have hin : i = 5 := by omega
      subst hin
      go_wp2_with fail
      go_ret
      exact ⟨_, rfl, HR.out, HB.out⟩

end Go.Proofs.Ytmgmlebkmdpddaa
