/-
  Proved here: that the simplest facts of layer 15 hold (awake), of a log that answers as the document says.
  The conditions stand at each theorem.
-/
import Derived.Test.YtpmggbdmoopkfaaLogOk
namespace Go.Proofs.Ytpmggbdmoopkfaa
open Go.RowKit
set_option linter.unusedVariables false
set_option linter.unusedSimpArgs false

def d15 : PDesc := ⟨3, [60, 0]⟩
theorem d15_sound : soundD d15 = true := by decide
theorem d15_ok : begErr d15 = 0 ∧ begOut d15 = begB d15 ∧ getBegErr (begB d15) = 0 ∧ getBeg (begB d15) = d15 := by
  have h := is_beg d15_sound
  unfold begErr begOut getBegErr getBeg
  rw [if_pos d15_sound, if_pos d15_sound, if_pos h, if_pos h, read_beg d15_sound]
  exact ⟨rfl, rfl, rfl, rfl⟩
theorem e15_ok : endErr 3 2 = 0 ∧ endOut 3 2 = endB 3 2 ∧ getEndErr (endB 3 2) = 0 ∧ getEndSeq (endB 3 2) = 3 ∧ getEndCount (endB 3 2) = 2 := by
  have h0 : okEnd 3 2 = true := by decide
  have h := is_end h0
  obtain ⟨r1, r2⟩ := read_end h0
  unfold endErr endOut getEndErr getEndSeq getEndCount
  rw [if_pos h0, if_pos h0, if_pos h, if_pos h, if_pos h]
  exact ⟨rfl, rfl, rfl, r1, r2⟩

theorem two_arg15 (w : World) : IArg (w.alloc (.cells #[.int .i64 60, .int .i64 0] 3)) (some ⟨w.heap.size, 0, none⟩) 2 2 [60, 0] := by
  refine ⟨⟨rfl, by decide, Or.inr ⟨w.heap.size, 0, rfl, fun j u hj => ?_⟩⟩, by simp [I64], (fun e => by cases e), by decide⟩
  rw [Nat.zero_add, World.cell?_alloc_new]
  match j, hj with
  | 0, hj => simpa [ints] using hj
  | 1, hj => simpa [ints] using hj
  | j + 2, hj => simp [ints] at hj

set_option maxRecDepth 100000 in
set_option maxHeartbeats 3200000 in
theorem awake15 (K : LogOk) (w : World) : Calls Try.prog 13 #[] w fun e w' => e = .returned (.bool true) ∧ Below w.heap.size w w' := by
  have HD := Lib.hid d15_ok
  have HE := Lib.hid e15_ok
  have c1 := K.beg (w := w.alloc (.cells #[.int .i64 60, .int .i64 0] 3)) 3 (by unfold I64; decide) (two_arg15 w)
  rw [show (⟨3, [60, 0]⟩ : PDesc) = d15 from rfl, HD.out.1, HD.out.2.1] at c1
  have B0 : Hid (Below w.heap.size w (w.alloc (.cells #[.int .i64 60, .int .i64 0] 3))) := Lib.hid ((Below.refl _ _).alloc (Nat.le_refl _) _)
  go_enter Try.func13, Try.ntmps13
  go_wp2_with (first
    | (go_at_call 9; refine c1.mono ?_; rintro e w1 ⟨v1, rfl, ⟨ao1, p1, rfl, hA1, _⟩, hb1⟩; have B1 := Lib.hid (B0.out.trans (hb1.mono B0.out.size)); have c2 : Calls Try.prog 11 #[.slice ao1 (begB d15).length p1] w1 (fun e w' => ∃ ao2 p2, e = .returned (.tuple #[.agg #[.int .i64 3, .slice ao2 (2 : Nat) p2], .int .i64 0]) ∧ IArg w' ao2 2 p2 [60, 0] ∧ Below w1.heap.size w1 w') := (by have h := K.begs _ _ p1 _ w1 hA1; rw [HD.out.2.2.1, HD.out.2.2.2] at h; exact h.mono (fun e w' ⟨v, he, ⟨a, p, hv, hI, _⟩, hb⟩ => ⟨a, p, by rw [he, hv]; rfl, hI, hb⟩)); clear hA1 hb1)
    | (go_at_call 11; refine c2.mono ?_; rintro e w2 ⟨ao2, p2, rfl, hI2, hb2⟩; have c3 := fun W => K.fin 3 2 W (by unfold I64; decide) (by unfold I64; decide); rw [HE.out.1, HE.out.2.1] at c3; obtain ⟨W, hW⟩ : ∃ W, w2.alloc (.cells #[.int .i64 3, .slice ao2 2 p2] 24) = W := ⟨_, rfl⟩; have q0 : W.cell? ⟨w2.heap.size, 0, none⟩ = some (.int .i64 3) := (by rw [← hW, World.cell?_alloc_new]; rfl); have q1 : W.cell? ⟨w2.heap.size, 1, none⟩ = some (.slice ao2 2 p2) := (by rw [← hW, World.cell?_alloc_new]; rfl); have B2 : Hid (Below w.heap.size w W) := Lib.hid (by rw [← hW]; exact (B1.out.trans (hb2.mono B1.out.size)).alloc (Nat.le_trans B1.out.size hb2.size) _); clear hI2 hb2)
    | (go_at_call 15; refine (c3 _).mono ?_; rintro e w3 ⟨v3, rfl, ⟨ao3, p3, rfl, hA3, _⟩, hb3⟩; have B3 := Lib.hid (B2.out.trans (hb3.mono B2.out.size)); have c4 := K.fins _ _ p3 _ w3 hA3; rw [HE.out.2.2.1, HE.out.2.2.2.1, HE.out.2.2.2.2] at c4; have r0 := cell_later hb3 q0; have r1 := cell_later hb3 q1; clear hA3 hb3)
    | (go_at_call 17; refine c4.mono ?_; rintro e w4 ⟨rfl, hb4⟩; have B4 := Lib.hid (B3.out.trans (hb4.mono B3.out.size)); have s0 := cell_later hb4 r0; have s1 := cell_later hb4 r1; clear hb4))
  go_ret
  exact ⟨rfl, B4.out⟩

end Go.Proofs.Ytpmggbdmoopkfaa
