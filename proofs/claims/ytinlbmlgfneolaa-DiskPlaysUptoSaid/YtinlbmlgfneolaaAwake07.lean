/-
  Proved here: the simplest facts that the laws of layer 7 ask hold of the landed disk.
  The conditions stand at the theorem.
-/
import Derived.Test.YtinlbmlgfneolaaDiskIs
import Derived.Test.YtinlbmlgfneolaaCopy
namespace Go.Proofs.Ytinlbmlgfneolaa
open Go.RowKit

/-- 64 bytes, the first one 7. -/
def seven64 : List Int := zeros64.set 0 7
def sevenD : DM := (putRes (freshD 2) [(1, seven64)]).1
theorem seven_put : (putRes (freshD 2) [(1, seven64)]).2 = 0 := by decide
theorem seven_get : getErr sevenD 1 = 0 ∧ getOut sevenD 1 = seven64 ∧ openOf sevenD 1 = 1 ∧ sevenD.n = 2 := by decide

set_option maxHeartbeats 1600000 in
theorem awake07_any (w : World) : Calls Try.prog 9 #[] w fun e w' => e = .returned (.bool true) ∧ Below w.heap.size w w' := by
  have c := diskOk.new_ok 2 w (by decide) (by decide)
  rw [show ((2 : Nat) : Int) = 2 from rfl] at c
  go_enter Try.func9, Try.ntmps9
  go_wp2_with fail
  refine c.mono ?_
  rintro e w1 ⟨a, F, rfl, hD, hF, hb1⟩
  have HB1 := Lib.hid hb1
  have HD := Lib.hid hD
  have HF := Lib.hid (fun k hk => (⟨hF k hk, diskOk.lt hD k hk⟩ : w.heap.size ≤ k ∧ k < w1.heap.size))
  clear c hD hF hb1
  have hmk := run_make_bytes w1 64 (by decide)
  rw [show ((64 : Nat) : Int) = 64 from rfl] at hmk
  have HO := Lib.hid (made_own w1 64)
  have hc := (made_own w1 64).2.1 0 (by decide)
  have hf := (made_own w1 64).2.2.1 0
  rw [show (List.replicate 64 (0 : Int)).getD 0 0 = 0 from rfl] at hc
  have HS := Lib.hid (HO.out.store (k := 0) (y := 7) (by decide) (by decide))
  generalize hw2 : w1.alloc (.cells (madeCells #[.int .u8 0] 64) 5) = w2 at *
  have HW2 := Lib.hid hw2
  clear hw2
  go_wp2_with fail
  have hsz2 : w2.heap.size = w1.heap.size + 1 := by rw [← HW2.out]; simp
  have hA : Arg (w2.setCell ⟨w1.heap.size, 0, none⟩ (.int .u8 7)) (some ⟨w1.heap.size, 0, none⟩) 64 64 seven64 := ⟨HS.out.bts (by decide), (fun h => by cases h), Nat.le_refl _, by decide⟩
  have hL := list_one (T := 54) (G := fun k => w1.heap.size ≤ k) (x := 1) hA (by decide) (fun b o s h => by cases h; exact Nat.le_refl _) (by simp; omega)
  have HB3 : Hid (Below w1.heap.size w1 ((w2.setCell ⟨w1.heap.size, 0, none⟩ (.int .u8 7)).alloc (.cells #[.int .i64 1, .slice (some ⟨w1.heap.size, 0, none⟩) 64 64] 54))) := Lib.hid (HS.out.2.2.2.2.alloc (by simp; omega) _)
  have hsz3 : (w2.setCell ⟨w1.heap.size, 0, none⟩ (.int .u8 7)).heap.size = w2.heap.size := by simp
  rw [hsz3] at hL
  have c2 := diskOk.put (fun k => w1.heap.size ≤ k) _ 1 1 _ (diskOk.later HD.out HB3.out) hL (fun k hk => by have := HF.out k hk; omega) (fun k _ => by show 1 + 1 ≤ 1099511627776; decide)
  clear hA hL hc hf hmk
  refine c2.mono ?_
  rintro e w4 ⟨F', rfl, hD4, hG4⟩
  have HD4 : Hid (DI w4 a F' sevenD) := Lib.hid hD4
  have HB4 : Hid (Below w.heap.size w w4) := Lib.hid (hG4.below (HB1.out.trans (HB3.out.mono HB1.out.size)) (HB1.out.trans (HB3.out.mono HB1.out.size)).size (fun k hk => (HF.out k hk).1))
  rw [seven_put]
  clear c2 hD4 hG4 hsz2 hsz3
  go_wp2_with fail
  have c3 := diskOk.get 1 HD4.out (by decide)
  rw [seven_get.1, seven_get.2.1] at c3
  refine c3.mono ?_
  rintro e w5 ⟨v, rfl, hf5, hb5⟩
  have HD5 := Lib.hid (diskOk.later HD4.out hb5)
  have HB5 := Lib.hid (HB4.out.trans (hb5.mono HB4.out.size))
  obtain ⟨ao, cap, hv, hA5, _⟩ := hf5
  obtain ⟨b5, o5, rfl, hc5⟩ := hA5.1.2.2.2.resolve_left (by decide)
  have hc0 := hc5 0 (by decide)
  rw [show seven64.getD 0 0 = 7 from rfl, Nat.add_zero] at hc0
  rw [hv, show seven64.length = 64 from rfl]
  have c6 := diskOk.opens 1 HD5.out (by decide)
  rw [seven_get.2.2.1] at c6
  clear c3 hb5 hv hA5 hc5
  go_wp2_with fail
  refine c6.mono ?_
  rintro e w6 ⟨rfl, hb6⟩
  have HB6 := Lib.hid (HB5.out.trans (hb6.mono HB5.out.size))
  have c7 := diskOk.blocks (diskOk.later HD5.out hb6)
  rw [seven_get.2.2.2] at c7
  clear c6 hb6
  go_wp2_with fail
  refine c7.mono ?_
  rintro e w7 ⟨rfl, hb7⟩
  have HB7 := Lib.hid (HB6.out.trans (hb7.mono HB6.out.size))
  clear c7 hb7
  go_wp2_with fail
  go_ret
  exact ⟨rfl, HB7.out⟩

end Go.Proofs.Ytinlbmlgfneolaa
