/-
  Proved here: that the simplest facts of layer 14 hold (awake).
  The conditions stand at each theorem.
-/
import Derived.Test.YtjhdhglbgbpckaaPthUnder
namespace Go.Proofs.Ytjhdhglbgbpckaa
open Go.RowKit
set_option linter.unusedVariables false
set_option linter.unusedSimpArgs false

def sA : ByteArray := ⟨#[97]⟩
def sC : ByteArray := ⟨#[99]⟩
theorem aw_split : splitW (bytesOf ⟨#[47, 47, 97, 47, 46, 47, 98, 47, 46, 46, 47, 99, 47]⟩) = (0, [sA, sC].map bytesOf) := by decide +kernel
theorem aw_join : joinW ([sA, sC].map bytesOf) = (0, bytesOf ⟨#[47, 97, 47, 99]⟩) := by decide +kernel
theorem aw_under : underW (splitW (bytesOf ⟨#[47, 97, 47, 99, 47, 100]⟩)) (splitW (bytesOf ⟨#[47, 97, 47, 99]⟩)) = (true, 0) := by decide +kernel

theorem aw_sis (w : World) (T : TypeId) : SIs (w.alloc (.cells #[.string sA, .string sC] T)) (some ⟨w.heap.size, 0, none⟩) 2 [sA, sC] := by
  refine ⟨rfl, by decide, Or.inr ⟨_, 0, rfl, fun j x hx => ?_⟩⟩
  rw [Nat.zero_add, World.cell?_alloc_mark]
  match j, hx with
  | 0, hx => exact hx
  | 1, hx => exact hx
  | j + 2, hx => simp [strs] at hx

set_option maxRecDepth 100000 in
set_option maxHeartbeats 1600000 in
theorem awake14 (w : World) : Calls Try.prog 11 #[] w fun e w' => e = .returned (.bool true) ∧ Below w.heap.size w w' := by
  have c1 := Split_s ⟨#[47, 47, 97, 47, 46, 47, 98, 47, 46, 46, 47, 99, 47]⟩ w (by decide)
  rw [aw_split] at c1
  have c2 := fun (W : World) (T : TypeId) => Join_any (cap := 2) (W.alloc (.cells #[.string sA, .string sC] T)) (aw_sis W T) (by intro s hs; simp at hs; rcases hs with rfl | rfl <;> decide) (by decide)
  rw [aw_join] at c2
  have c3 := fun W => Under_any ⟨#[47, 97, 47, 99, 47, 100]⟩ ⟨#[47, 97, 47, 99]⟩ W (by decide) (by decide)
  rw [aw_under] at c3
  have tC : (sC.toList == [99]) = true := by rw [Go.ByteArray.toList_eq]; rfl
  go_enter Try.func11, Try.ntmps11
  go_wp2_with (first
    | (go_at_call 15; refine (c3 _).mono ?_; rintro e w5 ⟨rfl, hb5⟩; have HB5 := Lib.hid (HB4.out.trans (hb5.mono HB4.out.size)); obtain ⟨b, off, x, rfl, hx, d1⟩ := (HX.out.later hb5).at (i := 1) (by decide); obtain rfl : sC = x := Option.some.inj hx; clear hb5 hx)
    | (go_at_call 13; refine (c2 _ _).mono ?_; rintro e w4 ⟨⟨q, rfl, hq⟩, hb4⟩; obtain rfl := bytesOf_inj hq; have hb4' := ((Below.refl w3.heap.size w3).alloc (Nat.le_refl _) _).trans (hb4.mono (by rw [World.size_alloc]; exact Nat.le_succ _)); have HB4 := Lib.hid (HB3.out.trans (hb4'.mono HB3.out.size)); have HX := Lib.hid (HX.out.later hb4'); clear hb4 hb4' hq)
    | (go_at_call 9; refine c1.mono ?_; rintro e w3 ⟨⟨ns, ao, cap, rfl, hX, hc, hn, hm, hl⟩, hb3⟩; have HB3 := Lib.hid hb3; obtain rfl := map_inj hm; have HX := Lib.hid hX; clear hb3 hX hm hc hn hl))
  go_ret
  exact ⟨rfl, HB5.out⟩

end Go.Proofs.Ytjhdhglbgbpckaa
