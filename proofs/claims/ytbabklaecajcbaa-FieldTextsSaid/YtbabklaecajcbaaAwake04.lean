/-
  Proved here: the simplest facts that each law of layer 4 begins with hold.
  No conditions.
-/
import Derived.Test.YtbabklaecajcbaaField
namespace Go.Proofs.Ytbabklaecajcbaa
open Go.RowKit

theorem sealedB_sealOf {zs : List Int} (h : zs.length = 64) : sealedB (sealOf sumS zs) = true := by
  unfold sealedB
  rw [decide_eq_true_iff]
  exact ⟨sealOf_length h, sealOf_again h⟩

def zeros64 : List Int := List.replicate 64 0
def with258 : List Int := setOut zeros64 3 2 258

theorem with258_err : setErr 64 3 2 258 = 0 := by decide
theorem with258_get : getOut with258 3 2 = 258 := by decide
theorem with258_length : with258.length = 64 := by decide

set_option maxHeartbeats 400000 in
theorem awake04_any (w : World) : Calls Try.prog 12 #[] w (Says w.heap.size w true) := by
  have hmk := run_make_bytes w 64 (by decide)
  rw [show ((64 : Nat) : Int) = 64 from rfl] at hmk
  have hb0 : Below w.heap.size w (w.alloc (.cells (madeCells #[.int .u8 0] 64) 5)) := (Below.refl _ _).alloc (Nat.le_refl _) _
  have hA0 := made_arg w 64 (by decide)
  have c1 := fSet_any _ 64 64 zeros64 3 2 258 _ hA0 (by decide) (by decide) (by decide)
  rw [with258_err] at c1
  generalize hw1 : w.alloc (.cells (madeCells #[.int .u8 0] 64) 5) = w1 at *
  have HW1 := Lib.hid hw1
  clear hw1 hA0
  go_enter Try.func12, Try.ntmps12
  go_wp2_with (go_at_call 10; refine c1.mono ?_; rintro e w2 ⟨v2, rfl, hf, hb⟩; have HB := Lib.hid (hb0.trans (hb.mono hb0.size)); obtain ⟨ao2, cp2, hv2, hA2, _⟩ := hf; rw [show setOut zeros64 3 2 258 = with258 from rfl, with258_length] at hv2; rw [show setOut zeros64 3 2 258 = with258 from rfl, with258_length] at hA2; rw [hv2]; clear hv2 hb c1)
  have c2 := fGet_any ao2 64 cp2 with258 3 2 w2 hA2 (by decide) (by decide)
  rw [with258_get, show fErr 64 3 2 = 0 from rfl] at c2
  have c3 := fSeal_any ao2 64 cp2 with258 w2 hA2
  have e3 : sealOut sumS with258 = sealOf sumS with258 := by unfold sealOut; rw [if_pos with258_length]
  rw [e3, show sealErr 64 = 0 from rfl] at c3
  clear hA2 e3
  refine c2.mono ?_
  rintro e w' ⟨rfl, rfl⟩
  go_wp2_with (go_at_call 17; refine c3.mono ?_; rintro e w3 ⟨v3, rfl, hf, hb⟩; have HB3 := Lib.hid (HB.out.trans (hb.mono HB.out.size)); obtain ⟨ao3, cp3, hv3, hA3, _⟩ := hf; rw [sealOf_length with258_length] at hv3; rw [sealOf_length with258_length] at hA3; rw [hv3]; clear hv3 hb c3)
  have c4 := fSealed_any ao3 64 cp3 (sealOf sumS with258) w3 hA3
  rw [sealedB_sealOf with258_length] at c4
  refine c4.mono ?_
  rintro e w4 ⟨rfl, hb4⟩
  go_wp2_with fail
  go_ret
  exact ⟨rfl, HB3.out.trans (hb4.mono HB3.out.size)⟩

end Go.Proofs.Ytbabklaecajcbaa
