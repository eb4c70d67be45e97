/-
  Proved here: what the landed chain's Read answers of a node whose chain is one block.
  The conditions stand at each theorem.
-/
import Derived.Test.YtmgmlebkmdpddaaChFetch
import Derived.Test.YtmgmlebkmdpddaaChApart
import Derived.Test.YtmgmlebkmdpddaaExtTo
namespace Go.Proofs.Ytmgmlebkmdpddaa
open Go.RowKit
set_option linter.unusedVariables false
set_option linter.unusedSimpArgs false

set_option maxRecDepth 100000 in
set_option maxHeartbeats 3200000 in
theorem chReadN_one {w : World} {xo : Option Addr} {xc g cap : Nat} {x : Int} {vo : Option Addr} {vc : Nat} {zs l : List Int} {l3 xs : List EX} (hE : EIs w xo 3 l3) (hx0 : 0 < x) (hx9 : x ≤ 479) (h0 : w.cell? ⟨g, 0, none⟩ = some (.int .i64 x)) (h1 : w.cell? ⟨g, 1, none⟩ = some (.slice vo 64 vc)) (hA : Arg w vo 64 vc zs) (hz : IsBlk zs xs 0)
    (hl : l3 ++ xs = fromE 0 l) (hok : ptrsOk l = true) (hx : ¬ x ∈ trimL l) (N : Nat) (hN : (fromE 0 l).length = N) (hN2 : N ≤ 96) :
    Calls Try.prog 9 #[nodeC (.slice xo 3 xc) 2 x, .slice (some ⟨g, 0, none⟩) (1 : Nat) cap] w fun e w' => ∃ lo lc oo oc, e = .returned (.tuple #[.slice lo N lc, .slice oo 1 oc, .int .i64 0]) ∧ Below w.heap.size w w' := by
  have HA0 : Hid (Below w.heap.size w (w.alloc (.cells (nodeCs (.slice xo 3 xc) 2 x).toArray 37))) := Lib.hid ((Below.refl _ _).alloc (Nat.le_refl _) _)
  have HF : Hid (∀ W, Below w.heap.size w W → Calls Try.prog 17 #[nodeC (.slice xo 3 xc) 2 x, .slice (some ⟨g, 0, none⟩) (1 : Nat) cap] W fun e w' => ∃ v ov, e = .returned (.tuple #[v, ov, .bool true]) ∧ RowX W.heap.size w' v (l3 ++ xs) ∧ FreshI w' W.heap.size ov [x] ∧ Below W.heap.size W w') := Lib.hid (fun W hW => chFollow_one (hE.later hW) hx0 hx9 (cell_later hW h0) (cell_later hW h1) (hA.later hW) hz)
  have HL := Lib.hid hl
  have HOK := Lib.hid hok
  have HX := Lib.hid hx
  have HN := Lib.hid hN
  have n8 : (w.alloc (.cells (nodeCs (.slice xo 3 xc) 2 x).toArray 37)).cell? ⟨w.heap.size, 1, none⟩ = some (.int .i64 2) := by rw [World.cell?_alloc_new]; rfl
  unfold nodeC at HF ⊢
  unfold nodeCs at HA0 n8
  clear hE h0 h1 hA hz hl hok hx hN
  go_enter Try.func9, Try.ntmps9
  go_wp2_with (first
    | (go_at_call 13; refine (chApart_true (HI3.out.later HB4.out) HI4.out (by simp) (by intro z hz; simp at hz; rw [hz]; exact HX.out)).mono ?_; rintro e w5 ⟨rfl, rfl⟩)
    | (go_at_call 10; refine (To_any (cap := lc) HE3.out HOK.out).mono ?_; rintro e w4 ⟨v4, rfl, hf4, hb4⟩; obtain ⟨po, pc, rfl, hI4, _⟩ := hf4; have HI4 := Lib.hid hI4; have HB4 := Lib.hid hb4; have HB5 := Lib.hid (HB3.out.trans (hb4.mono HB3.out.size)); clear hI4 hb4)
    | (go_at_call 17; refine (HF.out _ HA0.out).mono ?_; rintro e w3 ⟨v3, ov, rfl, hr3, hi3, hb3⟩; rw [HL.out] at hr3; obtain ⟨lo, lc, rfl, hE3⟩ := hr3.eis (by rw [HN.out]; omega); obtain ⟨oo, oc, rfl, hI3, _⟩ := hi3; rw [show [x].length = 1 from rfl] at hI3 ⊢; rw [HN.out] at hE3 ⊢; have HE3 := Lib.hid hE3; have HI3 := Lib.hid hI3; have HB3 := Lib.hid (HA0.out.trans (hb3.mono HA0.out.size)); clear hr3 hE3 hI3 hb3))
  go_ret3
  exact ⟨_, _, _, _, rfl, HB5.out⟩

end Go.Proofs.Ytmgmlebkmdpddaa
