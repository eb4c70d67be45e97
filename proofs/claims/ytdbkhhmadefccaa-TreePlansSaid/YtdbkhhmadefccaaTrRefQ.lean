/-
  Proved here: what the document's own Plan answers.
  The conditions stand at each theorem.
-/
import Derived.Test.YtdbkhhmadefccaaTrRefP
import Derived.Test.YtdbkhhmadefccaaTrPlanOk
import Derived.Test.YtdbkhhmadefccaaTrBack
import Derived.Test.YtdbkhhmadefccaaTrSame
namespace Go.Proofs.Ytdbkhhmadefccaa
open Go.RowKit
set_option linter.unusedVariables false
set_option linter.unusedSimpArgs false

def RPlanEnd (w : World) (zs fs : List Int) (e : Ending) (w' : World) : Prop :=
  ∃ v k, e = .returned (.tuple #[planNode zs fs, .slice v (planWs zs fs).length k, .int .i64 (planErr zs fs)]) ∧ WIs w' v (planWs zs fs).length (planWs zs fs) ∧ Below w.heap.size w w'

theorem WIs.none (w : World) : WIs w none 0 [] := ⟨rfl, by decide, Or.inl rfl⟩

set_option maxRecDepth 100000 in
set_option maxHeartbeats 6400000 in
theorem RPlanArg_any (ao bo : Option Addr) (len cap n c : Nat) (zs fs : List Int) (w : World) (hA : IArg w ao len cap zs) (hE : ptrsOk zs = false) :
    Calls Try.prog 12 #[.slice ao len cap, .slice bo n c] w (RPlanEnd w zs fs) := by
  have HN : Hid (∀ W, Below w.heap.size w W → Calls Try.prog 8 #[.slice ao len cap] W fun e w' => e = .returned (.bool false) ∧ Below W.heap.size W w') := Lib.hid (fun W hW => by
    have h := RPointers_any ao len cap zs W (hA.later hW)
    rw [hE] at h
    exact h)
  have e : planErr zs fs = 1 := by unfold planErr; rw [hE]; rfl
  unfold RPlanEnd planNode planWs
  rw [e, if_neg (by decide), if_neg (by decide)]
  have HT := Lib.hid (made_node w)
  have HB0 : Hid (Below w.heap.size w (w.alloc (.cells zeroN 32))) := Lib.hid ((Below.refl _ _).alloc (Nat.le_refl _) _)
  unfold zeroN nodeCs at HT HB0
  clear hA hE e
  go_enter Try.func12, Try.ntmps12
  go_wp2_with (first
    | (go_at_call 8; refine (HN.out _ HB0.out).mono ?_; rintro e w2 ⟨rfl, hb⟩; have HB2 := Lib.hid hb; clear hb)
    | (refine wpList_store_mid rfl 32 (.tmp 4) (.tmp 22) rfl w.heap.size 0 (nodeCs 0 0 0 0 0 0 0).toArray rfl rfl (there_later HB2.out HT.out.1 (by simp)) (iNodeA 0 0 0 0 0 0 0) (all_oneCell_toArray (node_one 0 0 0 0 0 0 0)) ?_))
  refine bodyPost_ret (v := .tuple #[node0, .slice none 0 0, .int .i64 1]) ?_ rfl ⟨none, 0, rfl, WIs.none _, ?_⟩
  · exact node_end rfl _ _ _ _ _ _ _ _ _ _ _ _ _ rfl rfl rfl (there_later HB2.out HT.out.1 (by simp)) rfl
  · exact below_cells _ (Nat.le_refl _) _ _ _ (HB0.out.trans (HB2.out.mono HB0.out.size))

set_option maxRecDepth 100000 in
set_option maxHeartbeats 6400000 in
theorem RPlanFresh_any (ao bo : Option Addr) (len cap n c : Nat) (zs fs : List Int) (w : World) (hA : IArg w ao len cap zs) (hF : IArg w bo n c fs) (hE : ptrsOk zs = true) (h0 : freshErr fs (needP zs) zs ≠ 0) :
    Calls Try.prog 12 #[.slice ao len cap, .slice bo n c] w (RPlanEnd w zs fs) := by
  have hl : zs.length ≤ 96 := by unfold ptrsOk at hE; rw [Bool.and_eq_true, decide_eq_true_eq] at hE; exact hE.1
  have hn5 : needP zs ≤ 5 := by rw [← usedN_need]; exact usedN_le _ 5
  have HN : Hid (∀ W, Below w.heap.size w W → Calls Try.prog 8 #[.slice ao len cap] W fun e w' => e = .returned (.bool true) ∧ Below W.heap.size W w') := Lib.hid (fun W hW => by
    have h := RPointers_any ao len cap zs W (hA.later hW)
    rw [hE] at h
    exact h)
  have HD := Lib.hid (fun W (hW : Below w.heap.size w W) => Rneed_any ao len cap zs W (hA.later hW))
  have HR := Lib.hid (fun W (hW : Below w.heap.size w W) => RFresh_any bo ao n c len cap fs zs (needP zs) W (hF.later hW) (hA.later hW) (by have := hA.len; omega) (by omega))
  have e : planErr zs fs = freshErr fs (needP zs) zs := by unfold planErr; rw [hE]; rfl
  unfold RPlanEnd planNode planWs
  rw [e, if_neg h0, if_neg h0]
  have HT := Lib.hid (made_node w)
  have HB0 : Hid (Below w.heap.size w (w.alloc (.cells zeroN 32))) := Lib.hid ((Below.refl _ _).alloc (Nat.le_refl _) _)
  unfold zeroN nodeCs at HT HB0
  generalize freshErr fs (needP zs) zs = E at *
  generalize needP zs = N at *
  have b0 : (E == 0) = false := by simpa using h0
  have b1 : (E != 0) = true := by simp [bne, b0]
  clear hA hF hE e hl hn5 h0
  go_enter Try.func12, Try.ntmps12
  go_wp2_with (first
    | (go_at_call 8; refine (HN.out _ HB0.out).mono ?_; rintro e w2 ⟨rfl, hb⟩; have HB2 := Lib.hid (HB0.out.trans (hb.mono HB0.out.size)); have HB12 := Lib.hid hb; clear hb)
    | (go_at_call 10; refine (HD.out _ HB2.out).mono ?_; rintro e w3 ⟨rfl, hb⟩; have HB3 := Lib.hid (HB2.out.trans (hb.mono HB2.out.size)); have HB13 := Lib.hid (HB12.out.trans (hb.mono HB12.out.size)); clear hb)
    | (go_at_call 26; refine (HR.out _ HB3.out).mono ?_; rintro e w4 ⟨rfl, hb⟩; have HB4 := Lib.hid (HB3.out.trans (hb.mono HB3.out.size)); have HB14 := Lib.hid (HB13.out.trans (hb.mono HB13.out.size)); clear hb)
    | (refine wpList_store_mid rfl 32 (.tmp 4) (.tmp 30) rfl w.heap.size 0 (nodeCs 0 0 0 0 0 0 0).toArray rfl rfl (there_later HB14.out HT.out.1 (by simp)) (iNodeA 0 0 0 0 0 0 0) (all_oneCell_toArray (node_one 0 0 0 0 0 0 0)) ?_))
  refine bodyPost_ret (v := .tuple #[node0, .slice none 0 0, .int .i64 E]) ?_ rfl ⟨none, 0, rfl, WIs.none _, ?_⟩
  · exact node_end rfl _ _ _ _ _ _ _ _ _ _ _ _ _ rfl rfl rfl (there_later HB14.out HT.out.1 (by simp)) rfl
  · exact below_cells _ (Nat.le_refl _) _ _ _ HB4.out

end Go.Proofs.Ytdbkhhmadefccaa
