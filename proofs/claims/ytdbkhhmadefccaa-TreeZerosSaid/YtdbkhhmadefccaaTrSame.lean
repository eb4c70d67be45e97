/-
  Proved here: the law's own comparing of numbers (ints) and of writes (writes), the document's of nodes (Same), say yes of like ones; what the document's Trim answers; what Plan answers of any pointers.
  The conditions stand at each theorem.
-/
import Derived.Test.YtdbkhhmadefccaaTrBack
namespace Go.Proofs.Ytdbkhhmadefccaa
open Go.RowKit
set_option linter.unusedVariables false
set_option linter.unusedSimpArgs false

/-! ### Plan of any pointers -/

def planNode (zs fs : List Int) : Value := if planErr zs fs = 0 then nodeV 1 (zs.getD 0 0) (zs.getD 1 0) (zs.getD 2 0) (zs.getD 3 0) (singleP zs fs) (doubleP zs fs) else node0
def planWs (zs fs : List Int) : List (Int × List Int) := if planErr zs fs = 0 then writesP zs fs else []

def PlanEnd (base : Nat) (w0 : World) (zs fs : List Int) (e : Ending) (w : World) : Prop :=
  ∃ v, e = .returned (.tuple #[planNode zs fs, v, .int .i64 (planErr zs fs)]) ∧ WOwn base w v (planWs zs fs) ∧ Below base w0 w

theorem Plan_any (ao bo : Option Addr) (len cap n c : Nat) (zs fs : List Int) (w : World) (hA : IArg w ao len cap zs) (hF : IArg w bo n c fs) :
    Calls Try.prog 11 #[.slice ao len cap, .slice bo n c] w (PlanEnd w.heap.size w zs fs) := by
  have hfl := hF.len
  unfold PlanEnd planNode planWs
  by_cases hp : ptrsOk zs = true
  · have K : PlanKit w ao bo len cap n c zs fs := ⟨hA, hF, hp⟩
    have e : planErr zs fs = freshErr fs (needP zs) zs := by unfold planErr; rw [if_pos hp]
    by_cases hn : needP zs ≤ n
    · by_cases h0 : freshErr fs (needP zs) zs = 0
      · rw [e, h0, if_pos rfl, if_pos rfl]
        exact (PlanOk_any K hn h0).mono (fun _ _ h => h)
      · have h1 : freshErr fs (needP zs) zs = 1 := by
          unfold freshErr at h0 ⊢
          rw [if_neg (by omega)] at h0 ⊢
          split
          · next h => rw [if_pos h] at h0; exact absurd rfl h0
          · rfl
        rw [e, h1, if_neg (by decide), if_neg (by decide)]
        exact (PlanBad_any K hn h1).mono (fun _ w' h => ⟨.slice none 0 0, h.1, WOwn.nil _ _, h.2⟩)
    · have h6 : freshErr fs (needP zs) zs = 6 := by unfold freshErr; rw [if_pos (by omega)]
      rw [e, h6, if_neg (by decide), if_neg (by decide)]
      exact (PlanSpace_any K (by omega)).mono (fun _ w' h => ⟨.slice none 0 0, h.1, WOwn.nil _ _, h.2⟩)
  · have hp : ptrsOk zs = false := by simpa using hp
    have e : planErr zs fs = 1 := by unfold planErr; rw [hp]; rfl
    rw [e, if_neg (by decide), if_neg (by decide)]
    exact (PlanArg_any ao bo len cap n c zs fs w hA hF hp).mono (fun _ w' h => ⟨.slice none 0 0, h.1, WOwn.nil _ _, h.2⟩)

theorem planNode_form (zs fs : List Int) : ∃ f a b c d s t, planNode zs fs = nodeV f a b c d s t := by
  unfold planNode
  split
  · exact ⟨_, _, _, _, _, _, _, rfl⟩
  · exact ⟨_, _, _, _, _, _, _, rfl⟩

/-! ### Nodes -/

theorem eq_four (a b c d : Int) : ∀ w : World, (Op.equalIn 10000 29 (.agg #[.int .i64 a, .int .i64 b, .int .i64 c, .int .i64 d]) (.agg #[.int .i64 a, .int .i64 b, .int .i64 c, .int .i64 d])).run Try.prog w = .ok true w := fun w => by
  obtain ⟨i0, hi0, hz0, hz1, hz2⟩ := info_parts elemI.2.1
  have hc : Try.prog.cellsOf 3 = 1 := by kernel_rfl
  have e : (#[Value.int .i64 a, .int .i64 b, .int .i64 c, .int .i64 d] : Array Value) = (ints [a, b, c, d]).toArray := rfl
  rw [e, show (10000 : Nat) = 9999 + 1 from rfl, run_equalIn_array (P := Try.prog) w 9999 _ _ Try.underlying29 hi0, hc, eq_items w 9998 [a, b, c, d] [a, b, c, d] (List.range 4) (fun i hi => by have := List.mem_range.1 hi; simp only [List.length_cons, List.length_nil]; omega)]
  have e2 : ((List.range 4).all fun j => ([a, b, c, d] : List Int).getD j 0 == ([a, b, c, d] : List Int).getD j 0) = true := by
    rw [List.all_eq_true]
    intro j _
    exact beq_self_eq_true _
  rw [e2]

set_option maxHeartbeats 1600000 in
theorem sameX_nil (w : World) : Calls Try.prog 29 #[.slice none 0 0, .slice none 0 0] w fun e w' => e = .returned (.bool true) ∧ w = w' := by
  go_enter Try.func29, Try.ntmps29
  go_wp2_with fail
  go_loopw [5] (fun iv wr => iv = .int .i64 0 ∧ w = wr) (fun iv _ => 0)
  case atStart => exact ⟨rfl, rfl⟩
  case round =>
    obtain ⟨rfl, rfl⟩ := hrel
    go_wp2_with fail
    go_ret
    exact ⟨rfl, rfl⟩

set_option maxRecDepth 100000 in
set_option maxHeartbeats 3200000 in
theorem sameN_true (f a b c d s t : Int) (w : World) : Calls Try.prog 13 #[nodeV f a b c d s t, nodeV f a b c d s t] w fun e w' => e = .returned (.bool true) ∧ Below w.heap.size w w' := by
  have ED := eq_four a b c d
  have HB : Hid (∀ o p, Below w.heap.size w ((w.alloc o).alloc p)) := Lib.hid (fun o p => ((Below.refl _ _).alloc (Nat.le_refl _) _).alloc (by simp) _)
  unfold nodeV nodeCs
  go_enter Try.func13, Try.ntmps13
  go_wp2_with (go_at_call 29; refine (sameX_nil _).mono ?_; rintro e w' ⟨rfl, rfl⟩)
  go_ret
  exact ⟨rfl, HB.out _ _⟩

/-! ### Numbers -/

set_option maxRecDepth 100000 in
set_option maxHeartbeats 1600000 in
theorem ints_true (ao bo : Option Addr) (len c1 c2 : Nat) (zs : List Int) (w : World) (h1 : IArg w ao len c1 zs) (h2 : IArg w bo len c2 zs) :
    Calls Try.prog 16 #[.slice ao len c1, .slice bo len c2] w fun e w' => e = .returned (.bool true) ∧ Below w.heap.size w w' := by
  have H1 := Lib.hid h1
  have H2 := Lib.hid h2
  have hlen := h1.big
  clear h1 h2
  go_enter Try.func16, Try.ntmps16
  go_wp2_with fail
  go_loopw [5] (fun iv wr => ∃ i : Nat, iv = .int .i64 (i : Int) ∧ i ≤ len ∧ Hid (Below w.heap.size w wr)) (fun iv _ => len - (intOf iv).toNat)
  case atStart => exact ⟨0, rfl, Nat.zero_le _, Lib.hid (Below.refl _ _)⟩
  case round =>
    obtain ⟨i, rfl, hi, HB⟩ := hrel
    by_cases hlt : i < len
    · obtain ⟨g1, o1, x, rfl, hx, d1, _⟩ := (H1.out.later HB.out).at hlt
      obtain ⟨g2, o2, y, rfl, hy, d2, _⟩ := (H2.out.later HB.out).at hlt
      rw [hx] at hy
      obtain rfl : x = y := by simpa using hy
      have i0 : 0 ≤ (i : Int) := by omega
      have i1 : (i : Int) < (len : Int) := by omega
      clear hx hy
      go_wp2_with fail
      go_quiet (fail)
      go_wp2_with fail
      go_roundw
      case rel => exact ⟨i + 1, by go_num, by omega, Lib.hid (below_drewN HB.out _)⟩
      case measure => simp [intOf]; omega
    · obtain rfl : i = len := by omega
      go_wp2_with fail
      go_ret
      exact ⟨rfl, HB.out⟩

/-! ### Writes -/

set_option maxRecDepth 100000 in
set_option maxHeartbeats 1600000 in
theorem writes_true (ao bo : Option Addr) (len c1 c2 : Nat) (ws : List (Int × List Int)) (w : World) (h1 : WIs w ao len ws) (h2 : WIs w bo len ws) :
    Calls Try.prog 14 #[.slice ao len c1, .slice bo len c2] w fun e w' => e = .returned (.bool true) ∧ Below w.heap.size w w' := by
  have H1 := Lib.hid h1
  have H2 := Lib.hid h2
  have hlen := h1.2.1
  clear h1 h2
  go_enter Try.func14, Try.ntmps14
  go_wp2_with fail
  go_loopw [5] (fun iv wr => ∃ i : Nat, iv = .int .i64 (i : Int) ∧ i ≤ len ∧ Hid (Below w.heap.size w wr)) (fun iv _ => len - (intOf iv).toNat)
  case atStart => exact ⟨0, rfl, Nat.zero_le _, Lib.hid (Below.refl _ _)⟩
  case round =>
    obtain ⟨i, rfl, hi, HB⟩ := hrel
    by_cases hlt : i < len
    · obtain ⟨g1, o1, x, zs, ad, l, c, rfl, hx, d1, _, d3, hA⟩ := (H1.out.later HB.out).at hlt
      obtain ⟨g2, o2, y, ys, bd, m, k, rfl, hy, e1, _, e3, hA'⟩ := (H2.out.later HB.out).at hlt
      rw [hx] at hy
      obtain ⟨rfl, rfl⟩ : x = y ∧ zs = ys := by simpa using hy
      have i0 : 0 ≤ (i : Int) := by omega
      have i1 : (i : Int) < (len : Int) := by omega
      have s1 := fun n => str_bytes (cap := c) (hA.1.later (below_drewN (Below.refl wr.heap.size wr) n))
      have s2 := fun n => str_bytes (cap := k) (hA'.1.later (below_drewN (Below.refl wr.heap.size wr) n))
      clear hx hy hA hA'
      go_wp2_with fail
      go_quiet (fail)
      go_wp2_with fail
      go_roundw
      case rel => exact ⟨i + 1, by go_num, by omega, Lib.hid (below_drewN HB.out _)⟩
      case measure => simp [intOf]; omega
    · obtain rfl : i = len := by omega
      go_wp2_with fail
      go_ret
      exact ⟨rfl, HB.out⟩

end Go.Proofs.Ytdbkhhmadefccaa
