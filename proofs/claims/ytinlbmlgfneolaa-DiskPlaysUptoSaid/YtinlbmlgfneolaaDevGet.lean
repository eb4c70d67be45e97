/-
  Proved here: what Get of the landed disk answers.
  The conditions stand at each theorem.
-/
import Derived.Test.YtinlbmlgfneolaaDevNew
namespace Go.Proofs.Ytinlbmlgfneolaa
open Go.RowKit
set_option linter.unusedVariables false
set_option linter.unusedSimpArgs false

set_option maxHeartbeats 400000 in
theorem get_nil (n : Int) (w : World) : Calls Try.prog 13 #[.pointer none, .int .i64 n] w fun e w' => ∃ v, e = .returned (.tuple #[v, .int .i64 1]) ∧ Fresh w' w.heap.size v [] ∧ Below w.heap.size w w' := by
  have c := ready_nil w
  go_enter Try.func13, Try.ntmps13
  go_wp2_with (go_at_call 22; refine c.mono ?_; rintro e w' ⟨rfl, rfl⟩)
  go_ret2
  exact ⟨.slice none 0 0, rfl, Fresh.nil _ _, Below.refl _ _⟩

theorem hist_last {s : DM} (h : s.Ok) (k : Nat) : (s.hist k).getLastD [] ∈ s.hist k := by
  cases hh : s.hist k with
  | nil => exact absurd hh (h k).1
  | cons x r =>
    rw [List.getLastD_eq_getLast?, List.getLast?_eq_getElem?]
    have hlt : (x :: r).length - 1 < (x :: r).length := by rw [List.length_cons]; omega
    rw [List.getElem?_eq_getElem hlt]
    exact List.getElem_mem hlt

theorem fresh_range {w : World} {base g : Nat} {c : List Int} (hg : base ≤ g) (hr : w.rangeAt g 0 (bys c)) (hc : c.length = 64) (hz : ∀ z ∈ c, 0 ≤ z ∧ z ≤ 255) (hf : ∀ j, w.frozen? ⟨g, j, none⟩ = false) : Fresh w base (.slice (some ⟨g, 0, none⟩) 64 64) c := by
  refine ⟨some ⟨g, 0, none⟩, 64, by rw [hc], ⟨⟨rfl, by omega, hz, Or.inr ⟨g, 0, rfl, fun j hj => ?_⟩⟩, (fun h => by cases h), by omega, by omega⟩, Or.inr ⟨g, 0, rfl, hg, fun j _ => hf _⟩⟩
  refine hr j _ ?_
  unfold bys
  rw [List.getElem?_map, List.getElem?_eq_getElem hj]
  simp [List.getD, hj]

theorem stored65f {w w1 : World} {n1 : Nat} {c : List Int} (hn : n1 = w.heap.size) (hw : w1 = w.alloc (.cells zero65 65)) : ∀ j, (w1.setCells n1 0 (bys c).toArray.toList).frozen? ⟨n1, j, none⟩ = false := by
  intro j
  rw [World.frozen?_setCells, hw, hn, World.frozen?_alloc_mark]
  simp

set_option maxRecDepth 100000 in
set_option maxHeartbeats 1600000 in
theorem di_get {w : World} {a : Addr} {F : Nat → Prop} {s : DM} (n : Int) (h : DI w a F s) (hn : -9223372036854775808 ≤ n ∧ n ≤ 9223372036854775807) : Calls Try.prog 13 #[.pointer (some a), .int .i64 n] w fun e w' => ∃ v, e = .returned (.tuple #[v, .int .i64 (getErr s n)]) ∧ Fresh w' w.heap.size v (getOut s n) ∧ Below w.heap.size w w' := by
  obtain ⟨d, g, ao, cp, rfl, h, rfl⟩ := h
  have c1 := ready_d h.off
  by_cases hoff : s.off = true
  · rw [if_pos hoff] at c1
    have HE : Hid (getErr s n = 8) := Lib.hid (by unfold getErr; rw [if_pos hoff])
    have HO : Hid (getOut s n = []) := Lib.hid (by unfold getOut; rw [HE.out]; rfl)
    clear hoff h
    go_enter Try.func13, Try.ntmps13
    go_wp2_with (go_at_call 22; refine c1.mono ?_; rintro e w' ⟨rfl, rfl⟩)
    go_ret2
    exact ⟨.slice none 0 0, by rw [HE.out]; rfl, by rw [HO.out]; exact Fresh.nil _ _, Below.refl _ _⟩
  · rw [if_neg hoff] at c1
    have c2 := has_of (blocks_d h.sl) n
    by_cases hin : 0 ≤ n ∧ n < s.n
    · have HE : Hid (getErr s n = 0) := Lib.hid (by unfold getErr; rw [if_neg hoff, if_pos hin])
      obtain ⟨c, hc⟩ : ∃ c, (s.hist n.toNat).getLastD [] = c := ⟨_, rfl⟩
      have hmem := hist_last h.ok n.toNat
      rw [hc] at hmem
      have hcok := (h.ok n.toNat).2 c hmem
      have HO : Hid (getOut s n = c) := Lib.hid (by unfold getOut; rw [if_pos HE.out, hc])
      rw [decide_eq_true hin] at c2
      obtain ⟨k, rfl⟩ : ∃ k : Nat, n = k := ⟨n.toNat, by omega⟩
      have i1 : (k : Int) < (s.n : Int) := hin.2
      have hk : k < s.n := by omega
      have c3 := last_cell (h.cells k hk)
      rw [Int.toNat_natCast] at hc
      rw [← hist_eq h.ok k, hc] at c3
      have hsl := h.sl
      have HC := Lib.hid hcok
      clear hc hmem hcok h hoff hin hn
      go_enter Try.func13, Try.ntmps13
      go_wp2_with (first
        | (go_at_call 22; refine c1.mono ?_; rintro e w' ⟨rfl, rfl⟩)
        | (go_at_call 26; refine c2.mono ?_; rintro e w' ⟨rfl, rfl⟩)
        | (go_at_call 27; refine c3.mono ?_; rintro e w2 ⟨rfl, hb2⟩; have HB2 := Lib.hid hb2; clear hb2)
        | (refine wp_new65 rfl rfl (some 7) rfl ?_; intro n1 w1 hn1 hw1; have HS := Lib.hid (stored65 hn1 hw1 HC.out.1); have HFR := Lib.hid (stored65f (c := c) hn1 hw1); have HN := Lib.hid hn1; clear hn1 hw1)
        | (refine wpList_store_mid rfl 65 (.tmp 7) (.tmp 23) rfl n1 0 (bys c).toArray rfl rfl HS.out.1 (i65a HC.out.1) (all_oneCell_toArray (bys_one c)) ?_))
      go_ret2
      exact ⟨_, by rw [HE.out]; rfl, by rw [HO.out]; exact fresh_range (by rw [HN.out]; exact HB2.out.size) HS.out.2.1 HC.out.1 HC.out.2 HFR.out, HB2.out.trans (HS.out.2.2.mono HB2.out.size)⟩
    · have HE : Hid (getErr s n = 7) := Lib.hid (by unfold getErr; rw [if_neg hoff, if_neg hin])
      have HO : Hid (getOut s n = []) := Lib.hid (by unfold getOut; rw [HE.out]; rfl)
      rw [decide_eq_false hin] at c2
      clear hoff h hin hn
      go_enter Try.func13, Try.ntmps13
      go_wp2_with (first
        | (go_at_call 22; refine c1.mono ?_; rintro e w' ⟨rfl, rfl⟩)
        | (go_at_call 26; refine c2.mono ?_; rintro e w' ⟨rfl, rfl⟩))
      go_ret2
      exact ⟨.slice none 0 0, by rw [HE.out]; rfl, by rw [HO.out]; exact Fresh.nil _ _, Below.refl _ _⟩

end Go.Proofs.Ytinlbmlgfneolaa
