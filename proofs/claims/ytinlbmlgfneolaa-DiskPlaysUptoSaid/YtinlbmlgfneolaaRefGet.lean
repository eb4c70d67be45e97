/-
  Proved here: what Get of the document's own disk answers.
  The conditions stand at each theorem.
-/
import Derived.Test.YtinlbmlgfneolaaRefBar
import Derived.Deep.QuietTactic
import Derived.BigQuiet
namespace Go.Proofs.Ytinlbmlgfneolaa
open Go.RowKit
set_option linter.unusedVariables false

theorem ref_getLastD {ls : List Int} {os : List (List Int)} {q : Nat} (h : os.length = q + 1) : os[q]? = some ((ls :: os).getLastD []) := by
  rw [getLastD_cons_ne _ _ _ (by intro e; rw [e] at h; cases h), List.getLastD_eq_getLast?, List.getLast?_eq_getElem?, show os.length - 1 = q by omega, List.getElem?_eq_getElem (show q < os.length by omega)]
  rfl

set_option maxRecDepth 100000 in
set_option maxHeartbeats 1600000 in
theorem ri_get {w : World} {a : Addr} {F : Nat → Prop} {s : DM} (x : Int) (h : RI w a F s) (hx : -9223372036854775808 ≤ x ∧ x ≤ 9223372036854775807) : Calls Try.prog 14 #[.pointer (some a), .int .i64 x] w fun e w' => e = .returned (.tuple #[.string (str (getOut s x)), .int .i64 (getErr s x)]) ∧ Below w.heap.size w w' := by
  obtain ⟨d, gl, go, cl, co, ao, cp, rfl, h, rfl⟩ := h
  have hof := h.off
  by_cases hoff : s.off = true
  · rw [hoff] at hof
    have HE : Hid (getErr s x = 8) := Lib.hid (by unfold getErr; rw [if_pos hoff])
    have HO : Hid (getOut s x = []) := Lib.hid (by unfold getOut; rw [HE.out]; rfl)
    clear hoff h
    go_enter Try.func14, Try.ntmps14
    go_wp2_with fail
    go_ret2
    exact ⟨by rw [HE.out, HO.out]; rfl, Below.refl _ _⟩
  · have hoff' : s.off = false := by rw [Bool.not_eq_true] at hoff; exact hoff
    rw [hoff'] at hof
    by_cases hin : 0 ≤ x ∧ x < s.n
    · have HE : Hid (getErr s x = 0) := Lib.hid (by unfold getErr; rw [if_neg hoff, if_pos hin])
      obtain ⟨k, rfl⟩ : ∃ k : Nat, x = k := ⟨x.toNat, by omega⟩
      obtain ⟨n, hnn⟩ : ∃ n, s.n = n := ⟨_, rfl⟩
      have hn4 := h.n480
      have hk : k < s.n := by omega
      have hC := h.cells k hk
      obtain ⟨L, hL⟩ : ∃ L, (s.hist k).tail.length = L := ⟨_, rfl⟩
      have hs0 := h.sl
      have hs1 := h.so
      have ho := hC.opn
      have hfew := hC.few
      rw [hL] at ho hfew
      rw [hnn] at hs0 hs1 hn4 hk
      have i1 : (k : Int) < (n : Int) := by omega
      have HO : Hid (getOut s k = ((s.hist k).headD [] :: (s.hist k).tail).getLastD []) := Lib.hid (by unfold getOut; rw [if_pos HE.out, Int.toNat_natCast, ← hist_eq h.ok k])
      rcases Nat.eq_zero_or_pos L with h0 | h0
      · subst h0
        have hl := hC.last
        have HO2 : Hid (getOut s k = (s.hist k).headD []) := Lib.hid (by rw [HO.out, List.length_eq_zero_iff.1 hL]; rfl)
        clear hoff hoff' h hin hx hC hL HO
        generalize (s.hist k).headD [] = c at *
        go_enter Try.func14, Try.ntmps14
        go_wp2_with fail
        go_ret2
        exact ⟨by rw [HE.out, HO2.out]; rfl, Below.refl _ _⟩
      · obtain ⟨q, rfl⟩ : ∃ q, L = q + 1 := ⟨L - 1, by omega⟩
        rcases hC.form.1 with hnone | ⟨r, hr⟩
        · have hv := hC.row
          rw [hnone] at hv
          obtain ⟨_, _, hg, _⟩ := hv.form (by rw [hL]; omega)
          cases hg
        · rw [hr] at ho hC
          have hc := hC.text (ref_getLastD (ls := (s.hist k).headD []) hL)
          rw [← HO.out] at hc
          have hwr : IntKind.i64.wrap (q : Int) = (q : Int) := by rw [IntKind.wrap_i64]; omega
          have i2 : (q : Int) < (q : Int) + 1 := by omega
          have i3 : (0 : Int) < (q : Int) + 1 := by omega
          clear hoff hoff' h hin hx hC hL HO hr hfew
          generalize getOut s (k : Int) = c at *
          go_enter Try.func14, Try.ntmps14
          go_wp2_with fail
          go_quiet (fail)
          go_wp2_with fail
          go_ret2
          exact ⟨by rw [HE.out]; rfl, below_drewN (Below.refl _ _) _⟩
    · have HE : Hid (getErr s x = 7) := Lib.hid (by unfold getErr; rw [if_neg hoff, if_neg hin])
      have HO : Hid (getOut s x = []) := Lib.hid (by unfold getOut; rw [HE.out]; rfl)
      have hs0 := h.sl
      by_cases h0 : x < 0
      · clear hoff hoff' h hin hx
        go_enter Try.func14, Try.ntmps14
        go_wp2_with fail
        go_ret2
        exact ⟨by rw [HE.out, HO.out]; rfl, Below.refl _ _⟩
      · have h1 : (s.n : Int) ≤ x := by omega
        clear hoff hoff' h hin hx
        go_enter Try.func14, Try.ntmps14
        go_wp2_with fail
        go_ret2
        exact ⟨by rw [HE.out, HO.out]; rfl, Below.refl _ _⟩

end Go.Proofs.Ytinlbmlgfneolaa
