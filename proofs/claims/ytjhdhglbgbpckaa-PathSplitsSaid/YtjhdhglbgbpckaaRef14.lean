/-
  Proved here: what the document's own Same, Begins (drydockref14) answer.
  The conditions stand at each theorem.
-/
import Derived.Test.YtjhdhglbgbpckaaStrs
import Derived.Deep.QuietTactic
import Derived.BigQuiet
namespace Go.Proofs.Ytjhdhglbgbpckaa
open Go.RowKit
set_option linter.unusedVariables false
set_option linter.unusedSimpArgs false

set_option maxRecDepth 100000 in
set_option maxHeartbeats 1600000 in
theorem RSame_any {ao bo : Option Addr} {m n c1 c2 : Nat} {xs ys : List ByteArray} (w : World) (hX : SIs w ao m xs) (hY : SIs w bo n ys) :
    Calls Try.prog 12 #[.slice ao m c1, .slice bo n c2] w fun e w' => e = .returned (.bool (decide (xs = ys))) ∧ Below w.heap.size w w' := by
  have HX := Lib.hid hX
  have HY := Lib.hid hY
  have hbm := hX.2.1
  have hbn := hY.2.1
  have HLX := Lib.hid hX.len
  have HLY := Lib.hid hY.len
  clear hX hY
  by_cases hmn : m = n
  · subst hmn
    go_enter Try.func12, Try.ntmps12
    go_wp2_with fail
    go_loopw [5] (fun iv wr => ∃ i : Nat, iv = .int .i64 (i : Int) ∧ i ≤ m ∧ Hid (xs.take i = ys.take i) ∧ Hid (Below w.heap.size w wr)) (fun iv _ => m - (intOf iv).toNat)
    case atStart => exact ⟨0, rfl, Nat.zero_le _, Lib.hid rfl, Lib.hid (Below.refl _ _)⟩
    case round =>
      obtain ⟨i, rfl, hi, HT, HB⟩ := hrel
      by_cases hlt : i < m
      · obtain ⟨b1, o1, x, rfl, hx, d1⟩ := (HX.out.later HB.out).at hlt
        obtain ⟨b2, o2, y, rfl, hy, d2⟩ := (HY.out.later HB.out).at hlt
        have i1 : (i : Int) < (m : Int) := by omega
        have HXI := Lib.hid hx
        have HYI := Lib.hid hy
        have hs := str_is x y
        clear hx hy
        by_cases hxy : x = y
        · subst hxy
          go_wp2_with fail
          go_big_quiet (fail)
          go_wp2_with fail
          go_roundw
          case rel => exact ⟨i + 1, by go_num, by omega, Lib.hid (by rw [List.take_add_one, List.take_add_one, HT.out, HXI.out, HYI.out]), Lib.hid (below_drewN HB.out _)⟩
          case measure => simp [intOf]; omega
        · rw [decide_eq_false hxy] at hs
          have HNE : Hid (decide (xs = ys) = false) := Lib.hid (decide_eq_false (fun e => by
            have h := HXI.out
            rw [e, HYI.out] at h
            exact hxy (Option.some.inj h).symm))
          go_wp2_with fail
          go_big_quiet (fail)
          go_wp2_with fail
          go_ret
          exact ⟨by rw [HNE.out]; rfl, below_drewN HB.out _⟩
      · obtain rfl : i = m := by omega
        have HE : Hid (decide (xs = ys) = true) := Lib.hid (decide_eq_true (by
          have h := HT.out
          rw [List.take_of_length_le (by rw [HLX.out]; exact Nat.le_refl _), List.take_of_length_le (by rw [HLY.out]; exact Nat.le_refl _)] at h
          exact h))
        go_wp2_with fail
        go_ret
        exact ⟨by rw [HE.out]; rfl, HB.out⟩
  · have HNE : Hid (decide (xs = ys) = false) := Lib.hid (decide_eq_false (fun e => hmn (by rw [← HLX.out, ← HLY.out, e])))
    have h1 : ((m : Int) != (n : Int)) = true := by simp; omega
    have h2 : ((m : Int) == (n : Int)) = false := by simp; omega
    go_enter Try.func12, Try.ntmps12
    go_wp2_with fail
    go_ret
    exact ⟨by rw [HNE.out]; rfl, Below.refl _ _⟩

theorem sis_take {w : World} {b off len k : Nat} {ns : List ByteArray} (h : SIs w (some ⟨b, off, none⟩) len ns) (hk : k ≤ len) : SIs w (some ⟨b, off, none⟩) k (ns.take k) := by
  refine ⟨by rw [strs_length, List.length_take, h.len]; omega, by have := h.2.1; omega, ?_⟩
  rcases h.2.2 with h0 | ⟨b', o', he, hc⟩
  · exact Or.inl (by omega)
  · refine Or.inr ⟨b', o', he, fun j x hj => hc j x ?_⟩
    rw [strs_take, List.getElem?_take] at hj
    split at hj
    · exact hj
    · cases hj

set_option maxRecDepth 100000 in
set_option maxHeartbeats 1600000 in
theorem RBegins_any {ao bo : Option Addr} {m n c1 c2 : Nat} {xs ys : List ByteArray} (w : World) (hX : SIs w ao m xs) (hY : SIs w bo n ys) (hc : m ≤ c1) (hnil : ao = none → m = 0 ∧ c1 = 0) :
    Calls Try.prog 16 #[.slice ao m c1, .slice bo n c2] w fun e w' => e = .returned (.bool (decide (n ≤ m) && decide (xs.take n = ys))) ∧ Below w.heap.size w w' := by
  by_cases hnm : n ≤ m
  · have hn1 : (n : Int) ≤ (m : Int) := by omega
    have hn2 : (n : Int) ≤ (c1 : Int) := by omega
    have hn3 : n ≤ c1 := by omega
    have hn0 : (0 : Int) ≤ (n : Int) := by omega
    rw [decide_eq_true hnm, Bool.true_and]
    cases ao with
    | none =>
      obtain ⟨rfl, rfl⟩ := hnil rfl
      obtain rfl : n = 0 := by omega
      have hx0 : xs = [] := List.length_eq_zero_iff.1 hX.len
      subst hx0
      have c := RSame_any (c1 := 0) (c2 := c2) w hX hY
      rw [show ([] : List ByteArray).take 0 = [] from rfl]
      generalize decide ([] = ys) = B at c ⊢
      go_enter Try.func16, Try.ntmps16
      go_wp2_with (go_at_call 12; refine c.mono ?_; rintro e w2 ⟨rfl, hb⟩; have HB := Lib.hid hb; clear hb)
      go_ret
      exact ⟨rfl, HB.out⟩
    | some x =>
      by_cases h0 : n = 0
      · subst h0
        have hX0 : ∀ a : Option Addr, SIs w a 0 (xs.take 0) := fun a => ⟨rfl, by decide, Or.inl rfl⟩
        have c := fun a k => RSame_any (c1 := k) (c2 := c2) w (hX0 a) hY
        generalize decide (xs.take 0 = ys) = B at c ⊢
        go_enter Try.func16, Try.ntmps16
        go_wp2_with (go_at_call 12; refine (c _ _).mono ?_; rintro e w2 ⟨rfl, hb⟩; have HB := Lib.hid hb; clear hb)
        go_ret
        exact ⟨rfl, HB.out⟩
      · obtain ⟨b, off, s, he, _, _⟩ := hX.at (i := 0) (by omega)
        cases he
        have c := RSame_any (c1 := c1) (c2 := c2) w (sis_take hX hnm) hY
        generalize decide (xs.take n = ys) = B at c ⊢
        go_enter Try.func16, Try.ntmps16
        go_wp2_with (go_at_call 12; refine c.mono ?_; rintro e w2 ⟨rfl, hb⟩; have HB := Lib.hid hb; clear hb)
        go_ret
        exact ⟨rfl, HB.out⟩
  · have hn1 : ¬ (n : Int) ≤ (m : Int) := by omega
    rw [decide_eq_false hnm, Bool.false_and]
    go_enter Try.func16, Try.ntmps16
    go_wp2_with fail
    go_ret
    exact ⟨rfl, Below.refl _ _⟩

end Go.Proofs.Ytjhdhglbgbpckaa
