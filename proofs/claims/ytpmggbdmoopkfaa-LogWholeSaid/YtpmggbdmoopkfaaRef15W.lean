/-
  Proved here: what the document's own SameWrites answers.
  The conditions stand at each theorem.
-/
import Derived.Test.YtpmggbdmoopkfaaWs
import Derived.Deep.QuietTactic
import Derived.BigQuiet
namespace Go.Proofs.Ytpmggbdmoopkfaa
open Go.RowKit
set_option linter.unusedVariables false
set_option linter.unusedSimpArgs false

theorem same_step {α : Type} {l m : List α} {i : Nat} {x y : α} (h : l.take i = m.take i) (hx : l[i]? = some x) (hy : m[i]? = some y) (e : x = y) : l.take (i + 1) = m.take (i + 1) := by
  rw [List.take_add_one, List.take_add_one, h, hx, hy, e]
theorem not_same {α : Type} {l m : List α} {i : Nat} {x y : α} (hx : l[i]? = some x) (hy : m[i]? = some y) (e : x ≠ y) : l ≠ m := fun h => by
  rw [h, hy] at hx
  exact e (Option.some.inj hx).symm

set_option maxRecDepth 100000 in
set_option maxHeartbeats 3200000 in
theorem RSameWrites_any {w : World} {ao bo : Option Addr} {n m ca cb : Nat} {ws vs : List (Int × List Int)} (hA : WIs w ao n ws) (hB : WIs w bo m vs) :
    Calls Try.prog 21 #[.slice ao n ca, .slice bo m cb] w fun e w' => e = .returned (.bool (decide (ws = vs))) ∧ Below w.heap.size w w' := by
  have HA := Lib.hid hA
  have HB := Lib.hid hB
  have HL := Lib.hid (And.intro hA.1 hB.1)
  have hb1 := hA.2.1
  have hb2 := hB.2.1
  obtain ⟨S, HS⟩ : ∃ S, Hid (decide (ws = vs) = S) := ⟨_, Lib.hid rfl⟩
  rw [HS.out]
  clear hA hB
  by_cases hl : n = m
  case neg =>
    have HE : Hid (S = false) := Lib.hid (by rw [← HS.out]; exact decide_eq_false (fun e => hl (by rw [← HL.out.1, ← HL.out.2, e])))
    have hne : ((n : Int) != (m : Int)) = true := by simp; omega
    go_enter Try.func21, Try.ntmps21
    go_wp2_with fail
    go_ret
    exact ⟨by rw [HE.out]; rfl, Below.refl _ _⟩
  subst hl
  go_enter Try.func21, Try.ntmps21
  go_wp2_with fail
  go_loopw [5] (fun iv wr => ∃ i : Nat, iv = .int .i64 (i : Int) ∧ i ≤ n ∧ Hid (ws.take i = vs.take i) ∧ Hid (Below w.heap.size w wr)) (fun iv _ => n - (intOf iv).toNat)
  case atStart => exact ⟨0, rfl, Nat.zero_le _, Lib.hid rfl, Lib.hid (Below.refl _ _)⟩
  case round =>
    obtain ⟨i, rfl, hi, HI, HB0⟩ := hrel
    by_cases hlt : i < n
    · obtain ⟨b1, o1, x, zs, ad1, l1, c1, rfl, hx, h1, _, h2, h3⟩ := HA.out.at hlt
      obtain ⟨b2, o2, y, ys, ad2, l2, c2, rfl, hy, h4, _, h5, h6⟩ := HB.out.at hlt
      have d1 := cell_later HB0.out h1
      have d2 := cell_later HB0.out h2
      have d3 := cell_later HB0.out h4
      have d4 := cell_later HB0.out h5
      have k1 := fun N => str_bytes (cap := c1) (h3.1.later (below_drewN HB0.out N))
      have k2 := fun N => str_bytes (cap := c2) (h6.1.later (below_drewN HB0.out N))
      have HV := Lib.hid (str_eq h3.1.2.2.1 h6.1.2.2.1)
      have HX := Lib.hid (And.intro hx hy)
      have i1 : (i : Int) < (n : Int) := by omega
      clear h1 h2 h3 h4 h5 h6 hx hy
      by_cases hxy : x = y
      · subst hxy
        by_cases hz : zs = ys
        · have HN := Lib.hid (same_step HI.out HX.out.1 HX.out.2 (by rw [hz]))
          have e1 : ((str zs).toList == (str ys).toList) = true := by rw [HV.out]; exact decide_eq_true hz
          clear hz
          go_wp2_with fail
          go_big_quiet (fail)
          go_wp2_with fail
          go_roundw
          case rel => exact ⟨i + 1, by go_num, by omega, HN, Lib.hid (below_drewN HB0.out _)⟩
          case measure => simp [intOf]; omega
        · have HE : Hid (S = false) := Lib.hid (by rw [← HS.out]; exact decide_eq_false (not_same HX.out.1 HX.out.2 (fun e => hz (by injection e))))
          have e1 : ((str zs).toList == (str ys).toList) = false := by rw [HV.out]; exact decide_eq_false hz
          clear hz
          go_wp2_with fail
          go_big_quiet (fail)
          go_wp2_with fail
          go_ret
          exact ⟨by rw [HE.out]; rfl, below_drewN HB0.out _⟩
      · have HE : Hid (S = false) := Lib.hid (by rw [← HS.out]; exact decide_eq_false (not_same HX.out.1 HX.out.2 (fun e => hxy (by injection e))))
        have e1 : (x == y) = false := by simpa using hxy
        have e2 : (x != y) = true := by simpa using hxy
        clear hxy
        go_wp2_with fail
        go_big_quiet (fail)
        go_wp2_with fail
        go_ret
        exact ⟨by rw [HE.out]; rfl, below_drewN HB0.out _⟩
    · obtain rfl : i = n := by omega
      have HE : Hid (S = true) := Lib.hid (by
        rw [← HS.out]
        have := HI.out
        rw [List.take_of_length_le (by rw [HL.out.1]; exact Nat.le_refl _), List.take_of_length_le (by rw [HL.out.2]; exact Nat.le_refl _)] at this
        exact decide_eq_true this)
      go_wp2_with fail
      go_ret
      exact ⟨by rw [HE.out]; rfl, HB0.out⟩

end Go.Proofs.Ytpmggbdmoopkfaa
