/-
  Proved here: what the document's own reckoning of flags (drydockref05: power, Up, Down) and of runs (drydockref02: Run, Runs, Same) answers.
  The conditions stand at each theorem.
-/
import Derived.Test.YtfhfjnfejcggcaaVals
import Derived.Test.YtfhfjnfejcggcaaFlag
import Derived.Test.YtfhfjnfejcggcaaFlo
import Derived.Deep.RegionWith
import Derived.Deep.QuietTactic
import Derived.BigQuiet
namespace Go.Proofs.Ytfhfjnfejcggcaa
open Go.RowKit

theorem pow_small {j : Nat} (h : j ≤ 6) : (1 : Int) ≤ 2 ^ j ∧ (2 : Int) ^ j ≤ 64 := by
  rcases j with _ | _ | _ | _ | _ | _ | _ | j
  · decide
  · decide
  · decide
  · decide
  · decide
  · decide
  · decide
  · omega

set_option maxHeartbeats 400000 in
theorem power05_any (k : Nat) (w : World) (hk : k ≤ 7) :
    Calls Try.prog 36 #[.int .i64 k] w fun e w' => e = .returned (.int .u8 (2 ^ k)) ∧ w = w' := by
  go_enter Try.func36, Try.ntmps36
  go_wp2
  go_loop [3, 4] (fun pv iv => ∃ (j : Nat) (x : Int), j ≤ k ∧ iv = .int .i64 j ∧ pv = .int .u8 x ∧ x = 2 ^ j) (fun _ iv => k - (intOf iv).toNat)
  case atStart => exact ⟨0, 1, Nat.zero_le _, rfl, rfl, rfl⟩
  case round =>
    obtain ⟨j, x, hj, rfl, rfl, hx⟩ := hrel
    by_cases hlt : j < k
    · have hs := pow_small (j := j) (by omega)
      rw [← hx] at hs
      obtain ⟨h0, h1⟩ := hs
      have HX := Lib.hid hx
      clear hx
      go_wp2
      go_round
      case rel => exact ⟨j + 1, x * 2, by omega, by go_num, rfl, by rw [HX.out, Int.pow_succ]⟩
      case measure => simp [intOf]; omega
    · have hjk : j = k := by omega
      subst hjk
      have HX := Lib.hid hx
      clear hx
      go_wp2
      go_ret
      exact ⟨by rw [HX.out]; rfl, rfl⟩

theorem elemBool : Elem 33 4 (.bool false) 1 := ⟨Try.underlying33, by kernel_rfl, rfl, by decide⟩
theorem elemComplex : Elem 29 23 (.complex .f64 0 0) 16 := ⟨Try.underlying29, by kernel_rfl, rfl, by decide⟩

/-- A call that hands back a slice of these values, in new memory. -/
def GivesV (base : Nat) (w0 : World) (xs : List Value) (e : Ending) (w' : World) : Prop :=
  ∃ v, e = .returned v ∧ FreshV w' base v xs ∧ Below base w0 w'

/-- The first n flags as values. -/
def boolsV (f : Nat → Bool) (n : Nat) : List Value := (List.range n).map fun i => Value.bool (f i)

theorem boolsV_length (f : Nat → Bool) (n : Nat) : (boolsV f n).length = n := by unfold boolsV; simp
theorem boolsV_succ (f : Nat → Bool) (n : Nat) : boolsV f (n + 1) = boolsV f n ++ [.bool (f n)] := by
  unfold boolsV
  rw [List.range_succ, List.map_append]
  rfl
theorem boolsV_at (f : Nat → Bool) {n i : Nat} (h : i < n) : (boolsV f n)[i]? = some (.bool (f i)) := by
  unfold boolsV
  simp [h]
theorem boolsV_congr {f g : Nat → Bool} {n : Nat} (h : ∀ i, i < n → f i = g i) : boolsV f n = boolsV g n := by
  unfold boolsV
  refine List.map_congr_left (fun i hi => ?_)
  rw [h i (List.mem_range.1 hi)]
theorem boolsV_set (f : Nat → Bool) {n i : Nat} (h : i < n) (y : Bool) : (boolsV f n).set i (.bool y) = boolsV (fun k => if k = i then y else f k) n := by
  refine List.ext_getElem? (fun k => ?_)
  rw [List.getElem?_set, boolsV_length]
  by_cases hk : k < n
  · rw [boolsV_at (fun k => if k = i then y else f k) hk]
    by_cases e : i = k
    · subst e
      simp [h]
    · rw [if_neg e, boolsV_at f hk]
      have e' : ¬ k = i := fun h => e h.symm
      simp [e']
  · rw [if_neg (by omega), List.getElem?_eq_none (by rw [boolsV_length]; omega), List.getElem?_eq_none (by rw [boolsV_length]; omega)]

set_option maxRecDepth 100000 in
set_option maxHeartbeats 800000 in
theorem Up05_any (ao : Option Addr) (cap : Nat) (zs : List Int) (w : World) (hB : Bts w ao 60 zs) :
    Calls Try.prog 17 #[.slice ao 60 cap] w (GivesV w.heap.size w (boolsV (flag zs) 480)) := by
  obtain ⟨b, off, rfl, _⟩ := hB.2.2.2.resolve_left (by decide)
  have HB := Lib.hid hB
  clear hB
  have HO0 := Lib.hid (World.ownsRow_made (base := w.heap.size) (e := 4) (size := 1) w #[] 0 (Nat.le_refl _) (by decide) rfl)
  have HB0 : Hid (Below w.heap.size w (w.alloc (.cells #[] 4))) := Lib.hid ((Below.refl _ _).alloc (Nat.le_refl _) _)
  go_enter Try.func17, Try.ntmps17
  go_wp2_with fail
  go_loopw [3, 4] (fun vv iv wr => ∃ j : Nat, j ≤ 480 ∧ iv = .int .i64 j ∧ Hid (wr.ownsRow w.heap.size 4 1 vv j (boolsV (flag zs) j)) ∧ Hid (Below w.heap.size w wr)) (fun _ iv _ => 480 - (intOf iv).toNat)
  case atStart => exact ⟨0, Nat.zero_le _, rfl, HO0, HB0⟩
  case round =>
    obtain ⟨j, hj, rfl, HR, HW⟩ := hrel
    by_cases hlt : j < 480
    · have hBw := (HB.out.later HW.out)
      obtain ⟨b', off', he, hc⟩ := hBw.2.2.2.resolve_left (by decide)
      simp only [Option.some.injEq, Addr.mk.injEq, and_true] at he
      obtain ⟨rfl, rfl⟩ := he
      obtain ⟨q, hq⟩ : ∃ q : Nat, q = j / 8 := ⟨_, rfl⟩
      obtain ⟨r, hr⟩ : ∃ r : Nat, r = j % 8 := ⟨_, rfl⟩
      have hq60 : q < 60 := by omega
      have hr8 : r ≤ 7 := by omega
      have hx := hBw.2.2.1 _ (getD_mem (l := zs) (k := q) (by rw [hBw.1]; exact hq60))
      have hcell : wr.drew.cell? ⟨b, off + q, none⟩ = some (.int .u8 (zs.getD q 0)) := hc q hq60
      have HF : Hid (flag zs j = decide (zs.getD q 0 / 2 ^ r % 2 = 1)) := Lib.hid (by rw [hq, hr]; rfl)
      obtain ⟨x, HX⟩ : ∃ x, Hid (x = zs.getD q 0) := ⟨_, Lib.hid rfl⟩
      rw [← HX.out] at hx hcell HF
      obtain ⟨hx0, hx1⟩ := hx
      clear hBw hc
      obtain ⟨P, HP⟩ : ∃ P : Int, Hid (P = 2 ^ r) := ⟨_, Lib.hid rfl⟩
      have cP := power05_any r wr.drew hr8
      rw [← HP.out] at cP HF
      have hp0 : 1 ≤ P ∧ P ≤ 128 := by
        rw [HP.out]
        by_cases h7 : r = 7
        · rw [h7]; decide
        · have := pow_small (j := r) (by omega); omega
      obtain ⟨hp0, hp1⟩ := hp0
      have d1 : IntKind.i64.wrap ((j : Int) / 8) = (q : Int) := by rw [IntWalk.i64_in _ (by omega)]; omega
      have d2 : Int.tmod (j : Int) 8 = (r : Int) := by rw [Int.tmod_eq_emod_of_nonneg (by omega)]; omega
      have hq0 : (0 : Int) ≤ (q : Int) := by omega
      have hq6 : (q : Int) < 60 := by omega
      clear hq hr
      have hP0 : ¬ P = 0 := by omega
      have hY := IntWalk.tdiv_le x P hx0 hp0
      obtain ⟨Y, hYe⟩ : ∃ Y, x / P = Y := ⟨_, rfl⟩
      obtain ⟨T, hTe⟩ : ∃ T, Y % 2 = T := ⟨_, rfl⟩
      have d3 : IntKind.u8.wrap (x.tdiv P) = Y := by rw [IntWalk.u8_quo x P ⟨hx0, hx1, hp0⟩, hYe]
      rw [hYe] at hY HF
      have d4 : Int.tmod Y 2 = T := by rw [Int.tmod_eq_emod_of_nonneg hY.1]; exact hTe
      rw [hTe] at HF
      clear hYe hTe hY
      go_wp2_with fail
      have HS : Hid (w.heap.size ≤ wr.heap.size + 1) := Lib.hid (by have := HW.out.size; omega)
      have HO1 := Lib.hid (HR.out.drew)
      go_region_law (first | (refine step_append_one (o := ⟨some 23, _, _, _, _, _⟩) elemBool rfl (.tmp 10) (.tmp 22) rfl w.heap.size j _ _ rfl (HO1.out.alloc _) ⟨wr.heap.size, 0, none⟩ 1 _ rfl (one_cell_new _ _ _) rfl rfl (by omega) (by simpa using HS.out) ?_; intro v1 w1 hown1 hb1; have HO2 := Lib.hid hown1; have HB2 := Lib.hid hb1; clear hown1 hb1) | (go_simp; go_at_call 36; refine cP.mono ?_; rintro e w' ⟨rfl, rfl⟩))
      all_goals
        clear d1 d2 d3 d4
        go_wp2_with fail
        go_roundw
        case rel =>
          refine ⟨j + 1, by omega, by go_num, Lib.hid ?_, Lib.hid ((HW.out.drew.alloc (by have := HW.out.size; exact this) _).trans HB2.out)⟩
          rw [boolsV_succ, HF.out]
          exact HO2.out
        case measure => simp [intOf]; omega
    · have hjk : j = 480 := by omega
      subst hjk
      go_wp2_with fail
      go_ret
      exact ⟨_, rfl, owns_vals HR.out (by decide), HW.out⟩

/-- A run as the document's own reckoning makes it. -/
def cV (p : Nat × Nat) : Value := .complex .f64 (floatOfInt .f64 (p.1 : Int)) (floatOfInt .f64 (p.2 : Int))

set_option maxHeartbeats 400000 in
theorem Run02_any (a b : Nat) (w : World) (hb : 1 ≤ b) :
    Calls Try.prog 44 #[.int .i64 a, .int .i64 b] w fun e w' => e = .returned (.complex .f64 (floatOfInt .f64 (a : Int)) (floatOfInt .f64 (b : Int))) ∧ w = w' := by
  have h1 : ¬ (b : Int) ≤ 0 := by omega
  go_enter Try.func44, Try.ntmps44
  go_wp2
  go_ret
  exact ⟨rfl, rfl⟩

/-- What is left to be told at n. -/
def tailG (f : Nat → Bool) (first n hi : Nat) : List (Nat × Nat) := if n ≤ hi then gaps f first n (hi - n) else []

theorem tailG_on {f : Nat → Bool} {first n hi : Nat} (h : n < hi) (hf : f n = true) : tailG f first n hi = tailG f first (n + 1) hi := by
  unfold tailG
  rw [if_pos (by omega), if_pos (by omega)]
  obtain ⟨k, hk⟩ : ∃ k, hi - n = k + 1 := ⟨hi - n - 1, by omega⟩
  rw [hk, show hi - (n + 1) = k by omega]
  conv => lhs; unfold gaps
  rw [if_pos hf]

theorem tailG_off {f : Nat → Bool} {first n hi : Nat} (h : n ≤ hi) (hf : n < hi → f n = false) : tailG f first n hi = (if first < n then [(first, n - first)] else []) ++ tailG f (n + 1) (n + 1) hi := by
  unfold tailG
  rw [if_pos h]
  by_cases he : n = hi
  · rw [if_neg (show ¬ n + 1 ≤ hi by omega), he, Nat.sub_self, List.append_nil]
    rfl
  · have hf := hf (by omega)
    rw [if_pos (show n + 1 ≤ hi by omega)]
    obtain ⟨k, hk⟩ : ∃ k, hi - n = k + 1 := ⟨hi - n - 1, by omega⟩
    rw [hk, show hi - (n + 1) = k by omega]
    conv => lhs; unfold gaps
    rw [if_neg (show ¬ f n = true by rw [hf]; decide)]
    split <;> rfl

set_option maxRecDepth 100000 in
set_option maxHeartbeats 800000 in
theorem Runs02_any (ao : Option Addr) (cap : Nat) (f : Nat → Bool) (lo hi : Nat) (w : World) (hV : Vals w ao 480 (boolsV f 480)) (h1 : lo ≤ hi) (h2 : hi ≤ 480) :
    Calls Try.prog 38 #[.slice ao 480 cap, .int .i64 lo, .int .i64 hi] w (GivesV w.heap.size w ((gaps f lo lo (hi - lo)).map cV)) := by
  obtain ⟨b, off, rfl, _⟩ := hV.2.2.resolve_left (by decide)
  have HV := Lib.hid hV
  clear hV
  have HT : Hid (gaps f lo lo (hi - lo) = tailG f lo lo hi) := Lib.hid (by unfold tailG; rw [if_pos h1])
  have HO0 := Lib.hid (World.ownsRow_made (base := w.heap.size) (e := 23) (size := 1) w #[] 0 (Nat.le_refl _) (by decide) rfl)
  have HB0 : Hid (Below w.heap.size w (w.alloc (.cells #[] 23))) := Lib.hid ((Below.refl _ _).alloc (Nat.le_refl _) _)
  go_enter Try.func38, Try.ntmps38
  go_wp2_with fail
  go_loopw [7, 8, 9] (fun vv fv nv wr => ∃ (first n : Nat) (acc : List (Nat × Nat)), first ≤ n ∧ n ≤ hi + 1 ∧ acc.length ≤ n ∧ fv = .int .i64 first ∧ nv = .int .i64 n ∧ Hid (acc ++ tailG f first n hi = tailG f lo lo hi) ∧ Hid (wr.ownsRow w.heap.size 23 1 vv acc.length (acc.map cV)) ∧ Hid (Below w.heap.size w wr)) (fun _ _ nv _ => hi + 1 - (intOf nv).toNat)
  case atStart => exact ⟨lo, lo, [], Nat.le_refl _, by omega, Nat.zero_le _, rfl, rfl, Lib.hid rfl, HO0, HB0⟩
  case round =>
    obtain ⟨first, n, acc, hfn, hn, hacc, rfl, rfl, HG, HR, HW⟩ := hrel
    by_cases hle : n ≤ hi
    · have HVw := (HV.out.later HW.out)
      obtain ⟨b', off', he, hc⟩ := HVw.2.2.resolve_left (by decide)
      simp only [Option.some.injEq, Addr.mk.injEq, and_true] at he
      obtain ⟨rfl, rfl⟩ := he
      by_cases hon : n < hi ∧ f n = true
      · obtain ⟨hlt, hf⟩ := hon
        have hcell := hc n _ (boolsV_at f (by omega))
        rw [hf] at hcell
        have HG2 := HG.out
        rw [tailG_on hlt hf] at HG2
        have HG3 := Lib.hid HG2
        clear HG2 hf hc HVw
        have i2 : (n : Int) < 480 := by omega
        go_wp2_with fail
        go_roundw
        case rel => exact ⟨first, n + 1, acc, by omega, by omega, by omega, rfl, by go_num, HG3, HR, HW⟩
        case measure => simp [intOf]; omega
      · have hoff : n < hi → f n = false := fun h => by
          cases h' : f n
          · rfl
          · exact absurd ⟨h, h'⟩ hon
        have HG2 := HG.out
        rw [tailG_off hle hoff] at HG2
        clear hon
        by_cases hlt : n < hi
        · have hcell := hc n _ (boolsV_at f (by omega))
          rw [hoff hlt] at hcell
          clear hoff hc HVw
          have i2 : (n : Int) < 480 := by omega
          by_cases hgt : first < n
          · rw [if_pos hgt, ← List.append_assoc] at HG2
            have HG3 := Lib.hid HG2
            clear HG2
            have cR := Run02_any first (n - first) wr (by omega)
            have e1 : ((n - first : Nat) : Int) = (n : Int) - (first : Int) := by omega
            rw [e1] at cR
            have HE1 := Lib.hid e1
            clear e1
            have HS : Hid (w.heap.size ≤ wr.heap.size + 1) := Lib.hid (by have := HW.out.size; omega)
            go_wp2_with (first | (go_at_call 44; refine cR.mono ?_; rintro e w' ⟨rfl, rfl⟩) | (at_builtin; refine wp_append_one elemComplex rfl (.tmp 30) (.tmp 36) rfl w.heap.size acc.length _ _ rfl (HR.out.alloc _) ⟨wr.heap.size, 0, none⟩ 1 _ rfl (one_cell_new _ _ _) rfl rfl (by omega) (by simpa using HS.out) ?_; intro v1 w1 hown1 hb1; have HO1 := Lib.hid hown1; have HB1 := Lib.hid hb1; clear hown1 hb1))
            go_roundw
            case rel =>
              refine ⟨n + 1, n + 1, acc ++ [(first, n - first)], Nat.le_refl _, by omega, by rw [List.length_append]; simp; omega, by go_num, by go_num, HG3, Lib.hid ?_, Lib.hid ((HW.out.alloc (by have := HW.out.size; exact this) _).trans HB1.out)⟩
              rw [List.length_append, List.map_append]
              have h := HO1.out
              rw [← HE1.out] at h
              exact h
            case measure => simp [intOf]; omega
          · rw [if_neg hgt, List.nil_append] at HG2
            have HG3 := Lib.hid HG2
            clear HG2
            go_wp2_with fail
            go_roundw
            case rel => exact ⟨n + 1, n + 1, acc, Nat.le_refl _, by omega, by omega, by go_num, by go_num, HG3, HR, HW⟩
            case measure => simp [intOf]; omega
        · clear hoff hc HVw
          by_cases hgt : first < n
          · rw [if_pos hgt, ← List.append_assoc] at HG2
            have HG3 := Lib.hid HG2
            clear HG2
            have cR := Run02_any first (n - first) wr (by omega)
            have e1 : ((n - first : Nat) : Int) = (n : Int) - (first : Int) := by omega
            rw [e1] at cR
            have HE1 := Lib.hid e1
            clear e1
            have HS : Hid (w.heap.size ≤ wr.heap.size + 1) := Lib.hid (by have := HW.out.size; omega)
            go_wp2_with (first | (go_at_call 44; refine cR.mono ?_; rintro e w' ⟨rfl, rfl⟩) | (at_builtin; refine wp_append_one elemComplex rfl (.tmp 30) (.tmp 36) rfl w.heap.size acc.length _ _ rfl (HR.out.alloc _) ⟨wr.heap.size, 0, none⟩ 1 _ rfl (one_cell_new _ _ _) rfl rfl (by omega) (by simpa using HS.out) ?_; intro v1 w1 hown1 hb1; have HO1 := Lib.hid hown1; have HB1 := Lib.hid hb1; clear hown1 hb1))
            go_roundw
            case rel =>
              refine ⟨n + 1, n + 1, acc ++ [(first, n - first)], Nat.le_refl _, by omega, by rw [List.length_append]; simp; omega, by go_num, by go_num, HG3, Lib.hid ?_, Lib.hid ((HW.out.alloc (by have := HW.out.size; exact this) _).trans HB1.out)⟩
              rw [List.length_append, List.map_append]
              have h := HO1.out
              rw [← HE1.out] at h
              exact h
            case measure => simp [intOf]; omega
          · rw [if_neg hgt, List.nil_append] at HG2
            have HG3 := Lib.hid HG2
            clear HG2
            go_wp2_with fail
            go_roundw
            case rel => exact ⟨n + 1, n + 1, acc, Nat.le_refl _, by omega, by omega, by go_num, by go_num, HG3, HR, HW⟩
            case measure => simp [intOf]; omega
    · have hnn : n = hi + 1 := by omega
      have HF : Hid (acc.map cV = (gaps f lo lo (hi - lo)).map cV) := Lib.hid (by
        have h := HG.out
        rw [hnn, show tailG f first (hi + 1) hi = [] from by unfold tailG; rw [if_neg (by omega)], List.append_nil] at h
        rw [HT.out, h])
      clear hnn
      go_wp2_with fail
      go_ret
      refine ⟨_, rfl, ?_, HW.out⟩
      rw [← HF.out]
      exact owns_vals HR.out (by omega)

/-- A call that answers v and makes new memory alone. -/
def Tells (base : Nat) (w0 : World) (v : Value) (e : Ending) (w' : World) : Prop := e = .returned v ∧ Below base w0 w'

/-- The values are complex numbers that stand for these runs. -/
def Stands (xs : List Value) (l : List (Nat × Nat)) : Prop :=
  xs.length = l.length ∧ ∀ (j : Nat) (x : Value) (p : Nat × Nat), xs[j]? = some x → l[j]? = some p → ∃ a b, x = .complex .f64 a b ∧ FI a (p.1 : Int) ∧ FI b (p.2 : Int)

/-- A call that hands back runs, in new memory, and an error's number. -/
def HandedRuns (base : Nat) (w0 : World) (l : List (Nat × Nat)) (err : Int) (e : Ending) (w' : World) : Prop :=
  ∃ v xs, e = .returned (.tuple #[v, .int .i64 err]) ∧ FreshV w' base v xs ∧ Stands xs l ∧ Below base w0 w'

theorem stands_cV {l : List (Nat × Nat)} (h : ∀ p ∈ l, p.1 + p.2 ≤ 480) : Stands (l.map cV) l := by
  refine ⟨List.length_map _, fun j x p hx hp => ?_⟩
  rw [List.getElem?_map, hp] at hx
  cases hx
  have hm := h p (List.mem_of_getElem? hp)
  exact ⟨_, _, rfl, fi_ofInt _ (by omega), fi_ofInt _ (by omega)⟩

theorem stands_nil : Stands [] [] := ⟨rfl, fun j x p hx _ => by simp at hx⟩

theorem down_bound {zs : List Int} {lo hi : Int} : ∀ p ∈ downOut zs lo hi, p.1 + p.2 ≤ 480 ∧ 1 ≤ p.2 ∧ ∀ i, p.1 ≤ i → i < p.1 + p.2 → downs zs i = true := by
  intro p hp
  unfold downOut at hp
  by_cases h : downErr zs.length lo hi = 0
  · rw [if_pos h] at hp
    have hb := (all_sum h).2.2.2
    have hm := gaps_mem (downs zs) (hi.toNat - lo.toNat) lo.toNat lo.toNat (Nat.le_refl _) (fun i h1 h2 => by omega) p hp
    exact ⟨by have := hm.2.2.1; omega, hm.2.1, hm.2.2.2⟩
  · rw [if_neg h] at hp
    simp at hp

theorem down_length (zs : List Int) (lo hi : Int) : (downOut zs lo hi).length ≤ 481 := by
  unfold downOut
  by_cases h : downErr zs.length lo hi = 0
  · rw [if_pos h]
    have hb := (all_sum h).2.2.2
    have := gaps_length (downs zs) (hi.toNat - lo.toNat) lo.toNat lo.toNat
    omega
  · rw [if_neg h]
    exact Nat.zero_le _

set_option maxRecDepth 100000 in
set_option maxHeartbeats 800000 in
theorem Down05_any (ao : Option Addr) (len cap : Nat) (zs : List Int) (p q : Int) (w : World) (hA : Arg w ao len cap zs) (hp : -9223372036854775808 ≤ p ∧ p ≤ 9223372036854775807) (hq : -9223372036854775808 ≤ q ∧ q ≤ 9223372036854775807) :
    Calls Try.prog 20 #[.slice ao len cap, .int .i64 p, .int .i64 q] w (HandedRuns w.heap.size w (downOut zs p q) (downErr len p q)) := by
  obtain ⟨hB, _, _, hlen⟩ := hA
  have hl := hB.1
  by_cases h60 : len = 60
  · subst h60
    by_cases h1 : p < 0 ∨ q < p ∨ 480 < q
    · have HE : Hid (downErr 60 p q = 1) := Lib.hid (by unfold downErr; rw [if_pos rfl, if_pos h1])
      have HV : Hid (downOut zs p q = []) := Lib.hid (by unfold downOut; rw [hl, HE.out]; rfl)
      clear hB hl hlen
      by_cases h2 : p < 0
      · clear h1
        go_enter Try.func20, Try.ntmps20
        go_wp2_with fail
        go_ret2
        exact ⟨_, [], by rw [HE.out]; rfl, FreshV.nil _ _, by rw [HV.out]; exact stands_nil, Below.refl _ _⟩
      · by_cases h3 : q < p
        · clear h1
          go_enter Try.func20, Try.ntmps20
          go_wp2_with fail
          go_ret2
          exact ⟨_, [], by rw [HE.out]; rfl, FreshV.nil _ _, by rw [HV.out]; exact stands_nil, Below.refl _ _⟩
        · have h4 : 480 < q := by omega
          clear h1
          go_enter Try.func20, Try.ntmps20
          go_wp2_with fail
          go_ret2
          exact ⟨_, [], by rw [HE.out]; rfl, FreshV.nil _ _, by rw [HV.out]; exact stands_nil, Below.refl _ _⟩
    · have HE : Hid (downErr 60 p q = 0) := Lib.hid (by unfold downErr; rw [if_pos rfl, if_neg h1])
      obtain ⟨lo, hlo⟩ : ∃ lo : Nat, p = lo := ⟨p.toNat, by omega⟩
      obtain ⟨hi, hhi⟩ : ∃ hi : Nat, q = hi := ⟨q.toNat, by omega⟩
      subst hlo
      subst hhi
      have HV : Hid (downOut zs lo hi = gaps (downs zs) lo lo (hi - lo)) := Lib.hid (by unfold downOut; rw [hl, HE.out, if_pos rfl]; rfl)
      have h480 : hi ≤ 480 := by omega
      have hle : lo ≤ hi := by omega
      have cU := Up05_any ao cap zs w hB
      clear hB hl hlen h1 hp hq
      go_enter Try.func20, Try.ntmps20
      go_wp2_with (go_at_call 17; refine cU.mono ?_; rintro e w1 ⟨v1, rfl, hf1, hb1⟩; obtain ⟨g, c1, hv1, _, hO1⟩ := ownV_of_fresh hf1 hb1 (by intro h; have := congrArg List.length h; rw [boolsV_length] at this; simp at this); rw [boolsV_length] at hv1; rw [hv1]; clear hv1 hf1 hb1; have HO1 := Lib.hid hO1; clear hO1)
      go_loopw [9] (fun nv wr => ∃ i : Nat, i ≤ 480 ∧ nv = .int .i64 i ∧ Hid (OwnV w.heap.size w g (boolsV (fun k => if k < i then downs zs k else flag zs k) 480) wr)) (fun nv _ => 480 - (intOf nv).toNat)
      case atStart => exact ⟨0, Nat.zero_le _, rfl, Lib.hid (by rw [boolsV_congr (f := fun k => if k < 0 then downs zs k else flag zs k) (g := flag zs) (fun i _ => by rw [if_neg (by omega)])]; exact HO1.out)⟩
      case round =>
        obtain ⟨i, hi', rfl, HR⟩ := hrel
        by_cases hlt : i < 480
        · have hcell := HR.out.1 i _ (boolsV_at _ hlt)
          rw [if_neg (Nat.lt_irrefl i)] at hcell
          have hfr := HR.out.2.1 i
          have HS := Lib.hid (HR.out.store (k := i) (y := .bool (downs zs i)) (by rw [boolsV_length]; exact hlt))
          rw [boolsV_set _ hlt] at HS
          have HN : Hid (boolsV (fun k => if k = i then downs zs i else if k < i then downs zs k else flag zs k) 480 = boolsV (fun k => if k < i + 1 then downs zs k else flag zs k) 480) := Lib.hid (boolsV_congr (fun k _ => by
            by_cases h : k = i
            · subst h; rw [if_pos rfl, if_pos (by omega)]
            · rw [if_neg h]
              by_cases h2 : k < i
              · rw [if_pos h2, if_pos (by omega)]
              · rw [if_neg h2, if_neg (by omega)]))
          rw [HN.out] at HS
          have i2 : (i : Int) < 480 := by omega
          have HD : Hid (downs zs i = !flag zs i) := Lib.hid rfl
          rw [HD.out] at HS
          cases hf : flag zs i
          all_goals
            rw [hf] at hcell HS
            clear hf
            go_wp2_with fail
            go_roundw
            case rel => exact ⟨i + 1, by omega, by go_num, HS⟩
            case measure => simp [intOf]; omega
        · have hit : i = 480 := by omega
          subst hit
          have hO := HR.out
          rw [boolsV_congr (f := fun k => if k < 480 then downs zs k else flag zs k) (g := downs zs) (fun i h => by rw [if_pos h])] at hO
          have hV := hO.vals (by rw [boolsV_length]; decide)
          rw [boolsV_length] at hV
          have cR := Runs02_any (some ⟨g, 0, none⟩) c1 (downs zs) lo hi wr hV hle h480
          have HB := Lib.hid hO.2.2.2
          clear hO hV
          go_wp2_with (go_at_call 38; refine cR.mono ?_; rintro e w2 ⟨v2, rfl, hf2, hb2⟩; have HF2 := Lib.hid hf2; have HB2 := Lib.hid hb2; clear hf2 hb2)
          go_ret2
          exact ⟨v2, _, by rw [HE.out]; rfl, HF2.out.mono HB.out.size, by rw [HV.out]; exact stands_cV (by rw [← HV.out]; exact fun p h => (down_bound p h).1), HB.out.trans (HB2.out.mono HB.out.size)⟩
  · have HE : Hid (downErr len p q = 2) := Lib.hid (by unfold downErr; rw [if_neg h60])
    have HV : Hid (downOut zs p q = []) := Lib.hid (by unfold downOut; rw [hl, HE.out]; rfl)
    have hne : ((len : Int) != 60) = true := by simp; omega
    clear hB hl
    go_enter Try.func20, Try.ntmps20
    go_wp2_with fail
    go_ret2
    exact ⟨_, [], by rw [HE.out]; rfl, FreshV.nil _ _, by rw [HV.out]; exact stands_nil, Below.refl _ _⟩

set_option maxHeartbeats 800000 in
theorem Same02_any (ao bo : Option Addr) (n ca cb : Nat) (xs ys : List Value) (l : List (Nat × Nat)) (w : World) (hx : Vals w ao n xs) (hy : Vals w bo n ys) (sx : Stands xs l) (sy : Stands ys l) :
    Calls Try.prog 16 #[.slice ao n ca, .slice bo n cb] w (Tells w.heap.size w (.bool true)) := by
  have hn := hx.2.1
  have HX := Lib.hid hx
  have HY := Lib.hid hy
  have SX := Lib.hid sx
  have SY := Lib.hid sy
  have hl : l.length = n := by rw [← sx.1, hx.1]
  have HL := Lib.hid hl
  clear hx hy sx sy hl
  go_enter Try.func16, Try.ntmps16
  go_wp2_with fail
  go_loopw [5] (fun iv wr => ∃ i : Nat, i ≤ n ∧ iv = .int .i64 i ∧ Hid (Below w.heap.size w wr)) (fun iv _ => n - (intOf iv).toNat)
  case atStart => exact ⟨0, Nat.zero_le _, rfl, Lib.hid (Below.refl _ _)⟩
  case round =>
    obtain ⟨i, hi, rfl, HW⟩ := hrel
    by_cases hlt : i < n
    · have hX := HX.out.later HW.out
      have hY := HY.out.later HW.out
      obtain ⟨b1, o1, h1, c1⟩ := hX.2.2.resolve_left (by omega)
      obtain ⟨b2, o2, h2, c2⟩ := hY.2.2.resolve_left (by omega)
      subst h1
      subst h2
      obtain ⟨x, hx⟩ : ∃ x, xs[i]? = some x := ⟨_, List.getElem?_eq_getElem (by rw [hX.1]; exact hlt)⟩
      obtain ⟨y, hy⟩ : ∃ y, ys[i]? = some y := ⟨_, List.getElem?_eq_getElem (by rw [hY.1]; exact hlt)⟩
      obtain ⟨p, hp⟩ : ∃ p, l[i]? = some p := ⟨_, List.getElem?_eq_getElem (by rw [HL.out]; exact hlt)⟩
      have e1 : wr.cell? ⟨b1, o1 + i, none⟩ = some x := c1 i x hx
      have e2 : wr.cell? ⟨b2, o2 + i, none⟩ = some y := c2 i y hy
      obtain ⟨a, b, rfl, fa, fb⟩ := SX.out.2 i x p hx hp
      obtain ⟨c, d, rfl, fc, fd⟩ := SY.out.2 i y p hy hp
      have q1 := fi_eq fa fc rfl
      have q2 := fi_eq fb fd rfl
      clear hX hY c1 c2 hx hy hp fa fb fc fd
      go_wp2_with fail
      go_quiet (fail)
      go_wp2_with fail
      go_roundw
      case rel => exact ⟨i + 1, by omega, by go_num, Lib.hid (below_drewN HW.out _)⟩
      case measure => simp [intOf]; omega
    · have hin : i = n := by omega
      subst hin
      go_wp2_with fail
      go_ret
      exact ⟨rfl, HW.out⟩

/-- A call that hands back a map of which the flags from a on, b of them, are all up, or down; no error. -/
def HandedM (base : Nat) (w0 : World) (zs : List Int) (up : Bool) (a b : Nat) (e : Ending) (w' : World) : Prop :=
  ∃ v L, e = .returned (.tuple #[v, .int .i64 0]) ∧ Fresh w' base v L ∧ Marked zs up a b L ∧ Below base w0 w'

end Go.Proofs.Ytfhfjnfejcggcaa
