/-
  Proved here: what the landed code of package choose answers of one gap (count) and of two (its comparisons), and what run.Cut answers of a run.
  The conditions stand at each theorem.
-/
import Derived.Test.YtfhfjnfejcggcaaFlagsDown
import Derived.Test.YtfhfjnfejcggcaaRef06Pick
namespace Go.Proofs.Ytfhfjnfejcggcaa
open Go.RowKit

/-- A complex number that stands for a run of blocks, or 0: its two parts as floats' bits, and the numbers that they are. -/
def Gp : Type := { z : (Nat × Nat) × (Nat × Nat) // FI z.1.1 (z.2.1 : Int) ∧ FI z.1.2 (z.2.2 : Int) ∧ z.2.1 + z.2.2 ≤ 480 ∧ (1 ≤ z.2.2 ∨ z = ((0, 0), (0, 0))) }

def mkG (a b : Nat) (p : Nat × Nat) (ha : FI a (p.1 : Int)) (hb : FI b (p.2 : Int)) (h : p.1 + p.2 ≤ 480) (h1 : 1 ≤ p.2) : Gp := ⟨((a, b), p), ha, hb, h, Or.inl h1⟩
def zeroG : Gp := ⟨((0, 0), (0, 0)), fi_zero, fi_zero, by decide, Or.inr rfl⟩
instance : Inhabited Gp := ⟨zeroG⟩
/-- As a value. -/
def encG (z : Gp) : Value := .complex .f64 z.1.1.1 z.1.1.2
/-- The first block, and how many. -/
def numG (z : Gp) : Nat × Nat := z.1.2

theorem gp_cases (z : Gp) : (1 ≤ (numG z).2 ∨ z = zeroG) := by
  obtain ⟨z, h1, h2, h3, h4⟩ := z
  rcases h4 with h | h
  · exact Or.inl h
  · exact Or.inr (Subtype.ext h)

theorem gp_bound (z : Gp) : (numG z).1 + (numG z).2 ≤ 480 := z.2.2.2.1
theorem gp_fst (z : Gp) : FI z.1.1.1 ((numG z).1 : Int) := z.2.1
theorem gp_snd (z : Gp) : FI z.1.1.2 ((numG z).2 : Int) := z.2.2.1

/-! ### 0 is no run -/

set_option maxHeartbeats 400000 in
theorem Sound_zero (w : World) :
    Calls Try.prog 54 #[.complex .f64 0 0] w fun e w' => e = .returned (.bool false) ∧ w = w' := by
  have c := Whole_any 0 0 0 0 w fi_zero fi_zero (by decide) (by decide)
  have o1 := fi_ge fi_zero fi_zero (Int.le_refl 0)
  have o2 := fi_lt fi_zero fi_one (by decide)
  go_enter Try.func54, Try.ntmps54
  go_wp2_with (go_at_call 69; refine c.mono ?_; rintro e w' ⟨rfl, rfl⟩)
  go_ret
  exact ⟨rfl, rfl⟩

set_option maxHeartbeats 400000 in
theorem Parts_zero (w : World) :
    Calls Try.prog 46 #[.complex .f64 0 0] w fun e w' => e = .returned (.tuple #[.int .i64 0, .int .i64 0, .int .i64 2]) ∧ w = w' := by
  have c := Sound_zero w
  go_enter Try.func46, Try.ntmps46
  go_wp2_with (go_at_call 54; refine c.mono ?_; rintro e w' ⟨rfl, rfl⟩)
  go_ret3
  exact ⟨rfl, rfl⟩

/-! ### One gap -/

theorem parts_gp (z : Gp) (w : World) :
    Calls Try.prog 46 #[encG z] w fun e w' => (∃ r : Int, e = .returned (.tuple #[.int .i64 (numG z).1, .int .i64 (numG z).2, .int .i64 r])) ∧ w = w' := by
  rcases gp_cases z with h | h
  · refine (Parts_any _ _ _ _ w (gp_fst z) (gp_snd z) (by omega) (by omega) (by have := gp_bound z; omega)).mono ?_
    rintro e w' ⟨rfl, rfl⟩
    exact ⟨⟨_, rfl⟩, rfl⟩
  · subst h
    refine (Parts_zero w).mono ?_
    rintro e w' ⟨rfl, rfl⟩
    exact ⟨⟨_, rfl⟩, rfl⟩

set_option maxHeartbeats 400000 in
theorem count_gp (z : Gp) (w : World) :
    Calls Try.prog 29 #[encG z] w fun e w' => e = .returned (.int .i64 (numG z).2) ∧ w = w' := by
  have c := parts_gp z w
  generalize ((numG z).1 : Int) = a at c
  generalize ((numG z).2 : Int) = b at c ⊢
  unfold encG at c ⊢
  go_enter Try.func29, Try.ntmps29
  go_wp2_with (go_at_call 46; refine c.mono ?_; rintro e w' ⟨⟨r, rfl⟩, rfl⟩)
  go_ret
  exact ⟨rfl, rfl⟩

/-! ### Two gaps -/

/-- -1, 0 or 1, as a is less than b, is b, or is greater. -/
def cmpN (a b : Nat) : Int := if a < b then -1 else if b < a then 1 else 0

set_option maxHeartbeats 400000 in
theorem isNaN_any (x : Nat) (a : Int) (w : World) (hx : FI x a) :
    Calls Try.prog 43 #[.float .f64 x] w fun e w' => e = .returned (.bool false) ∧ w = w' := by
  have o1 := fi_eq hx hx rfl
  clear hx
  go_enter Try.func43, Try.ntmps43
  go_wp2_with fail
  go_ret
  exact ⟨rfl, rfl⟩

set_option maxHeartbeats 800000 in
theorem Compare_float (x y a b : Nat) (w : World) (hx : FI x (a : Int)) (hy : FI y (b : Int)) :
    Calls Try.prog 23 #[.float .f64 x, .float .f64 y] w fun e w' => e = .returned (.int .i64 (cmpN a b)) ∧ w = w' := by
  have c1 := isNaN_any x a w hx
  have c2 := isNaN_any y b w hy
  unfold cmpN
  rcases Nat.lt_trichotomy a b with h | h | h
  · rw [if_pos h]
    have o1 := fi_lt hx hy (by omega)
    clear hx hy h
    go_enter Try.func23, Try.ntmps23
    go_wp2_with (go_at_call 43; first | ((with_reducible refine c1.mono ?_); rintro e w' ⟨rfl, rfl⟩) | ((with_reducible refine c2.mono ?_); rintro e w' ⟨rfl, rfl⟩))
    go_ret
    exact ⟨rfl, rfl⟩
  · rw [if_neg (by omega), if_neg (by omega)]
    have o1 := fi_eq hx hy (by omega)
    clear hx hy h
    go_enter Try.func23, Try.ntmps23
    go_wp2_with (go_at_call 43; first | ((with_reducible refine c1.mono ?_); rintro e w' ⟨rfl, rfl⟩) | ((with_reducible refine c2.mono ?_); rintro e w' ⟨rfl, rfl⟩))
    go_ret
    exact ⟨rfl, rfl⟩
  · rw [if_neg (by omega), if_pos h]
    have o1 := fi_gt hx hy (by omega)
    clear hx hy h
    go_enter Try.func23, Try.ntmps23
    go_wp2_with (go_at_call 43; first | ((with_reducible refine c1.mono ?_); rintro e w' ⟨rfl, rfl⟩) | ((with_reducible refine c2.mono ?_); rintro e w' ⟨rfl, rfl⟩))
    go_ret
    exact ⟨rfl, rfl⟩

set_option maxHeartbeats 800000 in
theorem Compare_int (a b : Nat) (w : World) :
    Calls Try.prog 28 #[.int .i64 a, .int .i64 b] w fun e w' => e = .returned (.int .i64 (cmpN a b)) ∧ w = w' := by
  unfold cmpN
  rcases Nat.lt_trichotomy a b with h | h | h
  · rw [if_pos h]
    have h1 : (a : Int) < (b : Int) := by omega
    clear h
    go_enter Try.func28, Try.ntmps28
    go_wp2
    all_goals (go_ret; exact ⟨rfl, rfl⟩)
  · rw [if_neg (by omega), if_neg (by omega)]
    subst h
    go_enter Try.func28, Try.ntmps28
    go_wp2
    all_goals (go_ret; exact ⟨rfl, rfl⟩)
  · rw [if_neg (by omega), if_pos h]
    have h1 : (b : Int) < (a : Int) := by omega
    have h2 : ¬ (a : Int) < (b : Int) := by omega
    clear h
    go_enter Try.func28, Try.ntmps28
    go_wp2
    all_goals (go_ret; exact ⟨rfl, rfl⟩)

/-- What a comparison of two gaps answers: a plain function; nothing else happens. -/
def Cmps (g : Nat) (cf : Gp → Gp → Int) : Prop := ∀ (x y : Gp) (w : World), Calls Try.prog g #[encG x, encG y] w fun e w' => e = .returned (.int .i64 (cf x y)) ∧ w = w'

def byFirst (x y : Gp) : Int := cmpN (numG x).1 (numG y).1
def byCount (x y : Gp) : Int := cmpN (numG x).2 (numG y).2
def byRest (x y : Gp) : Int := cmpN (numG y).2 (numG x).2

set_option maxHeartbeats 400000 in
theorem first_cmp : Cmps 22 byFirst := by
  intro x y w
  have c := Compare_float _ _ _ _ w (gp_fst x) (gp_fst y)
  unfold byFirst
  generalize cmpN (numG x).1 (numG y).1 = r at c ⊢
  unfold encG
  go_enter Try.func22, Try.ntmps22
  go_wp2_with (go_at_call 23; refine c.mono ?_; rintro e w' ⟨rfl, rfl⟩)
  go_ret
  exact ⟨rfl, rfl⟩

set_option maxHeartbeats 400000 in
theorem tight_cmp : Cmps 27 byCount := by
  intro x y w
  have c := Compare_int (numG x).2 (numG y).2 w
  have c1 := count_gp x w
  have c2 := count_gp y w
  unfold byCount
  generalize cmpN (numG x).2 (numG y).2 = r at c ⊢
  unfold encG at c1 c2 ⊢
  go_enter Try.func27, Try.ntmps27
  go_wp2_with (first | (go_at_call 28; refine c.mono ?_; rintro e w' ⟨rfl, rfl⟩) | (go_at_call 29; first | ((with_reducible refine c1.mono ?_); rintro e w' ⟨rfl, rfl⟩) | ((with_reducible refine c2.mono ?_); rintro e w' ⟨rfl, rfl⟩)))
  go_ret
  exact ⟨rfl, rfl⟩

set_option maxHeartbeats 400000 in
theorem rest_cmp : Cmps 32 byRest := by
  intro x y w
  have c := Compare_int (numG y).2 (numG x).2 w
  have c1 := count_gp x w
  have c2 := count_gp y w
  unfold byRest
  generalize cmpN (numG y).2 (numG x).2 = r at c ⊢
  unfold encG at c1 c2 ⊢
  go_enter Try.func32, Try.ntmps32
  go_wp2_with (first | (go_at_call 28; refine c.mono ?_; rintro e w' ⟨rfl, rfl⟩) | (go_at_call 29; first | ((with_reducible refine c1.mono ?_); rintro e w' ⟨rfl, rfl⟩) | ((with_reducible refine c2.mono ?_); rintro e w' ⟨rfl, rfl⟩)))
  go_ret
  exact ⟨rfl, rfl⟩

set_option maxHeartbeats 400000 in
theorem last_cmp : Cmps 35 byFirst := by
  intro x y w
  have c := Compare_float _ _ _ _ w (gp_fst x) (gp_fst y)
  unfold byFirst
  generalize cmpN (numG x).1 (numG y).1 = r at c ⊢
  unfold encG
  go_enter Try.func35, Try.ntmps35
  go_wp2_with (go_at_call 23; refine c.mono ?_; rintro e w' ⟨rfl, rfl⟩)
  go_ret
  exact ⟨rfl, rfl⟩

/-! ### A run in two parts -/

set_option maxHeartbeats 400000 in
theorem of_none (a b : Int) (w : World) (hb : b < 1) :
    Calls Try.prog 53 #[.int .i64 a, .int .i64 b] w fun e w' => e = .returned (.complex .f64 0 0) ∧ w = w' := by
  go_enter Try.func53, Try.ntmps53
  go_wp2
  go_ret
  exact ⟨rfl, rfl⟩

theorem of_some (a b : Nat) : ∃ x y, ∀ w : World,
    Calls Try.prog 53 #[.int .i64 a, .int .i64 b] w fun e w' => e = .returned (.complex .f64 x y) ∧ w = w' := by
  by_cases h : 1 ≤ b
  · exact ⟨_, _, fun w => of_any a b w h⟩
  · exact ⟨_, _, fun w => of_none a b w (by omega)⟩

set_option maxHeartbeats 800000 in
theorem Cut_any (x y a b n : Nat) (hx : FI x (a : Int)) (hy : FI y (b : Int)) (hn : 1 ≤ n) (hnb : n ≤ b) (hab : a + b ≤ 480) : ∃ u v, ∀ w : World,
    Calls Try.prog 41 #[.complex .f64 x y, .int .i64 n] w fun e w' => e = .returned (.tuple #[.complex .f64 (floatOfInt .f64 (a : Int)) (floatOfInt .f64 (n : Int)), .complex .f64 u v, .int .i64 0]) ∧ w' = w := by
  obtain ⟨u, v, hr⟩ := of_some (a + n) (b - n)
  refine ⟨u, v, fun w => ?_⟩
  have cP := Parts_any x y a b w hx hy (by omega) (by omega) (by omega)
  have c1 := of_any a n w hn
  have c2 := hr w
  rw [show ((a + n : Nat) : Int) = (a : Int) + (n : Int) by omega, show ((b - n : Nat) : Int) = (b : Int) - (n : Int) by omega] at c2
  have h1 : ¬ (n : Int) < 0 := by omega
  have h2 : ¬ (b : Int) < (n : Int) := by omega
  have h3 : IntKind.i64.wrap ((a : Int) + (n : Int)) = (a : Int) + (n : Int) := IntWalk.i64_in _ (by omega)
  have h4 : IntKind.i64.wrap ((b : Int) - (n : Int)) = (b : Int) - (n : Int) := IntWalk.i64_in _ (by omega)
  clear hx hy hn hnb hab hr
  go_enter Try.func41, Try.ntmps41
  go_wp2_with (first | (go_at_call 46; refine cP.mono ?_; rintro e w' ⟨rfl, rfl⟩) | (go_at_call 53; first | ((with_reducible refine c1.mono ?_); rintro e w' ⟨rfl, rfl⟩) | ((with_reducible refine c2.mono ?_); rintro e w' ⟨rfl, rfl⟩)))
  go_ret3
  exact ⟨rfl, rfl⟩

/-! ### All gaps -/

set_option maxRecDepth 100000 in
set_option maxHeartbeats 800000 in
theorem cgaps_any (ao : Option Addr) (len cap : Nat) (zs : List Int) (n p q : Int) (w : World) (hA : Arg w ao len cap zs) (hp : -9223372036854775808 ≤ p ∧ p ≤ 9223372036854775807) (hq : -9223372036854775808 ≤ q ∧ q ≤ 9223372036854775807) :
    Calls Try.prog 30 #[.slice ao len cap, .int .i64 n, .int .i64 p, .int .i64 q] w (HandedRuns w.heap.size w (if gapErr len n p q = 0 then downOut zs p q else []) (gapErr len n p q)) := by
  have c := xDown_any ao len cap zs p q w hA hp hq
  generalize downOut zs p q = l at *
  unfold gapErr
  generalize downErr len p q = E at *
  clear hA hp hq
  by_cases hE : E = 0
  · rw [hE] at c
    rw [hE, show (if (0 : Int) ≠ 0 then (0 : Int) else if n < 1 ∨ 480 < n then 1 else 0) = (if n < 1 ∨ 480 < n then 1 else 0) from if_neg (by decide)]
    clear hE
    by_cases h1 : n < 1
    · rw [if_pos (Or.inl h1), if_neg (show ¬ (1 : Int) = 0 by decide)]
      go_enter Try.func30, Try.ntmps30
      go_wp2_with (go_at_call 47; refine c.mono ?_; rintro e w1 ⟨v1, xs, rfl, hf1, hs1, hb1⟩; have HB1 := Lib.hid hb1; clear hf1 hs1 hb1)
      go_ret2
      exact ⟨_, [], rfl, FreshV.nil _ _, stands_nil, HB1.out⟩
    · by_cases h2 : 480 < n
      · rw [if_pos (Or.inr h2), if_neg (show ¬ (1 : Int) = 0 by decide)]
        go_enter Try.func30, Try.ntmps30
        go_wp2_with (go_at_call 47; refine c.mono ?_; rintro e w1 ⟨v1, xs, rfl, hf1, hs1, hb1⟩; have HB1 := Lib.hid hb1; clear hf1 hs1 hb1)
        go_ret2
        exact ⟨_, [], rfl, FreshV.nil _ _, stands_nil, HB1.out⟩
      · rw [if_neg (show ¬ (n < 1 ∨ 480 < n) by omega), if_pos rfl]
        go_enter Try.func30, Try.ntmps30
        go_wp2_with (go_at_call 47; refine c.mono ?_; rintro e w1 ⟨v1, xs, rfl, hf1, hs1, hb1⟩; have HF1 := Lib.hid hf1; have HS1 := Lib.hid hs1; have HB1 := Lib.hid hb1; obtain ⟨ao1, c1, hv1, _, _, _⟩ := hf1; rw [hv1]; rw [hv1] at HF1; clear hv1 hs1 hb1)
        go_ret2
        exact ⟨_, xs, rfl, HF1.out, HS1.out, HB1.out⟩
  · rw [if_pos hE, if_neg hE]
    have hne : (E == 0) = false := by simp; exact hE
    clear hE
    go_enter Try.func30, Try.ntmps30
    go_wp2_with (go_at_call 47; refine c.mono ?_; rintro e w1 ⟨v1, xs, rfl, hf1, hs1, hb1⟩; have HF1 := Lib.hid hf1; have HS1 := Lib.hid hs1; have HB1 := Lib.hid hb1; obtain ⟨ao1, c1, hv1, _, _, _⟩ := hf1; rw [hv1]; rw [hv1] at HF1; clear hv1 hs1 hb1)
    go_ret2
    exact ⟨_, [], rfl, FreshV.nil _ _, stands_nil, HB1.out⟩

end Go.Proofs.Ytfhfjnfejcggcaa
