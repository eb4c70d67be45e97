/-
  Proved here: what the document's own reckoning of sound runs (drydockref02: Parts; drydockref05: size, begin) answers.
  The conditions stand at each theorem.
-/
import Derived.Test.YtfhfjnfejcggcaaRef05
namespace Go.Proofs.Ytfhfjnfejcggcaa
open Go.RowKit

set_option maxHeartbeats 400000 in
theorem part01_any (x : Nat) (n : Int) (w : World) (h : FI x n) (h0 : -1048576 ≤ n) (h1 : n ≤ 1048576) :
    Calls Try.prog 51 #[.float .f64 x] w fun e w' => e = .returned (.tuple #[.int .i64 n, .bool true]) ∧ w = w' := by
  have o1 := fi_ge h fi_neg20 h0
  have o2 := fi_le h fi_20 h1
  have o3 := fi_eq (fi_ofInt n (by omega)) h rfl
  have hv := fi_toInt .i64 h (by show -9223372036854775808 ≤ n; omega) (by show n ≤ 9223372036854775807; omega)
  have o4 : ∀ w, (convert 38 3 (.float .f64 x)).run Try.prog w = .ok (.int .i64 n) w := fun w => run_convert_float_int w 38 3 .f64 .i64 x n (by rw [Try.underlying38]; rfl) Try.underlying3 hv
  clear h hv
  go_enter Try.func51, Try.ntmps51
  go_wp2_with fail
  go_ret2
  exact ⟨rfl, rfl⟩

/-- The record of a number's two parts. -/
def partsV (a b : Int) : Value := .agg #[.int .i64 a, .int .i64 b]

set_option maxHeartbeats 400000 in
theorem Of01_any (x y : Nat) (a b : Int) (w : World) (hx : FI x a) (hy : FI y b) (ha : -1048576 ≤ a ∧ a ≤ 1048576) (hb : -1048576 ≤ b ∧ b ≤ 1048576) :
    Calls Try.prog 37 #[.complex .f64 x y] w (Tells w.heap.size w (.tuple #[.agg #[.int .i64 a, .int .i64 b], .bool true])) := by
  have c1 := fun w => part01_any x a w hx ha.1 ha.2
  have c2 := fun w => part01_any y b w hy hb.1 hb.2
  have C1 := Lib.hid c1
  have C2 := Lib.hid c2
  clear c1 c2 hx hy
  go_enter Try.func37, Try.ntmps37
  go_wp2_with (go_at_call 51; first | ((with_reducible refine (C1.out _).mono ?_); rintro e w' ⟨rfl, rfl⟩) | ((with_reducible refine (C2.out _).mono ?_); rintro e w' ⟨rfl, rfl⟩))
  exact bodyPost_ret (v := .tuple #[.agg #[.int .i64 a, .int .i64 b], .bool true]) (by simp [results, Try.results37, go_sem]) rfl ⟨rfl, (Below.refl _ _).alloc (Nat.le_refl _) _⟩

set_option maxHeartbeats 800000 in
theorem Parts02_any (x y : Nat) (a b : Int) (w : World) (hx : FI x a) (hy : FI y b) (h0 : 0 ≤ a) (h1 : 1 ≤ b) (h2 : a + b ≤ 480) :
    Calls Try.prog 18 #[.complex .f64 x y] w (Tells w.heap.size w (.tuple #[.int .i64 a, .int .i64 b, .bool true])) := by
  have c := Of01_any x y a b w hx hy (by omega) (by omega)
  have d1 : decide (0 ≤ a) = true := by simpa using h0
  have d2 : decide (1 ≤ b) = true := by simpa using h1
  have hw : IntKind.i64.wrap (a + b) = a + b := IntWalk.i64_in _ (by omega)
  clear hx hy
  go_enter Try.func18, Try.ntmps18
  go_wp2_with (go_at_call 37; refine c.mono ?_; rintro e w1 ⟨rfl, hb1⟩; have HB1 := Lib.hid hb1; clear hb1)
  go_quiet (fail)
  clear d1 d2 hw
  go_wp2_with fail
  go_ret3
  exact ⟨rfl, below_drewN (HB1.out.alloc HB1.out.size _) _⟩

set_option maxHeartbeats 400000 in
theorem size05_any (x y : Nat) (a b : Int) (w : World) (hx : FI x a) (hy : FI y b) (h0 : 0 ≤ a) (h1 : 1 ≤ b) (h2 : a + b ≤ 480) :
    Calls Try.prog 25 #[.complex .f64 x y] w (Tells w.heap.size w (.int .i64 b)) := by
  have c := Parts02_any x y a b w hx hy h0 h1 h2
  clear hx hy
  go_enter Try.func25, Try.ntmps25
  go_wp2_with (go_at_call 18; refine c.mono ?_; rintro e w1 ⟨rfl, hb1⟩; have HB1 := Lib.hid hb1; clear hb1)
  go_ret
  exact ⟨rfl, HB1.out⟩

set_option maxHeartbeats 400000 in
theorem begin05_any (x y a b n : Nat) (w : World) (hx : FI x (a : Int)) (hy : FI y (b : Int)) (h1 : 1 ≤ b) (h2 : a + b ≤ 480) (hn : 1 ≤ n) :
    Calls Try.prog 26 #[.complex .f64 x y, .int .i64 n] w (Tells w.heap.size w (.complex .f64 (floatOfInt .f64 (a : Int)) (floatOfInt .f64 (n : Int)))) := by
  have c := Parts02_any x y a b w hx hy (by omega) (by omega) (by omega)
  have C2 := Lib.hid (fun w => Run02_any a n w hn)
  clear hx hy
  go_enter Try.func26, Try.ntmps26
  go_wp2_with (first | (go_at_call 18; refine c.mono ?_; rintro e w1 ⟨rfl, hb1⟩; have HB1 := Lib.hid hb1; clear hb1) | (go_at_call 44; refine (C2.out _).mono ?_; rintro e w' ⟨rfl, rfl⟩))
  go_ret
  exact ⟨rfl, HB1.out⟩

/-! Which gap is chosen -/

def gapErr (len : Nat) (n lo hi : Int) : Int := if downErr len lo hi ≠ 0 then downErr len lo hi else if n < 1 ∨ 480 < n then 1 else 0

set_option maxRecDepth 100000 in
set_option maxHeartbeats 800000 in
theorem Gaps05_any (ao : Option Addr) (len cap : Nat) (zs : List Int) (n p q : Int) (w : World) (hA : Arg w ao len cap zs) (hp : -9223372036854775808 ≤ p ∧ p ≤ 9223372036854775807) (hq : -9223372036854775808 ≤ q ∧ q ≤ 9223372036854775807) :
    Calls Try.prog 24 #[.slice ao len cap, .int .i64 n, .int .i64 p, .int .i64 q] w (HandedRuns w.heap.size w (downOut zs p q) (gapErr len n p q)) := by
  have c := Down05_any ao len cap zs p q w hA hp hq
  generalize downOut zs p q = l at *
  unfold gapErr
  generalize downErr len p q = E at *
  clear hA hp hq
  by_cases hE : E = 0
  · rw [hE] at c
    rw [hE, if_neg (by decide)]
    clear hE
    by_cases h1 : n < 1
    · rw [if_pos (Or.inl h1)]
      go_enter Try.func24, Try.ntmps24
      go_wp2_with (go_at_call 20; refine c.mono ?_; rintro e w1 ⟨v1, xs, rfl, hf1, hs1, hb1⟩; have HF1 := Lib.hid hf1; have HS1 := Lib.hid hs1; have HB1 := Lib.hid hb1; obtain ⟨ao1, c1, hv1, _, _, _⟩ := hf1; rw [hv1]; rw [hv1] at HF1; clear hv1 hs1 hb1)
      go_ret2
      exact ⟨_, xs, rfl, HF1.out, HS1.out, HB1.out⟩
    · by_cases h2 : 480 < n
      · rw [if_pos (Or.inr h2)]
        go_enter Try.func24, Try.ntmps24
        go_wp2_with (go_at_call 20; refine c.mono ?_; rintro e w1 ⟨v1, xs, rfl, hf1, hs1, hb1⟩; have HF1 := Lib.hid hf1; have HS1 := Lib.hid hs1; have HB1 := Lib.hid hb1; obtain ⟨ao1, c1, hv1, _, _, _⟩ := hf1; rw [hv1]; rw [hv1] at HF1; clear hv1 hs1 hb1)
        go_ret2
        exact ⟨_, xs, rfl, HF1.out, HS1.out, HB1.out⟩
      · rw [if_neg (by omega)]
        go_enter Try.func24, Try.ntmps24
        go_wp2_with (go_at_call 20; refine c.mono ?_; rintro e w1 ⟨v1, xs, rfl, hf1, hs1, hb1⟩; have HF1 := Lib.hid hf1; have HS1 := Lib.hid hs1; have HB1 := Lib.hid hb1; obtain ⟨ao1, c1, hv1, _, _, _⟩ := hf1; rw [hv1]; rw [hv1] at HF1; clear hv1 hs1 hb1)
        go_ret2
        exact ⟨_, xs, rfl, HF1.out, HS1.out, HB1.out⟩
  · rw [if_pos hE]
    have hne : (E == 0) = false := by simp; exact hE
    clear hE
    go_enter Try.func24, Try.ntmps24
    go_wp2_with (go_at_call 20; refine c.mono ?_; rintro e w1 ⟨v1, xs, rfl, hf1, hs1, hb1⟩; have HF1 := Lib.hid hf1; have HS1 := Lib.hid hs1; have HB1 := Lib.hid hb1; obtain ⟨ao1, c1, hv1, _, _, _⟩ := hf1; rw [hv1]; rw [hv1] at HF1; clear hv1 hs1 hb1)
    go_ret2
    exact ⟨_, xs, rfl, HF1.out, HS1.out, HB1.out⟩

end Go.Proofs.Ytfhfjnfejcggcaa
