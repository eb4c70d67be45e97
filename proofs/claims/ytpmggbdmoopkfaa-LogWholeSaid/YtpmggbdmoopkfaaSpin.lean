/-
  Proved here: what each function of the package spin answers, whatever memory it is called in: the register's steps, its sum, its powers.
  The conditions stand at each theorem: registers are reduced, bytes lie in the cells that a slice leads to.
-/
import Derived.Test.YtpmggbdmoopkfaaMem
import Derived.Test.YtpmggbdmoopkfaaFl
import Derived.Test.YtpmggbdmoopkfaaNum
import Derived.WalkKit
import Derived.WalkSpells
import Derived.WalkLawsBesides
import Derived.Lib.Hide
import Derived.Outline
namespace Go.Proofs.Ytpmggbdmoopkfaa
open Go.RowKit

theorem tmod_lt (n : Int) (h : n.tmod 65521 < 0) : n.tmod 65521 + 65521 = n % 65521 := (tmod_facts n).2.2.2.2.2 h
theorem tmod_ge (n : Int) (h : ¬ n.tmod 65521 < 0) : n.tmod 65521 = n % 65521 := (tmod_facts n).2.2.2.2.1 (by omega)

/-- A register as the program holds it. -/
def regV (r : Pair) : Value := .complex .f64 (floatOfInt .f64 r.1) (floatOfInt .f64 r.2)

set_option maxHeartbeats 400000 in
theorem rest_any (b : Nat) (n : Int) (w : World) (h : FI b n) (hn : n.natAbs < 9007199254740992) :
    Calls Try.prog 61 #[.float .f64 b] w fun e w' => e = .returned (.float .f64 (floatOfInt .f64 (n % 65521))) ∧ w = w' := by
  have hv := fi_toInt .i64 h (by show -9223372036854775808 ≤ n; omega) (by show n ≤ 9223372036854775807; omega)
  have hop : ∀ w, (convert 99 2 (.float .f64 b)).run Try.prog w = .ok (.int .i64 n) w := fun w => run_convert_float_int w 99 2 .f64 .i64 b n (by rw [Try.underlying99]; rfl) Try.underlying2 hv
  have ht := tmod_facts n
  have h1 := ht.2.1
  have h2 := ht.2.2.1
  clear hv ht
  by_cases hneg : n.tmod 65521 < 0
  · have he := tmod_lt n hneg
    go_enter Try.func61, Try.ntmps61
    go_wp2_with (simp only [hop])
    go_ret
    exact ⟨rfl, rfl⟩
  · have he := tmod_ge n hneg
    go_enter Try.func61, Try.ntmps61
    go_wp2_with (simp only [hop])
    go_ret
    exact ⟨rfl, rfl⟩

set_option maxHeartbeats 400000 in
theorem reduced_any (x y : Nat) (a b : Int) (w : World) (hx : FI x a) (hy : FI y b) (ha : a.natAbs < 9007199254740992) (hb : b.natAbs < 9007199254740992) :
    Calls Try.prog 60 #[.complex .f64 x y] w fun e w' => e = .returned (regV (red (a, b))) ∧ w = w' := by
  go_enter Try.func60, Try.ntmps60
  go_wp2_with (go_at_call 61; refine (rest_any _ _ _ (by assumption) (by assumption)).mono ?_; rintro e w' ⟨rfl, rfl⟩)
  go_ret
  exact ⟨rfl, rfl⟩

theorem fi_fst {r : Pair} (h : Red r) : FI (floatOfInt .f64 r.1) r.1 := fi_ofInt _ (by unfold Red at h; omega)
theorem fi_snd {r : Pair} (h : Red r) : FI (floatOfInt .f64 r.2) r.2 := fi_ofInt _ (by unfold Red at h; omega)

set_option maxHeartbeats 400000 in
theorem sum_any (r : Pair) (w : World) (h : Red r) :
    Calls Try.prog 59 #[regV r] w fun e w' => e = .returned (.int .u32 (sm r)) ∧ w = w' := by
  have hR := h
  unfold Red at hR
  obtain ⟨k0, k1, k2, k3⟩ := hR
  have c1 : ∀ w, (convert 99 79 (.float .f64 (floatOfInt .f64 r.1))).run Try.prog w = .ok (.int .u32 r.1) w := fun w =>
    run_convert_float_int w 99 79 .f64 .u32 _ r.1 (by rw [Try.underlying99]; rfl) Try.underlying79 (fi_toInt .u32 (fi_fst h) (by show 0 ≤ r.1; omega) (by show r.1 ≤ 4294967295; omega))
  have c2 : ∀ w, (convert 99 79 (.float .f64 (floatOfInt .f64 r.2))).run Try.prog w = .ok (.int .u32 r.2) w := fun w =>
    run_convert_float_int w 99 79 .f64 .u32 _ r.2 (by rw [Try.underlying99]; rfl) Try.underlying79 (fi_toInt .u32 (fi_snd h) (by show 0 ≤ r.2; omega) (by show r.2 ≤ 4294967295; omega))
  clear h
  unfold regV
  go_enter Try.func59, Try.ntmps59
  go_wp2_with (simp only [c1, c2])
  go_ret
  exact ⟨rfl, rfl⟩

/-- A step of the register, as the program takes it. -/
theorem step_ops (R : Pair) (hR : Red R) (x : Int) (h0 : 0 ≤ x) (h1 : x ≤ 255) :
    ∃ re im re2 im2 : Nat, (∀ t w, (binOp .mul t (.complex .f64 4611686018427387904 4607182418800017408) (.complex .f64 (floatOfInt .f64 R.1) (floatOfInt .f64 R.2))).run Try.prog w = .ok (.complex .f64 re im) w) ∧
      (∀ t w, (binOp .add t (.complex .f64 re im) (.complex .f64 (floatOfInt .f64 x) 0)).run Try.prog w = .ok (.complex .f64 re2 im2) w) ∧
      FI re2 (stepU R x).1 ∧ FI im2 (stepU R x).2 ∧ (stepU R x).1.natAbs < 9007199254740992 ∧ (stepU R x).2.natAbs < 9007199254740992 := by
  have hR' := hR
  unfold Red at hR'
  obtain ⟨re, im, e1, f1, f2⟩ := ci_mul fi_two fi_one (fi_fst hR) (fi_snd hR) (by omega) (by omega) (by omega) (by omega)
  have fx := fi_ofInt x (by omega)
  obtain ⟨re2, im2, e2, f3, f4⟩ := ci_add f1 f2 fx fi_zero (by omega) (by omega)
  have s1 : 2 * R.1 - 1 * R.2 + x = (stepU R x).1 := by unfold stepU; simp only; omega
  have s2 : 2 * R.2 + 1 * R.1 + 0 = (stepU R x).2 := by unfold stepU; simp only; omega
  rw [s1] at f3
  rw [s2] at f4
  refine ⟨re, im, re2, im2, fun t w => run_complex_mul w t _ _ _ _ _ _ e1, fun t w => run_complex_sum w .add (Or.inl rfl) t .f64 _ _ _ _ _ _ e2, f3, f4, ?_, ?_⟩
  · rw [← s1]; omega
  · rw [← s2]; omega

set_option maxHeartbeats 400000 in
theorem behind_any (r : Pair) (a : Option Addr) (len cap : Nat) (zs : List Int) (w : World) (hr : Red r) (hb : Bts w a len zs) :
    Calls Try.prog 58 #[regV r, .slice a len cap] w fun e w' => e = .returned (regV (bhd zs r)) ∧ w = w' := by
  obtain ⟨hl, hm, hz, hc⟩ := hb
  rcases hc with rfl | ⟨b, off, rfl, hc⟩
  · have : zs = [] := List.length_eq_zero_iff.1 hl
    subst this
    unfold regV
    go_enter Try.func58, Try.ntmps58
    go_wp2
    go_loop [0, 9] (fun rv i => i = .int .i64 0 ∧ rv = .complex .f64 (floatOfInt .f64 r.1) (floatOfInt .f64 r.2)) (fun _ i => 0 - (intOf i).toNat)
    case atStart => exact ⟨rfl, rfl⟩
    case round =>
      obtain ⟨rfl, rfl⟩ := hrel
      go_wp2
      go_ret
      exact ⟨rfl, rfl⟩
  · have HL : Hid (zs.length = len) := Lib.hid hl
    clear hl
    unfold regV
    go_enter Try.func58, Try.ntmps58
    go_wp2
    go_loop [0, 9] (fun rv i => ∃ (k : Nat) (R : Pair), k ≤ len ∧ i = .int .i64 k ∧ rv = .complex .f64 (floatOfInt .f64 R.1) (floatOfInt .f64 R.2) ∧ R = bhd (zs.take k) r) (fun _ i => len - (intOf i).toNat)
    case atStart => exact ⟨0, r, Nat.zero_le _, rfl, rfl, rfl⟩
    case round =>
      obtain ⟨k, R, hk, rfl, rfl, hR⟩ := hrel
      have hRed : Red R := by rw [hR]; exact bhd_Red _ hr
      have HR : Hid (R = bhd (zs.take k) r) := Lib.hid hR
      clear hR
      by_cases hlt : k < len
      · have hcell := hc k hlt
        have hx := hz _ (getD_mem (l := zs) (k := k) (by rw [HL.out]; exact hlt))
        have HN : Hid (bhd (zs.take (k + 1)) r = red (stepU R (zs.getD k 0))) := Lib.hid (by rw [take_snoc zs k (by rw [HL.out]; exact hlt), bhd_snoc, HR.out])
        obtain ⟨x, HX⟩ : ∃ x, Hid (x = zs.getD k 0) := ⟨_, Lib.hid rfl⟩
        rw [← HX.out] at hcell hx HN
        obtain ⟨hx0, hx1⟩ := hx
        obtain ⟨re, im, re2, im2, o1, o2, f1, f2, b1, b2⟩ := step_ops R hRed x hx0 hx1
        clear hz hc
        go_wp2_with (first | (go_at_call 60; refine (reduced_any _ _ _ _ _ f1 f2 b1 b2).mono ?_; rintro e w' ⟨rfl, rfl⟩))
        go_round
        case rel => exact ⟨k + 1, red (stepU R x), by omega, by go_num, rfl, HN.out.symm⟩
        case measure => simp [intOf]; omega
      · have : k = len := by omega
        subst this
        go_wp2
        go_ret
        have e1 : zs.take k = zs := List.take_of_length_le (by rw [HL.out]; exact Nat.le_refl _)
        have e2 : R = bhd zs r := by rw [HR.out, e1]
        exact ⟨by rw [e2]; rfl, rfl⟩

theorem one_bits : (4607182418800017408 : Nat) = floatOfInt .f64 1 := by decide +kernel
theorem two_bits : (4611686018427387904 : Nat) = floatOfInt .f64 2 := by decide +kernel
theorem zero_bits : (0 : Nat) = floatOfInt .f64 0 := by decide +kernel

theorem begin_regV : Value.complex .f64 4607182418800017408 0 = regV (1, 0) := by rw [one_bits]; rfl

set_option maxHeartbeats 400000 in
theorem Sum_any (a : Option Addr) (len cap : Nat) (zs : List Int) (w : World) (hb : Bts w a len zs) :
    Calls Try.prog 54 #[.slice a len cap] w fun e w' => e = .returned (.int .u32 (sumS zs)) ∧ w = w' := by
  have c2 := behind_any (1, 0) a len cap zs w one_Red hb
  have c3 := sum_any (bhd zs (1, 0)) w (bhd_Red zs one_Red)
  rw [← begin_regV] at c2
  clear hb
  go_enter Try.func54, Try.ntmps54
  go_wp2_with (first | (go_at_call 58; refine c2.mono ?_; rintro e w' ⟨rfl, rfl⟩) | (go_at_call 59; refine c3.mono ?_; rintro e w' ⟨rfl, rfl⟩))
  go_ret
  exact ⟨rfl, rfl⟩

theorem tmod_again (x : Int) : (x.tmod 65521 + 65521) % 65521 = x % 65521 := by
  obtain ⟨⟨k, hk⟩, h⟩ := tmod_facts x
  omega

theorem tmod_emod (x : Int) : x.tmod 65521 % 65521 = x % 65521 := by
  obtain ⟨⟨k, hk⟩, h⟩ := tmod_facts x
  omega

end Go.Proofs.Ytpmggbdmoopkfaa
