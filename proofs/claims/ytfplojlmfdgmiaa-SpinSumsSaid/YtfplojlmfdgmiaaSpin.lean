/-
  Proved here: what each function of the package spin answers, whatever memory it is called in: the register's steps, its sum, its powers.
  The conditions stand at each theorem: registers are reduced, bytes lie in the cells that a slice leads to.
-/
import Derived.Test.YtfplojlmfdgmiaaRows
import Derived.Test.YtfplojlmfdgmiaaFl
import Derived.Test.YtfplojlmfdgmiaaNum
import Derived.WalkKit
import Derived.WalkSpells
import Derived.WalkLawsBesides
import Derived.Lib.Hide
import Derived.Outline
namespace Go.Proofs.Ytfplojlmfdgmiaa
open Go.RowKit

theorem tmod_lt (n : Int) (h : n.tmod 65521 < 0) : n.tmod 65521 + 65521 = n % 65521 := (tmod_facts n).2.2.2.2.2 h
theorem tmod_ge (n : Int) (h : ¬ n.tmod 65521 < 0) : n.tmod 65521 = n % 65521 := (tmod_facts n).2.2.2.2.1 (by omega)

/-- A register as the program holds it. -/
def regV (r : Pair) : Value := .complex .f64 (floatOfInt .f64 r.1) (floatOfInt .f64 r.2)

set_option maxHeartbeats 400000 in
theorem rest_any (b : Nat) (n : Int) (w : World) (h : FI b n) (hn : n.natAbs < 9007199254740992) :
    Calls Try.prog 22 #[.float .f64 b] w fun e w' => e = .returned (.float .f64 (floatOfInt .f64 (n % 65521))) ∧ w = w' := by
  have hv := fi_toInt .i64 h (by show -9223372036854775808 ≤ n; omega) (by show n ≤ 9223372036854775807; omega)
  have hop : ∀ w, (convert 43 2 (.float .f64 b)).run Try.prog w = .ok (.int .i64 n) w := fun w => run_convert_float_int w 43 2 .f64 .i64 b n (by rw [Try.underlying43]; rfl) Try.underlying2 hv
  have ht := tmod_facts n
  have h1 := ht.2.1
  have h2 := ht.2.2.1
  clear hv ht
  by_cases hneg : n.tmod 65521 < 0
  · have he := tmod_lt n hneg
    go_enter Try.func22, Try.ntmps22
    go_wp2_with (simp only [hop])
    go_ret
    exact ⟨rfl, rfl⟩
  · have he := tmod_ge n hneg
    go_enter Try.func22, Try.ntmps22
    go_wp2_with (simp only [hop])
    go_ret
    exact ⟨rfl, rfl⟩

set_option maxHeartbeats 400000 in
theorem reduced_any (x y : Nat) (a b : Int) (w : World) (hx : FI x a) (hy : FI y b) (ha : a.natAbs < 9007199254740992) (hb : b.natAbs < 9007199254740992) :
    Calls Try.prog 21 #[.complex .f64 x y] w fun e w' => e = .returned (regV (red (a, b))) ∧ w = w' := by
  go_enter Try.func21, Try.ntmps21
  go_wp2_with (go_at_call 22; refine (rest_any _ _ _ (by assumption) (by assumption)).mono ?_; rintro e w' ⟨rfl, rfl⟩)
  go_ret
  exact ⟨rfl, rfl⟩

set_option maxHeartbeats 400000 in
theorem of_any (s : Int) (w : World) (h0 : 0 ≤ s) (h1 : s < 4294967296) :
    Calls Try.prog 19 #[.int .u32 s] w fun e w' => e = .returned (regV (ofS s)) ∧ w = w' := by
  have g1 := fi_ofInt (s / 65536) (by omega)
  have g2 := fi_ofInt (s % 65536) (by omega)
  have b1 : (s / 65536).natAbs < 9007199254740992 := by omega
  have b2 : (s % 65536).natAbs < 9007199254740992 := by omega
  go_enter Try.func19, Try.ntmps19
  go_wp2_with (go_at_call 21; refine (reduced_any _ _ _ _ _ (by assumption) (by assumption) (by assumption) (by assumption)).mono ?_; rintro e w' ⟨rfl, rfl⟩)
  go_ret
  exact ⟨rfl, rfl⟩

theorem fi_fst {r : Pair} (h : Red r) : FI (floatOfInt .f64 r.1) r.1 := fi_ofInt _ (by unfold Red at h; omega)
theorem fi_snd {r : Pair} (h : Red r) : FI (floatOfInt .f64 r.2) r.2 := fi_ofInt _ (by unfold Red at h; omega)

set_option maxHeartbeats 400000 in
theorem sum_any (r : Pair) (w : World) (h : Red r) :
    Calls Try.prog 18 #[regV r] w fun e w' => e = .returned (.int .u32 (sm r)) ∧ w = w' := by
  have hR := h
  unfold Red at hR
  obtain ⟨k0, k1, k2, k3⟩ := hR
  have c1 : ∀ w, (convert 43 22 (.float .f64 (floatOfInt .f64 r.1))).run Try.prog w = .ok (.int .u32 r.1) w := fun w =>
    run_convert_float_int w 43 22 .f64 .u32 _ r.1 (by rw [Try.underlying43]; rfl) Try.underlying22 (fi_toInt .u32 (fi_fst h) (by show 0 ≤ r.1; omega) (by show r.1 ≤ 4294967295; omega))
  have c2 : ∀ w, (convert 43 22 (.float .f64 (floatOfInt .f64 r.2))).run Try.prog w = .ok (.int .u32 r.2) w := fun w =>
    run_convert_float_int w 43 22 .f64 .u32 _ r.2 (by rw [Try.underlying43]; rfl) Try.underlying22 (fi_toInt .u32 (fi_snd h) (by show 0 ≤ r.2; omega) (by show r.2 ≤ 4294967295; omega))
  clear h
  unfold regV
  go_enter Try.func18, Try.ntmps18
  go_wp2_with (simp only [c1, c2])
  go_ret
  exact ⟨rfl, rfl⟩

/-- A slice whose elements are the bytes zs. -/
def Bts (w : World) (a : Option Addr) (len : Nat) (zs : List Int) : Prop :=
  zs.length = len ∧ len ≤ 9223372036854775807 ∧ (∀ z ∈ zs, 0 ≤ z ∧ z ≤ 255) ∧
    (len = 0 ∨ ∃ b off, a = some ⟨b, off, none⟩ ∧ ∀ j, j < len → w.cell? ⟨b, off + j, none⟩ = some (.int .u8 (zs.getD j 0)))

theorem take_snoc (l : List Int) (k : Nat) (h : k < l.length) : l.take (k + 1) = l.take k ++ [l.getD k 0] := by
  rw [List.take_succ_eq_append_getElem h]
  simp [List.getD, h]

theorem getD_mem {l : List Int} {k : Nat} (h : k < l.length) : l.getD k 0 ∈ l := by
  simp [List.getD, h]

/-- A step of the register, as the program takes it. -/
theorem step_ops (R : Pair) (hR : Red R) (x : Int) (h0 : 0 ≤ x) (h1 : x ≤ 255) :
    ∃ re im re2 im2 : Nat, (∀ t w, (binOp .mul t (.complex .f64 4611686018427387904 4607182418800017408) (.complex .f64 (floatOfInt .f64 R.1) (floatOfInt .f64 R.2))).run Try.prog w = .ok (.complex .f64 re im) w) ∧
      (∀ t w, (binOp .add t (.complex .f64 re im) (.complex .f64 (floatOfInt .f64 x) 0)).run Try.prog w = .ok (.complex .f64 re2 im2) w) ∧
      FI re2 (stepU R x).1 ∧ FI im2 (stepU R x).2 ∧ (stepU R x).1.natAbs < 9007199254740992 ∧ (stepU R x).2.natAbs < 9007199254740992 := by
  have hR' := hR
  unfold Red at hR'
  obtain ⟨re, im, e1, f1, f2⟩ := ci_mul fi_two fi_one (fi_fst hR) (fi_snd hR) (by omega) (by omega) (by omega) (by omega)
  have fx := fi_ofInt x (by omega)
  obtain ⟨re2, im2, e2, f3, f4⟩ := ci_add f1 f2 fx fi_zero (by omega) (by omega)
  have s1 : 2 * R.1 - 1 * R.2 + x = (stepU R x).1 := by unfold stepU; simp only; omega
  have s2 : 2 * R.2 + 1 * R.1 + 0 = (stepU R x).2 := by unfold stepU; simp only; omega
  rw [s1] at f3
  rw [s2] at f4
  refine ⟨re, im, re2, im2, fun t w => run_complex_mul w t _ _ _ _ _ _ e1, fun t w => run_complex_sum w .add (Or.inl rfl) t .f64 _ _ _ _ _ _ e2, f3, f4, ?_, ?_⟩
  · rw [← s1]; omega
  · rw [← s2]; omega

set_option maxHeartbeats 400000 in
theorem behind_any (r : Pair) (a : Option Addr) (len cap : Nat) (zs : List Int) (w : World) (hr : Red r) (hb : Bts w a len zs) :
    Calls Try.prog 17 #[regV r, .slice a len cap] w fun e w' => e = .returned (regV (bhd zs r)) ∧ w = w' := by
  obtain ⟨hl, hm, hz, hc⟩ := hb
  rcases hc with rfl | ⟨b, off, rfl, hc⟩
  · have : zs = [] := List.length_eq_zero_iff.1 hl
    subst this
    unfold regV
    go_enter Try.func17, Try.ntmps17
    go_wp2
    go_loop [0, 9] (fun rv i => i = .int .i64 0 ∧ rv = .complex .f64 (floatOfInt .f64 r.1) (floatOfInt .f64 r.2)) (fun _ i => 0 - (intOf i).toNat)
    case atStart => exact ⟨rfl, rfl⟩
    case round =>
      obtain ⟨rfl, rfl⟩ := hrel
      go_wp2
      go_ret
      exact ⟨rfl, rfl⟩
  · have HL : Hid (zs.length = len) := Lib.hid hl
    clear hl
    unfold regV
    go_enter Try.func17, Try.ntmps17
    go_wp2
    go_loop [0, 9] (fun rv i => ∃ (k : Nat) (R : Pair), k ≤ len ∧ i = .int .i64 k ∧ rv = .complex .f64 (floatOfInt .f64 R.1) (floatOfInt .f64 R.2) ∧ R = bhd (zs.take k) r) (fun _ i => len - (intOf i).toNat)
    case atStart => exact ⟨0, r, Nat.zero_le _, rfl, rfl, rfl⟩
    case round =>
      obtain ⟨k, R, hk, rfl, rfl, hR⟩ := hrel
      have hRed : Red R := by rw [hR]; exact bhd_Red _ hr
      have HR : Hid (R = bhd (zs.take k) r) := Lib.hid hR
      clear hR
      by_cases hlt : k < len
      · have hcell := hc k hlt
        have hx := hz _ (getD_mem (l := zs) (k := k) (by rw [HL.out]; exact hlt))
        have HN : Hid (bhd (zs.take (k + 1)) r = red (stepU R (zs.getD k 0))) := Lib.hid (by rw [take_snoc zs k (by rw [HL.out]; exact hlt), bhd_snoc, HR.out])
        obtain ⟨x, HX⟩ : ∃ x, Hid (x = zs.getD k 0) := ⟨_, Lib.hid rfl⟩
        rw [← HX.out] at hcell hx HN
        obtain ⟨hx0, hx1⟩ := hx
        obtain ⟨re, im, re2, im2, o1, o2, f1, f2, b1, b2⟩ := step_ops R hRed x hx0 hx1
        clear hz hc
        go_wp2_with (first | (go_at_call 21; refine (reduced_any _ _ _ _ _ f1 f2 b1 b2).mono ?_; rintro e w' ⟨rfl, rfl⟩))
        go_round
        case rel => exact ⟨k + 1, red (stepU R x), by omega, by go_num, rfl, HN.out.symm⟩
        case measure => simp [intOf]; omega
      · have : k = len := by omega
        subst this
        go_wp2
        go_ret
        have e1 : zs.take k = zs := List.take_of_length_le (by rw [HL.out]; exact Nat.le_refl _)
        have e2 : R = bhd zs r := by rw [HR.out, e1]
        exact ⟨by rw [e2]; rfl, rfl⟩

/-- Two reduced registers, multiplied as the program does. -/
theorem mul_ops (R S : Pair) (hR : Red R) (hS : Red S) :
    ∃ re im : Nat, (∀ t w, (binOp .mul t (.complex .f64 (floatOfInt .f64 R.1) (floatOfInt .f64 R.2)) (.complex .f64 (floatOfInt .f64 S.1) (floatOfInt .f64 S.2))).run Try.prog w = .ok (.complex .f64 re im) w) ∧
      FI re (mulU R S).1 ∧ FI im (mulU R S).2 ∧ (mulU R S).1.natAbs < 9007199254740992 ∧ (mulU R S).2.natAbs < 9007199254740992 := by
  have hR' := hR
  have hS' := hS
  unfold Red at hR' hS'
  obtain ⟨re, im, e1, f1, f2⟩ := ci_mul (fi_fst hR) (fi_snd hR) (fi_fst hS) (fi_snd hS) (by omega) (by omega) (by omega) (by omega)
  have bound : ∀ {X Y : Int}, 0 ≤ X → X < 65521 → 0 ≤ Y → Y < 65521 → 0 ≤ X * Y ∧ X * Y ≤ 4292870400 := fun {X Y} h1 h2 h3 h4 => by
    refine ⟨Int.mul_nonneg h1 h3, ?_⟩
    have := Int.mul_le_mul (a := X) (b := Y) (c := 65520) (d := 65520) (by omega) (by omega) h3 (by omega)
    omega
  have b1 := bound (X := R.1) (Y := S.1) (by omega) (by omega) (by omega) (by omega)
  have b2 := bound (X := R.2) (Y := S.2) (by omega) (by omega) (by omega) (by omega)
  have b3 := bound (X := R.1) (Y := S.2) (by omega) (by omega) (by omega) (by omega)
  have b4 := bound (X := R.2) (Y := S.1) (by omega) (by omega) (by omega) (by omega)
  refine ⟨re, im, fun t w => run_complex_mul w t _ _ _ _ _ _ e1, f1, f2, ?_, ?_⟩
  · show (R.1 * S.1 - R.2 * S.2).natAbs < _; omega
  · show (R.1 * S.2 + R.2 * S.1).natAbs < _; omega

theorem one_bits : (4607182418800017408 : Nat) = floatOfInt .f64 1 := by decide +kernel
theorem two_bits : (4611686018427387904 : Nat) = floatOfInt .f64 2 := by decide +kernel
theorem zero_bits : (0 : Nat) = floatOfInt .f64 0 := by decide +kernel

theorem pw_next {R S : Pair} {a s : Nat} (hR : R = red (pwU a)) (hS : S = red (pwU s)) : red (mulU R S) = red (pwU (a + s)) := by
  rw [hR, hS, red_mulU, ← pwU_add]

theorem half_odd {m : Int} {s a N : Nat} (h : m.toNat * s + a = N) (hp : 0 < m) (ho : m % 2 = 1) : (m / 2).toNat * (s + s) + (a + s) = N := by
  have e : m.toNat = 2 * (m / 2).toNat + 1 := by omega
  rw [← h, e]
  generalize (m / 2).toNat = j
  grind

theorem half_even {m : Int} {s a N : Nat} (h : m.toNat * s + a = N) (hp : 0 < m) (ho : ¬ m % 2 = 1) : (m / 2).toNat * (s + s) + a = N := by
  have e : m.toNat = 2 * (m / 2).toNat := by omega
  rw [← h, e]
  generalize (m / 2).toNat = j
  grind

set_option maxHeartbeats 400000 in
theorem power_any (n : Int) (w : World) (hlo : -9223372036854775808 ≤ n) (hhi : n ≤ 9223372036854775807) :
    Calls Try.prog 20 #[.int .i64 n] w fun e w' => e = .returned (regV (red (pwU n.toNat))) ∧ w = w' := by
  go_enter Try.func20, Try.ntmps20
  go_wp2
  go_loop [0, 3, 4] (fun nv rv sv => ∃ (m : Int) (R S : Pair) (a s : Nat), m ≤ 9223372036854775807 ∧ -9223372036854775808 ≤ m ∧ nv = .int .i64 m ∧ rv = .complex .f64 (floatOfInt .f64 R.1) (floatOfInt .f64 R.2) ∧ sv = .complex .f64 (floatOfInt .f64 S.1) (floatOfInt .f64 S.2) ∧ R = red (pwU a) ∧ S = red (pwU s) ∧ m.toNat * s + a = n.toNat) (fun nv _ _ => (intOf nv).toNat)
  case atStart => exact ⟨n, (1, 0), (2, 1), 0, 1, hhi, hlo, rfl, by rw [one_bits]; rfl, by rw [one_bits, two_bits], by decide, by decide, by omega⟩
  case round =>
    obtain ⟨m, R, S, a, s, h1, h2, rfl, rfl, rfl, hR, hS, hsum⟩ := hrel
    have hRR : Red R := by rw [hR]; exact red_Red _
    have hSR : Red S := by rw [hS]; exact red_Red _
    have HR : Hid (R = red (pwU a)) := Lib.hid hR
    have HS : Hid (S = red (pwU s)) := Lib.hid hS
    have HM : Hid (m.toNat * s + a = n.toNat) := Lib.hid hsum
    clear hR hS hsum
    by_cases hpos : 0 < m
    · obtain ⟨re, im, o1, f1, f2, b1, b2⟩ := mul_ops R S hRR hSR
      obtain ⟨re', im', o2, f3, f4, b3, b4⟩ := mul_ops S S hSR hSR
      have hband : bits BinOp.and IntKind.i64 m 1 = m % 2 := bits_mask .i64 63 (by decide) (fun n h0 h1 => by rw [IntKind.wrap_i64]; omega) 1 (by decide) m (by omega) (by omega)
      by_cases hodd : m % 2 = 1
      · have hodd' := hodd
        have ht : (bits BinOp.and IntKind.i64 m 1 == 1) = true := by rw [hband, hodd]; rfl
        clear hband hodd
        go_wp2_with (first | (go_at_call 21; refine (reduced_any _ _ _ _ _ (by assumption) (by assumption) (by assumption) (by assumption)).mono ?_; rintro e w' ⟨rfl, rfl⟩))
        go_round
        case rel => exact ⟨m / 2, red (mulU R S), red (mulU S S), a + s, s + s, by omega, by omega, rfl, rfl, rfl, pw_next HR.out HS.out, pw_next HS.out HS.out, half_odd HM.out hpos hodd'⟩
        case measure => simp [intOf]; omega
      · have hodd' := hodd
        have ht : (bits BinOp.and IntKind.i64 m 1 == 1) = false := by rw [hband]; simp; omega
        clear hband hodd
        go_wp2_with (first | (go_at_call 21; refine (reduced_any _ _ _ _ _ (by assumption) (by assumption) (by assumption) (by assumption)).mono ?_; rintro e w' ⟨rfl, rfl⟩))
        go_round
        case rel => exact ⟨m / 2, R, red (mulU S S), a, s + s, by omega, by omega, rfl, rfl, rfl, HR.out, pw_next HS.out HS.out, half_even HM.out hpos hodd'⟩
        case measure => simp [intOf]; omega
    · go_wp2
      go_ret
      have e : R = red (pwU n.toNat) := by
        rw [HR.out, ← HM.out]
        have : m.toNat = 0 := by omega
        rw [this, Nat.zero_mul, Nat.zero_add]
      exact ⟨by rw [← e]; rfl, rfl⟩

theorem ret_int {k : IntKind} {a b : Int} (h : a = b) : Ending.returned (.int k a) = .returned (.int k b) := by rw [h]

/-- Two registers joined, as the program does it. -/
theorem join_ops (A B M : Pair) (hA : Red A) (hB : Red B) (hM : Red M) :
    ∃ r1 i1 r2 i2 r3 i3 : Nat, (∀ t w, (binOp .sub t (regV A) (.complex .f64 4607182418800017408 0)).run Try.prog w = .ok (.complex .f64 r1 i1) w) ∧
      (∀ t w, (binOp .mul t (.complex .f64 r1 i1) (regV M)).run Try.prog w = .ok (.complex .f64 r2 i2) w) ∧
      (∀ t w, (binOp .add t (.complex .f64 r2 i2) (regV B)).run Try.prog w = .ok (.complex .f64 r3 i3) w) ∧
      FI r3 (joinU A B M).1 ∧ FI i3 (joinU A B M).2 ∧ (joinU A B M).1.natAbs < 9007199254740992 ∧ (joinU A B M).2.natAbs < 9007199254740992 := by
  have hA' := hA
  have hB' := hB
  have hM' := hM
  unfold Red at hA' hB' hM'
  obtain ⟨r1, i1, e1, f1, f2⟩ := ci_sub (fi_fst hA) (fi_snd hA) fi_one fi_zero (by omega) (by omega)
  obtain ⟨r2, i2, e2, f3, f4⟩ := ci_mul f1 f2 (fi_fst hM) (fi_snd hM) (by omega) (by omega) (by omega) (by omega)
  have bound : ∀ {X Y : Int}, -1 ≤ X → X < 65521 → 0 ≤ Y → Y < 65521 → -65521 ≤ X * Y ∧ X * Y ≤ 4292870400 := fun {X Y} h1 h2 h3 h4 => by
    have u := Int.mul_le_mul_of_nonneg_right (a := X) (b := 65520) (c := Y) (by omega) h3
    have v := Int.mul_le_mul_of_nonneg_right (a := -1) (b := X) (c := Y) h1 h3
    omega
  have b1 := bound (X := A.1 - 1) (Y := M.1) (by omega) (by omega) (by omega) (by omega)
  have b2 := bound (X := A.2 - 0) (Y := M.2) (by omega) (by omega) (by omega) (by omega)
  have b3 := bound (X := A.1 - 1) (Y := M.2) (by omega) (by omega) (by omega) (by omega)
  have b4 := bound (X := A.2 - 0) (Y := M.1) (by omega) (by omega) (by omega) (by omega)
  obtain ⟨r3, i3, e3, f5, f6⟩ := ci_add f3 f4 (fi_fst hB) (fi_snd hB) (by omega) (by omega)
  have s1 : (A.1 - 1) * M.1 - (A.2 - 0) * M.2 + B.1 = (joinU A B M).1 := by unfold joinU; rw [Int.sub_zero]
  have s2 : (A.1 - 1) * M.2 + (A.2 - 0) * M.1 + B.2 = (joinU A B M).2 := by unfold joinU; rw [Int.sub_zero]
  rw [s1] at f5
  rw [s2] at f6
  refine ⟨r1, i1, r2, i2, r3, i3, fun t w => run_complex_sum w .sub (Or.inr rfl) t .f64 _ _ _ _ _ _ e1, fun t w => run_complex_mul w t _ _ _ _ _ _ e2, fun t w => run_complex_sum w .add (Or.inl rfl) t .f64 _ _ _ _ _ _ e3, f5, f6, ?_, ?_⟩
  · rw [← s1]; omega
  · rw [← s2]; omega

theorem joinS_red (a b : Int) (n : Nat) : sm (red (joinU (ofS a) (ofS b) (red (pwU n)))) = joinS a b n := by
  unfold joinS
  rw [← red_joinU (ofS a) (ofS b) (pwU n), ← red_joinU (ofS a) (ofS b) (red (pwU n)), red_red]

theorem regV_eq (r : Pair) : Value.complex .f64 (floatOfInt .f64 r.1) (floatOfInt .f64 r.2) = regV r := rfl

set_option maxHeartbeats 400000 in
theorem Join_any (a b n : Int) (w : World) (ha : 0 ≤ a) (ha' : a < 4294967296) (hb : 0 ≤ b) (hb' : b < 4294967296) (hlo : -9223372036854775808 ≤ n) (hhi : n ≤ 9223372036854775807) :
    Calls Try.prog 15 #[.int .u32 a, .int .u32 b, .int .i64 n] w fun e w' => e = .returned (.int .u32 (joinS a b n.toNat)) ∧ w = w' := by
  obtain ⟨A, HA⟩ : ∃ A, Hid (A = ofS a) := ⟨_, Lib.hid rfl⟩
  obtain ⟨B, HB⟩ : ∃ B, Hid (B = ofS b) := ⟨_, Lib.hid rfl⟩
  obtain ⟨M, HM⟩ : ∃ M, Hid (M = red (pwU n.toNat)) := ⟨_, Lib.hid rfl⟩
  have hA : Red A := by rw [HA.out]; exact ofS_Red _
  have hB : Red B := by rw [HB.out]; exact ofS_Red _
  have hM : Red M := by rw [HM.out]; exact red_Red _
  have cA := of_any a w ha ha'
  have cB := of_any b w hb hb'
  have cM := power_any n w hlo hhi
  have cS := sum_any (red (joinU A B M)) w (red_Red _)
  rw [← HA.out] at cA
  rw [← HB.out] at cB
  rw [← HM.out] at cM
  obtain ⟨r1, i1, r2, i2, r3, i3, o1, o2, o3, f1, f2, b1, b2⟩ := join_ops A B M hA hB hM
  have cR := reduced_any r3 i3 _ _ w f1 f2 b1 b2
  go_enter Try.func15, Try.ntmps15
  go_wp2_with (first | (go_at_call 19; first | ((with_reducible refine cA.mono ?_); rintro e w' ⟨rfl, rfl⟩) | ((with_reducible refine cB.mono ?_); rintro e w' ⟨rfl, rfl⟩)) | (go_at_call 20; refine cM.mono ?_; rintro e w' ⟨rfl, rfl⟩) | (go_at_call 21; refine cR.mono ?_; rintro e w' ⟨rfl, rfl⟩) | (go_at_call 18; refine cS.mono ?_; rintro e w' ⟨rfl, rfl⟩))
  go_ret
  exact ⟨ret_int (by rw [← joinS_red, ← HA.out, ← HB.out, ← HM.out]), rfl⟩

set_option maxHeartbeats 400000 in
theorem More_any (s : Int) (a : Option Addr) (len cap : Nat) (zs : List Int) (w : World) (h0 : 0 ≤ s) (h1 : s < 4294967296) (hb : Bts w a len zs) :
    Calls Try.prog 13 #[.int .u32 s, .slice a len cap] w fun e w' => e = .returned (.int .u32 (moreS s zs)) ∧ w = w' := by
  have c1 := of_any s w h0 h1
  have c2 := behind_any (ofS s) a len cap zs w (ofS_Red s) hb
  have c3 := sum_any (bhd zs (ofS s)) w (bhd_Red zs (ofS_Red s))
  clear hb
  go_enter Try.func13, Try.ntmps13
  go_wp2_with (first | (go_at_call 19; refine c1.mono ?_; rintro e w' ⟨rfl, rfl⟩) | (go_at_call 17; refine c2.mono ?_; rintro e w' ⟨rfl, rfl⟩) | (go_at_call 18; refine c3.mono ?_; rintro e w' ⟨rfl, rfl⟩))
  go_ret
  exact ⟨rfl, rfl⟩

theorem begin_regV : Value.complex .f64 4607182418800017408 0 = regV (1, 0) := by rw [one_bits]; rfl

set_option maxHeartbeats 400000 in
theorem Sum_any (a : Option Addr) (len cap : Nat) (zs : List Int) (w : World) (hb : Bts w a len zs) :
    Calls Try.prog 11 #[.slice a len cap] w fun e w' => e = .returned (.int .u32 (sumS zs)) ∧ w = w' := by
  have c2 := behind_any (1, 0) a len cap zs w one_Red hb
  have c3 := sum_any (bhd zs (1, 0)) w (bhd_Red zs one_Red)
  rw [← begin_regV] at c2
  clear hb
  go_enter Try.func11, Try.ntmps11
  go_wp2_with (first | (go_at_call 17; refine c2.mono ?_; rintro e w' ⟨rfl, rfl⟩) | (go_at_call 18; refine c3.mono ?_; rintro e w' ⟨rfl, rfl⟩))
  go_ret
  exact ⟨rfl, rfl⟩

/-! The document's own answers -/

theorem tmod_again (x : Int) : (x.tmod 65521 + 65521) % 65521 = x % 65521 := by
  obtain ⟨⟨k, hk⟩, h⟩ := tmod_facts x
  omega

theorem tmod_emod (x : Int) : x.tmod 65521 % 65521 = x % 65521 := by
  obtain ⟨⟨k, hk⟩, h⟩ := tmod_facts x
  omega

set_option maxHeartbeats 400000 in
theorem refMore_any (s : Int) (a : Option Addr) (len cap : Nat) (zs : List Int) (w : World) (h0 : 0 ≤ s) (h1 : s < 4294967296) (hb : Bts w a len zs) :
    Calls Try.prog 14 #[.int .u32 s, .slice a len cap] w fun e w' => e = .returned (.int .u32 (moreS s zs)) ∧ w = w' := by
  obtain ⟨hl, hm, hz, hc⟩ := hb
  rcases hc with rfl | ⟨b, off, rfl, hc⟩
  · have : zs = [] := List.length_eq_zero_iff.1 hl
    subst this
    obtain ⟨R, HR⟩ : ∃ R, Hid (R = ofS s) := ⟨_, Lib.hid rfl⟩
    have hRed : Red R := by rw [HR.out]; exact ofS_Red s
    unfold Red at hRed
    obtain ⟨k0, k1, k2, k3⟩ := hRed
    go_enter Try.func14, Try.ntmps14
    go_wp2
    go_loop [5, 6, 7] (fun av bv i => i = .int .i64 0 ∧ av = .int .i64 R.1 ∧ bv = .int .i64 R.2) (fun _ _ i => 0 - (intOf i).toNat)
    case atStart => exact ⟨rfl, by rw [HR.out]; rfl, by rw [HR.out]; rfl⟩
    case round =>
      obtain ⟨rfl, rfl, rfl⟩ := hrel
      go_wp2
      go_ret
      exact ⟨ret_int (by show R.1 * 65536 + R.2 = sm (ofS s); rw [HR.out]; rfl), rfl⟩
  · have HL : Hid (zs.length = len) := Lib.hid hl
    clear hl
    go_enter Try.func14, Try.ntmps14
    go_wp2
    go_loop [5, 6, 7] (fun av bv i => ∃ (k : Nat) (R : Pair), k ≤ len ∧ i = .int .i64 k ∧ av = .int .i64 R.1 ∧ bv = .int .i64 R.2 ∧ R = bhd (zs.take k) (ofS s)) (fun _ _ i => len - (intOf i).toNat)
    case atStart => exact ⟨0, ofS s, Nat.zero_le _, rfl, rfl, rfl, rfl⟩
    case round =>
      obtain ⟨k, R, hk, rfl, rfl, rfl, hR⟩ := hrel
      have hRed : Red R := by rw [hR]; exact bhd_Red _ (ofS_Red s)
      have HR : Hid (R = bhd (zs.take k) (ofS s)) := Lib.hid hR
      clear hR
      have hRed' := hRed
      unfold Red at hRed'
      obtain ⟨k0, k1, k2, k3⟩ := hRed'
      by_cases hlt : k < len
      · have hcell := hc k hlt
        have hx := hz _ (getD_mem (l := zs) (k := k) (by rw [HL.out]; exact hlt))
        have HN : Hid (bhd (zs.take (k + 1)) (ofS s) = red (stepU R (zs.getD k 0))) := Lib.hid (by rw [take_snoc zs k (by rw [HL.out]; exact hlt), bhd_snoc, HR.out])
        obtain ⟨x, HX⟩ : ∃ x, Hid (x = zs.getD k 0) := ⟨_, Lib.hid rfl⟩
        rw [← HX.out] at hcell hx HN
        obtain ⟨hx0, hx1⟩ := hx
        have ht := tmod_facts (2 * R.1 - R.2 + x)
        have ht1 := ht.2.1
        have ht2 := ht.2.2.1
        clear hz hc ht
        go_wp2
        go_round
        case rel => exact ⟨k + 1, red (stepU R x), by omega, by go_num, by rw [tmod_again]; rfl, rfl, HN.out.symm⟩
        case measure => simp [intOf]; omega
      · have : k = len := by omega
        subst this
        go_wp2
        go_ret
        have e1 : zs.take k = zs := List.take_of_length_le (by rw [HL.out]; exact Nat.le_refl _)
        have e2 : R = bhd zs (ofS s) := by rw [HR.out, e1]
        exact ⟨ret_int (by unfold moreS; rw [← e2]; rfl), rfl⟩

set_option maxHeartbeats 400000 in
theorem refSum_any (a : Option Addr) (len cap : Nat) (zs : List Int) (w : World) (hb : Bts w a len zs) :
    Calls Try.prog 12 #[.slice a len cap] w fun e w' => e = .returned (.int .u32 (sumS zs)) ∧ w = w' := by
  have c := refMore_any 65536 a len cap zs w (by decide) (by decide) hb
  rw [← sumS_more] at c
  clear hb
  go_enter Try.func12, Try.ntmps12
  go_wp2_with (go_at_call 14; refine c.mono ?_; rintro e w' ⟨rfl, rfl⟩)
  go_ret
  exact ⟨rfl, rfl⟩

theorem ref_next {u v : Int} {A m : Pair} (h : red (u, v) = red (mulU A m)) : red ((2 * u - v).tmod 65521, (u + 2 * v).tmod 65521) = red (mulU A (stepU m 0)) := by
  rw [← step_mul, ← red_stepU, ← h, red_stepU]
  obtain ⟨⟨k, hk⟩, _⟩ := tmod_facts (2 * u - v)
  obtain ⟨⟨k', hk'⟩, _⟩ := tmod_facts (u + 2 * v)
  unfold red stepU
  exact Prod.ext (by simp only; omega) (by simp only; omega)

theorem ref_last {u v : Int} {A B m : Pair} (h : red (u, v) = red (mulU (A.1 - 1, A.2) m)) : red (u + B.1, v + B.2) = red (joinU A B m) := by
  have h1 := congrArg Prod.fst h
  have h2 := congrArg Prod.snd h
  unfold red mulU at h1 h2
  unfold red joinU
  simp only at h1 h2
  exact Prod.ext (by simp only; omega) (by simp only; omega)

set_option maxHeartbeats 400000 in
theorem refJoin_any (a b n : Int) (w : World) (ha : 0 ≤ a) (ha' : a < 4294967296) (hb : 0 ≤ b) (hb' : b < 4294967296) (hlo : -9223372036854775808 ≤ n) (hhi : n ≤ 9223372036854775807) :
    Calls Try.prog 16 #[.int .u32 a, .int .u32 b, .int .i64 n] w fun e w' => e = .returned (.int .u32 (joinS a b n.toNat)) ∧ w = w' := by
  go_enter Try.func16, Try.ntmps16
  go_wp2
  go_loop [7, 8, 9] (fun uv vv i => ∃ (k : Nat) (u v : Int), (k ≤ n.toNat) ∧ -65521 ≤ u ∧ u ≤ 65521 ∧ -65521 ≤ v ∧ v ≤ 65521 ∧ i = .int .i64 k ∧ uv = .int .i64 u ∧ vv = .int .i64 v ∧ red (u, v) = red (mulU ((ofS a).1 - 1, (ofS a).2) (pwU k))) (fun _ _ i => n.toNat - (intOf i).toNat)
  case atStart => exact ⟨0, _, _, Nat.zero_le _, by omega, by omega, by omega, by omega, rfl, rfl, rfl, by rw [show pwU 0 = (1, 0) from rfl, mulU_one]; rfl⟩
  case round =>
    obtain ⟨k, u, v, hk, hu, hu', hv, hv', rfl, rfl, rfl, hR⟩ := hrel
    by_cases hlt : (k : Int) < n
    · have HN := Lib.hid (ref_next hR)
      have ht := tmod_facts (2 * u - v)
      have ht1 := ht.2.1
      have ht2 := ht.2.2.1
      have hs := tmod_facts (u + 2 * v)
      have hs1 := hs.2.1
      have hs2 := hs.2.2.1
      clear hR ht hs
      go_wp2
      go_round
      case rel => exact ⟨k + 1, _, _, by omega, by omega, by omega, by omega, by omega, by go_num, rfl, rfl, HN.out⟩
      case measure => simp [intOf]; omega
    · have HR := Lib.hid (ref_last (B := ofS b) hR)
      clear hR
      have bB := ofS_Red b
      unfold Red at bB
      unfold ofS at bB
      simp only at bB
      obtain ⟨q0, q1, q2, q3⟩ := bB
      have ht := tmod_facts (u + b / 65536 % 65521)
      have ht1 := ht.2.1
      have ht2 := ht.2.2.1
      have hs := tmod_facts (v + b % 65536 % 65521)
      have hs1 := hs.2.1
      have hs2 := hs.2.2.1
      clear ht hs
      have hkn : k = n.toNat := by omega
      go_wp2
      go_ret
      exact ⟨ret_int (by rw [tmod_emod, tmod_emod, ← hkn]; unfold joinS; rw [← HR.out]; rfl), rfl⟩

set_option maxHeartbeats 400000 in
theorem awake_any (w : World) :
    Calls Try.prog 10 #[] w fun e w' => e = .returned (.bool true) ∧ Below w.heap.size w w' := by
  have e0 : sumS [] = 65536 := by decide
  have e5 : sumS [5] = 458753 := by decide
  have c0 := fun w => Sum_any none 0 0 [] w ⟨rfl, by decide, by simp, Or.inl rfl⟩
  have c5 := Sum_any (some ⟨w.heap.size, 0, none⟩) 1 1 [5] (w.alloc (.cells #[.int .u8 5] 5)) ⟨rfl, by decide, by simp, Or.inr ⟨_, _, rfl, fun j hj => by
    obtain rfl : j = 0 := by omega
    exact cell_one_new w (.int .u8 5) 5 0 _ rfl⟩⟩
  rw [e0] at c0
  rw [e5] at c5
  go_enter Try.func10, Try.ntmps10
  go_wp2_with (go_at_call 11; first | ((with_reducible refine (c0 _).mono ?_); rintro e w' ⟨rfl, rfl⟩) | ((with_reducible refine c5.mono ?_); rintro e w' ⟨rfl, rfl⟩))
  go_ret
  exact ⟨rfl, (Below.refl _ _).alloc (Nat.le_refl _) _⟩

end Go.Proofs.Ytfplojlmfdgmiaa
