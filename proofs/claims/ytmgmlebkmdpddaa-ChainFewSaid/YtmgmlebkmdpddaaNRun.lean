/-
  Proved here: what the landed code of package run answers of any small parts: Sound, Parts, Of, and Meet of two sound runs.
  The conditions stand at each theorem: both parts are floats that hold whole numbers.
-/
import Derived.Test.YtmgmlebkmdpddaaRun
import Derived.Test.YtmgmlebkmdpddaaVals
namespace Go.Proofs.Ytmgmlebkmdpddaa
open Go.RowKit
set_option linter.unusedVariables false
set_option linter.unusedSimpArgs false

/-- Are so many blocks from one on a run? -/
def runOk (a b : Int) : Bool := decide (0 ≤ a ∧ 1 ≤ b ∧ a + b ≤ 480)

/-- A complex number with these whole parts. -/
def CX (v : Value) (a b : Int) : Prop := ∃ x y, v = .complex .f64 x y ∧ FI x a ∧ FI y b

/-- Small parts, as two bytes and one byte hold them. -/
def smallR (a b : Int) : Prop := 0 ≤ a ∧ a ≤ 65535 ∧ 0 ≤ b ∧ b ≤ 255

theorem runOk_true {a b : Int} (h : runOk a b = true) : 0 ≤ a ∧ 1 ≤ b ∧ a + b ≤ 480 := of_decide_eq_true h
theorem runOk_small {a b : Int} (h : runOk a b = true) : smallR a b ∨ 255 < b := by
  have := runOk_true h
  unfold smallR
  omega

theorem fi_ge_not {x y : Nat} {a b : Int} (hx : FI x a) (hy : FI y b) (h : a < b) : (FloatKind.f64.format.order x y == some .gt || FloatKind.f64.format.order x y == some .eq) = false := by
  rw [fi_lt hx hy h]; rfl
theorem fi_le_not {x y : Nat} {a b : Int} (hx : FI x a) (hy : FI y b) (h : b < a) : (FloatKind.f64.format.order x y == some .lt || FloatKind.f64.format.order x y == some .eq) = false := by
  rw [fi_gt hx hy h]; rfl

theorem fi_max {x y : Nat} {a b : Int} (hx : FI x a) (hy : FI y b) : ∃ r, FI r (max a b) ∧ ∀ (ts : Array TypeId) (t : TypeId) (w : World), (Builtin.max_ ts t #[.float .f64 x, .float .f64 y]).run Try.prog w = .ok (.float .f64 r) w := by
  rcases Int.lt_trichotomy a b with h | h | h
  · have o := fi_lt hx hy h
    refine ⟨y, by rw [show max a b = b by omega]; exact hy, fun ts t w => ?_⟩
    simp [Builtin.max_, Builtin.max2, o]
  · have o := fi_eq hx hy h
    subst h
    refine ⟨if (FloatKind.f64.decode x).neg then y else x, ?_, fun ts t w => ?_⟩
    · rw [show max a a = a by omega]
      split
      · exact hy
      · exact hx
    · simp [Builtin.max_, Builtin.max2, o]
  · have o := fi_gt hx hy h
    refine ⟨x, by rw [show max a b = a by omega]; exact hx, fun ts t w => ?_⟩
    simp [Builtin.max_, Builtin.max2, o]

theorem fi_min {x y : Nat} {a b : Int} (hx : FI x a) (hy : FI y b) : ∃ r, FI r (min a b) ∧ ∀ (ts : Array TypeId) (t : TypeId) (w : World), (Builtin.min_ ts t #[.float .f64 x, .float .f64 y]).run Try.prog w = .ok (.float .f64 r) w := by
  rcases Int.lt_trichotomy a b with h | h | h
  · have o := fi_lt hx hy h
    refine ⟨x, by rw [show min a b = a by omega]; exact hx, fun ts t w => ?_⟩
    simp [Builtin.min_, Builtin.min2, o]
  · have o := fi_eq hx hy h
    subst h
    refine ⟨if (FloatKind.f64.decode x).neg then x else y, ?_, fun ts t w => ?_⟩
    · rw [show min a a = a by omega]
      split
      · exact hx
      · exact hy
    · simp [Builtin.min_, Builtin.min2, o]
  · have o := fi_gt hx hy h
    refine ⟨y, by rw [show min a b = b by omega]; exact hy, fun ts t w => ?_⟩
    simp [Builtin.min_, Builtin.min2, o]

set_option maxHeartbeats 400000 in
theorem Sound_gen (x y : Nat) (a b : Int) (w : World) (hx : FI x a) (hy : FI y b) (hs : smallR a b) :
    Calls Try.prog 32 #[.complex .f64 x y] w fun e w' => e = .returned (.bool (runOk a b)) ∧ w = w' := by
  unfold smallR at hs
  by_cases h1 : 1 ≤ b
  · by_cases h2 : a + b ≤ 480
    · rw [show runOk a b = true from decide_eq_true ⟨hs.1, h1, h2⟩]
      exact Sound_any x y a b w hx hy hs.1 h1 h2
    · rw [show runOk a b = false from decide_eq_false (fun h => h2 h.2.2)]
      have c := Whole_any x y a b w hx hy (by omega) (by omega)
      have o1 := fi_ge hx fi_zero hs.1
      have o2 := fi_ge hy fi_one h1
      obtain ⟨r, hr, hf⟩ := fi_add hx hy (by omega)
      have o3 := fi_le_not hf fi_480 (by omega)
      have o4 : ∀ t w, (binOp .add t (.float .f64 x) (.float .f64 y)).run Try.prog w = .ok (.float .f64 r) w := fun t w => run_float_arith w .add t .f64 x y r hr
      clear hx hy hf
      go_enter Try.func32, Try.ntmps32
      go_wp2_with (go_at_call 42; refine c.mono ?_; rintro e w' ⟨rfl, rfl⟩)
      go_ret
      exact ⟨rfl, rfl⟩
  · rw [show runOk a b = false from decide_eq_false (fun h => h1 h.2.1)]
    have c := Whole_any x y a b w hx hy (by omega) (by omega)
    have o1 := fi_ge hx fi_zero hs.1
    have o2 := fi_ge_not hy fi_one (by omega)
    clear hx hy
    go_enter Try.func32, Try.ntmps32
    go_wp2_with (go_at_call 42; refine c.mono ?_; rintro e w' ⟨rfl, rfl⟩)
    go_ret
    exact ⟨rfl, rfl⟩

/-- The three answers of Parts. -/
def partA (a b : Int) : Int := if runOk a b = true then a else 0
def partB (a b : Int) : Int := if runOk a b = true then b else 0
def partE (a b : Int) : Int := if runOk a b = true then 0 else 2

set_option maxHeartbeats 400000 in
theorem Parts_gen (v : Value) (a b : Int) (w : World) (hv : CX v a b) (hs : smallR a b) :
    Calls Try.prog 23 #[v] w fun e w' => e = .returned (.tuple #[.int .i64 (partA a b), .int .i64 (partB a b), .int .i64 (partE a b)]) ∧ w = w' := by
  obtain ⟨x, y, rfl, hx, hy⟩ := hv
  unfold partA partB partE
  by_cases h : runOk a b = true
  · rw [if_pos h, if_pos h, if_pos h]
    have h' := runOk_true h
    exact Parts_any x y a b w hx hy h'.1 h'.2.1 h'.2.2
  · rw [if_neg h, if_neg h, if_neg h]
    rw [Bool.not_eq_true] at h
    have c := Sound_gen x y a b w hx hy hs
    rw [h] at c
    clear hx hy hs h
    go_enter Try.func23, Try.ntmps23
    go_wp2_with (go_at_call 32; refine c.mono ?_; rintro e w' ⟨rfl, rfl⟩)
    go_ret3
    exact ⟨rfl, rfl⟩

/-- What 'of' answers of any numbers. -/
def ofA (a b : Int) : Int := if b < 1 then 0 else a
def ofB (b : Int) : Int := if b < 1 then 0 else b

theorem cx_of {a b : Int} (ha : a.natAbs < 9007199254740992) (hb : b.natAbs < 9007199254740992) : CX (.complex .f64 (floatOfInt .f64 a) (floatOfInt .f64 b)) a b := ⟨_, _, rfl, fi_ofInt _ ha, fi_ofInt _ hb⟩
theorem cx_zero : CX (.complex .f64 0 0) 0 0 := ⟨_, _, rfl, fi_zero, fi_zero⟩

set_option maxHeartbeats 400000 in
theorem of_any (a b : Int) (w : World) (ha : a.natAbs < 100000) (hb : b.natAbs < 100000) :
    Calls Try.prog 54 #[.int .i64 a, .int .i64 b] w fun e w' => ∃ v, e = .returned v ∧ CX v (ofA a b) (ofB b) ∧ w = w' := by
  unfold ofA ofB
  by_cases h : b < 1
  · rw [if_pos h, if_pos h]
    go_enter Try.func54, Try.ntmps54
    go_wp2
    go_ret
    exact ⟨_, rfl, cx_zero, rfl⟩
  · rw [if_neg h, if_neg h]
    have HC := Lib.hid (cx_of (a := a) (b := b) (by omega) (by omega))
    clear ha hb
    go_enter Try.func54, Try.ntmps54
    go_wp2
    go_ret
    exact ⟨_, rfl, HC.out, rfl⟩

set_option maxHeartbeats 400000 in
theorem Of_any (a b : Int) (w : World) (hs : smallR a b) :
    Calls Try.prog 44 #[.int .i64 a, .int .i64 b] w fun e w' => ∃ v, e = .returned (.tuple #[v, .int .i64 (if runOk a b = true then 0 else 1)]) ∧ CX v (partA a b) (partB a b) ∧ w = w' := by
  unfold smallR at hs
  unfold partA partB
  by_cases h1 : b < 1
  · have h : runOk a b = false := decide_eq_false (by omega)
    rw [h]
    have h0 : ¬ a < 0 := by omega
    clear h hs
    go_enter Try.func44, Try.ntmps44
    go_wp2
    go_ret2
    exact ⟨_, rfl, cx_zero, rfl⟩
  · by_cases h2 : a + b ≤ 480
    · have h : runOk a b = true := decide_eq_true (by omega)
      rw [h]
      have c := of_any a b w (by omega) (by omega)
      unfold ofA ofB at c
      rw [if_neg h1, if_neg h1] at c
      have h0 : ¬ a < 0 := by omega
      have h3 : ¬ 480 - b < a := by omega
      have h4 : IntKind.i64.wrap (480 - b) = 480 - b := by rw [IntKind.wrap_i64]; omega
      clear h hs
      go_enter Try.func44, Try.ntmps44
      go_wp2_with (go_at_call 54; refine c.mono ?_; rintro e w' ⟨v, rfl, hv, rfl⟩; have HV := Lib.hid hv; clear hv)
      go_ret2
      exact ⟨v, rfl, HV.out, rfl⟩
    · have h : runOk a b = false := decide_eq_false (by omega)
      rw [h]
      have h0 : ¬ a < 0 := by omega
      have h3 : 480 - b < a := by omega
      have h4 : IntKind.i64.wrap (480 - b) = 480 - b := by rw [IntKind.wrap_i64]; omega
      clear h hs
      go_enter Try.func44, Try.ntmps44
      go_wp2
      go_ret2
      exact ⟨_, rfl, cx_zero, rfl⟩

/-- Complex numbers that are sound runs. -/
def RunsAre (xs : List Value) : Prop := ∀ v ∈ xs, ∃ a b, CX v a b ∧ runOk a b = true ∧ smallR a b

/-- How many blocks two runs have both (or less than 1), and the first. -/
def meetF (a p : Int) : Int := max a p
def meetN (a b p q : Int) : Int := min (a + b) (p + q) - max a p

theorem two_vals (w : World) (u v : Value) (T : TypeId) : Vals (w.alloc (.cells #[u, v] T)) (some ⟨w.heap.size, 0, none⟩) 2 [u, v] :=
  ⟨rfl, by decide, Or.inr ⟨_, 0, rfl, fun j x hj => by
    rw [Nat.zero_add, World.cell?_alloc_new]
    match j, hj with
    | 0, hj => simpa using hj
    | 1, hj => simpa using hj
    | j + 2, hj => simp at hj⟩⟩

end Go.Proofs.Ytmgmlebkmdpddaa

