/-
  Proved here: what the landed code of package run answers of any small parts: Sound, Parts, Of, and Meet of two sound runs. The conditions stand at each theorem: both parts are floats that hold whole numbers. Said here: nodes in plain words: when one is sound, its half of a block, what half a block is; what is known of extents in memory. No conditions but those that each theorem names. Proved here: what the landed node's small tests answer: within, soundPointer, meets, soundExtents. The conditions stand at each theorem. Proved here: what the landed node's soundExtents answers. The conditions stand at each theorem. Proved here: what '==' says of two arrays of four numbers, of two extents, of two slots. No conditions. Proved here: what the landed node's Same (and slices.Equal) answers, of a node and the empty one, and of two nodes that are one. The conditions stand at each theorem.
-/
import Derived.Test.YthklefelkdhblaaGreatDoorNn3
import Derived.Test.YthklefelkdhblaaGreatDoorNn0
import Derived.Test.YthklefelkdhblaaGreatDoorNn2
import Derived.BigRegion
import Derived.Deep.RegionHeld
import Derived.Deep.QuietTactic
import Derived.BigQuiet
import Derived.Laws.StructEq
import Derived.Laws.Tables
import Derived.Laws.Cover2
import Derived.KernelRfl
import Derived.WalkSmall
namespace Go.Proofs.YthklefelkdhblaaGreatDoor
open Go.RowKit
set_option linter.unusedVariables false
set_option linter.unusedSimpArgs false

/-- Are so many blocks from one on a run? -/
def runOk (a b : Int) : Bool := decide (0 ≤ a ∧ 1 ≤ b ∧ a + b ≤ 480)

/-- A complex number with these whole parts. -/
def CX (v : Value) (a b : Int) : Prop := ∃ x y, v = .complex .f64 x y ∧ FI x a ∧ FI y b

/-- Small parts, as two bytes and one byte hold them. -/
def smallR (a b : Int) : Prop := 0 ≤ a ∧ a ≤ 65535 ∧ 0 ≤ b ∧ b ≤ 255

theorem runOk_true {a b : Int} (h : runOk a b = true) : 0 ≤ a ∧ 1 ≤ b ∧ a + b ≤ 480 := of_decide_eq_true h
theorem fi_ge_not {x y : Nat} {a b : Int} (hx : FI x a) (hy : FI y b) (h : a < b) : (FloatKind.f64.format.order x y == some .gt || FloatKind.f64.format.order x y == some .eq) = false := by
  rw [fi_lt hx hy h]; rfl
theorem fi_le_not {x y : Nat} {a b : Int} (hx : FI x a) (hy : FI y b) (h : b < a) : (FloatKind.f64.format.order x y == some .lt || FloatKind.f64.format.order x y == some .eq) = false := by
  rw [fi_gt hx hy h]; rfl

theorem fi_max {x y : Nat} {a b : Int} (hx : FI x a) (hy : FI y b) : ∃ r, FI r (max a b) ∧ ∀ (ts : Array TypeId) (t : TypeId) (w : World), (Builtin.max_ ts t #[.float .f64 x, .float .f64 y]).run Tryz.prog w = .ok (.float .f64 r) w := by
  rcases Int.lt_trichotomy a b with h | h | h
  · have o := fi_lt hx hy h
    refine ⟨y, by rw [show max a b = b by omega]; exact hy, fun ts t w => ?_⟩
    simp [Builtin.max_, Builtin.max2, o]
  · have o := fi_eq hx hy h
    subst h
    refine ⟨if (FloatKind.f64.decode x).neg then y else x, ?_, fun ts t w => ?_⟩
    · rw [show max a a = a by omega]
      split
      · exact hy
      · exact hx
    · simp [Builtin.max_, Builtin.max2, o]
  · have o := fi_gt hx hy h
    refine ⟨x, by rw [show max a b = a by omega]; exact hx, fun ts t w => ?_⟩
    simp [Builtin.max_, Builtin.max2, o]

theorem fi_min {x y : Nat} {a b : Int} (hx : FI x a) (hy : FI y b) : ∃ r, FI r (min a b) ∧ ∀ (ts : Array TypeId) (t : TypeId) (w : World), (Builtin.min_ ts t #[.float .f64 x, .float .f64 y]).run Tryz.prog w = .ok (.float .f64 r) w := by
  rcases Int.lt_trichotomy a b with h | h | h
  · have o := fi_lt hx hy h
    refine ⟨x, by rw [show min a b = a by omega]; exact hx, fun ts t w => ?_⟩
    simp [Builtin.min_, Builtin.min2, o]
  · have o := fi_eq hx hy h
    subst h
    refine ⟨if (FloatKind.f64.decode x).neg then x else y, ?_, fun ts t w => ?_⟩
    · rw [show min a a = a by omega]
      split
      · exact hx
      · exact hy
    · simp [Builtin.min_, Builtin.min2, o]
  · have o := fi_gt hx hy h
    refine ⟨y, by rw [show min a b = b by omega]; exact hy, fun ts t w => ?_⟩
    simp [Builtin.min_, Builtin.min2, o]

set_option maxHeartbeats 400000 in
theorem Sound_gen (x y : Nat) (a b : Int) (w : World) (hx : FI x a) (hy : FI y b) (hs : smallR a b) :
    Calls Tryz.prog 152 #[.complex .f64 x y] w fun e w' => e = .returned (.bool (runOk a b)) ∧ w = w' := by
  unfold smallR at hs
  by_cases h1 : 1 ≤ b
  · by_cases h2 : a + b ≤ 480
    · rw [show runOk a b = true from decide_eq_true ⟨hs.1, h1, h2⟩]
      exact Sound_any x y a b w hx hy hs.1 h1 h2
    · rw [show runOk a b = false from decide_eq_false (fun h => h2 h.2.2)]
      have c := Whole_any x y a b w hx hy (by omega) (by omega)
      have o1 := fi_ge hx fi_zero hs.1
      have o2 := fi_ge hy fi_one h1
      obtain ⟨r, hr, hf⟩ := fi_add hx hy (by omega)
      have o3 := fi_le_not hf fi_480 (by omega)
      have o4 : ∀ t w, (binOp .add t (.float .f64 x) (.float .f64 y)).run Tryz.prog w = .ok (.float .f64 r) w := fun t w => run_float_arith w .add t .f64 x y r hr
      clear hx hy hf
      go_enter Tryz.func152, Tryz.ntmps152
      go_wp2_with (go_at_call 204; refine c.mono ?_; rintro e w' ⟨rfl, rfl⟩)
      go_ret
      exact ⟨rfl, rfl⟩
  · rw [show runOk a b = false from decide_eq_false (fun h => h1 h.2.1)]
    have c := Whole_any x y a b w hx hy (by omega) (by omega)
    have o1 := fi_ge hx fi_zero hs.1
    have o2 := fi_ge_not hy fi_one (by omega)
    clear hx hy
    go_enter Tryz.func152, Tryz.ntmps152
    go_wp2_with (go_at_call 204; refine c.mono ?_; rintro e w' ⟨rfl, rfl⟩)
    go_ret
    exact ⟨rfl, rfl⟩

/-- The three answers of Parts. -/
def partA (a b : Int) : Int := if runOk a b = true then a else 0
def partB (a b : Int) : Int := if runOk a b = true then b else 0
def partE (a b : Int) : Int := if runOk a b = true then 0 else 2

set_option maxHeartbeats 400000 in
theorem Parts_gen (v : Value) (a b : Int) (w : World) (hv : CX v a b) (hs : smallR a b) :
    Calls Tryz.prog 92 #[v] w fun e w' => e = .returned (.tuple #[.int .i64 (partA a b), .int .i64 (partB a b), .int .i64 (partE a b)]) ∧ w = w' := by
  obtain ⟨x, y, rfl, hx, hy⟩ := hv
  unfold partA partB partE
  by_cases h : runOk a b = true
  · rw [if_pos h, if_pos h, if_pos h]
    have h' := runOk_true h
    exact Parts_any x y a b w hx hy h'.1 h'.2.1 h'.2.2
  · rw [if_neg h, if_neg h, if_neg h]
    rw [Bool.not_eq_true] at h
    have c := Sound_gen x y a b w hx hy hs
    rw [h] at c
    clear hx hy hs h
    go_enter Tryz.func92, Tryz.ntmps92
    go_wp2_with (go_at_call 152; refine c.mono ?_; rintro e w' ⟨rfl, rfl⟩)
    go_ret3
    exact ⟨rfl, rfl⟩

/-- What 'of' answers of any numbers. -/
def ofA (a b : Int) : Int := if b < 1 then 0 else a
def ofB (b : Int) : Int := if b < 1 then 0 else b

theorem cx_of {a b : Int} (ha : a.natAbs < 9007199254740992) (hb : b.natAbs < 9007199254740992) : CX (.complex .f64 (floatOfInt .f64 a) (floatOfInt .f64 b)) a b := ⟨_, _, rfl, fi_ofInt _ ha, fi_ofInt _ hb⟩
theorem cx_zero : CX (.complex .f64 0 0) 0 0 := ⟨_, _, rfl, fi_zero, fi_zero⟩

set_option maxHeartbeats 400000 in
theorem of_any (a b : Int) (w : World) (ha : a.natAbs < 100000) (hb : b.natAbs < 100000) :
    Calls Tryz.prog 94 #[.int .i64 a, .int .i64 b] w fun e w' => ∃ v, e = .returned v ∧ CX v (ofA a b) (ofB b) ∧ w = w' := by
  unfold ofA ofB
  by_cases h : b < 1
  · rw [if_pos h, if_pos h]
    go_enter Tryz.func94, Tryz.ntmps94
    go_wp2
    go_ret
    exact ⟨_, rfl, cx_zero, rfl⟩
  · rw [if_neg h, if_neg h]
    have HC := Lib.hid (cx_of (a := a) (b := b) (by omega) (by omega))
    clear ha hb
    go_enter Tryz.func94, Tryz.ntmps94
    go_wp2
    go_ret
    exact ⟨_, rfl, HC.out, rfl⟩

set_option maxHeartbeats 400000 in
theorem Of_any (a b : Int) (w : World) (hs : smallR a b) :
    Calls Tryz.prog 43 #[.int .i64 a, .int .i64 b] w fun e w' => ∃ v, e = .returned (.tuple #[v, .int .i64 (if runOk a b = true then 0 else 1)]) ∧ CX v (partA a b) (partB a b) ∧ w = w' := by
  unfold smallR at hs
  unfold partA partB
  by_cases h1 : b < 1
  · have h : runOk a b = false := decide_eq_false (by omega)
    rw [h]
    have h0 : ¬ a < 0 := by omega
    clear h hs
    go_enter Tryz.func43, Tryz.ntmps43
    go_wp2
    go_ret2
    exact ⟨_, rfl, cx_zero, rfl⟩
  · by_cases h2 : a + b ≤ 480
    · have h : runOk a b = true := decide_eq_true (by omega)
      rw [h]
      have c := of_any a b w (by omega) (by omega)
      unfold ofA ofB at c
      rw [if_neg h1, if_neg h1] at c
      have h0 : ¬ a < 0 := by omega
      have h3 : ¬ 480 - b < a := by omega
      have h4 : IntKind.i64.wrap (480 - b) = 480 - b := by rw [IntKind.wrap_i64]; omega
      clear h hs
      go_enter Tryz.func43, Tryz.ntmps43
      go_wp2_with (go_at_call 94; refine c.mono ?_; rintro e w' ⟨v, rfl, hv, rfl⟩; have HV := Lib.hid hv; clear hv)
      go_ret2
      exact ⟨v, rfl, HV.out, rfl⟩
    · have h : runOk a b = false := decide_eq_false (by omega)
      rw [h]
      have h0 : ¬ a < 0 := by omega
      have h3 : 480 - b < a := by omega
      have h4 : IntKind.i64.wrap (480 - b) = 480 - b := by rw [IntKind.wrap_i64]; omega
      clear h hs
      go_enter Tryz.func43, Tryz.ntmps43
      go_wp2
      go_ret2
      exact ⟨_, rfl, cx_zero, rfl⟩

set_option maxHeartbeats 400000 in
theorem unsound1_any (v : Value) (a b : Int) (w : World) (hv : CX v a b) (hs : smallR a b) :
    Calls Tryz.prog 295 #[v] w fun e w' => e = .returned (.bool (!runOk a b)) ∧ w = w' := by
  obtain ⟨x, y, rfl, hx, hy⟩ := hv
  have c := Sound_gen x y a b w hx hy hs
  clear hx hy hs
  generalize runOk a b = t at *
  go_enter Tryz.func295, Tryz.ntmps295
  go_wp2_with (go_at_call 152; refine c.mono ?_; rintro e w' ⟨rfl, rfl⟩)
  go_ret
  exact ⟨rfl, rfl⟩

/-- Complex numbers that are sound runs. -/
def RunsAre (xs : List Value) : Prop := ∀ v ∈ xs, ∃ a b, CX v a b ∧ runOk a b = true ∧ smallR a b

set_option maxRecDepth 100000 in
set_option maxHeartbeats 800000 in
theorem indexC_any {w : World} {ao : Option Addr} {m cap : Nat} {xs : List Value} (hV : Vals w ao m xs) (hR : RunsAre xs) :
    Calls Tryz.prog 250 #[.slice ao m cap, .func (.func 295) #[] #[]] w fun e w' => e = .returned (.int .i64 (-1)) ∧ w = w' := by
  obtain ⟨hl, hm, hc⟩ := hV
  have HR := Lib.hid hR
  have HL := Lib.hid hl
  have HC := Lib.hid hc
  clear hR hl hc
  go_enter Tryz.func250, Tryz.ntmps250
  go_wp2_with fail
  go_loop [8] (fun iv => ∃ i : Nat, iv = .int .i64 (i : Int) ∧ i ≤ m) (fun iv => m - (intOf iv).toNat)
  case atStart => exact ⟨0, rfl, Nat.zero_le _⟩
  case round =>
    obtain ⟨i, rfl, hi⟩ := hrel
    by_cases hlt : i < m
    · obtain ⟨b, off, rfl, hc⟩ := HC.out.resolve_left (by omega)
      obtain ⟨v, hv⟩ : ∃ v, xs[i]? = some v := ⟨_, List.getElem?_eq_getElem (by rw [HL.out]; exact hlt)⟩
      have hcell := hc i v hv
      obtain ⟨p, q, hcx, hok, hsm⟩ := HR.out v (List.mem_of_getElem? hv)
      have cF := unsound1_any v p q w hcx hsm
      rw [hok] at cF
      obtain ⟨x, y, rfl, _, _⟩ := hcx
      have i1 : (i : Int) < (m : Int) := by omega
      clear hc hv hok hsm
      go_wp2_with (go_at_call 295; refine cF.mono ?_; rintro e w3 ⟨rfl, rfl⟩)
      go_round
      case rel => exact ⟨i + 1, by go_num, by omega⟩
      case measure => simp [intOf]; omega
    · have hin : i = m := by omega
      subst hin
      go_wp2_with fail
      go_ret
      exact ⟨rfl, rfl⟩

theorem containsC_any {w : World} {ao : Option Addr} {m cap : Nat} {xs : List Value} (hV : Vals w ao m xs) (hR : RunsAre xs) :
    Calls Tryz.prog 294 #[.slice ao m cap, .func (.func 295) #[] #[]] w fun e w' => e = .returned (.bool false) ∧ w = w' := by
  have c := indexC_any (cap := cap) hV hR
  clear hV hR
  go_enter Tryz.func294, Tryz.ntmps294
  go_wp2_with (go_at_call 250; refine c.mono ?_; rintro e w' ⟨rfl, rfl⟩)
  go_ret
  exact ⟨rfl, rfl⟩

theorem unsound_any {w : World} {ao : Option Addr} {m cap : Nat} {xs : List Value} (hV : Vals w ao m xs) (hR : RunsAre xs) :
    Calls Tryz.prog 289 #[.slice ao m cap] w fun e w' => e = .returned (.bool false) ∧ w = w' := by
  have c := containsC_any (cap := cap) hV hR
  clear hV hR
  go_enter Tryz.func289, Tryz.ntmps289
  go_wp2_with (go_at_call 294; refine c.mono ?_; rintro e w' ⟨rfl, rfl⟩)
  go_ret
  exact ⟨rfl, rfl⟩

/-- How many blocks two runs have both (or less than 1), and the first. -/
def meetF (a p : Int) : Int := max a p
def meetN (a b p q : Int) : Int := min (a + b) (p + q) - max a p

theorem two_vals (w : World) (u v : Value) (T : TypeId) : Vals (w.alloc (.cells #[u, v] T)) (some ⟨w.heap.size, 0, none⟩) 2 [u, v] :=
  ⟨rfl, by decide, Or.inr ⟨_, 0, rfl, fun j x hj => by
    rw [Nat.zero_add, World.cell?_alloc_new]
    match j, hj with
    | 0, hj => simpa using hj
    | 1, hj => simpa using hj
    | j + 2, hj => simp at hj⟩⟩

set_option maxHeartbeats 800000 in
theorem Meet_any (u v : Value) (a b p q : Int) (w : World) (hu : CX u a b) (hv : CX v p q) (h1 : runOk a b = true) (h2 : runOk p q = true) (hs1 : smallR a b) (hs2 : smallR p q) :
    Calls Tryz.prog 280 #[u, v] w fun e w' => ∃ r, e = .returned r ∧ CX r (ofA (meetF a p) (meetN a b p q)) (ofB (meetN a b p q)) ∧ Below w.heap.size w w' := by
  obtain ⟨x, y, rfl, hx, hy⟩ := hu
  obtain ⟨z, t, rfl, hz, ht⟩ := hv
  have cU := fun cap => unsound_any (cap := cap) (two_vals w (.complex .f64 x y) (.complex .f64 z t) 88) (fun v hv => by
    rcases List.mem_cons.1 hv with rfl | hv
    · exact ⟨a, b, ⟨_, _, rfl, hx, hy⟩, h1, hs1⟩
    · rw [List.mem_singleton] at hv
      subst hv
      exact ⟨p, q, ⟨_, _, rfl, hz, ht⟩, h2, hs2⟩)
  have h1' := runOk_true h1
  have h2' := runOk_true h2
  obtain ⟨r1, f1, m1⟩ := fi_max hx hz
  obtain ⟨s1, g1, k1⟩ := fi_add hx hy (by omega)
  obtain ⟨s2, g2, k2⟩ := fi_add hz ht (by omega)
  obtain ⟨r2, f2, m2⟩ := fi_min k1 k2
  obtain ⟨r3, g3, f3⟩ := fi_sub f2 f1 (by omega)
  have o1 : ∀ t' w, (binOp .add t' (.float .f64 x) (.float .f64 y)).run Tryz.prog w = .ok (.float .f64 s1) w := fun t' w => run_float_arith w .add t' .f64 x y s1 g1
  have o2 : ∀ t' w, (binOp .add t' (.float .f64 z) (.float .f64 t)).run Tryz.prog w = .ok (.float .f64 s2) w := fun t' w => run_float_arith w .add t' .f64 z t s2 g2
  have o3 : ∀ t' w, (binOp .sub t' (.float .f64 r2) (.float .f64 r1)).run Tryz.prog w = .ok (.float .f64 r3) w := fun t' w => run_float_arith w .sub t' .f64 r2 r1 r3 g3
  have hv1 := fi_toInt .i64 f1 (by show -9223372036854775808 ≤ _; omega) (by show _ ≤ 9223372036854775807; omega)
  have hv3 := fi_toInt .i64 f3 (by show -9223372036854775808 ≤ _; omega) (by show _ ≤ 9223372036854775807; omega)
  have o4 : ∀ w, (convert 151 3 (.float .f64 r1)).run Tryz.prog w = .ok (.int .i64 (meetF a p)) w := fun w => run_convert_float_int w 151 3 .f64 .i64 r1 _ (by rw [Tryz.underlying151]; rfl) Tryz.underlying3 hv1
  have o5 : ∀ w, (convert 151 3 (.float .f64 r3)).run Tryz.prog w = .ok (.int .i64 (meetN a b p q)) w := fun w => run_convert_float_int w 151 3 .f64 .i64 r3 _ (by rw [Tryz.underlying151]; rfl) Tryz.underlying3 hv3
  have cO := fun W => of_any (meetF a p) (meetN a b p q) W (by unfold meetF; omega) (by unfold meetN; omega)
  have HB : Hid (Below w.heap.size w (w.alloc (.cells #[.complex .f64 x y, .complex .f64 z t] 88))) := Lib.hid ((Below.refl _ _).alloc (Nat.le_refl _) _)
  clear hx hy hz ht f1 f2 f3 k1 k2 g1 g2 g3 hv1 hv3 h1' h2' h1 h2 hs1 hs2
  generalize meetF a p = F at *
  generalize meetN a b p q = K at *
  go_enter Tryz.func280, Tryz.ntmps280
  go_wp2_with (first
    | (go_at_call 289; refine (cU _).mono ?_; rintro e w' ⟨rfl, rfl⟩)
    | (go_at_call 94; refine (cO _).mono ?_; rintro e w' ⟨r, rfl, hr, rfl⟩; have HR := Lib.hid hr; clear hr))
  go_ret
  exact ⟨r, rfl, HR.out, HB.out⟩

end Go.Proofs.YthklefelkdhblaaGreatDoor


namespace Go.Proofs.YthklefelkdhblaaGreatDoor
open Go.RowKit
set_option linter.unusedVariables false
set_option linter.unusedSimpArgs false

/-- An extent: where in the file, its run's first block, and how many. -/
structure PX where
  a : Int
  f : Int
  c : Int
  deriving DecidableEq

structure PNode where
  k : Int
  f : Int
  l : Int
  z : Int
  d0 : Int
  d1 : Int
  d2 : Int
  d3 : Int
  s : Int
  t : Int
  x : List PX
  c : Int
  deriving DecidableEq

def ptrOk (p : Int) : Bool := decide (p = 0 ∨ 59 ≤ p ∧ p ≤ 479)
def meetsX (x y : PX) : Bool := decide (1 ≤ meetN x.f x.c y.f y.c)
def okX (e b : Int) (x : PX) : Bool := runOk x.f x.c && (decide (59 ≤ x.f) && (decide (e ≤ x.a ∧ x.a ≤ 96 - x.c) && !decide (x.a = e ∧ x.f = b)))

/-- Are extents behind others sound? -/
def soundFrom (prev : List PX) (e b : Int) : List PX → Bool
  | [] => true
  | x :: r => okX e b x && (!(prev.any (meetsX x)) && soundFrom (prev ++ [x]) (x.a + x.c) (x.f + x.c) r)

def soundXs (l : List PX) : Bool := decide (l.length ≤ 3) && soundFrom [] 0 0 l

def noNode : PNode := ⟨0, 0, 0, 0, 0, 0, 0, 0, 0, 0, [], 0⟩
def PNode.ptrs (n : PNode) : List Int := [n.d0, n.d1, n.d2, n.d3, n.s, n.t]
def PNode.mapOk (n : PNode) : Bool :=
  if n.f = 1 then n.ptrs.all ptrOk && (decide (n.x = []) && decide (n.c = 0))
  else if n.f = 2 then n.ptrs.all (fun p => decide (p = 0)) && (soundXs n.x && ptrOk n.c)
  else false
def PNode.headOk (n : PNode) : Bool := decide ((n.k = 1 ∨ n.k = 2) ∧ 1 ≤ n.l ∧ n.l ≤ 1000 ∧ 0 ≤ n.z ∧ n.z ≤ 6144)
def PNode.sound (n : PNode) : Bool := if n.k = 0 then decide (n = noNode) else n.headOk && n.mapOk

def pad (n : Nat) (l : List Int) : List Int := l ++ List.replicate (n - l.length) 0
def exB (l : List PX) : List Int := l.flatMap fun x => leB x.a 1 ++ leB x.f 2 ++ leB x.c 1
def nodeH (n : PNode) : List Int := leB n.k 1 ++ leB n.f 1 ++ leB n.l 2 ++ leB n.z 2
def nodeP (n : PNode) : List Int := leB n.d0 2 ++ leB n.d1 2 ++ leB n.d2 2 ++ leB n.d3 2 ++ leB n.s 2 ++ leB n.t 2
/-- A node's 28 bytes. -/
def node28 (n : PNode) : List Int := pad 28 (if n.f = 2 then pad 18 (nodeH n ++ exB n.x) ++ leB n.c 2 else nodeH n ++ nodeP n)
def node32 (n : PNode) : List Int := node28 n ++ leB (sumS (node28 n)) 4
def nodeErr (n : PNode) : Int := if n.sound = true then 0 else 2
def nodeOut (n : PNode) : List Int := if n.sound = true then node32 n else []

def smallX (x : PX) : Prop := (0 ≤ x.a ∧ x.a ≤ 255) ∧ smallR x.f x.c
def u16 (n : Int) : Prop := 0 ≤ n ∧ n ≤ 65535
def PNode.small (n : PNode) : Prop := u16 n.k ∧ u16 n.f ∧ u16 n.l ∧ u16 n.z ∧ u16 n.d0 ∧ u16 n.d1 ∧ u16 n.d2 ∧ u16 n.d3 ∧ u16 n.s ∧ u16 n.t ∧ u16 n.c ∧ ∀ x ∈ n.x, smallX x

/-- A node as a value; its extents' list is the given value. -/
def PNode.val (n : PNode) (v : Value) : Value := .agg #[.int .i64 n.k, .int .i64 n.f, .int .i64 n.l, .int .i64 n.z, .int .i64 n.d0, .int .i64 n.d1, .int .i64 n.d2, .int .i64 n.d3, .int .i64 n.s, .int .i64 n.t, v, .int .i64 n.c]

/-- A store of a complex number, for the walk. -/
theorem st_cx : ∀ (a : Addr) (x y : Nat) (m : Mode) (w : World), (store a (.complex .f64 x y) m).run Tryz.prog w = stored Tryz.prog w a (.complex .f64 x y) m := fun a x y m w => run_store Tryz.prog w a _ m rfl

/-! ### Extents in memory -/

/-- A list of extents: two cells each. -/
def XIs (w : World) (ao : Option Addr) (len : Nat) (xs : List PX) : Prop :=
  xs.length = len ∧ len ≤ 3 ∧ (len = 0 ∨ ∃ b off, ao = some ⟨b, off, none⟩ ∧ ∀ i x, xs[i]? = some x → w.cell? ⟨b, off + i * 2, none⟩ = some (.int .i64 x.a) ∧ ∃ v, w.cell? ⟨b, off + i * 2 + 1, none⟩ = some v ∧ CX v x.f x.c)

theorem XIs.later {w w' : World} {ao : Option Addr} {len : Nat} {xs : List PX} (h : XIs w ao len xs) (hb : Below w.heap.size w w') : XIs w' ao len xs := by
  obtain ⟨h1, h2, h3⟩ := h
  refine ⟨h1, h2, ?_⟩
  rcases h3 with h3 | ⟨b, off, rfl, hc⟩
  · exact Or.inl h3
  · refine Or.inr ⟨b, off, rfl, fun i x hx => ?_⟩
    obtain ⟨c1, v, c2, c3⟩ := hc i x hx
    exact ⟨cell_later hb c1, v, cell_later hb c2, c3⟩

theorem XIs.nil (w : World) : XIs w none 0 [] := ⟨rfl, by decide, Or.inl rfl⟩

theorem XIs.at {w : World} {ao : Option Addr} {len : Nat} {xs : List PX} (h : XIs w ao len xs) {i : Nat} (hi : i < len) :
    ∃ b off x p q, ao = some ⟨b, off, none⟩ ∧ xs[i]? = some x ∧ x ∈ xs ∧ w.cell? ⟨b, off + i * 2, none⟩ = some (.int .i64 x.a) ∧ w.cell? ⟨b, off + i * 2 + 1, none⟩ = some (.complex .f64 p q) ∧ FI p x.f ∧ FI q x.c := by
  obtain ⟨h1, h2, h3⟩ := h
  obtain ⟨b, off, rfl, hc⟩ := h3.resolve_left (by omega)
  obtain ⟨x, hx⟩ : ∃ x, xs[i]? = some x := ⟨_, List.getElem?_eq_getElem (by omega)⟩
  obtain ⟨c1, v, c2, p, q, rfl, f1, f2⟩ := hc i x hx
  exact ⟨b, off, x, p, q, rfl, hx, List.mem_of_getElem? hx, c1, c2, f1, f2⟩

/-- The first extents. -/
theorem XIs.take {w : World} {b off len : Nat} {xs : List PX} (h : XIs w (some ⟨b, off, none⟩) len xs) {k : Nat} (hk : k ≤ len) : XIs w (some ⟨b, off, none⟩) k (xs.take k) := by
  obtain ⟨h1, h2, h3⟩ := h
  refine ⟨by rw [List.length_take]; omega, by omega, ?_⟩
  by_cases h0 : k = 0
  · exact Or.inl h0
  · obtain ⟨b', off', he, hc⟩ := h3.resolve_left (by omega)
    refine Or.inr ⟨b', off', he, fun i x hx => hc i x ?_⟩
    rw [List.getElem?_take] at hx
    split at hx
    · exact hx
    · cases hx

theorem any_take_x {p : PX → Bool} {l : List PX} {i : Nat} {x : PX} (h : l[i]? = some x) (h0 : (l.take i).any p = false) : (l.take (i + 1)).any p = p x := by
  rw [List.take_add_one, h, List.any_append, h0]
  simp

theorem any_of_take_x {p : PX → Bool} {l : List PX} {i : Nat} (h : (l.take i).any p = true) : l.any p = true := by
  rw [List.any_eq_true] at h ⊢
  obtain ⟨x, hx, hp⟩ := h
  exact ⟨x, List.mem_of_mem_take hx, hp⟩

theorem drop_at {l : List PX} {i : Nat} {x : PX} (h : l[i]? = some x) : l.drop i = x :: l.drop (i + 1) := by
  obtain ⟨hi, he⟩ := List.getElem?_eq_some_iff.1 h
  rw [List.drop_eq_getElem_cons hi, he]

theorem take_at {l : List PX} {i : Nat} {x : PX} (h : l[i]? = some x) : l.take (i + 1) = l.take i ++ [x] := by
  rw [List.take_add_one, h]
  rfl

/-- A step in a list of extents. -/
theorem soundFrom_at {l : List PX} {i : Nat} {x : PX} {e b : Int} (h : l[i]? = some x) : soundFrom (l.take i) e b (l.drop i) = (okX e b x && (!((l.take i).any (meetsX x)) && soundFrom (l.take (i + 1)) (x.a + x.c) (x.f + x.c) (l.drop (i + 1)))) := by
  rw [drop_at h, take_at h]
  rfl

end Go.Proofs.YthklefelkdhblaaGreatDoor


namespace Go.Proofs.YthklefelkdhblaaGreatDoor
open Go.RowKit
set_option linter.unusedVariables false
set_option linter.unusedSimpArgs false

/-- Does a number lie between two others? -/
def inN (n lo hi : Int) : Bool := decide (lo ≤ n ∧ n ≤ hi)

theorem within9_any (n lo hi : Int) (w : World) : Calls Tryz.prog 182 #[.int .i64 n, .int .i64 lo, .int .i64 hi] w fun e w' => e = .returned (.bool (inN n lo hi)) ∧ w = w' := by
  by_cases h1 : lo ≤ n
  · by_cases h2 : n ≤ hi
    · have HE : Hid (inN n lo hi = true) := Lib.hid (decide_eq_true ⟨h1, h2⟩)
      go_enter Tryz.func182, Tryz.ntmps182
      go_wp2
      go_ret
      exact ⟨by rw [HE.out]; rfl, rfl⟩
    · have HE : Hid (inN n lo hi = false) := Lib.hid (decide_eq_false (fun h => h2 h.2))
      go_enter Tryz.func182, Tryz.ntmps182
      go_wp2
      go_ret
      exact ⟨by rw [HE.out]; rfl, rfl⟩
  · have HE : Hid (inN n lo hi = false) := Lib.hid (decide_eq_false (fun h => h1 h.1))
    go_enter Tryz.func182, Tryz.ntmps182
    go_wp2
    go_ret
    exact ⟨by rw [HE.out]; rfl, rfl⟩

theorem soundPointer_any (p : Int) (w : World) : Calls Tryz.prog 227 #[.int .i64 p] w fun e w' => e = .returned (.bool (ptrOk p)) ∧ w = w' := by
  by_cases h0 : p = 0
  · subst h0
    go_enter Tryz.func227, Tryz.ntmps227
    go_wp2
    go_ret
    exact ⟨rfl, rfl⟩
  · have hE : ptrOk p = inN p 59 479 := by unfold ptrOk inN; simp [h0]
    rw [hE]
    have h1 : (p == 0) = false := by simp [h0]
    have c := within9_any p 59 479 w
    generalize inN p 59 479 = t at *
    clear hE h0
    go_enter Tryz.func227, Tryz.ntmps227
    go_wp2_with (go_at_call 182; refine c.mono ?_; rintro e w' ⟨rfl, rfl⟩)
    go_ret
    exact ⟨rfl, rfl⟩

def xAgg (x : PX) (p q : Nat) : Value := .agg #[.int .i64 x.a, .complex .f64 p q]

set_option maxHeartbeats 800000 in
theorem meets1_any (x y : PX) (p q p' q' g : Nat) (w : World) (hx : runOk x.f x.c = true) (hy : runOk y.f y.c = true) (sx : smallX x) (sy : smallX y) (hp : FI p x.f) (hq : FI q x.c) (hp' : FI p' y.f) (hq' : FI q' y.c)
    (hc : w.cell? ⟨g, 1, none⟩ = some (.complex .f64 p q)) :
    Calls Tryz.prog 279 #[xAgg y p' q', .pointer (some ⟨g, 0, none⟩)] w fun e w' => e = .returned (.bool (meetsX x y)) ∧ Below w.heap.size w w' := by
  unfold xAgg
  have hb : Below w.heap.size w (w.alloc (.cells #[.int .i64 y.a, .complex .f64 p' q'] 157)) := (Below.refl _ _).alloc (Nat.le_refl _) _
  have hc1 := cell_later hb hc
  have c := fun W => Meet_any (.complex .f64 p q) (.complex .f64 p' q') x.f x.c y.f y.c W ⟨_, _, rfl, hp, hq⟩ ⟨_, _, rfl, hp', hq'⟩ hx hy sx.2 sy.2
  have HE : Hid (∀ r, CX r (ofA (meetF x.f y.f) (meetN x.f x.c y.f y.c)) (ofB (meetN x.f x.c y.f y.c)) → ∃ u v, r = .complex .f64 u v ∧ ((!(FloatKind.f64.format.order u 0 == some .eq)) || (!(FloatKind.f64.format.order v 0 == some .eq))) = meetsX x y) := Lib.hid (by
    rintro r ⟨u, v, rfl, h1, h2⟩
    refine ⟨u, v, rfl, ?_⟩
    unfold meetsX ofA ofB at *
    by_cases h : meetN x.f x.c y.f y.c < 1
    · rw [if_pos h] at h1 h2
      rw [fi_eq h1 fi_zero rfl, fi_eq h2 fi_zero rfl, decide_eq_false (by omega)]
      rfl
    · rw [if_neg h] at h1 h2
      rw [fi_gt h2 fi_zero (by omega), decide_eq_true (by omega)]
      simp)
  have HB := Lib.hid hb
  clear hc hb hp hq hp' hq' hx hy sx sy
  generalize meetsX x y = t at *
  go_enter Tryz.func279, Tryz.ntmps279
  go_wp2_with (go_at_call 280; refine (c _).mono ?_; rintro e w' ⟨r, rfl, hr, hb⟩; obtain ⟨u, v, rfl, he⟩ := HE.out r hr; have HR := Lib.hid he; have HB2 := Lib.hid (HB.out.trans (hb.mono HB.out.size)); clear hr hb he)
  go_ret
  exact ⟨by rw [← HR.out]; rfl, HB2.out⟩

set_option maxRecDepth 100000 in
set_option maxHeartbeats 1600000 in
theorem indexX_any {w : World} {ao : Option Addr} {m cap : Nat} {xs : List PX} (hX : XIs w ao m xs) (x : PX) (p q g : Nat) (hx : runOk x.f x.c = true) (sx : smallX x) (hp : FI p x.f) (hq : FI q x.c) (hc : w.cell? ⟨g, 1, none⟩ = some (.complex .f64 p q))
    (hr : ∀ y ∈ xs, runOk y.f y.c = true ∧ smallX y) :
    Calls Tryz.prog 288 #[.slice ao m cap, .func (.func 279) #[] #[.pointer (some ⟨g, 0, none⟩)]] w fun e w' => ∃ r : Int, e = .returned (.int .i64 r) ∧ decide (0 ≤ r) = xs.any (meetsX x) ∧ (-1 ≤ r ∧ r ≤ 3) ∧ Below w.heap.size w w' := by
  have hm := hX.2.1
  have HL := Lib.hid hX
  have HWL := Lib.hid hX.1
  have HC := Lib.hid hc
  have HR := Lib.hid hr
  have HP := Lib.hid (And.intro hp hq)
  clear hX hc hr hp hq
  go_enter Tryz.func288, Tryz.ntmps288
  go_wp2_with fail
  go_loopw [8] (fun iv wr => ∃ i : Nat, iv = .int .i64 (i : Int) ∧ i ≤ m ∧ Hid (Below w.heap.size w wr) ∧ Hid ((xs.take i).any (meetsX x) = false)) (fun iv _ => m - (intOf iv).toNat)
  case atStart => exact ⟨0, rfl, Nat.zero_le _, Lib.hid (Below.refl _ _), Lib.hid rfl⟩
  case round =>
    obtain ⟨i, rfl, hi, HB, HQ⟩ := hrel
    by_cases hlt : i < m
    · obtain ⟨b, off, y, p', q', rfl, hy, hmem, c1, c2, f1, f2⟩ := HL.out.at hlt
      have d1 : wr.cell? ⟨b, off + i * 2, none⟩ = some (.int .i64 y.a) := cell_later HB.out c1
      have d2 : wr.cell? ⟨b, off + i * 2 + 1, none⟩ = some (.complex .f64 p' q') := cell_later HB.out c2
      have i1 : (i : Int) < (m : Int) := by omega
      have cF := meets1_any x y p q p' q' g wr hx (HR.out y hmem).1 sx (HR.out y hmem).2 HP.out.1 HP.out.2 f1 f2 (cell_later HB.out HC.out)
      unfold xAgg at cF
      by_cases hv : meetsX x y = true
      · have HS := Lib.hid ((any_take_x (p := meetsX x) hy HQ.out).trans hv)
        have HV := Lib.hid (any_of_take_x HS.out)
        rw [hv] at cF
        clear hy hmem c1 c2 f1 f2 hv HS
        go_wp2_with (go_at_call 279; refine cF.mono ?_; rintro e w3 ⟨rfl, hb3⟩; have HB3 := Lib.hid hb3; clear hb3)
        go_ret
        exact ⟨(i : Int), rfl, by rw [HV.out]; exact decide_eq_true (by omega), by omega, HB.out.trans (HB3.out.mono HB.out.size)⟩
      · rw [Bool.not_eq_true] at hv
        have HS := Lib.hid ((any_take_x (p := meetsX x) hy HQ.out).trans hv)
        rw [hv] at cF
        clear hy hmem c1 c2 f1 f2 hv
        go_wp2_with (go_at_call 279; refine cF.mono ?_; rintro e w3 ⟨rfl, hb3⟩; have HB3 := Lib.hid hb3; clear hb3)
        go_roundw
        case rel => exact ⟨i + 1, by go_num, by omega, Lib.hid (HB.out.trans (HB3.out.mono HB.out.size)), HS⟩
        case measure => simp [intOf]; omega
    · have hin : i = m := by omega
      subst hin
      go_wp2_with fail
      go_ret
      refine ⟨-1, rfl, ?_, by omega, HB.out⟩
      have h := HQ.out
      rw [← HWL.out, List.take_length] at h
      rw [h]
      rfl

set_option maxHeartbeats 800000 in
theorem containsX_any {w : World} {ao : Option Addr} {m cap : Nat} {xs : List PX} (hX : XIs w ao m xs) (x : PX) (p q g : Nat) (hx : runOk x.f x.c = true) (sx : smallX x) (hp : FI p x.f) (hq : FI q x.c) (hc : w.cell? ⟨g, 1, none⟩ = some (.complex .f64 p q))
    (hr : ∀ y ∈ xs, runOk y.f y.c = true ∧ smallX y) :
    Calls Tryz.prog 278 #[.slice ao m cap, .func (.func 279) #[] #[.pointer (some ⟨g, 0, none⟩)]] w fun e w' => e = .returned (.bool (xs.any (meetsX x))) ∧ Below w.heap.size w w' := by
  have c := indexX_any (cap := cap) hX x p q g hx sx hp hq hc hr
  clear hX hc hr hp hq
  go_enter Tryz.func278, Tryz.ntmps278
  go_wp2_with (go_at_call 288; refine c.mono ?_; rintro e w2 ⟨r, rfl, hr, hrb, hb⟩; have HR := Lib.hid hr; have HB := Lib.hid hb; clear hr hb)
  go_ret
  exact ⟨by rw [← HR.out]; rfl, HB.out⟩

set_option maxHeartbeats 800000 in
theorem meets_any {w : World} {ao : Option Addr} {m cap : Nat} {xs : List PX} (hX : XIs w ao m xs) (x : PX) (p q : Nat) (hx : runOk x.f x.c = true) (sx : smallX x) (hp : FI p x.f) (hq : FI q x.c)
    (hr : ∀ y ∈ xs, runOk y.f y.c = true ∧ smallX y) :
    Calls Tryz.prog 264 #[xAgg x p q, .slice ao m cap] w fun e w' => e = .returned (.bool (xs.any (meetsX x))) ∧ Below w.heap.size w w' := by
  unfold xAgg
  have hb : Below w.heap.size w (w.alloc (.cells #[.int .i64 x.a, .complex .f64 p q] 157)) := (Below.refl _ _).alloc (Nat.le_refl _) _
  have c := containsX_any (cap := cap) (hX.later hb) x p q w.heap.size hx sx hp hq (by rw [World.cell?_alloc_new]; rfl) hr
  have HB := Lib.hid hb
  clear hX hr hp hq hb
  go_enter Tryz.func264, Tryz.ntmps264
  go_wp2_with (go_at_call 278; refine c.mono ?_; rintro e w2 ⟨rfl, hb⟩; have HB2 := Lib.hid (HB.out.trans (hb.mono HB.out.size)); clear hb)
  go_ret
  exact ⟨rfl, HB2.out⟩

end Go.Proofs.YthklefelkdhblaaGreatDoor


namespace Go.Proofs.YthklefelkdhblaaGreatDoor
open Go.RowKit
set_option linter.unusedVariables false
set_option linter.unusedSimpArgs false

theorem okX_parts (e b : Int) (x : PX) : okX e b x = (runOk x.f x.c && (decide (59 ≤ x.f) && (inN x.a e (96 - x.c) && !(decide (x.a = e) && decide (x.f = b))))) := by
  unfold okX inN
  by_cases h1 : x.a = e <;> by_cases h2 : x.f = b <;> simp [h1, h2]

set_option maxRecDepth 100000 in
set_option maxHeartbeats 3200000 in
theorem soundExtents_any {w : World} {ao : Option Addr} {m cap : Nat} {xs : List PX} (hX : XIs w ao m xs) (hs : ∀ x ∈ xs, smallX x) (hcap : m ≤ cap ∧ cap ≤ 9223372036854775807) :
    Calls Tryz.prog 229 #[.slice ao m cap] w fun e w' => e = .returned (.bool (soundXs xs)) ∧ Below w.heap.size w w' := by
  have hm := hX.2.1
  have HS : Hid (soundXs xs = soundFrom [] 0 0 xs) := Lib.hid (by unfold soundXs; rw [decide_eq_true (by rw [hX.1]; exact hX.2.1)]; rfl)
  have HL := Lib.hid hX
  have HSM := Lib.hid hs
  have HWL := Lib.hid hX.1
  clear hX hs
  have SC := st_cx
  go_enter Tryz.func229, Tryz.ntmps229
  go_wp2_with fail
  go_loopw [3, 4, 15] (fun ev bv iv wr => ∃ (i : Nat) (e b : Int), iv = .int .i64 (i : Int) ∧ ev = .int .i64 e ∧ bv = .int .i64 b ∧ i ≤ m ∧ (0 ≤ e ∧ e ≤ 600 ∧ 0 ≤ b ∧ b ≤ 600) ∧ Hid (Below w.heap.size w wr) ∧ Hid (∀ y ∈ xs.take i, runOk y.f y.c = true ∧ smallX y) ∧ Hid (soundXs xs = soundFrom (xs.take i) e b (xs.drop i))) (fun _ _ iv _ => m - (intOf iv).toNat)
  case atStart => exact ⟨0, 0, 0, rfl, rfl, rfl, Nat.zero_le _, by decide, Lib.hid (Below.refl _ _), Lib.hid (by simp), HS⟩
  case round =>
    obtain ⟨i, e, b, rfl, rfl, rfl, hi, heb, HB, HQ, HF⟩ := hrel
    by_cases hlt : i < m
    · obtain ⟨g, off, x, p, q, rfl, hx, hmem, c1, c2, f1, f2⟩ := HL.out.at hlt
      have d1 : wr.cell? ⟨g, off + i * 2, none⟩ = some (.int .i64 x.a) := cell_later HB.out c1
      have d2 : wr.cell? ⟨g, off + i * 2 + 1, none⟩ = some (.complex .f64 p q) := cell_later HB.out c2
      have i1 : (i : Int) < (m : Int) := by omega
      have i2 : (i : Int) ≤ (cap : Int) := by omega
      have hsx := HSM.out x hmem
      have cP := fun W => Parts_gen (.complex .f64 p q) x.f x.c W ⟨_, _, rfl, f1, f2⟩ hsx.2
      unfold partA partB partE at cP
      have HN : Hid (soundXs xs = (okX e b x && (!((xs.take i).any (meetsX x)) && soundFrom (xs.take (i + 1)) (x.a + x.c) (x.f + x.c) (xs.drop (i + 1))))) := Lib.hid (by rw [HF.out, soundFrom_at hx])
      have HXT : Hid (XIs w (some ⟨g, off, none⟩) i (xs.take i)) := Lib.hid (HL.out.take (Nat.le_of_lt hlt))
      have HT1 := Lib.hid (take_at hx)
      have B1 : Hid (Below w.heap.size w (wr.alloc (.cells #[.int .i64 x.a, .complex .f64 p q] 157))) := Lib.hid (HB.out.alloc HB.out.size _)
      obtain ⟨⟨ha0, ha1⟩, hf0, hf1, hc0, hc1⟩ := hsx
      have HF12 := Lib.hid (And.intro f1 f2)
      obtain ⟨a, f, c⟩ := x
      simp only at *
      clear hx c1 c2 f1 f2
      by_cases hok : runOk f c = true
      · rw [if_pos hok, if_pos hok, if_pos hok] at cP
        by_cases hf : 59 ≤ f
        · have hf' : ¬ f < 59 := by omega
          have hw96 : IntKind.i64.wrap (96 - c) = 96 - c := by rw [IntKind.wrap_i64]; omega
          by_cases hin : inN a e (96 - c) = true
          · have HIN := Lib.hid hin
            have hin' : e ≤ a ∧ a ≤ 96 - c := of_decide_eq_true hin
            have HOK := Lib.hid hok
            have HN0 : Hid (Below wr.heap.size wr (wr.alloc (.cells #[.int .i64 a, .complex .f64 p q] 157)).drew) := Lib.hid ((Below.refl _ _).alloc (Nat.le_refl _) _).drew
            have HK : Hid (∀ W, Below (wr.alloc (.cells #[.int .i64 a, .complex .f64 p q] 157)).drew.heap.size (wr.alloc (.cells #[.int .i64 a, .complex .f64 p q] 157)).drew W → W.cell? ⟨wr.heap.size, 0, none⟩ = some (.int .i64 a) ∧ W.cell? ⟨wr.heap.size, 1, none⟩ = some (.complex .f64 p q) ∧ Hid (Below wr.heap.size wr W)) := Lib.hid (fun W hW =>
              ⟨cell_later hW (show (wr.alloc (.cells #[.int .i64 a, .complex .f64 p q] 157)).cell? ⟨wr.heap.size, 0, none⟩ = _ by rw [World.cell?_alloc_new]; rfl), cell_later hW (show (wr.alloc (.cells #[.int .i64 a, .complex .f64 p q] 157)).cell? ⟨wr.heap.size, 1, none⟩ = _ by rw [World.cell?_alloc_new]; rfl), Lib.hid (HN0.out.trans (hW.mono HN0.out.size))⟩)
            have HM : Hid (∀ W, Below wr.heap.size wr W → Calls Tryz.prog 264 #[.agg #[.int .i64 a, .complex .f64 p q], .slice (some ⟨g, off, none⟩) i cap] W (fun e' w' => e' = .returned (.bool ((xs.take i).any (meetsX ⟨a, f, c⟩))) ∧ Below W.heap.size W w')) := Lib.hid (fun W hW =>
              meets_any (cap := cap) ((HXT.out.later HB.out).later hW) ⟨a, f, c⟩ p q HOK.out ⟨⟨ha0, ha1⟩, hf0, hf1, hc0, hc1⟩ HF12.out.1 HF12.out.2 HQ.out)
            have HA : Hid (¬ (a = e ∧ f = b) → soundXs xs = (!((xs.take i).any (meetsX ⟨a, f, c⟩)) && soundFrom (xs.take (i + 1)) (a + c) (f + c) (xs.drop (i + 1)))) := Lib.hid (fun h => by
              rw [HN.out]
              unfold okX
              simp only
              rw [HOK.out, decide_eq_true hf, decide_eq_true hin', decide_eq_false h]
              rfl)
            have HQ1 : Hid (∀ y ∈ xs.take (i + 1), runOk y.f y.c = true ∧ smallX y) := Lib.hid (fun y hy => by
              rw [HT1.out] at hy
              rcases List.mem_append.1 hy with hy | hy
              · exact HQ.out y hy
              · rw [List.mem_singleton] at hy
                subst hy
                exact ⟨HOK.out, ⟨ha0, ha1⟩, hf0, hf1, hc0, hc1⟩)
            have hrun := runOk_true hok
            have hz1 : IntKind.i64.wrap (a + c) = a + c := by rw [IntKind.wrap_i64]; omega
            have hz2 : IntKind.i64.wrap (f + c) = f + c := by rw [IntKind.wrap_i64]; omega
            by_cases hab : a = e ∧ f = b
            · have HA2 : Hid (soundXs xs = false) := Lib.hid (by
                rw [HN.out]
                unfold okX
                simp only
                rw [decide_eq_true hab]
                simp)
              obtain ⟨g1, g2⟩ := hab
              have e1 : (a == e) = true := by simp [g1]
              have e2 : (f == b) = true := by simp [g2]
              have e3 : decide (a = e) = true := by simp [g1]
              have e4 : decide (f = b) = true := by simp [g2]
              clear g1 g2 hin hok
              go_wp2_with (first
                | (go_at_call 92; refine (cP _).mono ?_; rintro e' w3 ⟨rfl, rfl⟩)
                | (go_at_call 182; refine (within9_any _ _ _ _).mono ?_; rintro e' w3 ⟨rfl, rfl⟩; rw [HIN.out]))
              go_quiet (fail)
              go_wp2_with fail
              go_ret
              exact ⟨by rw [HA2.out]; rfl, below_drewN B1.out _⟩
            · have HA2 := Lib.hid (HA.out hab)
              generalize (xs.take i).any (meetsX ⟨a, f, c⟩) = t at *
              by_cases hae : a = e
              · have hfb : ¬ f = b := fun h => hab ⟨hae, h⟩
                have e1 : (a == e) = true := by simp [hae]
                have e2 : (f == b) = false := by simp [hfb]
                have e3 : decide (a = e) = true := by simp [hae]
                have e4 : decide (f = b) = false := by simp [hfb]
                clear hae hfb hab hin hok
                go_wp2_with (first
                  | (go_at_call 92; refine (cP _).mono ?_; rintro e' w3 ⟨rfl, rfl⟩)
                  | (go_at_call 182; refine (within9_any _ _ _ _).mono ?_; rintro e' w3 ⟨rfl, rfl⟩; rw [HIN.out]))
                go_region_held (fun W => W.cell? ⟨wr.heap.size, 0, none⟩ = some (.int .i64 a) ∧ W.cell? ⟨wr.heap.size, 1, none⟩ = some (.complex .f64 p q) ∧ Hid (Below wr.heap.size wr W)) (first | exact HK.out _ (Below.refl _ _) | exact HK.out _ B5.out)
                  (first | (go_at_call 264; refine (HM.out _ HN0.out).mono ?_; rintro e' w5 ⟨rfl, hb5⟩; have B5 := Lib.hid hb5; clear hb5))
                all_goals
                  cases t with
                  | true =>
                    have HT : Hid (soundXs xs = false) := Lib.hid (by rw [HA2.out]; rfl)
                    go_wp2_with fail
                    go_ret
                    exact ⟨by rw [HT.out]; rfl, HB.out.trans ((HN0.out.trans (B5.out.mono HN0.out.size)).mono HB.out.size)⟩
                  | false =>
                    have HT : Hid (soundXs xs = soundFrom (xs.take (i + 1)) (a + c) (f + c) (xs.drop (i + 1))) := Lib.hid (by rw [HA2.out]; rfl)
                    have k0 := (HK.out _ B5.out).1
                    go_wp2_with fail
                    go_roundw
                    case rel => exact ⟨i + 1, a + c, f + c, by go_num, rfl, rfl, by omega, by omega, Lib.hid (HB.out.trans ((HN0.out.trans (B5.out.mono HN0.out.size)).mono HB.out.size)), HQ1, HT⟩
                    case measure => simp [intOf]; omega
              · have e1 : (a == e) = false := by simp [hae]
                have e3 : decide (a = e) = false := by simp [hae]
                clear hae hab hin hok
                go_wp2_with (first
                  | (go_at_call 92; refine (cP _).mono ?_; rintro e' w3 ⟨rfl, rfl⟩)
                  | (go_at_call 182; refine (within9_any _ _ _ _).mono ?_; rintro e' w3 ⟨rfl, rfl⟩; rw [HIN.out]))
                refine wp_region_any (by kernel_rfl) ?_
                try (change wpAny _ _ _ _ _ _ _ (World.drew _))
                refine wpAny_take (i := 0) (oi := ⟨some 42, _, _, _, _, _⟩) (v := ?_) rfl (by kernel_rfl) (by kernel_rfl) (by kernel_rfl) (fun _ _ _ h => h) (Or.inl ⟨by kernel_rfl, ?_⟩) ?_
                rotate_left 1
                · (intro w; go_simp); try (with_reducible rfl)
                refine wpAny_take (i := 2) (oi := ⟨some 44, _, _, _, _, _⟩) (v := ?_) rfl (by kernel_rfl) (by kernel_rfl) (by kernel_rfl) (fun _ _ _ h => h) (Or.inl ⟨by kernel_rfl, ?_⟩) ?_
                rotate_left 1
                · (intro w; go_simp); try (with_reducible rfl)
                refine wpAny_ready (rs := [1]) (by kernel_rfl) (by simp) ?_
                refine AllReady.cons (o := ⟨some 43, _, _, _, _, _⟩) rfl (fun K hK => ?_) AllReady.nil
                go_simp
                refine hK _ _ ?_
                clear hK K
                refine wpAny_take (i := 3) (oi := ⟨some 45, _, _, _, _, _⟩) (v := ?_) rfl (by kernel_rfl) (by kernel_rfl) (by kernel_rfl) (fun _ _ _ h => h) (Or.inl ⟨by kernel_rfl, ?_⟩) ?_
                rotate_left 1
                · (intro w; go_simp); try (with_reducible rfl)
                refine wpAny_take (i := 4) (oi := ⟨some 46, _, _, _, _, _⟩) (v := ?_) rfl (by kernel_rfl) (by kernel_rfl) (by kernel_rfl) (fun _ _ _ h => h) (Or.inl ⟨by kernel_rfl, ?_⟩) ?_
                rotate_left 1
                · (intro w; go_simp); try (with_reducible rfl)
                refine wpAny_take (i := 5) (oi := ⟨some 47, _, _, _, _, _⟩) (v := undef) rfl (by kernel_rfl) (by kernel_rfl) (by kernel_rfl) (fun _ _ _ h => h) (Or.inr ⟨by kernel_rfl, rfl⟩) ?_
                refine wpAny_take (i := 6) (oi := ⟨some 48, _, _, _, _, _⟩) (v := undef) rfl (by kernel_rfl) (by kernel_rfl) (by kernel_rfl) (fun _ _ _ h => h) (Or.inr ⟨by kernel_rfl, rfl⟩) ?_
                refine wpAny_take (i := 7) (oi := ⟨some 49, _, _, _, _, _⟩) (v := undef) rfl (by kernel_rfl) (by kernel_rfl) (by kernel_rfl) (fun _ _ _ h => h) (Or.inr ⟨by kernel_rfl, rfl⟩) ?_
                refine wpAny_take (i := 8) (oi := ⟨some 50, _, _, _, _, _⟩) (v := ?_) rfl (by kernel_rfl) (by kernel_rfl) (by kernel_rfl) (fun _ _ _ h => h) (Or.inl ⟨by kernel_rfl, ?_⟩) ?_
                rotate_left 1
                · (intro w; go_simp); try (with_reducible rfl)
                refine wpAny_take (i := 9) (oi := ⟨some 51, _, _, _, _, _⟩) (v := ?_) rfl (by kernel_rfl) (by kernel_rfl) (by kernel_rfl) (fun _ _ _ h => h) (Or.inl ⟨by kernel_rfl, ?_⟩) ?_
                rotate_left 1
                · (intro w; go_simp); try (with_reducible rfl)
                refine wpAny_take (i := 11) (oi := ⟨some 53, _, _, _, _, _⟩) (v := ?_) rfl (by kernel_rfl) (by kernel_rfl) (by kernel_rfl) (fun _ _ _ h => h) (Or.inl ⟨by kernel_rfl, ?_⟩) ?_
                rotate_left 1
                · (intro w; go_simp); try (with_reducible rfl)
                refine wpAny_take (i := 12) (oi := ⟨some 54, _, _, _, _, _⟩) (v := ?_) rfl (by kernel_rfl) (by kernel_rfl) (by kernel_rfl) (fun _ _ _ h => h) (Or.inl ⟨by kernel_rfl, ?_⟩) ?_
                rotate_left 1
                · (intro w; go_simp); try (with_reducible rfl)
                refine wpAny_take (i := 13) (oi := ⟨some 55, _, _, _, _, _⟩) (v := ?_) rfl (by kernel_rfl) (by kernel_rfl) (by kernel_rfl) (fun _ _ _ h => h) (Or.inl ⟨by kernel_rfl, ?_⟩) ?_
                rotate_left 1
                · (intro w; go_simp); try (with_reducible rfl)
                refine wpAny_ready (rs := [10]) (by kernel_rfl) (by simp) ?_
                refine AllReady.cons (o := ⟨some 52, _, _, _, _, _⟩) rfl (fun K hK => ?_) AllReady.nil
                go_simp
                refine hK _ _ ?_
                clear hK K
                refine wpAny_ready (rs := [14]) (by kernel_rfl) (by simp) ?_
                refine AllReady.cons (o := ⟨some 56, _, _, _, _, _⟩) rfl (fun K hK => ?_) AllReady.nil
                go_simp
                go_wp2_with (first | (go_at_call 264; refine (HM.out _ HN0.out).mono ?_; rintro e' w5 ⟨rfl, hb5⟩; have B5 := Lib.hid hb5; clear hb5))
                refine wpAny_take (i := 15) (oi := ⟨some 57, _, _, _, _, _⟩) (v := ?_) rfl (by kernel_rfl) (by kernel_rfl) (by kernel_rfl) (fun _ _ _ h => h) (Or.inl ⟨by kernel_rfl, ?_⟩) ?_
                rotate_left 1
                · (intro w; go_simp); try (with_reducible rfl)
                refine wpAny_done (by kernel_rfl) ?_ _
                go_simp
                all_goals
                  cases t with
                  | true =>
                    have HT : Hid (soundXs xs = false) := Lib.hid (by rw [HA2.out]; rfl)
                    go_wp2_with fail
                    go_ret
                    exact ⟨by rw [HT.out]; rfl, HB.out.trans ((HN0.out.trans (B5.out.mono HN0.out.size)).mono HB.out.size)⟩
                  | false =>
                    have HT : Hid (soundXs xs = soundFrom (xs.take (i + 1)) (a + c) (f + c) (xs.drop (i + 1))) := Lib.hid (by rw [HA2.out]; rfl)
                    have k0 := (HK.out _ B5.out).1
                    go_wp2_with fail
                    go_roundw
                    case rel => exact ⟨i + 1, a + c, f + c, by go_num, rfl, rfl, by omega, by omega, Lib.hid (HB.out.trans ((HN0.out.trans (B5.out.mono HN0.out.size)).mono HB.out.size)), HQ1, HT⟩
                    case measure => simp [intOf]; omega
          · rw [Bool.not_eq_true] at hin
            have HIN := Lib.hid hin
            have HA : Hid (soundXs xs = false) := Lib.hid (by rw [HN.out, okX_parts]; simp only; rw [hin]; simp)
            clear hin
            go_wp2_with (first
              | (go_at_call 92; refine (cP _).mono ?_; rintro e' w3 ⟨rfl, rfl⟩)
              | (go_at_call 182; refine (within9_any _ _ _ _).mono ?_; rintro e' w3 ⟨rfl, rfl⟩; rw [HIN.out]))
            go_ret
            exact ⟨by rw [HA.out]; rfl, B1.out⟩
        · have hf' : f < 59 := by omega
          have HA : Hid (soundXs xs = false) := Lib.hid (by rw [HN.out, okX_parts]; simp only; rw [decide_eq_false hf]; simp)
          go_wp2_with (go_at_call 92; refine (cP _).mono ?_; rintro e' w3 ⟨rfl, rfl⟩)
          go_ret
          exact ⟨by rw [HA.out]; rfl, B1.out⟩
      · rw [if_neg hok, if_neg hok, if_neg hok] at cP
        rw [Bool.not_eq_true] at hok
        have HA : Hid (soundXs xs = false) := Lib.hid (by rw [HN.out, okX_parts]; simp only; rw [hok]; simp)
        clear hok
        go_wp2_with (go_at_call 92; refine (cP _).mono ?_; rintro e' w3 ⟨rfl, rfl⟩)
        go_ret
        exact ⟨by rw [HA.out]; rfl, B1.out⟩
    · have hin : i = m := by omega
      subst hin
      have HA : Hid (soundXs xs = true) := Lib.hid (by rw [HF.out, ← HWL.out, List.drop_length]; rfl)
      go_wp2_with fail
      go_ret
      exact ⟨by rw [HA.out]; rfl, HB.out⟩

end Go.Proofs.YthklefelkdhblaaGreatDoor


namespace Go.Proofs.YthklefelkdhblaaGreatDoor
open Go.RowKit

theorem eqD_any : ∀ (a b c d e f g h : Int) (w : World), (Op.equalIn 10000 46 (.agg #[.int .i64 a, .int .i64 b, .int .i64 c, .int .i64 d]) (.agg #[.int .i64 e, .int .i64 f, .int .i64 g, .int .i64 h])).run Tryz.prog w = .ok (a == e && (b == f && (c == g && d == h))) w := by
  intro a b c d e f g h w
  have u3 := Tryz.underlying3
  have a3 := Tryz.isAgg3
  have z3 := Tryz.sizeOf3
  rw [show (10000 : Nat) = 9999 + 1 from rfl, Op.equalIn]
  simp only [Sem.run_bind, run_underlying Tryz.underlying46, Result.andThen_ok]
  simp only [Std.Legacy.Range.forIn_eq_forIn_range', Std.Legacy.Range.size, Nat.sub_zero, Nat.add_sub_cancel, Nat.div_one, List.range'_succ, List.range'_zero, List.forIn_cons, List.forIn_nil]
  go_simp
  by_cases h1 : a = e <;> by_cases h2 : b = f <;> by_cases h3 : c = g <;> by_cases h4 : d = h <;> simp [h1, h2, h3, h4]

theorem eqS_any : ∀ (a b c e f g : Int) (w : World), (Op.equalIn 10000 242 (.agg #[.int .i64 a, .int .i64 b, .int .i64 c]) (.agg #[.int .i64 e, .int .i64 f, .int .i64 g])).run Tryz.prog w = .ok (a == e && (b == f && c == g)) w := by
  intro a b c e f g w
  have u3 := Tryz.underlying3
  have a3 := Tryz.isAgg3
  have z3 := Tryz.sizeOf3
  have hS : Tryz.prog.underlying 242 = some (.struct (Tryz.prog.fieldsOf 242)) := by kernel_rfl
  rw [show (10000 : Nat) = 9999 + 1 from rfl, run_equalIn_agg w 9999 242 _ _ hS (by kernel_rfl)]
  simp only [Program.fieldsOf, Tryz.underlying242]
  go_simp
  by_cases h1 : a = e <;> by_cases h2 : b = f <;> by_cases h3 : c = g <;> simp [h1, h2, h3]

end Go.Proofs.YthklefelkdhblaaGreatDoor


namespace Go.Proofs.YthklefelkdhblaaGreatDoor
open Go.RowKit
set_option linter.unusedVariables false
set_option linter.unusedSimpArgs false

/-- A list against none. -/
theorem slicesEq_nil {w : World} {ao : Option Addr} {m c1 : Nat} (hm : m ≤ 3) :
    Calls Tryz.prog 212 #[.slice ao m c1, .slice none 0 0] w fun e w' => e = .returned (.bool (decide (m = 0))) ∧ w = w' := by
  by_cases h : m = 0
  · subst h
    go_enter Tryz.func212, Tryz.ntmps212
    go_wp2_with fail
    go_loopw [13] (fun iv wr => iv = .int .i64 0 ∧ w = wr) (fun iv _ => 0)
    case atStart => exact ⟨rfl, rfl⟩
    case round =>
      obtain ⟨rfl, rfl⟩ := hrel
      go_wp2_with fail
      go_ret
      exact ⟨rfl, rfl⟩
  · rw [decide_eq_false h]
    have h1 : ((m : Int) != 0) = true := by simp; omega
    go_enter Tryz.func212, Tryz.ntmps212
    go_wp2_with fail
    go_ret
    exact ⟨rfl, rfl⟩

end Go.Proofs.YthklefelkdhblaaGreatDoor

