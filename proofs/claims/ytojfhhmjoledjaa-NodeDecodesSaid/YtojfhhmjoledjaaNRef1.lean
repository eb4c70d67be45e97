/-
  Proved here: what the document's own Parts of runs (drydockref01: part, Of; drydockref02: Parts) and tests of blocks (drydockref09: Data, all) answer of small numbers.
  The conditions stand at each theorem.
-/
import Derived.Test.YtojfhhmjoledjaaNEq
import Derived.Laws.ResultCell
import Derived.Deep.QuietTactic
import Derived.BigQuiet
import Derived.WalkSmall
namespace Go.Proofs.Ytojfhhmjoledjaa
open Go.RowKit
set_option linter.unusedVariables false
set_option linter.unusedSimpArgs false

set_option maxHeartbeats 400000 in
theorem part01_any (x : Nat) (n : Int) (w : World) (h : FI x n) (h0 : 0 ≤ n ∧ n ≤ 65535) :
    Calls Try.prog 59 #[.float .f64 x] w fun e w' => e = .returned (.tuple #[.int .i64 n, .bool true]) ∧ w = w' := by
  have o1 := fi_ge h fi_neg20 (by omega)
  have o2 := fi_le h fi_20 (by omega)
  have hv := fi_toInt .i64 h (by show -9223372036854775808 ≤ n; omega) (by show n ≤ 9223372036854775807; omega)
  have o3 : ∀ w, (convert 54 3 (.float .f64 x)).run Try.prog w = .ok (.int .i64 n) w := fun w => run_convert_float_int w 54 3 .f64 .i64 x n (by rw [Try.underlying54]; rfl) Try.underlying3 hv
  have o4 := fi_eq (fi_ofInt n (by omega)) h rfl
  clear h hv
  go_enter Try.func59, Try.ntmps59
  go_wp2
  go_ret2
  exact ⟨rfl, rfl⟩

set_option maxHeartbeats 400000 in
theorem Of01_any (x y : Nat) (a b : Int) (w : World) (hx : FI x a) (hy : FI y b) (hs : smallR a b) :
    Calls Try.prog 53 #[.complex .f64 x y] w fun e w' => e = .returned (.tuple #[.agg #[.int .i64 a, .int .i64 b], .bool true]) ∧ Below w.heap.size w w' := by
  unfold smallR at hs
  have c1 := fun W => part01_any x a W hx (by omega)
  have c2 := fun W => part01_any y b W hy (by omega)
  have HB : Hid (Below w.heap.size w (w.alloc (.cells #[.int .i64 a, .int .i64 b] 96))) := Lib.hid ((Below.refl _ _).alloc (Nat.le_refl _) _)
  clear hx hy hs
  go_enter Try.func53, Try.ntmps53
  go_wp2_with (go_at_call 59; first | ((with_reducible refine (c1 _).mono ?_); rintro e w' ⟨rfl, rfl⟩) | ((with_reducible refine (c2 _).mono ?_); rintro e w' ⟨rfl, rfl⟩))
  refine bodyPost_ret (v := .tuple #[.agg #[.int .i64 a, .int .i64 b], .bool true]) ?_ rfl ⟨rfl, HB.out⟩
  rw [results_cell_tmp rfl]
  go_simp
  try rfl

set_option maxRecDepth 100000 in
set_option maxHeartbeats 1600000 in
theorem Parts02_any (x y : Nat) (a b : Int) (w : World) (hx : FI x a) (hy : FI y b) (hs : smallR a b) :
    Calls Try.prog 39 #[.complex .f64 x y] w fun e w' => e = .returned (.tuple #[.int .i64 a, .int .i64 b, .bool (runOk a b)]) ∧ Below w.heap.size w w' := by
  have c := fun W => Of01_any x y a b W hx hy hs
  unfold smallR at hs
  have ha : 0 ≤ a := hs.1
  have hd0 : decide (0 ≤ a) = true := decide_eq_true ha
  have hw : IntKind.i64.wrap (a + b) = a + b := by rw [IntKind.wrap_i64]; omega
  by_cases h1 : 1 ≤ b
  · have hd1 : decide (1 ≤ b) = true := decide_eq_true h1
    by_cases h2 : a + b ≤ 480
    · have hd2 : decide (a + b ≤ 480) = true := decide_eq_true h2
      have HV : Hid (runOk a b = true) := Lib.hid (decide_eq_true ⟨ha, h1, h2⟩)
      clear hx hy hs
      go_enter Try.func39, Try.ntmps39
      go_wp2_with (go_at_call 53; refine (c _).mono ?_; rintro e w2 ⟨rfl, hb⟩; have B2 := Lib.hid (hb.alloc hb.size (.cells #[.int .i64 a, .int .i64 b] 96)); clear hb)
      go_quiet (fail)
      go_wp2_with fail
      go_ret3
      exact ⟨by rw [HV.out]; rfl, below_drewN B2.out _⟩
    · have hd2 : decide (a + b ≤ 480) = false := decide_eq_false h2
      have HV : Hid (runOk a b = false) := Lib.hid (decide_eq_false (fun h => h2 h.2.2))
      clear hx hy hs
      go_enter Try.func39, Try.ntmps39
      go_wp2_with (go_at_call 53; refine (c _).mono ?_; rintro e w2 ⟨rfl, hb⟩; have B2 := Lib.hid (hb.alloc hb.size (.cells #[.int .i64 a, .int .i64 b] 96)); clear hb)
      go_quiet (fail)
      go_wp2_with fail
      go_ret3
      exact ⟨by rw [HV.out]; rfl, below_drewN B2.out _⟩
  · have hd1 : decide (1 ≤ b) = false := decide_eq_false h1
    have HV : Hid (runOk a b = false) := Lib.hid (decide_eq_false (fun h => h1 h.2.1))
    clear hx hy hs
    go_enter Try.func39, Try.ntmps39
    go_wp2_with (go_at_call 53; refine (c _).mono ?_; rintro e w2 ⟨rfl, hb⟩; have B2 := Lib.hid (hb.alloc hb.size (.cells #[.int .i64 a, .int .i64 b] 96)); clear hb)
    go_quiet (fail)
    go_wp2_with fail
    go_ret3
    exact ⟨by rw [HV.out]; rfl, below_drewN B2.out _⟩

/-- Is it a data block? -/
def dataB (p : Int) : Bool := decide (59 ≤ p ∧ p < 480)

theorem Data09_any (p : Int) (w : World) : Calls Try.prog 37 #[.int .i64 p] w fun e w' => e = .returned (.bool (dataB p)) ∧ w = w' := by
  by_cases h1 : 59 ≤ p
  · by_cases h2 : p < 480
    · have HE : Hid (dataB p = true) := Lib.hid (decide_eq_true ⟨h1, h2⟩)
      go_enter Try.func37, Try.ntmps37
      go_wp2
      go_ret
      exact ⟨by rw [HE.out]; rfl, rfl⟩
    · have HE : Hid (dataB p = false) := Lib.hid (decide_eq_false (fun h => h2 h.2))
      go_enter Try.func37, Try.ntmps37
      go_wp2
      go_ret
      exact ⟨by rw [HE.out]; rfl, rfl⟩
  · have HE : Hid (dataB p = false) := Lib.hid (decide_eq_false (fun h => h1 h.1))
    go_enter Try.func37, Try.ntmps37
    go_wp2
    go_ret
    exact ⟨by rw [HE.out]; rfl, rfl⟩

/-- Six numbers in memory. -/
def Six (w : World) (g : Nat) (l : List Int) : Prop := l.length = 6 ∧ ∀ j x, l[j]? = some x → w.cell? ⟨g, j, none⟩ = some (.int .i64 x)
theorem Six.later {w w' : World} {g : Nat} {l : List Int} (h : Six w g l) (hb : Below w.heap.size w w') : Six w' g l := ⟨h.1, fun j x hj => cell_later hb (h.2 j x hj)⟩

set_option maxHeartbeats 800000 in
theorem all09_any (n : PNode) (v : Value) (hv : v.oneCell' = true) (w : World) (hsl : ∃ ao m cap, v = .slice ao m cap) : Calls Try.prog 25 #[n.val v] w fun e w' => ∃ g, e = .returned (.slice (some ⟨g, 0, none⟩) (6 : Nat) (6 : Nat)) ∧ Six w' g n.ptrs ∧ Below w.heap.size w w' := by
  obtain ⟨k, f, l, z, d0, d1, d2, d3, s, t, x, c⟩ := n
  obtain ⟨ao, m, cap, rfl⟩ := hsl
  unfold PNode.val PNode.ptrs
  simp only
  have HB : Hid (Below w.heap.size w (w.alloc (.cells #[.int .i64 k, .int .i64 f, .int .i64 l, .int .i64 z, .int .i64 d0, .int .i64 d1, .int .i64 d2, .int .i64 d3, .int .i64 s, .int .i64 t, .slice ao m cap, .int .i64 c] 26))) := Lib.hid ((Below.refl _ _).alloc (Nat.le_refl _) _)
  go_enter Try.func25, Try.ntmps25
  go_wp2_with fail
  go_ret
  refine ⟨w.heap.size + 1, rfl, ⟨rfl, fun j u hj => ?_⟩, HB.out.alloc HB.out.size _⟩
  rw [← World.size_alloc w (.cells #[.int .i64 k, .int .i64 f, .int .i64 l, .int .i64 z, .int .i64 d0, .int .i64 d1, .int .i64 d2, .int .i64 d3, .int .i64 s, .int .i64 t, .slice ao m cap, .int .i64 c] 26), World.cell?_alloc_new]
  match j, hj with
  | 0, h | 1, h | 2, h | 3, h | 4, h | 5, h => cases h; rfl
  | j + 6, h => cases h

end Go.Proofs.Ytojfhhmjoledjaa
