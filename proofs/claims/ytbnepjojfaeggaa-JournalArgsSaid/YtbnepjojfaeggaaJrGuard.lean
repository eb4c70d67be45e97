/-
  Proved here: what the landed journal's guard answers, whatever work it does.
  The conditions stand at each theorem.
-/
import Derived.Test.YtbnepjojfaeggaaJrApp
import Derived.Defers
namespace Go.Proofs.Ytbnepjojfaeggaa
open Go.RowKit
set_option linter.unusedVariables false
set_option linter.unusedSimpArgs false

/-- The deferred closure: it keeps whether the power is gone. -/
theorem guard1_any (p4 p2 q : Nat) (E : Int) (u : FrameMode) (w : World) (h2 : w.cell? ⟨p2, 0, none⟩ = some (.pointer (some ⟨q, 0, none⟩))) (h4 : w.cell? ⟨p4, 0, none⟩ = some (.int .i64 E)) (b : Bool) (hq : w.cell? ⟨q, 3, none⟩ = some (.bool b)) (hf : w.frozen? ⟨q, 3, none⟩ = false) :
    CallsD Try.prog 47 #[.pointer (some ⟨p4, 0, none⟩), .pointer (some ⟨p2, 0, none⟩)] u w fun e u' w' => u' = u ∧ (e = .returned (.tuple #[]) ∧ w' = w.setCell ⟨q, 3, none⟩ (.bool (decide (E = 8)))) := by
  go_enter_d Try.func47, Try.ntmps47
  go_wp2_with fail
  go_end0
  exact ⟨rfl, rfl⟩

set_option maxRecDepth 100000 in
set_option maxHeartbeats 1600000 in
theorem guard_any {w : World} {q f : Nat} {caps : Array Value} {a : Addr} {at_ seq : Int} {E : Int} {R : World → World → Prop}
    (hv : V4 w q (.pointer (some a)) (.int .i64 at_) (.int .i64 seq) (.bool false))
    (hcf : ∀ W : World, (callFunc f caps).run Try.prog W = .ok (.enter f caps) W)
    (hwork : ∀ W, Below w.heap.size w W → Calls Try.prog f caps W fun e w' => e = .returned (.int .i64 E) ∧ R W w')
    (hR : ∀ W w', Below w.heap.size w W → R W w' → (∀ k, w.heap.size ≤ k → k < W.heap.size → w'.heap[k]? = W.heap[k]?) ∧ W.heap.size ≤ w'.heap.size ∧ ∃ b, w'.cell? ⟨q, 3, none⟩ = some (.bool b) ∧ w'.frozen? ⟨q, 3, none⟩ = false) :
    Calls Try.prog 27 #[.pointer (some ⟨q, 0, none⟩), .func (.func f) #[] caps] w fun e w' => e = .returned (.int .i64 E) ∧ ∃ W w2, Below w.heap.size w W ∧ W.heap.size = w.heap.size + 2 ∧ R W w2 ∧ w' = (w2.setCell ⟨w.heap.size + 1, 0, none⟩ (.int .i64 E)).setCell ⟨q, 3, none⟩ (.bool (decide (E = 8))) := by
  have hmf : ∀ (fn : Fn) (first cap : Array Value) (w : World), (Instr.makeFunc fn first cap).run Try.prog w = .ok (.func fn first cap) w := fun _ _ _ _ => rfl
  have HV := Lib.hid hv
  have HW := Lib.hid hwork
  have HR := Lib.hid hR
  obtain ⟨V1, hV1⟩ : ∃ V1, w.alloc (.cells #[.pointer (some ⟨q, 0, none⟩)] 33) = V1 := ⟨_, rfl⟩
  obtain ⟨W1, hW1⟩ : ∃ W1, V1.alloc (.cells #[.int .i64 0] 31) = W1 := ⟨_, rfl⟩
  have bV : Below w.heap.size w V1 := by rw [← hV1]; exact (Below.refl _ _).alloc (Nat.le_refl _) _
  have bW : Below V1.heap.size V1 W1 := by rw [← hW1]; exact (Below.refl _ _).alloc (Nat.le_refl _) _
  have b1 : Below w.heap.size w W1 := bV.trans (bW.mono bV.size)
  have hs1 : V1.heap.size = w.heap.size + 1 := by rw [← hV1]; simp
  have hs2 : W1.heap.size = w.heap.size + 2 := by rw [← hW1, World.size_alloc, hs1]
  have x2 : W1.cell? ⟨w.heap.size, 0, none⟩ = some (.pointer (some ⟨q, 0, none⟩)) := cell_later bW (by rw [← hV1, World.cell?_alloc_new]; rfl)
  have x4 : W1.cell? ⟨w.heap.size + 1, 0, none⟩ = some (.int .i64 0) := by rw [← hs1, ← hW1, World.cell?_alloc_new]; rfl
  have y4 : W1.frozen? ⟨w.heap.size + 1, 0, none⟩ = false := by rw [← hs1, ← hW1, World.frozen?_alloc_mark]; simp
  have hv1 := hv.later b1
  have z3 := hv1.2.2.2.1
  have HB1 := Lib.hid b1
  have HS := Lib.hid hs2
  have HX := Lib.hid (And.intro x2 (And.intro x4 y4))
  clear hv hwork hR bV bW b1 hs2 hv1
  go_enter_defers Try.func27, Try.ntmps27
  go_wp2_with (refine (HW.out W1 HB1.out).mono ?_; rintro e w2 ⟨rfl, hr2⟩; have HR2 := Lib.hid hr2; obtain ⟨hk2, hs3, b, hb, hf⟩ := HR.out W1 w2 HB1.out hr2; have HK2 := Lib.hid (And.intro hk2 hs3); have HQ2 := Lib.hid (And.intro hb hf); have k4 : w2.cell? ⟨w.heap.size + 1, 0, none⟩ = some (.int .i64 0) := (by rw [cell_of_heap (p := ⟨w.heap.size + 1, 0, none⟩) (hk2 (w.heap.size + 1) (by omega) (by rw [HS.out]; omega))]; exact HX.out.2.1); have k5 : w2.frozen? ⟨w.heap.size + 1, 0, none⟩ = false := (by rw [World.frozen?_of_block (w := W1) (a := ⟨w.heap.size + 1, 0, none⟩) (hk2 (w.heap.size + 1) (by omega) (by rw [HS.out]; omega))]; exact HX.out.2.2); clear hr2 hk2 hs3 hb hf)
  obtain ⟨hk2, hs3⟩ := HK2.out
  have c2 : w2.cell? ⟨w.heap.size, 0, none⟩ = some (.pointer (some ⟨q, 0, none⟩)) := by
    rw [cell_of_heap (p := ⟨w.heap.size, 0, none⟩) (hk2 w.heap.size (Nat.le_refl _) (by rw [HS.out]; omega))]; exact HX.out.1
  have hql := HV.out.lt
  have d2 : (w2.setCell ⟨w.heap.size + 1, 0, none⟩ (.int .i64 E)).cell? ⟨w.heap.size, 0, none⟩ = some (.pointer (some ⟨q, 0, none⟩)) := by
    rw [World.cell?_setCell_other (h := by intro e; injection e with e1 _; omega)]; exact c2
  have d4 : (w2.setCell ⟨w.heap.size + 1, 0, none⟩ (.int .i64 E)).cell? ⟨w.heap.size + 1, 0, none⟩ = some (.int .i64 E) := World.cell?_setCell_same w2 _ _ k4
  have dq : (w2.setCell ⟨w.heap.size + 1, 0, none⟩ (.int .i64 E)).cell? ⟨q, 3, none⟩ = some (.bool b) := by
    rw [World.cell?_setCell_other (h := by intro e; injection e with e1 _; omega)]; exact HQ2.out.1
  have df : (w2.setCell ⟨w.heap.size + 1, 0, none⟩ (.int .i64 E)).frozen? ⟨q, 3, none⟩ = false := by simpa using HQ2.out.2
  refine leaves_cons (f := 47) (args := #[.pointer (some ⟨w.heap.size + 1, 0, none⟩), .pointer (some ⟨w.heap.size, 0, none⟩)]) (by simp) (by simp [go_sem]) ?_
  refine (guard1_any (w.heap.size + 1) w.heap.size q E .returning _ d2 d4 b dq df).mono ?_
  rintro e u' w'' ⟨rfl, rfl, rfl⟩
  have d5 : ((w2.setCell ⟨w.heap.size + 1, 0, none⟩ (.int .i64 E)).setCell ⟨q, 3, none⟩ (.bool (decide (E = 8)))).cell? ⟨w.heap.size + 1, 0, none⟩ = some (.int .i64 E) := by
    rw [World.cell?_setCell_other (h := by intro e; injection e with e1 _; omega)]; exact d4
  simp [Leaves, settle, results, Try.results27, go_sem]
  rw [d4]
  exact ⟨_, rfl, rfl, W1, HB1.out, HS.out, w2, HR2.out, rfl⟩

set_option maxRecDepth 100000 in
set_option maxHeartbeats 1600000 in
theorem guard_nil (w : World) (f : Nat) (caps : Array Value) : Calls Try.prog 27 #[.pointer none, .func (.func f) #[] caps] w fun e w' => e = .returned (.int .i64 1) ∧ Below w.heap.size w w' := by
  go_enter_defers Try.func27, Try.ntmps27
  go_wp2_with fail
  simp [bodyPostD, Leaves, settle, results, Try.results27, go_sem]
  exact ((Below.refl _ _).alloc (Nat.le_refl _) _).alloc (by simp) _

set_option maxRecDepth 100000 in
set_option maxHeartbeats 1600000 in
theorem guard_gone {w : World} {q : Nat} {a : Addr} {at_ seq : Int} (hv : V4 w q (.pointer (some a)) (.int .i64 at_) (.int .i64 seq) (.bool true)) (f : Nat) (caps : Array Value) : Calls Try.prog 27 #[.pointer (some ⟨q, 0, none⟩), .func (.func f) #[] caps] w fun e w' => e = .returned (.int .i64 8) ∧ Below w.heap.size w w' := by
  obtain ⟨V1, hV1⟩ : ∃ V1, w.alloc (.cells #[.pointer (some ⟨q, 0, none⟩)] 33) = V1 := ⟨_, rfl⟩
  obtain ⟨W1, hW1⟩ : ∃ W1, V1.alloc (.cells #[.int .i64 0] 31) = W1 := ⟨_, rfl⟩
  have bV : Below w.heap.size w V1 := by rw [← hV1]; exact (Below.refl _ _).alloc (Nat.le_refl _) _
  have bW : Below V1.heap.size V1 W1 := by rw [← hW1]; exact (Below.refl _ _).alloc (Nat.le_refl _) _
  have b1 : Below w.heap.size w W1 := bV.trans (bW.mono bV.size)
  have hs1 : V1.heap.size = w.heap.size + 1 := by rw [← hV1]; simp
  have x2 : W1.cell? ⟨w.heap.size, 0, none⟩ = some (.pointer (some ⟨q, 0, none⟩)) := cell_later bW (by rw [← hV1, World.cell?_alloc_new]; rfl)
  have x4 : W1.cell? ⟨w.heap.size + 1, 0, none⟩ = some (.int .i64 0) := by rw [← hs1, ← hW1, World.cell?_alloc_new]; rfl
  have y4 : W1.frozen? ⟨w.heap.size + 1, 0, none⟩ = false := by rw [← hs1, ← hW1, World.frozen?_alloc_mark]; simp
  have z3 := (hv.later b1).2.2.2.1
  have HB1 := Lib.hid b1
  clear bV bW b1
  go_enter_defers Try.func27, Try.ntmps27
  go_wp2_with fail
  have d4 : (W1.setCell ⟨w.heap.size + 1, 0, none⟩ (.int .i64 8)).cell? ⟨w.heap.size + 1, 0, none⟩ = some (.int .i64 8) := World.cell?_setCell_same W1 _ _ x4
  simp [bodyPostD, Leaves, settle, results, Try.results27, go_sem]
  rw [d4]
  exact ⟨_, rfl, rfl, HB1.out.setCell (p := ⟨w.heap.size + 1, 0, none⟩) (Nat.le_succ _) _⟩

end Go.Proofs.Ytbnepjojfaeggaa
