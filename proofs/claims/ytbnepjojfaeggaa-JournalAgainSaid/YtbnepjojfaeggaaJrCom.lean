/-
  Proved here: what the landed journal's Commit answers, whatever its commit answers.
  The conditions stand at each theorem.
-/
import Derived.Test.YtbnepjojfaeggaaJrGuard
import Derived.StillTailTactics
namespace Go.Proofs.Ytbnepjojfaeggaa
open Go.RowKit
set_option linter.unusedVariables false
set_option maxRecDepth 100000 in
theorem commit1_any {w : World} {q p0 p1 : Nat} {lo : Option Addr} {ll lc : Nat} {E : Int} {R : World → Prop}
    (c0 : w.cell? ⟨p0, 0, none⟩ = some (.pointer (some ⟨q, 0, none⟩))) (c1 : w.cell? ⟨p1, 0, none⟩ = some (.slice lo ll lc))
    (hc : Calls Try.prog 29 #[.pointer (some ⟨q, 0, none⟩), .slice lo ll lc] w fun e w' => e = .returned (.int .i64 E) ∧ R w') :
    Calls Try.prog 28 #[.pointer (some ⟨p0, 0, none⟩), .pointer (some ⟨p1, 0, none⟩)] w fun e w' => e = .returned (.int .i64 E) ∧ R w' := by
  go_enter Try.func28, Try.ntmps28
  go_wp2_with (go_at_call 29; refine hc.mono ?_; rintro e w1 ⟨rfl, hr⟩)
  go_ret
  exact ⟨rfl, hr⟩

set_option maxRecDepth 100000 in
set_option maxHeartbeats 1600000 in
theorem jcommit_of {w : World} {q : Nat} {a : Addr} {at_ seq : Int} {lo : Option Addr} {ll lc : Nat} {E : Int} {R : World → World → Prop}
    (hv : V4 w q (.pointer (some a)) (.int .i64 at_) (.int .i64 seq) (.bool false))
    (hc : ∀ W, Below w.heap.size w W → Calls Try.prog 29 #[.pointer (some ⟨q, 0, none⟩), .slice lo ll lc] W fun e w' => e = .returned (.int .i64 E) ∧ R W w')
    (hR : ∀ W w', Below w.heap.size w W → R W w' → (∀ k, w.heap.size ≤ k → k < W.heap.size → w'.heap[k]? = W.heap[k]?) ∧ W.heap.size ≤ w'.heap.size ∧ ∃ b, w'.cell? ⟨q, 3, none⟩ = some (.bool b) ∧ w'.frozen? ⟨q, 3, none⟩ = false) :
    Calls Try.prog 9 #[.pointer (some ⟨q, 0, none⟩), .slice lo ll lc] w fun e w' => e = .returned (.int .i64 E) ∧ ∃ W w2 c, Below w.heap.size w W ∧ R W w2 ∧ w.heap.size ≤ c ∧ c < W.heap.size ∧ w' = (w2.setCell ⟨c, 0, none⟩ (.int .i64 E)).setCell ⟨q, 3, none⟩ (.bool (decide (E = 8))) := by
  have hmf : ∀ (fn : Fn) (first cap : Array Value) (w : World), (Instr.makeFunc fn first cap).run Try.prog w = .ok (.func fn first cap) w := fun _ _ _ _ => rfl
  obtain ⟨V0, hV0⟩ : ∃ V0, w.alloc (.cells #[.pointer (some ⟨q, 0, none⟩)] 33) = V0 := ⟨_, rfl⟩
  obtain ⟨V1, hV1⟩ : ∃ V1, V0.alloc (.cells #[.slice lo ll lc] 27) = V1 := ⟨_, rfl⟩
  have b0 : Below w.heap.size w V0 := by rw [← hV0]; exact (Below.refl _ _).alloc (Nat.le_refl _) _
  have b1 : Below V0.heap.size V0 V1 := by rw [← hV1]; exact (Below.refl _ _).alloc (Nat.le_refl _) _
  have s0 : V0.heap.size = w.heap.size + 1 := by rw [← hV0]; simp
  have s1 : V1.heap.size = w.heap.size + 2 := by rw [← hV1, World.size_alloc, s0]
  have B1 : Below w.heap.size w V1 := b0.trans (b1.mono b0.size)
  have c1 : V1.cell? ⟨w.heap.size + 1, 0, none⟩ = some (.slice lo ll lc) := by rw [← s0, ← hV1, World.cell?_alloc_new]; rfl
  have c0 : V1.cell? ⟨w.heap.size, 0, none⟩ = some (.pointer (some ⟨q, 0, none⟩)) := cell_later b1 (by rw [← hV0, World.cell?_alloc_new]; rfl)
  have cG := guard_any (w := V1) (q := q) (f := 28) (caps := #[.pointer (some ⟨w.heap.size, 0, none⟩), .pointer (some ⟨w.heap.size + 1, 0, none⟩)]) (E := E) (R := R) (hv.later B1) (fun W => by kernel_rfl)
    (fun W hW => commit1_any (cell_later hW c0) (cell_later hW c1) (hc W (B1.trans (hW.mono B1.size))))
    (fun W w' hW hr => by
      obtain ⟨h1, h2, h3⟩ := hR W w' (B1.trans (hW.mono B1.size)) hr
      exact ⟨fun k hk => h1 k (Nat.le_trans B1.size hk), h2, h3⟩)
  have HG := Lib.hid cG
  have HB := Lib.hid B1
  have HS := Lib.hid s1
  clear cG B1 b0 b1 s1 hc hR hv c1
  rw [← s0] at HG
  clear s0
  go_enter Try.func9, Try.ntmps9
  go_wp2_with (go_at_call 27; refine HG.out.mono ?_; rintro e w1 ⟨rfl, hr⟩)
  go_ret
  obtain ⟨W, w2, hW, hWs, hr, rfl⟩ := hr
  exact ⟨rfl, W, w2, V1.heap.size + 1, HB.out.trans (hW.mono HB.out.size), hr, by have := HB.out.size; omega, by omega, rfl⟩

/-- Behind the power's end. -/
theorem jcommit_gone {w : World} {q : Nat} {a : Addr} {at_ seq : Int} (hv : V4 w q (.pointer (some a)) (.int .i64 at_) (.int .i64 seq) (.bool true)) (lo : Option Addr) (ll lc : Nat) :
    Calls Try.prog 9 #[.pointer (some ⟨q, 0, none⟩), .slice lo ll lc] w fun e w' => e = .returned (.int .i64 8) ∧ Below w.heap.size w w' := by
  have hmf : ∀ (fn : Fn) (first cap : Array Value) (w : World), (Instr.makeFunc fn first cap).run Try.prog w = .ok (.func fn first cap) w := fun _ _ _ _ => rfl
  obtain ⟨V0, hV0⟩ : ∃ V0, w.alloc (.cells #[.pointer (some ⟨q, 0, none⟩)] 33) = V0 := ⟨_, rfl⟩
  obtain ⟨V1, hV1⟩ : ∃ V1, V0.alloc (.cells #[.slice lo ll lc] 27) = V1 := ⟨_, rfl⟩
  have b0 : Below w.heap.size w V0 := by rw [← hV0]; exact (Below.refl _ _).alloc (Nat.le_refl _) _
  have b1 : Below V0.heap.size V0 V1 := by rw [← hV1]; exact (Below.refl _ _).alloc (Nat.le_refl _) _
  have B1 : Below w.heap.size w V1 := b0.trans (b1.mono b0.size)
  have c0 : V1.cell? ⟨w.heap.size, 0, none⟩ = some (.pointer (some ⟨q, 0, none⟩)) := cell_later b1 (by rw [← hV0, World.cell?_alloc_new]; rfl)
  have cG := guard_gone (hv.later B1)
  have HB := Lib.hid B1
  clear B1 b0 b1 hv
  go_enter Try.func9, Try.ntmps9
  go_wp2_with (go_at_call 27; refine (cG _ _).mono ?_; rintro e w1 ⟨rfl, hb⟩; have HB1 := Lib.hid (HB.out.trans (hb.mono HB.out.size)); clear hb)
  go_ret
  exact ⟨rfl, HB1.out⟩
end Go.Proofs.Ytbnepjojfaeggaa
