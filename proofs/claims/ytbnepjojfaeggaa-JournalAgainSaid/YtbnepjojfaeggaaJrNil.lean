/-
  Proved here: what the landed journal's calls answer of no journal and of no disk.
  The conditions stand at each theorem.
-/
import Derived.Test.YtbnepjojfaeggaaJrLooks
import Derived.Test.YtbnepjojfaeggaaJrFirst
import Derived.StillTailTactics
namespace Go.Proofs.Ytbnepjojfaeggaa
open Go.RowKit
set_option linter.unusedVariables false
set_option linter.unusedSimpArgs false

set_option maxRecDepth 100000 in
set_option maxHeartbeats 1600000 in
theorem look_nil (w : World) : Calls Try.prog 33 #[.pointer none] w fun e w' => e = .returned (.tuple #[.agg #[.slice none 0 0, .slice none 0 0, .int .i64 0, .int .i64 0], .int .i64 1]) ∧ Below w.heap.size w w' := by
  have hr := v4_new w (.slice none 0 0) (.slice none 0 0) (.int .i64 0) (.int .i64 0) 86
  obtain ⟨W0, hW0⟩ : ∃ W0, w.alloc (.cells #[.slice none 0 0, .slice none 0 0, .int .i64 0, .int .i64 0] 86) = W0 := ⟨_, rfl⟩
  rw [hW0] at hr
  have b0 : Below w.heap.size w W0 := by rw [← hW0]; exact (Below.refl _ _).alloc (Nat.le_refl _) _
  have HB := Lib.hid b0
  have HR := Lib.hid hr
  have cB := diskNil.blocks W0
  clear hr b0
  go_enter Try.func33, Try.ntmps33
  go_wp2_with (go_at_call 54; refine cB.mono ?_; rintro e w1 ⟨rfl, hb1⟩; have HB1 := Lib.hid hb1; obtain ⟨r0, r1, r2, r3, rf⟩ := HR.out.later hb1; have f0 := rf 0; have f1 := rf 1; have f2 := rf 2; have f3 := rf 3; clear rf hb1)
  refine bodyPost_ret (v := .tuple #[.agg #[.slice none 0 0, .slice none 0 0, .int .i64 0, .int .i64 0], .int .i64 1]) ?_ rfl ⟨rfl, below_four (HB.out.trans (HB1.out.mono HB.out.size)) (Nat.le_refl _) _ _ _ _⟩
  have hrs := ((((HR.out.later HB1.out).set0 (.slice none 0 0)).set1 (.slice none 0 0)).set2 (.int .i64 0)).set3 (.int .i64 0)
  clear r0 r1 r2 r3
  obtain ⟨r0, r1, r2, r3, _⟩ := hrs
  rw [results_cell_tmp rfl]
  go_simp
  try rfl

set_option maxRecDepth 100000 in
set_option maxHeartbeats 1600000 in
theorem looks_nil (w : World) : Calls Try.prog 21 #[.pointer none] w fun e w' => ∃ ao len cap, e = .returned (.tuple #[.slice ao len cap, .int .i64 1]) ∧ Below w.heap.size w w' := by
  have cL := look_nil w
  go_enter Try.func21, Try.ntmps21
  go_wp2_with (go_at_call 33; refine cL.mono ?_; rintro e w1 ⟨rfl, hb1⟩; have HB1 := Lib.hid hb1; clear hb1)
  have H1 : Hid (Below w.heap.size w (w1.alloc (.cells #[.slice none 0 0, .slice none 0 0, .int .i64 0, .int .i64 0] 86)) ∧ (w1.alloc (.cells #[.slice none 0 0, .slice none 0 0, .int .i64 0, .int .i64 0] 86)).cell? ⟨w1.heap.size, 0, none⟩ = some (.slice none 0 0)) := Lib.hid ⟨HB1.out.alloc HB1.out.size _, (v4_new _ _ _ _ _ _).1⟩
  obtain ⟨q, hq⟩ : ∃ q, w1.heap.size = q := ⟨_, rfl⟩
  rw [hq]
  rw [hq] at H1
  clear hq cL
  go_loopw [16] (fun iv wr => iv = .int .i64 0 ∧ Hid (Below w.heap.size w wr ∧ wr.cell? ⟨q, 0, none⟩ = some (.slice none 0 0))) (fun _ _ => 0)
  case atStart => exact ⟨rfl, H1⟩
  case round =>
    obtain ⟨rfl, HX⟩ := hrel
    have hv := HX.out.2
    go_wp2_with fail
    go_ret2
    exact ⟨none, 0, 0, rfl, HX.out.1⟩

set_option maxRecDepth 100000 in
set_option maxHeartbeats 1600000 in
theorem jread_nil (n : Int) (w : World) : Calls Try.prog 18 #[.pointer none, .int .i64 n] w fun e w' => ∃ v, e = .returned (.tuple #[v, .int .i64 1]) ∧ Fresh w' w.heap.size v [] ∧ Below w.heap.size w w' := by
  have hmf : ∀ (fn : Fn) (first cap : Array Value) (w : World), (Instr.makeFunc fn first cap).run Try.prog w = .ok (.func fn first cap) w := fun _ _ _ _ => rfl
  obtain ⟨V0, hV0⟩ : ∃ V0, w.alloc (.cells #[.pointer none] 33) = V0 := ⟨_, rfl⟩
  obtain ⟨V1, hV1⟩ : ∃ V1, V0.alloc (.cells #[.int .i64 n] 3) = V1 := ⟨_, rfl⟩
  obtain ⟨V2, hV2⟩ : ∃ V2, V1.alloc (.cells #[.slice none 0 0] 46) = V2 := ⟨_, rfl⟩
  obtain ⟨V3, hV3⟩ : ∃ V3, V2.alloc (.cells #[.int .i64 0] 31) = V3 := ⟨_, rfl⟩
  have b0 : Below w.heap.size w V0 := by rw [← hV0]; exact (Below.refl _ _).alloc (Nat.le_refl _) _
  have b1 : Below V0.heap.size V0 V1 := by rw [← hV1]; exact (Below.refl _ _).alloc (Nat.le_refl _) _
  have b2 : Below V1.heap.size V1 V2 := by rw [← hV2]; exact (Below.refl _ _).alloc (Nat.le_refl _) _
  have b3 : Below V2.heap.size V2 V3 := by rw [← hV3]; exact (Below.refl _ _).alloc (Nat.le_refl _) _
  have s0 : V0.heap.size = w.heap.size + 1 := by rw [← hV0]; simp
  have s1 : V1.heap.size = w.heap.size + 2 := by rw [← hV1, World.size_alloc, s0]
  have s2 : V2.heap.size = w.heap.size + 3 := by rw [← hV2, World.size_alloc, s1]
  have s3 : V3.heap.size = w.heap.size + 4 := by rw [← hV3, World.size_alloc, s2]
  have c3 : V3.cell? ⟨w.heap.size + 3, 0, none⟩ = some (.int .i64 0) := by rw [← s2, ← hV3, World.cell?_alloc_new]; rfl
  have f3 : V3.frozen? ⟨w.heap.size + 3, 0, none⟩ = false := by rw [← s2, ← hV3, World.frozen?_alloc_mark]; simp
  have c2 : V3.cell? ⟨w.heap.size + 2, 0, none⟩ = some (.slice none 0 0) := cell_later b3 (by rw [← s1, ← hV2, World.cell?_alloc_new]; rfl)
  have f2 : V3.frozen? ⟨w.heap.size + 2, 0, none⟩ = false := by rw [b3.frozen (p := ⟨w.heap.size + 2, 0, none⟩) (by show w.heap.size + 2 < _; omega), ← s1, ← hV2, World.frozen?_alloc_mark]; simp
  have c1 : V3.cell? ⟨w.heap.size + 1, 0, none⟩ = some (.int .i64 n) := cell_later b3 (cell_later b2 (by rw [← s0, ← hV1, World.cell?_alloc_new]; rfl))
  have c0 : V3.cell? ⟨w.heap.size, 0, none⟩ = some (.pointer none) := cell_later b3 (cell_later b2 (cell_later b1 (by rw [← hV0, World.cell?_alloc_new]; rfl)))
  have B3 : Below w.heap.size w V3 := ((b0.trans (b1.mono (by omega))).trans (b2.mono (by omega))).trans (b3.mono (by omega))
  have cG := guard_nil V3 37 #[.pointer (some ⟨w.heap.size, 0, none⟩), .pointer (some ⟨w.heap.size + 1, 0, none⟩), .pointer (some ⟨w.heap.size + 2, 0, none⟩), .pointer (some ⟨w.heap.size + 3, 0, none⟩)]
  have HB3 := Lib.hid B3
  have hn1 : ¬ w.heap.size + 2 = w.heap.size + 3 := by omega
  have hn2 : ¬ w.heap.size + 3 = w.heap.size + 2 := by omega
  obtain ⟨P, hP⟩ : ∃ P, w.heap.size = P := ⟨_, rfl⟩
  obtain ⟨P1, hP1⟩ : ∃ P1, w.heap.size + 1 = P1 := ⟨_, rfl⟩
  obtain ⟨P2, hP2⟩ : ∃ P2, w.heap.size + 2 = P2 := ⟨_, rfl⟩
  obtain ⟨P3, hP3⟩ : ∃ P3, w.heap.size + 3 = P3 := ⟨_, rfl⟩
  rw [hP2, hP3] at hn1 hn2
  rw [hP1, hP2, hP3, hP] at cG
  rw [hP] at c0
  rw [hP1] at c1
  have l2 : P2 < V3.heap.size := by omega
  have l3 : P3 < V3.heap.size := by omega
  rw [hP2] at c2 f2
  rw [hP3] at c3 f3
  have HL := Lib.hid (And.intro l2 l3)
  have HP3 : Hid (w.heap.size ≤ P3) := Lib.hid (by omega)
  have HC := Lib.hid (And.intro c2 (And.intro c3 (And.intro f2 f3)))
  have K0 : V0.heap.size = P1 := by rw [s0, hP1]
  have K1 : V1.heap.size = P2 := by rw [s1, hP2]
  have K2 : V2.heap.size = P3 := by rw [s2, hP3]
  clear B3 b0 b1 b2 b3 s0 s1 s2 s3 hP1 hP2 hP3 l2 l3
  go_enter Try.func18, Try.ntmps18
  go_wp2_with (go_at_call 27; refine cG.mono ?_; rintro e w1 ⟨rfl, hb1⟩; have x2 := cell_later hb1 HC.out.1; have x3 := cell_later hb1 HC.out.2.1; have g2 : w1.frozen? ⟨P2, 0, none⟩ = false := (by rw [hb1.frozen (p := ⟨P2, 0, none⟩) HL.out.1]; exact HC.out.2.2.1); have g3 : w1.frozen? ⟨P3, 0, none⟩ = false := (by rw [hb1.frozen (p := ⟨P3, 0, none⟩) HL.out.2]; exact HC.out.2.2.2); have HB1 := Lib.hid (HB3.out.trans (hb1.mono HB3.out.size)); clear hb1)
  have nb2 : Hid ((⟨P2, 0, none⟩ : Addr) ≠ ⟨P3, 0, none⟩) := Lib.hid (fun e => hn1 (congrArg Addr.block e))
  have nb3 : Hid ((⟨P3, 0, none⟩ : Addr) ≠ ⟨P2, 0, none⟩) := Lib.hid (fun e => hn2 (congrArg Addr.block e))
  obtain ⟨W6, hW6⟩ : ∃ W6, w1.setCell ⟨P3, 0, none⟩ (.int .i64 1) = W6 := ⟨_, rfl⟩
  have m3 : W6.cell? ⟨P3, 0, none⟩ = some (.int .i64 1) := by rw [← hW6]; exact World.cell?_setCell_same w1 _ _ x3
  have m2 : W6.cell? ⟨P2, 0, none⟩ = some (.slice none 0 0) := by rw [← hW6, World.cell?_setCell_other (h := nb3.out)]; exact x2
  have l2 : W6.frozen? ⟨P2, 0, none⟩ = false := by rw [← hW6]; simpa using g2
  have l3 : W6.frozen? ⟨P3, 0, none⟩ = false := by rw [← hW6]; simpa using g3
  have hs6 : Fresh W6 w.heap.size (.slice none 0 0) [] ∧ Below w.heap.size w W6 := by
    rw [← hW6]
    exact ⟨Fresh.nil _ _, HB1.out.setCell (p := ⟨P3, 0, none⟩) HP3.out _⟩
  have HS6 := Lib.hid hs6
  clear hs6
  rw [hW6]
  refine wp_region_held_drew (S := fun X => X.cell? ⟨P2, 0, none⟩ = some (.slice none 0 0) ∧ X.cell? ⟨P3, 0, none⟩ = some (.int .i64 1)) (by kernel_rfl) ⟨m2, m3⟩ (fun hHeld => ?_)
  refine wpAnyH_take (i := 0) (oi := ⟨some 9, _, _, _, _, _⟩) (v := .slice none 0 0) rfl (by kernel_rfl) (by kernel_rfl) (by kernel_rfl) (fun _ _ _ h => h) (Or.inl ⟨by kernel_rfl, by intro w hSw; obtain ⟨s1, s2⟩ := hSw; go_simp⟩) (by assumption) ?_
  try simp only [Act.put, List.setIfInBounds_toArray, List.set_cons_zero, List.set_cons_succ]
  refine wpAnyH_take (i := 1) (oi := ⟨some 10, _, _, _, _, _⟩) (v := .int .i64 1) rfl (by kernel_rfl) (by kernel_rfl) (by kernel_rfl) (fun _ _ _ h => h) (Or.inl ⟨by kernel_rfl, by intro w hSw; obtain ⟨s1, s2⟩ := hSw; go_simp⟩) (by assumption) ?_
  try simp only [Act.put, List.setIfInBounds_toArray, List.set_cons_zero, List.set_cons_succ]
  refine wpAnyH_ready (rs := [2]) (by kernel_rfl) (by simp) ?_
  refine AllReadyH.cons (o := ⟨none, _, _, _, _, _⟩) rfl (fun K hK => ?_) AllReadyH.nil
  go_simp
  refine hK.out _ _ ?_ (fun hHeld1 => ?_)
  · exact ⟨World.cell?_setCell_same W6 _ _ m2, (show (W6.setCell ⟨P2, 0, none⟩ (.slice none 0 0)).cell? ⟨P3, 0, none⟩ = some (.int .i64 1) by rw [World.cell?_setCell_other (h := nb2.out)]; exact m3)⟩
  clear hK K
  try simp only [Act.put, List.setIfInBounds_toArray, List.set_cons_zero, List.set_cons_succ]
  refine wpAnyH_ready (rs := [3]) (by kernel_rfl) (by simp) ?_
  refine AllReadyH.cons (o := ⟨none, _, _, _, _, _⟩) rfl (fun K hK => ?_) AllReadyH.nil
  go_simp
  refine hK.out _ _ ?_ (fun hHeld2 => ?_)
  · have t3 : (W6.setCell ⟨P2, 0, none⟩ (.slice none 0 0)).cell? ⟨P3, 0, none⟩ = some (.int .i64 1) := by rw [World.cell?_setCell_other (h := nb2.out)]; exact m3
    exact ⟨(show ((W6.setCell ⟨P2, 0, none⟩ (.slice none 0 0)).setCell ⟨P3, 0, none⟩ (.int .i64 1)).cell? ⟨P2, 0, none⟩ = some (.slice none 0 0) by rw [World.cell?_setCell_other (h := nb3.out)]; exact World.cell?_setCell_same W6 _ _ m2), World.cell?_setCell_same _ _ _ t3⟩
  clear hK K
  try simp only [Act.put, List.setIfInBounds_toArray, List.set_cons_zero, List.set_cons_succ]
  refine wpAnyH_done (by kernel_rfl) ?_ _
  go_wp2_with fail
  have t3 : (W6.setCell ⟨P2, 0, none⟩ (.slice none 0 0)).cell? ⟨P3, 0, none⟩ = some (.int .i64 1) := by rw [World.cell?_setCell_other (h := nb2.out)]; exact m3
  have t2 : (W6.setCell ⟨P2, 0, none⟩ (.slice none 0 0)).cell? ⟨P2, 0, none⟩ = some (.slice none 0 0) := World.cell?_setCell_same W6 _ _ m2
  have hb7 := (HS6.out.2.trans (below_same m2 _)).trans (below_same t3 _)
  have hf7 := Fresh.nil ((W6.setCell ⟨P2, 0, none⟩ (.slice none 0 0)).setCell ⟨P3, 0, none⟩ (.int .i64 1)).drew w.heap.size
  obtain ⟨u2, u3⟩ := hHeld2
  refine bodyPost_ret (v := .tuple #[.slice none 0 0, .int .i64 1]) ?_ rfl ⟨_, rfl, hf7, hb7.drew⟩
  rw [results_cell_cell rfl]
  clear hb7 hf7 t2 t3
  go_simp
  try rfl

set_option maxRecDepth 100000 in
set_option maxHeartbeats 1600000 in
theorem jcommit_nil (lo : Option Addr) (ll lc : Nat) (w : World) : Calls Try.prog 9 #[.pointer none, .slice lo ll lc] w fun e w' => e = .returned (.int .i64 1) ∧ Below w.heap.size w w' := by
  have hmf : ∀ (fn : Fn) (first cap : Array Value) (w : World), (Instr.makeFunc fn first cap).run Try.prog w = .ok (.func fn first cap) w := fun _ _ _ _ => rfl
  have cG := guard_nil
  obtain ⟨V0, hV0⟩ : ∃ V0, w.alloc (.cells #[.pointer none] 33) = V0 := ⟨_, rfl⟩
  obtain ⟨V1, hV1⟩ : ∃ V1, V0.alloc (.cells #[.slice lo ll lc] 27) = V1 := ⟨_, rfl⟩
  have HB0 : Hid (Below w.heap.size w V1) := Lib.hid (by
    have h0 : Below w.heap.size w V0 := by rw [← hV0]; exact (Below.refl _ _).alloc (Nat.le_refl _) _
    rw [← hV1]
    exact h0.alloc h0.size _)
  have b1 : Below V0.heap.size V0 V1 := by rw [← hV1]; exact (Below.refl _ _).alloc (Nat.le_refl _) _
  have c0 : V1.cell? ⟨w.heap.size, 0, none⟩ = some (.pointer none) := cell_later b1 (by rw [← hV0, World.cell?_alloc_new]; rfl)
  clear b1
  go_enter Try.func9, Try.ntmps9
  go_wp2_with (go_at_call 27; refine (cG _ _ _).mono ?_; rintro e w1 ⟨rfl, hb1⟩; have HB1 := Lib.hid (HB0.out.trans (hb1.mono HB0.out.size)); clear hb1)
  go_ret
  exact ⟨rfl, HB1.out⟩

set_option maxRecDepth 100000 in
set_option maxHeartbeats 1600000 in
theorem opens_nil (w : World) : Calls Try.prog 17 #[.pointer none] w fun e w' => e = .returned (.tuple #[.pointer none, .int .i64 1]) ∧ Below w.heap.size w w' := by
  have cL := look_nil w
  go_enter Try.func17, Try.ntmps17
  go_wp2_with (go_at_call 33; refine cL.mono ?_; rintro e w1 ⟨rfl, hb1⟩; have HB1 := Lib.hid hb1; clear hb1)
  go_ret2
  exact ⟨rfl, HB1.out.alloc HB1.out.size _⟩

set_option maxRecDepth 100000 in
set_option maxHeartbeats 1600000 in
/-- Open where Look answers an error. -/
theorem opens_err {w : World} {a : Addr} {F : Nat → Prop} {D : DM} (hD : DI w a F D) (hE : lookE D ≠ 0) : Calls Try.prog 17 #[.pointer (some a)] w fun e w' => e = .returned (.tuple #[.pointer none, .int .i64 (lookE D)]) ∧ Below w.heap.size w w' := by
  have cL := look_any hD
  unfold HandedL lookH lookR lookW at cL
  rw [if_neg hE, if_neg hE, if_neg hE] at cL
  obtain ⟨E, hEE⟩ : ∃ E, lookE D = E := ⟨_, rfl⟩
  rw [hEE] at cL hE
  rw [hEE]
  have hb : (E == 0) = false := by simp [hE]
  have hb2 : (E != 0) = true := by simp [hE]
  clear hEE hD
  go_enter Try.func17, Try.ntmps17
  go_wp2_with (go_at_call 33; refine cL.mono ?_; rintro e w1 ⟨bv, wv, B, T, rfl, hbo, _, hwa, hb1⟩; obtain ⟨bo, bc, rfl⟩ := owns_shape_r hbo.choose_spec.1; obtain ⟨wo, wc, rfl⟩ := owns_shape_r hwa.2.choose_spec.1; have HB1 := Lib.hid hb1; clear hbo hwa hb1)
  go_ret2
  exact ⟨rfl, HB1.out.alloc HB1.out.size _⟩

theorem journalNil : JournalNil where
  opens := opens_nil
  look := looks_nil
  read := fun n w _ => jread_nil n w
  head := jhead_nil
  commit := jcommit_nil
end Go.Proofs.Ytbnepjojfaeggaa
