/-
  Proved here: what the landed journal's small functions answer (inLog, cleared, headBlock, group).
  The conditions stand at each theorem.
-/
import Derived.Test.YtbnepjojfaeggaaPad16
import Derived.Test.YtbnepjojfaeggaaA8
import Derived.WalkKit
import Derived.StillTailTactics
namespace Go.Proofs.Ytbnepjojfaeggaa
open Go.RowKit
set_option linter.unusedVariables false
set_option linter.unusedSimpArgs false

set_option maxRecDepth 100000 in
theorem inLog_any (w : World) (a : Nat) (ha : a ≤ 1000000) (ao : Option Addr) (l c : Nat) : Calls Try.prog 52 #[.int .i64 (a : Int), .slice ao l c] w fun e w' => e = .returned (.agg #[.int .i64 ((19 + a % 40 : Nat) : Int), .slice ao l c]) ∧ Below w.heap.size w w' := by
  have ht : Int.tmod (a : Int) 40 = ((a % 40 : Nat) : Int) := by rw [Int.tmod_eq_emod_of_nonneg (by omega)]; omega
  go_enter Try.func52, Try.ntmps52
  go_wp2_with fail
  refine bodyPost_ret (v := .agg #[.int .i64 (19 + (a : Int) % 40), .slice ao l c]) ?_ rfl ⟨by rw [show ((19 + a % 40 : Nat) : Int) = 19 + (a : Int) % 40 from by omega], (Below.refl _ _).alloc (Nat.le_refl _) _⟩
  rw [results_cell1 rfl]
  go_simp
  try rfl

/-- A variable of two cells. -/
def RC (w : World) (q : Nat) (a b : Value) : Prop := w.cell? ⟨q, 0, none⟩ = some a ∧ w.cell? ⟨q, 1, none⟩ = some b ∧ ∀ k, w.frozen? ⟨q, k, none⟩ = false
theorem RC.lt {w : World} {q : Nat} {a b : Value} (h : RC w q a b) : q < w.heap.size := World.block_lt_of_cell? _ _ h.1
theorem RC.kept {w w' : World} {q : Nat} {a b : Value} (h : RC w q a b) (hk : w'.heap[q]? = w.heap[q]?) : RC w' q a b :=
  ⟨by rw [cell_of_heap (p := ⟨q, 0, none⟩) hk]; exact h.1, by rw [cell_of_heap (p := ⟨q, 1, none⟩) hk]; exact h.2.1, fun k => by rw [World.frozen?_of_block (w := w) (a := ⟨q, k, none⟩) hk]; exact h.2.2 k⟩
theorem RC.later {w w' : World} {q : Nat} {a b : Value} (h : RC w q a b) (hb : Below w.heap.size w w') : RC w' q a b := h.kept (hb.block q h.lt)
theorem own_keep {base g : Nat} {w0 w : World} {L : List Int} (h : Own base w0 g L w) {base' : Nat} {w0' w' : World} (hb : base' ≤ g) (hB : Below base' w0' w') (hk : w'.heap[g]? = w.heap[g]?) : Own base' w0' g L w' :=
  ⟨h.1, fun j hj => by rw [cell_of_heap (p := ⟨g, j, none⟩) hk]; exact h.2.1 j hj, fun j => by rw [World.frozen?_of_block (w := w) (a := ⟨g, j, none⟩) hk]; exact h.2.2.1 j, hb, hB⟩
theorem rc_new (w : World) (a b : Value) (T : TypeId) : RC (w.alloc (.cells #[a, b] T)) w.heap.size a b :=
  ⟨by rw [World.cell?_alloc_new]; rfl, by rw [World.cell?_alloc_new]; rfl, fun k => by rw [World.frozen?_alloc_mark]; simp⟩
theorem RC.set {w : World} {q : Nat} {a b : Value} (h : RC w q a b) (a' b' : Value) : RC ((w.setCell ⟨q, 0, none⟩ a').setCell ⟨q, 1, none⟩ b') q a' b' := by
  refine ⟨?_, ?_, fun k => by simpa using h.2.2 k⟩
  · rw [World.cell?_setCell_other (h := by simp)]
    exact World.cell?_setCell_same w _ _ h.1
  · exact World.cell?_setCell_same _ _ _ (by rw [World.cell?_setCell_other (h := by simp)]; exact h.2.1)

set_option maxRecDepth 100000 in
set_option maxHeartbeats 800000 in
theorem cleared_any (w : World) (a : Nat) (ha : a ≤ 1000000) (s : Int) : Calls Try.prog 51 #[.agg #[.int .i64 (a : Int), .int .i64 s]] w fun e w' => ∃ g, e = .returned (.agg #[.int .i64 ((19 + a % 40 : Nat) : Int), .slice (some ⟨g, 0, none⟩) 64 64]) ∧ Own w.heap.size w g zeros64 w' := by
  obtain ⟨V0, hV0⟩ : ∃ V0, w.alloc (.cells #[.int .i64 (a : Int), .int .i64 s] 58) = V0 := ⟨_, rfl⟩
  have hv := rc_new w (.int .i64 (a : Int)) (.int .i64 s) 58
  rw [hV0] at hv
  have bV : Below w.heap.size w V0 := by rw [← hV0]; exact (Below.refl _ _).alloc (Nat.le_refl _) _
  have HV := Lib.hid hv
  have HBV := Lib.hid bV
  clear hv bV
  go_enter Try.func51, Try.ntmps51
  obtain ⟨W0, hW0⟩ : ∃ W0, V0.alloc (.cells #[.int .i64 0, .slice none 0 0] 48) = W0 := ⟨_, rfl⟩
  have hr := rc_new V0 (.int .i64 0) (.slice none 0 0) 48
  rw [hW0] at hr
  have B1 : Below V0.heap.size V0 W0 := by rw [← hW0]; exact (Below.refl _ _).alloc (Nat.le_refl _) _
  have c0 : W0.cell? ⟨w.heap.size, 0, none⟩ = some (.int .i64 (a : Int)) := cell_later B1 HV.out.1
  have HB0 : Hid (Below w.heap.size w W0) := Lib.hid (HBV.out.trans (B1.mono HBV.out.size))
  obtain ⟨q, hqq⟩ : ∃ q, V0.heap.size = q := ⟨_, rfl⟩
  have HQ : Hid (w.heap.size < q) := Lib.hid (by rw [← hqq, ← hV0]; simp)
  rw [hqq] at hr
  obtain ⟨W1, hmk, hO1⟩ := made64 W0.drew
  have bW : Below W0.drew.heap.size W0.drew W1 := hO1.2.2.2.2
  have HR1 := Lib.hid ((hr.kept (w' := W0.drew) rfl).later bW)
  have HC1 : Hid (W1.cell? ⟨w.heap.size, 0, none⟩ = some (.int .i64 (a : Int))) := Lib.hid (cell_later bW c0)
  have HWS : Hid (w.heap.size ≤ W0.drew.heap.size) := Lib.hid HB0.out.drew.size
  have HBW : Hid (Below w.heap.size w W1) := Lib.hid (HB0.out.drew.trans (bW.mono HB0.out.drew.size))
  obtain ⟨p1, hp1⟩ : ∃ p1, W0.drew.heap.size = p1 := ⟨_, rfl⟩
  rw [hp1] at hmk hO1
  rw [hp1] at HWS
  have HP1 := Lib.hid hp1
  have HR0 := Lib.hid hr
  clear hp1 hr B1 bW
  go_wp2_with fail
  refine wp_region_held_drew (S := fun W => W.cell? ⟨w.heap.size, 0, none⟩ = some (.int .i64 (a : Int))) (by kernel_rfl) c0 (fun hHeld => ?_)
  refine wpAnyH_take (i := 0) (oi := ⟨some 3, _, _, _, _, _⟩) (v := .pointer (some ⟨w.heap.size, 0, none⟩)) rfl (by kernel_rfl) (by kernel_rfl) (by kernel_rfl) (fun _ _ _ h => h) (Or.inl ⟨by kernel_rfl, by intro w _; go_simp; (try omega)⟩) (by assumption) ?_
  try simp only [Act.put, List.setIfInBounds_toArray, List.set_cons_zero, List.set_cons_succ]
  refine wpAnyH_take (i := 1) (oi := ⟨some 4, _, _, _, _, _⟩) (v := .int .i64 (a : Int)) rfl (by kernel_rfl) (by kernel_rfl) (by kernel_rfl) (fun _ _ _ h => h) (Or.inl ⟨by kernel_rfl, by intro w hSw; (try dsimp only at hSw); go_simp⟩) (by assumption) ?_
  try simp only [Act.put, List.setIfInBounds_toArray, List.set_cons_zero, List.set_cons_succ]
  refine wpAnyH_ready (rs := [2]) (by kernel_rfl) (by simp) ?_
  refine AllReadyH.cons (o := ⟨some 5, _, _, _, _, _⟩) rfl (fun K hK => ?_) AllReadyH.nil
  go_simp
  have HO1 := Lib.hid hO1
  refine hK.out _ _ ?_ (fun hHeld1 => ?_)
  · exact HC1.out
  clear hK K
  try simp only [Act.put, List.setIfInBounds_toArray, List.set_cons_zero, List.set_cons_succ]
  refine wpAnyH_ready (rs := [3]) (by kernel_rfl) (by simp) ?_
  refine AllReadyH.cons (o := ⟨some 6, _, _, _, _, _⟩) rfl (fun K hK => ?_) AllReadyH.nil
  go_simp
  go_at_call 52
  refine (inLog_any W1 a ha _ 64 64).mono ?_
  rintro e w2 ⟨rfl, hb2⟩
  have HB2 := Lib.hid hb2
  obtain ⟨y0, y1, yf⟩ := HR1.out.later hb2
  have f0 := yf 0
  have f1 := yf 1
  have HR2 := Lib.hid (HR1.out.later hb2)
  clear hb2 yf
  refine hK.out _ _ ?_ (fun hHeld2 => ?_)
  · exact cell_later HB2.out HC1.out
  clear hK K
  try simp only [Act.put, List.setIfInBounds_toArray, List.set_cons_zero, List.set_cons_succ]
  refine wpAnyH_ready (rs := [4]) (by kernel_rfl) (by simp) ?_
  refine AllReadyH.cons (o := ⟨none, _, _, _, _, _⟩) rfl (fun K hK => ?_) AllReadyH.nil
  go_simp
  refine hK.out _ _ ?_ (fun hHeld3 => ?_)
  · exact (by rw [World.cell?_setCell_other (h := by have := HQ.out; intro e; injection e with e1 _; omega), World.cell?_setCell_other (h := by have := HQ.out; intro e; injection e with e1 _; omega)]; exact cell_later HB2.out HC1.out)
  clear hK K
  try simp only [Act.put, List.setIfInBounds_toArray, List.set_cons_zero, List.set_cons_succ]
  refine wpAnyH_done (by kernel_rfl) ?_ _
  go_wp2_with fail
  have hrs := HR2.out.set (.int .i64 (19 + (a : Int) % 40)) (.slice (some ⟨p1, 0, none⟩) 64 64)
  have hq2 : w.heap.size ≤ q := Nat.le_of_lt HQ.out
  have hne : p1 ≠ q := fun e => by have h2 := HR0.out.lt; have h3 : W0.heap.size = p1 := HP1.out; omega
  refine bodyPost_ret (v := .agg #[.int .i64 (19 + (a : Int) % 40), .slice (some ⟨p1, 0, none⟩) 64 64]) ?_ rfl ⟨p1, by rw [show ((19 + a % 40 : Nat) : Int) = 19 + (a : Int) % 40 from by omega], ?_⟩
  · rw [results_cell1 rfl]
    obtain ⟨r0, r1, _⟩ := hrs
    go_simp
    try rfl
  · have hpl : p1 < W1.heap.size := own_lt64 hO1 rfl
    refine own_keep hO1 HWS.out (((HBW.out.trans (HB2.out.mono HBW.out.size)).setCell (p := ⟨q, 0, none⟩) hq2 _).setCell (p := ⟨q, 1, none⟩) hq2 _) ?_
    rw [set_heap _ q 1 _ hne, set_heap _ q 0 _ hne, HB2.out.block p1 hpl]

set_option maxRecDepth 100000 in
theorem headBlock_any (w : World) (h : PHead) (hi : h.in64) (hs : h.sound = true) : Calls Try.prog 36 #[h.val] w fun e w' => ∃ ao c, e = .returned (.agg #[.int .i64 1, .slice ao 64 c]) ∧ Fresh w' w.heap.size (.slice ao 64 c) (headBlock h) ∧ Below w.heap.size w w' := by
  have cH := fun W => sput_any h W hi
  rw [show headOut h = headBlock h from by unfold headOut; rw [if_pos hs], show headErr h = 0 from by unfold headErr; rw [if_pos hs]] at cH
  unfold PHead.val at cH ⊢
  have HL : Hid ((headBlock h).length = 64) := Lib.hid (headBlock_length h)
  obtain ⟨V0, hV0⟩ : ∃ V0, w.alloc (.cells #[.int .i64 h.a, .int .i64 h.b] 58) = V0 := ⟨_, rfl⟩
  have bV : Below w.heap.size w V0 := by rw [← hV0]; exact (Below.refl _ _).alloc (Nat.le_refl _) _
  have hv := rc_new w (.int .i64 h.a) (.int .i64 h.b) 58
  rw [hV0] at hv
  obtain ⟨W0, hW0⟩ : ∃ W0, V0.alloc (.cells #[.int .i64 0, .slice none 0 0] 48) = W0 := ⟨_, rfl⟩
  have hr := rc_new V0 (.int .i64 0) (.slice none 0 0) 48
  rw [hW0] at hr
  have B1 : Below V0.heap.size V0 W0 := by rw [← hW0]; exact (Below.refl _ _).alloc (Nat.le_refl _) _
  obtain ⟨c0, c1, _⟩ := hv.later B1
  obtain ⟨q, hqq⟩ : ∃ q, V0.heap.size = q := ⟨_, rfl⟩
  have HQ : Hid (w.heap.size ≤ q) := Lib.hid (by rw [← hqq]; exact bV.size)
  rw [hqq] at hr
  have HB0 : Hid (Below w.heap.size w W0) := Lib.hid (bV.trans (B1.mono bV.size))
  have HR := Lib.hid hr
  clear hr bV B1
  go_enter Try.func36, Try.ntmps36
  go_wp2_with (first
    | (go_at_call 58; refine (cH W0).mono ?_; rintro e w2 ⟨v2, rfl, ⟨ao2, p2, rfl, hA, hn⟩, hb⟩; rw [HL.out] at hA; rw [HL.out]; have HF := Lib.hid (And.intro hA hn); have HB := Lib.hid (HB0.out.trans (hb.mono HB0.out.size)); have HS := Lib.hid hb.size; have HR2 := Lib.hid (HR.out.later hb); obtain ⟨y0, y1, yf⟩ := HR2.out; have f0 := yf 0; have f1 := yf 1; clear hA hn hb yf))
  obtain ⟨hA, hn⟩ := HF.out
  obtain ⟨g2, o2, rfl, hg2, hfz⟩ := hn.resolve_left (fun e => by have := HL.out; rw [e] at this; cases this)
  have hne : g2 ≠ q := fun e => by have h2 := HR.out.lt; omega
  have hk : ((w2.setCell ⟨q, 0, none⟩ (.int .i64 1)).setCell ⟨q, 1, none⟩ (.slice (some ⟨g2, o2, none⟩) 64 p2)).heap[g2]? = w2.heap[g2]? := by rw [set_heap _ q 1 _ hne, set_heap _ q 0 _ hne]
  have hrs := HR2.out.set (.int .i64 1) (.slice (some ⟨g2, o2, none⟩) 64 p2)
  refine bodyPost_ret (v := .agg #[.int .i64 1, .slice (some ⟨g2, o2, none⟩) 64 p2]) ?_ rfl ⟨_, p2, rfl, ⟨_, p2, by rw [HL.out], ?_, Or.inr ⟨g2, o2, rfl, Nat.le_trans HB0.out.size hg2, fun j hj => ?_⟩⟩, ((HB.out).setCell (p := ⟨q, 0, none⟩) HQ.out _).setCell (p := ⟨q, 1, none⟩) HQ.out _⟩
  · rw [results_cell1 rfl]
    obtain ⟨r0, r1, _⟩ := hrs
    go_simp
    try rfl
  · rw [HL.out]
    exact hA.kept (fun b o s e => by cases e; exact hk)
  · rw [World.frozen?_of_block (w := w2) (a := ⟨g2, o2 + j, none⟩) hk]
    exact hfz j hj

theorem group_any (w : World) (ao : Option Addr) (l c : Nat) : Calls Try.prog 35 #[.slice ao l c] w fun e w' => e = .returned (.slice ao l c) ∧ w' = w := by
  go_enter Try.func35, Try.ntmps35
  go_wp2_with fail
  go_ret
  exact ⟨rfl, rfl⟩
end Go.Proofs.Ytbnepjojfaeggaa
