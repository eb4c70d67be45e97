/-
  Proved here: what the landed journal's Read and Head answer.
  The conditions stand at each theorem.
-/
import Derived.Test.YtbnepjojfaeggaaJrGuard
import Derived.StillTailTactics
namespace Go.Proofs.Ytbnepjojfaeggaa
open Go.RowKit
set_option linter.unusedVariables false
set_option linter.unusedSimpArgs false

/-- The landed journal, in plain words. -/
structure JS where
  at_ : Int
  seq : Int
  gone : Bool

/-- The landed journal, in memory: its one block. -/
def JI (w : World) (j a : Addr) (G : Nat → Prop) (s : JS) : Prop :=
  ∃ q, j = ⟨q, 0, none⟩ ∧ G = (fun k => k = q) ∧ V4 w q (.pointer (some a)) (.int .i64 s.at_) (.int .i64 s.seq) (.bool s.gone)
theorem JI.lt {w : World} {j a : Addr} {G : Nat → Prop} {s : JS} (h : JI w j a G s) : ∀ k, G k → k < w.heap.size := by
  obtain ⟨q, rfl, rfl, hv⟩ := h
  rintro k rfl
  exact hv.lt
theorem JI.kept {w w' : World} {j a : Addr} {G : Nat → Prop} {s : JS} (h : JI w j a G s) (hk : ∀ k, G k → w'.heap[k]? = w.heap[k]?) : JI w' j a G s := by
  obtain ⟨q, rfl, rfl, hv⟩ := h
  exact ⟨q, rfl, rfl, hv.kept (hk q rfl)⟩

/-- A store of what lies there already turns nothing. -/
theorem same_heap {w : World} {p : Addr} {v : Value} (h : w.cell? p = some v) (k : Nat) : (w.setCell p v).heap[k]? = w.heap[k]? := by
  unfold World.cell? at h
  simp only [World.setCell, Array.getElem?_modify]
  by_cases hk : p.block = k
  · subst hk
    rw [if_pos rfl]
    cases hb : w.heap[p.block]? with
    | none => rfl
    | some o =>
      rw [hb] at h
      cases o with
      | cells c e f =>
        simp only at h ⊢
        by_cases hs : p.spot.isSome
        · simp [hs]
        · rw [if_neg hs] at h
          simp only [Option.map_some, if_neg hs]
          congr 2
          refine Array.ext (by simp) (fun i h1 h2 => ?_)
          by_cases e : p.off = i
          · subst e
            obtain ⟨_, h3⟩ := Array.getElem?_eq_some_iff.1 h
            rw [Array.getElem_setIfInBounds_self]
            exact h3.symm
          · rw [Array.getElem_setIfInBounds_ne (h := e)]
      | _ => rfl
  · rw [if_neg hk]
theorem below_same {w : World} {p : Addr} {v : Value} (h : w.cell? p = some v) (B : Nat) : Below B w (w.setCell p v) :=
  ⟨rfl, rfl, rfl, by simp, fun k _ => same_heap h k⟩
theorem Fresh.kept {w w' : World} {base : Nat} {v : Value} {l : List Int} (h : Fresh w base v l) (hk : ∀ k, base ≤ k → w'.heap[k]? = w.heap[k]?) : Fresh w' base v l := by
  obtain ⟨ao, cap, hv, hA, hf⟩ := h
  rcases hf with h0 | ⟨g, off, rfl, hg, hfr⟩
  · subst h0
    refine ⟨ao, cap, hv, ⟨⟨rfl, hA.1.2.1, hA.1.2.2.1, Or.inl rfl⟩, hA.2⟩, Or.inl rfl⟩
  · refine ⟨_, cap, hv, hA.kept (fun b o s e => by cases e; exact hk g hg), Or.inr ⟨g, off, rfl, hg, fun j hj => ?_⟩⟩
    rw [World.frozen?_of_block (w := w) (a := ⟨g, off + j, none⟩) (hk g hg)]
    exact hfr j hj

theorem Fresh.kept2 {w w' : World} {base : Nat} {v : Value} {l : List Int} (h : Fresh w base v l) (hk : ∀ k : Nat, w'.heap[k]? = w.heap[k]?) : Fresh w' base v l := h.kept (fun k _ => hk k)
theorem results_cell_cell {fn : Func} {p u : Tmp} {ty tu : TypeId} (h : fn.results = #[.cell p ty, .cell u tu]) (tmps : Array Value) (P : Program) (w : World) :
    (results fn tmps).run P w =
      ((asAddr (tmps.getD p undef)).run P w).andThen fun a w₁ => ((loadVar ty a).run P w₁).andThen fun v w₂ => ((asAddr (tmps.getD u undef)).run P w₂).andThen fun b w₃ => ((loadVar tu b).run P w₃).andThen fun x w₄ => .ok (.tuple #[v, x]) w₄ := by
  simp only [results, h]
  simp [Sem.run_bind, Result.andThen]

set_option maxRecDepth 100000 in
theorem jhead_any {w : World} {j a : Addr} {G : Nat → Prop} {s : JS} (h : JI w j a G s) : Calls Try.prog 20 #[.pointer (some j)] w fun e w' => e = .returned (.agg #[.int .i64 s.at_, .int .i64 s.seq]) ∧ Below w.heap.size w w' := by
  obtain ⟨q, rfl, rfl, hv⟩ := h
  obtain ⟨W1, hW1⟩ : ∃ W1, w.alloc (.cells #[.int .i64 0, .int .i64 0] 58) = W1 := ⟨_, rfl⟩
  have hr := rc_new w (.int .i64 0) (.int .i64 0) 58
  rw [hW1] at hr
  have b1 : Below w.heap.size w W1 := by rw [← hW1]; exact (Below.refl _ _).alloc (Nat.le_refl _) _
  obtain ⟨_, z1, z2, _, _⟩ := hv.later b1
  have HB := Lib.hid b1
  have HR := Lib.hid hr
  obtain ⟨r0, r1, rf⟩ := hr
  have f0 := rf 0
  have f1 := rf 1
  have hne := hv.lt
  have hn1 : ¬ q = w.heap.size := by omega
  have hn2 : ¬ w.heap.size = q := by omega
  clear rf b1 hv hne
  go_enter Try.func20, Try.ntmps20
  go_wp2_with fail
  have hrs := HR.out.set (.int .i64 s.at_) (.int .i64 s.seq)
  refine bodyPost_ret (v := .agg #[.int .i64 s.at_, .int .i64 s.seq]) ?_ rfl ⟨rfl, (HB.out.setCell (p := ⟨w.heap.size, 0, none⟩) (Nat.le_refl _) _).setCell (p := ⟨w.heap.size, 1, none⟩) (Nat.le_refl _) _⟩
  rw [results_cell1 rfl]
  obtain ⟨k0, k1, _⟩ := hrs
  go_simp
  try rfl

set_option maxRecDepth 100000 in
theorem jhead_nil (w : World) : Calls Try.prog 20 #[.pointer none] w fun e w' => e = .returned (.agg #[.int .i64 0, .int .i64 0]) ∧ Below w.heap.size w w' := by
  go_enter Try.func20, Try.ntmps20
  go_wp2_with fail
  refine bodyPost_ret (v := .agg #[.int .i64 0, .int .i64 0]) ?_ rfl ⟨rfl, (Below.refl _ _).alloc (Nat.le_refl _) _⟩
  rw [results_cell1 rfl]
  go_simp
  try rfl

set_option maxRecDepth 100000 in
set_option maxHeartbeats 1600000 in
theorem read1_any {w : World} {q p0 p1 p2 p3 : Nat} {a : Addr} {F : Nat → Prop} {D : DM} {n : Int} (hn : I64 n) (hD : DI w a F D)
    (c0 : w.cell? ⟨p0, 0, none⟩ = some (.pointer (some ⟨q, 0, none⟩))) (cq : w.cell? ⟨q, 0, none⟩ = some (.pointer (some a))) (c1 : w.cell? ⟨p1, 0, none⟩ = some (.int .i64 n))
    (c2 : w.cell? ⟨p2, 0, none⟩ = some (.slice none 0 0)) (c3 : w.cell? ⟨p3, 0, none⟩ = some (.int .i64 0)) (f2 : w.frozen? ⟨p2, 0, none⟩ = false) (f3 : w.frozen? ⟨p3, 0, none⟩ = false)
    (hne : (p0 ≠ p2 ∧ q ≠ p2 ∧ p1 ≠ p2) ∧ (p0 ≠ p3 ∧ q ≠ p3 ∧ p1 ≠ p3) ∧ p2 ≠ p3) :
    Calls Try.prog 37 #[.pointer (some ⟨p0, 0, none⟩), .pointer (some ⟨p1, 0, none⟩), .pointer (some ⟨p2, 0, none⟩), .pointer (some ⟨p3, 0, none⟩)] w fun e w' => e = .returned (.int .i64 (diskErr D n)) ∧
      ∃ v w1, Fresh w1 w.heap.size v (diskOut D n) ∧ Below w.heap.size w w1 ∧ w' = ((w1.setCell ⟨p2, 0, none⟩ v).setCell ⟨p3, 0, none⟩ (.int .i64 (diskErr D n))) := by
  have HDD := Lib.hid (diskOk.later hD (Below.refl _ _).drew)
  have HL2 := Lib.hid (World.block_lt_of_cell? _ _ c2)
  have HL3 := Lib.hid (World.block_lt_of_cell? _ _ c3)
  have HK9 : Hid (∀ (W : World) (v : Value), (W.cell? ⟨p0, 0, none⟩ = some (.pointer (some ⟨q, 0, none⟩)) ∧ W.cell? ⟨q, 0, none⟩ = some (.pointer (some a)) ∧ W.cell? ⟨p1, 0, none⟩ = some (.int .i64 n)) → (W.setCell ⟨p2, 0, none⟩ v).cell? ⟨p0, 0, none⟩ = some (.pointer (some ⟨q, 0, none⟩)) ∧ (W.setCell ⟨p2, 0, none⟩ v).cell? ⟨q, 0, none⟩ = some (.pointer (some a)) ∧ (W.setCell ⟨p2, 0, none⟩ v).cell? ⟨p1, 0, none⟩ = some (.int .i64 n)) := Lib.hid (fun W v h => ⟨by rw [World.cell?_setCell_other (h := fun e => hne.1.1 (congrArg Addr.block e).symm)]; exact h.1, by rw [World.cell?_setCell_other (h := fun e => hne.1.2.1 (congrArg Addr.block e).symm)]; exact h.2.1, by rw [World.cell?_setCell_other (h := fun e => hne.1.2.2 (congrArg Addr.block e).symm)]; exact h.2.2⟩)
  have HK10 : Hid (∀ (W : World) (v : Value), (W.cell? ⟨p0, 0, none⟩ = some (.pointer (some ⟨q, 0, none⟩)) ∧ W.cell? ⟨q, 0, none⟩ = some (.pointer (some a)) ∧ W.cell? ⟨p1, 0, none⟩ = some (.int .i64 n)) → (W.setCell ⟨p3, 0, none⟩ v).cell? ⟨p0, 0, none⟩ = some (.pointer (some ⟨q, 0, none⟩)) ∧ (W.setCell ⟨p3, 0, none⟩ v).cell? ⟨q, 0, none⟩ = some (.pointer (some a)) ∧ (W.setCell ⟨p3, 0, none⟩ v).cell? ⟨p1, 0, none⟩ = some (.int .i64 n)) := Lib.hid (fun W v h => ⟨by rw [World.cell?_setCell_other (h := fun e => hne.2.1.1 (congrArg Addr.block e).symm)]; exact h.1, by rw [World.cell?_setCell_other (h := fun e => hne.2.1.2.1 (congrArg Addr.block e).symm)]; exact h.2.1, by rw [World.cell?_setCell_other (h := fun e => hne.2.1.2.2 (congrArg Addr.block e).symm)]; exact h.2.2⟩)
  have hn1 : ¬ p2 = p3 := hne.2.2
  have hn2 : ¬ p3 = p2 := fun e => hne.2.2 e.symm
  go_enter Try.func37, Try.ntmps37
  go_wp2_with fail
  refine wp_region_held_drew (S := fun W => W.cell? ⟨p0, 0, none⟩ = some (.pointer (some ⟨q, 0, none⟩)) ∧ W.cell? ⟨q, 0, none⟩ = some (.pointer (some a)) ∧ W.cell? ⟨p1, 0, none⟩ = some (.int .i64 n)) (by kernel_rfl) ⟨c0, cq, c1⟩ (fun hHeld => ?_)
  refine wpAnyH_take (i := 0) (oi := ⟨some 6, _, _, _, _, _⟩) (v := .pointer (some ⟨q, 0, none⟩)) rfl (by kernel_rfl) (by kernel_rfl) (by kernel_rfl) (fun _ _ _ h => h) (Or.inl ⟨by kernel_rfl, by intro w hSw; obtain ⟨s1, s2, s3⟩ := hSw; go_simp⟩) (by assumption) ?_
  try simp only [Act.put, List.setIfInBounds_toArray, List.set_cons_zero, List.set_cons_succ]
  refine wpAnyH_take (i := 1) (oi := ⟨some 7, _, _, _, _, _⟩) (v := .pointer (some ⟨q, 0, none⟩)) rfl (by kernel_rfl) (by kernel_rfl) (by kernel_rfl) (fun _ _ _ h => h) (Or.inl ⟨by kernel_rfl, by intro w _; go_simp; (try omega)⟩) (by assumption) ?_
  try simp only [Act.put, List.setIfInBounds_toArray, List.set_cons_zero, List.set_cons_succ]
  refine wpAnyH_take (i := 2) (oi := ⟨some 8, _, _, _, _, _⟩) (v := .pointer (some ⟨q, 0, none⟩)) rfl (by kernel_rfl) (by kernel_rfl) (by kernel_rfl) (fun _ _ _ h => h) (Or.inl ⟨by kernel_rfl, by intro w _; go_simp; (try omega)⟩) (by assumption) ?_
  try simp only [Act.put, List.setIfInBounds_toArray, List.set_cons_zero, List.set_cons_succ]
  refine wpAnyH_take (i := 3) (oi := ⟨some 9, _, _, _, _, _⟩) (v := .pointer (some a)) rfl (by kernel_rfl) (by kernel_rfl) (by kernel_rfl) (fun _ _ _ h => h) (Or.inl ⟨by kernel_rfl, by intro w hSw; obtain ⟨s1, s2, s3⟩ := hSw; go_simp⟩) (by assumption) ?_
  try simp only [Act.put, List.setIfInBounds_toArray, List.set_cons_zero, List.set_cons_succ]
  refine wpAnyH_take (i := 4) (oi := ⟨some 10, _, _, _, _, _⟩) (v := .int .i64 n) rfl (by kernel_rfl) (by kernel_rfl) (by kernel_rfl) (fun _ _ _ h => h) (Or.inl ⟨by kernel_rfl, by intro w hSw; obtain ⟨s1, s2, s3⟩ := hSw; go_simp⟩) (by assumption) ?_
  try simp only [Act.put, List.setIfInBounds_toArray, List.set_cons_zero, List.set_cons_succ]
  refine wpAnyH_ready (rs := [5]) (by kernel_rfl) (by simp) ?_
  refine AllReadyH.cons (o := ⟨some 11, _, _, _, _, _⟩) rfl (fun K hK => ?_) AllReadyH.nil
  go_simp
  go_at_call 38
  refine (diskOk.get n HDD.out hn).mono ?_
  rintro e w1 ⟨v, rfl, hf, hb1⟩
  obtain ⟨ad, cp, hv, hA⟩ := hf
  subst hv
  have HF := Lib.hid (⟨ad, cp, rfl, hA⟩ : Fresh w1 w.heap.size (.slice ad (diskOut D n).length cp) (diskOut D n))
  have HB1 := Lib.hid hb1
  have d2 := cell_later hb1 c2
  have d3 := cell_later hb1 c3
  have g2 : w1.frozen? ⟨p2, 0, none⟩ = false := (by rw [hb1.frozen (p := ⟨p2, 0, none⟩) HL2.out]; exact f2)
  have g3 : w1.frozen? ⟨p3, 0, none⟩ = false := (by rw [hb1.frozen (p := ⟨p3, 0, none⟩) HL3.out]; exact f3)
  clear hA hb1
  refine hK.out _ _ ?_ (fun hHeld1 => ?_)
  · exact ⟨cell_later HB1.out c0, cell_later HB1.out cq, cell_later HB1.out c1⟩
  clear hK K
  try simp only [Act.put, List.setIfInBounds_toArray, List.set_cons_zero, List.set_cons_succ]
  refine wpAnyH_take (i := 6) (oi := ⟨some 5, _, _, _, _, _⟩) (v := .tuple #[.slice ad (diskOut D n).length cp, .int .i64 (diskErr D n)]) rfl (by kernel_rfl) (by kernel_rfl) (by kernel_rfl) (fun _ _ _ h => h) (Or.inl ⟨by kernel_rfl, fun w _ => rfl⟩) (by assumption) ?_
  try simp only [Act.put, List.setIfInBounds_toArray, List.set_cons_zero, List.set_cons_succ]
  refine wpAnyH_take (i := 7) (oi := ⟨some 12, _, _, _, _, _⟩) (v := .slice ad (diskOut D n).length cp) rfl (by kernel_rfl) (by kernel_rfl) (by kernel_rfl) (fun _ _ _ h => h) (Or.inl ⟨by kernel_rfl, by intro w _; go_simp; (try omega)⟩) (by assumption) ?_
  try simp only [Act.put, List.setIfInBounds_toArray, List.set_cons_zero, List.set_cons_succ]
  refine wpAnyH_take (i := 8) (oi := ⟨some 13, _, _, _, _, _⟩) (v := .int .i64 (diskErr D n)) rfl (by kernel_rfl) (by kernel_rfl) (by kernel_rfl) (fun _ _ _ h => h) (Or.inl ⟨by kernel_rfl, by intro w _; go_simp; (try omega)⟩) (by assumption) ?_
  try simp only [Act.put, List.setIfInBounds_toArray, List.set_cons_zero, List.set_cons_succ]
  refine wpAnyH_ready (rs := [9]) (by kernel_rfl) (by simp) ?_
  refine AllReadyH.cons (o := ⟨none, _, _, _, _, _⟩) rfl (fun K hK => ?_) AllReadyH.nil
  go_simp
  refine hK.out _ _ ?_ (fun hHeld2 => ?_)
  · exact HK9.out _ (.slice ad (diskOut D n).length cp) ⟨cell_later HB1.out c0, cell_later HB1.out cq, cell_later HB1.out c1⟩
  clear hK K
  try simp only [Act.put, List.setIfInBounds_toArray, List.set_cons_zero, List.set_cons_succ]
  refine wpAnyH_ready (rs := [10]) (by kernel_rfl) (by simp) ?_
  refine AllReadyH.cons (o := ⟨none, _, _, _, _, _⟩) rfl (fun K hK => ?_) AllReadyH.nil
  go_simp
  refine hK.out _ _ ?_ (fun hHeld3 => ?_)
  · exact HK10.out _ (.int .i64 (diskErr D n)) (HK9.out _ (.slice ad (diskOut D n).length cp) ⟨cell_later HB1.out c0, cell_later HB1.out cq, cell_later HB1.out c1⟩)
  clear hK K
  try simp only [Act.put, List.setIfInBounds_toArray, List.set_cons_zero, List.set_cons_succ]
  refine wpAnyH_done (by kernel_rfl) ?_ _
  go_wp2_with fail
  go_ret
  exact ⟨rfl, _, w1, HF.out, (Below.refl w.heap.size w).drew.trans HB1.out, rfl⟩

theorem read_back {w V3 W w1 : World} {q P P1 P2 P3 : Nat} {a : Addr} {x y E : Int} {v : Value} {L : List Int} (hN : w.heap.size = P ∧ w.heap.size + 1 = P1 ∧ w.heap.size + 2 = P2 ∧ w.heap.size + 3 = P3 ∧ V3.heap.size = w.heap.size + 4 ∧ q < w.heap.size)
    (hv : V4 V3 q (.pointer (some a)) (.int .i64 x) (.int .i64 y) (.bool false)) (hc : V3.cell? ⟨P2, 0, none⟩ = some (.slice none 0 0) ∧ V3.cell? ⟨P3, 0, none⟩ = some (.int .i64 0) ∧ V3.frozen? ⟨P2, 0, none⟩ = false ∧ V3.frozen? ⟨P3, 0, none⟩ = false)
    (hf : Fresh w1 W.heap.size v L) (hW : Below V3.heap.size V3 W) (hb : Below W.heap.size W w1) (hB : Below w.heap.size w V3) (hWs : W.heap.size = V3.heap.size + 2) {W5 : World} (h5 : (((w1.setCell ⟨P2, 0, none⟩ v).setCell ⟨P3, 0, none⟩ (.int .i64 E)).setCell ⟨V3.heap.size + 1, 0, none⟩ (.int .i64 E)).setCell ⟨q, 3, none⟩ (.bool false) = W5) :
    W5.cell? ⟨P2, 0, none⟩ = some v ∧ W5.cell? ⟨P3, 0, none⟩ = some (.int .i64 E) ∧ W5.frozen? ⟨P2, 0, none⟩ = false ∧ W5.frozen? ⟨P3, 0, none⟩ = false ∧ Fresh W5 W.heap.size v L ∧ Below w.heap.size w W5 := by
  subst h5
  obtain ⟨rfl, rfl, rfl, rfl, hs, hq⟩ := hN
  have hs2 := hW.size
  have k2 := cell_later hb (cell_later hW hc.1)
  have k3 := cell_later hb (cell_later hW hc.2.1)
  have hv5 := (hv.later hW).later hb
  have nb : ∀ {p r : Nat} {i k : Nat}, p ≠ r → (⟨p, i, none⟩ : Addr) ≠ ⟨r, k, none⟩ := fun h e => h (congrArg Addr.block e)
  have q3 : (((w1.setCell ⟨w.heap.size + 2, 0, none⟩ v).setCell ⟨w.heap.size + 3, 0, none⟩ (.int .i64 E)).setCell ⟨V3.heap.size + 1, 0, none⟩ (.int .i64 E)).cell? ⟨q, 3, none⟩ = some (.bool false) := by
    rw [World.cell?_setCell_other (h := nb (by omega)), World.cell?_setCell_other (h := nb (by omega)), World.cell?_setCell_other (h := nb (by omega))]
    exact hv5.2.2.2.1
  refine ⟨?_, ?_, ?_, ?_, hf.kept (fun k hk => ?_), ?_⟩
  · rw [World.cell?_setCell_other (h := nb (by omega)), World.cell?_setCell_other (h := nb (by omega)), World.cell?_setCell_other (h := nb (by omega))]
    exact World.cell?_setCell_same w1 _ _ k2
  · rw [World.cell?_setCell_other (h := nb (by omega)), World.cell?_setCell_other (h := nb (by omega))]
    exact World.cell?_setCell_same _ _ _ (by rw [World.cell?_setCell_other (h := nb (by omega))]; exact k3)
  · have h1 : w1.frozen? ⟨w.heap.size + 2, 0, none⟩ = false := by
      rw [hb.frozen (p := ⟨w.heap.size + 2, 0, none⟩) (by show w.heap.size + 2 < _; omega), hW.frozen (p := ⟨w.heap.size + 2, 0, none⟩) (by show w.heap.size + 2 < _; omega)]
      exact hc.2.2.1
    simpa using h1
  · have h1 : w1.frozen? ⟨w.heap.size + 3, 0, none⟩ = false := by
      rw [hb.frozen (p := ⟨w.heap.size + 3, 0, none⟩) (by show w.heap.size + 3 < _; omega), hW.frozen (p := ⟨w.heap.size + 3, 0, none⟩) (by show w.heap.size + 3 < _; omega)]
      exact hc.2.2.2
    simpa using h1
  · rw [set_heap _ q 3 _ (by omega), set_heap _ _ 0 _ (by omega), set_heap _ _ 0 _ (by omega), set_heap _ _ 0 _ (by omega)]
  · have b5 : Below w.heap.size w w1 := (hB.trans (hW.mono (by omega))).trans (hb.mono (by omega))
    exact (((b5.setCell (p := ⟨w.heap.size + 2, 0, none⟩) (by show _ ≤ w.heap.size + 2; omega) _).setCell (p := ⟨w.heap.size + 3, 0, none⟩) (by show _ ≤ w.heap.size + 3; omega) _).setCell (p := ⟨V3.heap.size + 1, 0, none⟩) (by show _ ≤ V3.heap.size + 1; omega) _).trans (below_same q3 _)

set_option maxRecDepth 100000 in
set_option maxHeartbeats 1600000 in
theorem jread_any {w : World} {j a : Addr} {F G : Nat → Prop} {D : DM} {s : JS} (n : Int) (hD : DI w a F D) (hJ : JI w j a G s) (hn : I64 n) (hg : s.gone = false) (h8 : diskErr D n ≠ 8) :
    Calls Try.prog 18 #[.pointer (some j), .int .i64 n] w fun e w' => ∃ v, e = .returned (.tuple #[v, .int .i64 (diskErr D n)]) ∧ Fresh w' w.heap.size v (diskOut D n) ∧ Below w.heap.size w w' := by
  obtain ⟨q, rfl, rfl, hv⟩ := hJ
  rw [hg] at hv
  have hmf : ∀ (fn : Fn) (first cap : Array Value) (w : World), (Instr.makeFunc fn first cap).run Try.prog w = .ok (.func fn first cap) w := fun _ _ _ _ => rfl
  obtain ⟨V0, hV0⟩ : ∃ V0, w.alloc (.cells #[.pointer (some ⟨q, 0, none⟩)] 33) = V0 := ⟨_, rfl⟩
  obtain ⟨V1, hV1⟩ : ∃ V1, V0.alloc (.cells #[.int .i64 n] 3) = V1 := ⟨_, rfl⟩
  obtain ⟨V2, hV2⟩ : ∃ V2, V1.alloc (.cells #[.slice none 0 0] 46) = V2 := ⟨_, rfl⟩
  obtain ⟨V3, hV3⟩ : ∃ V3, V2.alloc (.cells #[.int .i64 0] 31) = V3 := ⟨_, rfl⟩
  have b0 : Below w.heap.size w V0 := by rw [← hV0]; exact (Below.refl _ _).alloc (Nat.le_refl _) _
  have b1 : Below V0.heap.size V0 V1 := by rw [← hV1]; exact (Below.refl _ _).alloc (Nat.le_refl _) _
  have b2 : Below V1.heap.size V1 V2 := by rw [← hV2]; exact (Below.refl _ _).alloc (Nat.le_refl _) _
  have b3 : Below V2.heap.size V2 V3 := by rw [← hV3]; exact (Below.refl _ _).alloc (Nat.le_refl _) _
  have s0 : V0.heap.size = w.heap.size + 1 := by rw [← hV0]; simp
  have s1 : V1.heap.size = w.heap.size + 2 := by rw [← hV1, World.size_alloc, s0]
  have s2 : V2.heap.size = w.heap.size + 3 := by rw [← hV2, World.size_alloc, s1]
  have s3 : V3.heap.size = w.heap.size + 4 := by rw [← hV3, World.size_alloc, s2]
  have c3 : V3.cell? ⟨w.heap.size + 3, 0, none⟩ = some (.int .i64 0) := by rw [← s2, ← hV3, World.cell?_alloc_new]; rfl
  have f3 : V3.frozen? ⟨w.heap.size + 3, 0, none⟩ = false := by rw [← s2, ← hV3, World.frozen?_alloc_mark]; simp
  have c2 : V3.cell? ⟨w.heap.size + 2, 0, none⟩ = some (.slice none 0 0) := cell_later b3 (by rw [← s1, ← hV2, World.cell?_alloc_new]; rfl)
  have f2 : V3.frozen? ⟨w.heap.size + 2, 0, none⟩ = false := by rw [b3.frozen (p := ⟨w.heap.size + 2, 0, none⟩) (by show w.heap.size + 2 < _; omega), ← s1, ← hV2, World.frozen?_alloc_mark]; simp
  have c1 : V3.cell? ⟨w.heap.size + 1, 0, none⟩ = some (.int .i64 n) := cell_later b3 (cell_later b2 (by rw [← s0, ← hV1, World.cell?_alloc_new]; rfl))
  have c0 : V3.cell? ⟨w.heap.size, 0, none⟩ = some (.pointer (some ⟨q, 0, none⟩)) := cell_later b3 (cell_later b2 (cell_later b1 (by rw [← hV0, World.cell?_alloc_new]; rfl)))
  have B3 : Below w.heap.size w V3 := ((b0.trans (b1.mono (by omega))).trans (b2.mono (by omega))).trans (b3.mono (by omega))
  have hql := hv.lt
  have cG := guard_any (w := V3) (q := q) (f := 37) (caps := #[.pointer (some ⟨w.heap.size, 0, none⟩), .pointer (some ⟨w.heap.size + 1, 0, none⟩), .pointer (some ⟨w.heap.size + 2, 0, none⟩), .pointer (some ⟨w.heap.size + 3, 0, none⟩)]) (E := diskErr D n)
    (R := fun W w' => ∃ v w1, Fresh w1 W.heap.size v (diskOut D n) ∧ Below W.heap.size W w1 ∧ w' = ((w1.setCell ⟨w.heap.size + 2, 0, none⟩ v).setCell ⟨w.heap.size + 3, 0, none⟩ (.int .i64 (diskErr D n)))) (hv.later B3) (fun W => by kernel_rfl)
    (fun W hW => read1_any hn (diskOk.later hD (B3.trans (hW.mono B3.size))) (cell_later hW c0) ((hv.later B3).later hW).1 (cell_later hW c1) (cell_later hW c2) (cell_later hW c3) (by rw [hW.frozen (p := ⟨w.heap.size + 2, 0, none⟩) (by show w.heap.size + 2 < _; omega)]; exact f2) (by rw [hW.frozen (p := ⟨w.heap.size + 3, 0, none⟩) (by show w.heap.size + 3 < _; omega)]; exact f3) ⟨⟨by omega, by omega, by omega⟩, ⟨by omega, by omega, by omega⟩, by omega⟩)
    (fun W w' hW hr => by
      obtain ⟨v, w1, _, hb, rfl⟩ := hr
      refine ⟨fun k h1 h2 => ?_, by rw [set_size, set_size]; exact hb.size, false, ?_, ?_⟩
      · rw [set_heap _ _ 0 _ (by omega), set_heap _ _ 0 _ (by omega)]; exact hb.block k h2
      · rw [World.cell?_setCell_other (h := fun e => by have := congrArg Addr.block e; simp only at this; omega), World.cell?_setCell_other (h := fun e => by have := congrArg Addr.block e; simp only at this; omega)]
        exact (((hv.later B3).later hW).later hb).2.2.2.1
      · simpa using (((hv.later B3).later hW).later hb).2.2.2.2 3)
  have HG := Lib.hid cG
  have HB3 := Lib.hid B3
  have HC := Lib.hid (And.intro c2 (And.intro c3 (And.intro f2 f3)))
  have HV := Lib.hid (hv.later B3)
  have hn1 : ¬ w.heap.size + 2 = w.heap.size + 3 := by omega
  have hn2 : ¬ w.heap.size + 3 = w.heap.size + 2 := by omega
  obtain ⟨P, hP⟩ : ∃ P, w.heap.size = P := ⟨_, rfl⟩
  obtain ⟨P1, hP1⟩ : ∃ P1, w.heap.size + 1 = P1 := ⟨_, rfl⟩
  obtain ⟨P2, hP2⟩ : ∃ P2, w.heap.size + 2 = P2 := ⟨_, rfl⟩
  obtain ⟨P3, hP3⟩ : ∃ P3, w.heap.size + 3 = P3 := ⟨_, rfl⟩
  have HN := Lib.hid (And.intro hP (And.intro hP1 (And.intro hP2 (And.intro hP3 (And.intro s3 hql)))))
  rw [hP2, hP3] at HC hn1 hn2
  rw [hP1, hP2, hP3, hP] at HG
  rw [hP] at c0
  rw [hP1] at c1
  rw [hP2] at c2 f2
  rw [hP3] at c3 f3
  have HE : Hid (decide (diskErr D n = 8) = false) := Lib.hid (decide_eq_false h8)
  have K0 : V0.heap.size = P1 := by rw [s0, hP1]
  have K1 : V1.heap.size = P2 := by rw [s1, hP2]
  have K2 : V2.heap.size = P3 := by rw [s2, hP3]
  clear cG B3 hv b0 b1 b2 b3 s0 s1 s2 s3 hql h8 hP1 hP2 hP3 hD
  obtain ⟨E, hE⟩ : ∃ E, diskErr D n = E := ⟨_, rfl⟩
  rw [hE] at HG HE
  rw [hE]
  clear hE
  go_enter Try.func18, Try.ntmps18
  go_wp2_with (first
    | (go_at_call 27; refine HG.out.mono ?_; rintro e w5 ⟨rfl, W, w2, hW, hWs, ⟨v, w1, hf, hb, rfl⟩, rfl⟩; rw [HE.out]; obtain ⟨ad, cp, rfl, hA⟩ := hf; have HF := Lib.hid (⟨ad, cp, rfl, hA⟩ : Fresh w1 W.heap.size (.slice ad (diskOut D n).length cp) (diskOut D n)); obtain ⟨W5, hW5⟩ : ∃ W5, (((w1.setCell ⟨P2, 0, none⟩ (.slice ad (diskOut D n).length cp)).setCell ⟨P3, 0, none⟩ (.int .i64 E)).setCell ⟨V3.heap.size + 1, 0, none⟩ (.int .i64 E)).setCell ⟨q, 3, none⟩ (.bool false) = W5 := ⟨_, rfl⟩; have hx := read_back HN.out HV.out HC.out HF.out hW hb HB3.out hWs hW5; rw [hW5]; obtain ⟨x2, x3, g2, g3, hfr, hbl⟩ := hx; have HX := Lib.hid (And.intro hfr hbl); have HWW : Hid (w.heap.size ≤ W.heap.size) := Lib.hid (by have h1 := hW.size; have h2 := HB3.out.size; omega); clear hA hW hWs hb hW5 hfr hbl))
  have nb2 : Hid ((⟨P2, 0, none⟩ : Addr) ≠ ⟨P3, 0, none⟩) := Lib.hid (fun e => hn1 (congrArg Addr.block e))
  have nb3 : Hid ((⟨P3, 0, none⟩ : Addr) ≠ ⟨P2, 0, none⟩) := Lib.hid (fun e => hn2 (congrArg Addr.block e))
  obtain ⟨W6, hW6⟩ : ∃ W6, W5.setCell ⟨P3, 0, none⟩ (.int .i64 E) = W6 := ⟨_, rfl⟩
  have m3 : W6.cell? ⟨P3, 0, none⟩ = some (.int .i64 E) := by rw [← hW6]; exact World.cell?_setCell_same W5 _ _ x3
  have m2 : W6.cell? ⟨P2, 0, none⟩ = some (.slice ad (diskOut D n).length cp) := by rw [← hW6, World.cell?_setCell_other (h := nb3.out)]; exact x2
  have l2 : W6.frozen? ⟨P2, 0, none⟩ = false := by rw [← hW6]; simpa using g2
  have l3 : W6.frozen? ⟨P3, 0, none⟩ = false := by rw [← hW6]; simpa using g3
  have hf6 : Fresh W5 w.heap.size (.slice ad (diskOut D n).length cp) (diskOut D n) := HX.out.1.mono HWW.out
  have hs6 : Fresh W6 w.heap.size (.slice ad (diskOut D n).length cp) (diskOut D n) ∧ Below w.heap.size w W6 := by
    rw [← hW6]
    exact ⟨hf6.kept2 (fun k => same_heap x3 k), HX.out.2.trans (below_same x3 _)⟩
  have HS6 := Lib.hid hs6
  clear hs6 hf6
  rw [hW6]
  refine wp_region_held_drew (S := fun X => X.cell? ⟨P2, 0, none⟩ = some (.slice ad (diskOut D n).length cp) ∧ X.cell? ⟨P3, 0, none⟩ = some (.int .i64 E)) (by kernel_rfl) ⟨m2, m3⟩ (fun hHeld => ?_)
  refine wpAnyH_take (i := 0) (oi := ⟨some 9, _, _, _, _, _⟩) (v := .slice ad (diskOut D n).length cp) rfl (by kernel_rfl) (by kernel_rfl) (by kernel_rfl) (fun _ _ _ h => h) (Or.inl ⟨by kernel_rfl, by intro w hSw; obtain ⟨s1, s2⟩ := hSw; go_simp⟩) (by assumption) ?_
  try simp only [Act.put, List.setIfInBounds_toArray, List.set_cons_zero, List.set_cons_succ]
  refine wpAnyH_take (i := 1) (oi := ⟨some 10, _, _, _, _, _⟩) (v := .int .i64 E) rfl (by kernel_rfl) (by kernel_rfl) (by kernel_rfl) (fun _ _ _ h => h) (Or.inl ⟨by kernel_rfl, by intro w hSw; obtain ⟨s1, s2⟩ := hSw; go_simp⟩) (by assumption) ?_
  try simp only [Act.put, List.setIfInBounds_toArray, List.set_cons_zero, List.set_cons_succ]
  refine wpAnyH_ready (rs := [2]) (by kernel_rfl) (by simp) ?_
  refine AllReadyH.cons (o := ⟨none, _, _, _, _, _⟩) rfl (fun K hK => ?_) AllReadyH.nil
  go_simp
  refine hK.out _ _ ?_ (fun hHeld1 => ?_)
  · exact ⟨World.cell?_setCell_same W6 _ _ m2, (show (W6.setCell ⟨P2, 0, none⟩ (.slice ad (diskOut D n).length cp)).cell? ⟨P3, 0, none⟩ = some (.int .i64 E) by rw [World.cell?_setCell_other (h := nb2.out)]; exact m3)⟩
  clear hK K
  try simp only [Act.put, List.setIfInBounds_toArray, List.set_cons_zero, List.set_cons_succ]
  refine wpAnyH_ready (rs := [3]) (by kernel_rfl) (by simp) ?_
  refine AllReadyH.cons (o := ⟨none, _, _, _, _, _⟩) rfl (fun K hK => ?_) AllReadyH.nil
  go_simp
  refine hK.out _ _ ?_ (fun hHeld2 => ?_)
  · have t3 : (W6.setCell ⟨P2, 0, none⟩ (.slice ad (diskOut D n).length cp)).cell? ⟨P3, 0, none⟩ = some (.int .i64 E) := by rw [World.cell?_setCell_other (h := nb2.out)]; exact m3
    exact ⟨(show ((W6.setCell ⟨P2, 0, none⟩ (.slice ad (diskOut D n).length cp)).setCell ⟨P3, 0, none⟩ (.int .i64 E)).cell? ⟨P2, 0, none⟩ = some (.slice ad (diskOut D n).length cp) by rw [World.cell?_setCell_other (h := nb3.out)]; exact World.cell?_setCell_same W6 _ _ m2), World.cell?_setCell_same _ _ _ t3⟩
  clear hK K
  try simp only [Act.put, List.setIfInBounds_toArray, List.set_cons_zero, List.set_cons_succ]
  refine wpAnyH_done (by kernel_rfl) ?_ _
  go_wp2_with fail
  have t3 : (W6.setCell ⟨P2, 0, none⟩ (.slice ad (diskOut D n).length cp)).cell? ⟨P3, 0, none⟩ = some (.int .i64 E) := by rw [World.cell?_setCell_other (h := nb2.out)]; exact m3
  have t2 : (W6.setCell ⟨P2, 0, none⟩ (.slice ad (diskOut D n).length cp)).cell? ⟨P2, 0, none⟩ = some (.slice ad (diskOut D n).length cp) := World.cell?_setCell_same W6 _ _ m2
  have hb7 := (HS6.out.2.trans (below_same m2 _)).trans (below_same t3 _)
  have hf7 := (HS6.out.1.kept2 (fun k => same_heap m2 k)).kept2 (fun k => same_heap t3 k)
  obtain ⟨u2, u3⟩ := hHeld2
  refine bodyPost_ret (v := .tuple #[.slice ad (diskOut D n).length cp, .int .i64 E]) ?_ rfl ⟨_, rfl, hf7.later (Below.refl _ _).drew, hb7.drew⟩
  rw [results_cell_cell rfl]
  clear hb7 hf7 t2 t3
  go_simp
  try rfl

end Go.Proofs.Ytbnepjojfaeggaa
