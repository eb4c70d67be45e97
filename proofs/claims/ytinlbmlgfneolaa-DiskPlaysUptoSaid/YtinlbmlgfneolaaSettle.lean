/-
  Proved here: what a cell of the landed disk is when it has settled.
  The conditions stand at each theorem.
-/
import Derived.Test.YtinlbmlgfneolaaCell
namespace Go.Proofs.Ytinlbmlgfneolaa
open Go.RowKit
set_option linter.unusedVariables false
set_option linter.unusedSimpArgs false

theorem Grew.refl (F : Nat → Prop) (w : World) : Grew F F w w := ⟨rfl, rfl, rfl, Nat.le_refl _, fun _ _ _ => rfl, fun _ h => Or.inl h⟩
theorem Grew.trans {F F' F'' : Nat → Prop} {a b c : World} (h : Grew F F' a b) (k : Grew F' F'' b c) : Grew F F'' a c := by
  obtain ⟨h1, h2, h3, h4, h5, h6⟩ := h
  obtain ⟨k1, k2, k3, k4, k5, k6⟩ := k
  refine ⟨k1.trans h1, k2.trans h2, k3.trans h3, Nat.le_trans h4 k4, fun i hi hF => ?_, fun i hi => ?_⟩
  · rw [k5 i (by omega) (fun hf => ?_), h5 i hi hF]
    rcases h6 i hf with h | h
    · exact hF h
    · omega
  · rcases k6 i hi with h | h
    · exact h6 i h
    · exact Or.inr (by omega)
theorem Grew.of_below {F : Nat → Prop} {w w' : World} (h : Below w.heap.size w w') : Grew F F w w' := ⟨h.os, h.tape, h.output, h.size, fun k hk _ => h.block k hk, fun _ h => Or.inl h⟩
theorem Grew.setCell (F : Nat → Prop) (w : World) {p : Addr} (hp : F p.block) (v : Value) : Grew F F w (w.setCell p v) :=
  ⟨rfl, rfl, rfl, by simp [World.setCell], fun k _ hF => Below.heap_setCell _ _ _ _ (fun e => hF (by rw [e]; exact hp)), fun _ h => Or.inl h⟩
theorem Grew.setCells (F : Nat → Prop) {b : Nat} (hb : F b) : ∀ (vs : List Value) (o : Nat) (w : World), Grew F F w (w.setCells b o vs)
  | [], _, w => Grew.refl F w
  | v :: r, o, w => by
    rw [World.setCells]
    exact (Grew.setCell F w (p := ⟨b, o, none⟩) hb v).trans (Grew.setCells F hb r (o + 1) _)
theorem Grew.drew (F : Nat → Prop) (w : World) : Grew F F w w.drew := ⟨rfl, rfl, rfl, Nat.le_refl _, fun _ _ _ => rfl, fun _ h => Or.inl h⟩

theorem getLastD_take {ls : List Int} {os : List (List Int)} {m : Nat} (h : m ≤ os.length) : (ls :: os.take m).getLastD [] = (ls :: os).getD m [] := by
  rw [List.getLastD_eq_getLast?, List.getLast?_eq_getElem?, List.getD_eq_getElem?_getD]
  have e : (ls :: os.take m).length - 1 = m := by rw [List.length_cons, List.length_take]; omega
  rw [e, show ls :: os.take m = (ls :: os).take (m + 1) from rfl, List.getElem?_take, if_pos (by omega)]

/-- Which open write is the last one that is kept. -/
def keptN (n : Int) (L : Nat) : Nat := min n.toNat L

theorem still_val {ops : Array Oper} {rest : List Oper} {o : Oper} {a : Act} {w : World} {Q : Act → Prop} (hg : o.guard = none) (dst : Option Tmp) (hd : o.dst = dst) (v : Value) (hrun : (execOp a.eval o).run Try.prog w = .ok (.value v) w)
    (h : wpStill Try.prog ops w Q rest (a.put dst v)) : wpStill Try.prog ops w Q (o :: rest) a := by
  subst hd
  refine wpStill_step (fun K hK => ?_)
  rw [if_pos (by simp [Region.wanted, hg])]
  unfold Oper.still
  rw [hrun, Oper.stillUpon_value]
  exact hK _ h

theorem exec_val {w w' : World} {s : Sem Value} {v : Value} (h : s.run Try.prog w = .ok v w') : Sem.run Try.prog (do pure (Next.value (← s))) w = .ok (.value v) w' := by
  simp only [Sem.run_bind, h, Result.andThen_ok, Sem.run_pure]

theorem u66 : Try.prog.underlying 66 = some (.slice 65) := Try.underlying66
theorem sz65 (w : World) : (sizeOf 65).run Try.prog w = .ok 64 w := by rfl

theorem slice_to (w : World) (ao : Option Addr) (L cap m : Nat) (hm : m ≤ cap) (hao : ao = none ∨ ∃ r, ao = some ⟨r, 0, none⟩) :
    (Instr.sliceAt 66 (.slice ao L cap) none (some (.int .i64 (m : Int))) none).run Try.prog w = .ok (.slice ao m cap) w := by
  have hu := u66
  have hz := sz65 w
  have h1 : (m : Int) ≤ (cap : Int) := by omega
  rcases hao with rfl | ⟨r, rfl⟩
  · simp [Instr.sliceAt, Instr.slice, run_underlying hu, Instr.sliceBounds, Instr.sliceBound, asIntOf, hz, hm]
  · simp [Instr.sliceAt, Instr.slice, run_underlying hu, Instr.sliceBounds, Instr.sliceBound, asIntOf, hz, hm, Go.WideShapes.add_plain]

theorem owns_turn {w w' : World} {base n sz : Nat} {e : TypeId} {v : Value} {xs : List Value} (h : w.ownsRow base e sz v n xs) (hk : ∀ k, v.ownBlock = some k → w'.heap[k]? = w.heap[k]?) : w'.ownsRow base e sz v n xs := by
  refine ⟨h.1, ?_⟩
  rcases h.2 with h1 | ⟨b, cap, cur, hv1, hg, hh, r⟩
  · exact Or.inl h1
  · refine Or.inr ⟨b, cap, cur, hv1, hg, ?_, r⟩
    rw [hk b (by rw [hv1]; rfl)]
    exact hh

/-- A cell that keeps the first m of its open writes. -/
theorem CellIs.cut {w : World} {g off : Nat} {ls : List Int} {ao : Option Addr} {cap : Nat} {os : List (List Int)} (h : CellIs w g off ls ao cap os) {m : Nat} (hm : m ≤ os.length) :
    CellIs ((w.setCell ⟨g, off + 64, none⟩ (.slice ao m cap)).drew) g off ls ao cap (os.take m) := by
  have hl : (os.take m).length = m := by rw [List.length_take]; omega
  refine ⟨(World.rangeAt_drew _ _ _ _).2 (fun j v hv => ?_), ?_, ?_, ?_, h.len.1, fun c hc => h.len.2 c (List.mem_of_mem_take hc)⟩
  · have hj : j < 64 := by have := (List.getElem?_eq_some_iff.1 hv).1; rw [bys_length, h.len.1] at this; exact this
    rw [World.cell?_setCell_other (h := by intro e; simp at e <;> omega)]
    exact h.last j v hv
  · rw [hl]
    show (w.setCell ⟨g, off + 64, none⟩ (.slice ao m cap)).cell? ⟨g, off + 64, none⟩ = _
    exact World.cell?_setCell_same w _ _ h.opn
  · rw [hl, ← flat_take os m h.len.2]
    refine owns_turn (owns_takeN h.row hm) (fun k hk => ?_)
    show (w.setCell ⟨g, off + 64, none⟩ (.slice ao m cap)).heap[k]? = _
    refine Below.heap_setCell _ _ _ _ (fun e => h.away ?_)
    have hk : (Value.slice ao m cap).ownBlock = some k := hk
    rw [e] at hk
    cases ao <;> simp_all [Value.ownBlock]
  · rw [hl]
    intro e
    refine h.away ?_
    cases ao <;> simp_all [Value.ownBlock]

theorem CellIs.form {w : World} {g off : Nat} {ls : List Int} {ao : Option Addr} {cap : Nat} {os : List (List Int)} (h : CellIs w g off ls ao cap os) : (ao = none ∨ ∃ r, ao = some ⟨r, 0, none⟩) ∧ os.length ≤ cap := by
  rcases h.row.2 with ⟨hv, h0⟩ | ⟨r, cap', cur, hv, _, _, hc, _⟩
  · simp only [Value.slice.injEq] at hv
    exact ⟨Or.inl hv.1, by omega⟩
  · simp only [Value.slice.injEq, true_and] at hv
    obtain ⟨rfl, rfl⟩ := hv
    exact ⟨Or.inr ⟨r, rfl⟩, hc⟩

theorem CellIs.lt {w : World} {g off : Nat} {ls : List Int} {ao : Option Addr} {cap : Nat} {os : List (List Int)} (h : CellIs w g off ls ao cap os) : g < w.heap.size := World.block_lt_of_cell? _ _ h.opn

/-- A cell has settled: its contents are c, nothing is open; nothing else has turned. -/
structure Settled (w w' : World) (g off : Nat) (c : List Int) : Prop where
  grew : Grew (fun k => k = g) (fun k => k = g) w w'
  rest : ∀ j, (j < off ∨ off + 65 ≤ j) → w'.cell? ⟨g, j, none⟩ = w.cell? ⟨g, j, none⟩
  frz : ∀ j, w'.frozen? ⟨g, j, none⟩ = w.frozen? ⟨g, j, none⟩
  last : w'.rangeAt g off (bys c)
  opn : w'.cell? ⟨g, off + 64, none⟩ = some (.slice none 0 0)

theorem there_cell {w : World} {g off : Nat} {ls : List Int} {ao : Option Addr} {cap : Nat} {os : List (List Int)} (h : CellIs w g off ls ao cap os) (hfr : ∀ j, w.frozen? ⟨g, j, none⟩ = false) : w.there g off 64 := by
  intro j hj
  exact ⟨h.last.isSome j (by rw [bys_length, h.len.1]; exact hj), hfr _⟩

theorem settled_of {w w2 : World} {g off : Nat} {ls : List Int} {ao : Option Addr} {cap : Nat} {os : List (List Int)} {v : Value} {c : List Int} (h : CellIs w g off ls ao cap os) (hfr : ∀ j, w.frozen? ⟨g, j, none⟩ = false)
    (hb : Below w.heap.size ((w.setCell ⟨g, off + 64, none⟩ v).drew) w2) (hc : c.length = 64) : w2.there g off (bys c).toArray.size ∧ (∀ j, (w2.setCells g off (bys c)).frozen? ⟨g, j, none⟩ = false) ∧ (w2.setCells g off (bys c)).cell? ⟨g, off + 64, none⟩ = some v ∧
      Settled w ((w2.setCells g off (bys c)).setCell ⟨g, off + 64, none⟩ (.slice none 0 0)) g off c := by
  have hlt := h.lt
  have hc2 : ∀ j, w2.cell? ⟨g, j, none⟩ = (w.setCell ⟨g, off + 64, none⟩ v).cell? ⟨g, j, none⟩ := fun j => hb.cell (p := ⟨g, j, none⟩) hlt
  have hf2 : ∀ j, w2.frozen? ⟨g, j, none⟩ = w.frozen? ⟨g, j, none⟩ := fun j => by
    rw [hb.frozen (p := ⟨g, j, none⟩) hlt]
    show (w.setCell ⟨g, off + 64, none⟩ v).frozen? ⟨g, j, none⟩ = _
    simp
  have h64 : (bys c).length = 64 := by rw [bys_length, hc]
  have ht : w2.there g off 64 := fun j hj => ⟨by
    rw [hc2, World.cell?_setCell_other (h := by intro e; simp at e <;> omega)]
    exact (there_cell h hfr j hj).1, by rw [hf2]; exact hfr _⟩
  have ho : (w2.setCells g off (bys c)).cell? ⟨g, off + 64, none⟩ = some v := by
    rw [World.cell?_setCells_out g (bys c) off w2 ⟨g, off + 64, none⟩ (fun _ _ => by right; rw [h64]; exact Nat.le_refl _), hc2]
    exact World.cell?_setCell_same w _ _ h.opn
  have e64 : (bys c).toArray.size = 64 := by simp [h64]
  refine ⟨by rw [e64]; exact ht, fun j => by rw [World.frozen?_setCells, hf2]; exact hfr j, ho, ⟨?_, fun j hj => ?_, fun j => ?_, ?_, ?_⟩⟩
  · have g1 : Grew (fun k => k = g) (fun k => k = g) w (w.setCell ⟨g, off + 64, none⟩ v) := Grew.setCell (fun k => k = g) w (p := ⟨g, off + 64, none⟩) rfl v
    have g2 : Grew (fun k => k = g) (fun k => k = g) ((w.setCell ⟨g, off + 64, none⟩ v).drew) w2 := Grew.of_below (hb.mono (by show (w.setCell _ _).heap.size ≤ _; simp [World.setCell]))
    exact (((g1.trans (Grew.drew _ _)).trans g2).trans (Grew.setCells (fun k => k = g) (b := g) rfl _ _ _)).trans (Grew.setCell (fun k => k = g) _ (p := ⟨g, off + 64, none⟩) rfl _)
  · rw [World.cell?_setCell_other (h := by intro e; simp at e <;> omega), World.cell?_setCells_out g (bys c) off w2 ⟨g, j, none⟩ (fun _ _ => by show j < off ∨ _ ≤ j; rw [h64]; omega), hc2, World.cell?_setCell_other (h := by intro e; simp at e <;> omega)]
  · simp only [World.frozen?_setCell, World.frozen?_setCells]
    exact hf2 j
  · intro j v' hv
    have hj : j < 64 := by have := (List.getElem?_eq_some_iff.1 hv).1; rw [h64] at this; exact this
    rw [World.cell?_setCell_other (h := by intro e; simp at e <;> omega)]
    exact World.rangeAt_setCells_same w2 g off (bys c) (by rw [h64]; exact ht) j v' hv
  · exact World.cell?_setCell_same _ _ _ ho

theorem kept_eq (n : Int) (L : Nat) : (if (0 : Int) < (if (L : Int) < n then (L : Int) else n) then (if (L : Int) < n then (L : Int) else n) else 0) = ((keptN n L : Nat) : Int) := by
  unfold keptN
  split <;> split at * <;> omega

set_option maxRecDepth 100000 in
set_option maxHeartbeats 1600000 in
theorem settle_any {w : World} {g off : Nat} {ls : List Int} {ao : Option Addr} {cap : Nat} {os : List (List Int)} (h : CellIs w g off ls ao cap os) (hfr : ∀ j, w.frozen? ⟨g, j, none⟩ = false) (n : Int) :
    Calls Try.prog 28 #[.pointer (some ⟨g, off, none⟩), .int .i64 n] w fun e w' => e = .returned (.tuple #[]) ∧ Settled w w' g off ((ls :: os).getD (keptN n os.length) []) := by
  obtain ⟨L, hL⟩ : ∃ L, os.length = L := ⟨_, rfl⟩
  obtain ⟨m, hm⟩ : ∃ m, keptN n L = m := ⟨_, rfl⟩
  have hmL : m ≤ L := by rw [← hm]; exact Nat.min_le_right _ _
  obtain ⟨c, hc⟩ : ∃ c, (ls :: os).getD m [] = c := ⟨_, rfl⟩
  have hc64 : c.length = 64 := by
    have hlt : m < (ls :: os).length := by rw [List.length_cons]; omega
    have hx : (ls :: os)[m]? = some c := by rw [← hc, List.getD_eq_getElem?_getD, List.getElem?_eq_getElem hlt]; rfl
    rcases List.mem_cons.1 (List.mem_of_getElem? hx) with e | e
    · rw [e]; exact h.len.1
    · exact h.len.2 _ e
  have ho := h.opn
  rw [hL] at ho
  have HM := Lib.hid (kept_eq n L)
  rw [hm] at HM
  have HSL := Lib.hid (slice_to w.drew ao L cap m (by have := h.form.2; omega) h.form.1)
  have hfr64 := hfr (off + 64)
  have HC1 := Lib.hid (h.cut (m := m) (by omega))
  have HE : Hid ((ls :: os.take m).getLastD [] = c) := Lib.hid (by rw [getLastD_take (by omega)]; exact hc)
  rw [hL, hm, hc]
  have H := Lib.hid h
  have HFR := Lib.hid hfr
  have HC := Lib.hid hc64
  clear h hfr hL hm hc hmL hc64
  go_enter Try.func28, Try.ntmps28
  go_wp2_with fail
  refine wp_region_still_tail 16 (by kernel_rfl) (by kernel_rfl) ?_
  simp only [List.take_succ_cons, List.take_zero, List.drop_succ_cons, List.drop_zero]
  try rw [drew_eq]
  iterate 13 still_step
  rw [HM.out]
  generalize (if (L : Int) < n then (L : Int) else n) = q
  refine still_val rfl (some 17) rfl (.slice ao m cap) (exec_val HSL.out) ?_
  iterate 2 still_step
  refine wpStill_nil ?_
  go_wp2_with (first
    | (go_at_call 27; refine (last_cell HC1.out).mono ?_; rintro e w2 ⟨rfl, hb2⟩; rw [HE.out]; have HS := Lib.hid (settled_of (v := .slice ao m cap) H.out HFR.out (hb2.mono (by simp [World.setCell])) HC.out); have ho2 := HS.out.2.2.1; have hf2 := HS.out.2.1 (off + 64); clear hb2)
    | (refine wpList_store_mid rfl 65 (.tmp 24) (.tmp 22) rfl g off (bys c).toArray rfl rfl HS.out.1 (i65a HC.out) (all_oneCell_toArray (bys_one c)) ?_))
  go_end0
  exact ⟨rfl, HS.out.2.2.2⟩

end Go.Proofs.Ytinlbmlgfneolaa
