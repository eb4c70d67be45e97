/-
  Proved here: a list of found writes put behind another one; what lies still while a log's found writes are gathered.
  The conditions stand at each theorem.
-/
import Derived.Test.YtbnepjojfaeggaaJrRows
namespace Go.Proofs.Ytbnepjojfaeggaa
open Go.RowKit
set_option linter.unusedVariables false
set_option linter.unusedSimpArgs false

theorem append_wat {b0 T R R2 : Nat} {w : World} {v v2 : Value} {ws ws2 : List (Int × List Int)} (h : WAt b0 T R w v ws) (h2 : WAt b0 T R2 w v2 ws2) (hb : ws.length + ws2.length ≤ 100000) (ty : TypeId) :
    ∃ v' w', (Builtin.append_ #[27, 27] ty #[v, v2]).run Try.prog w = .ok v' w' ∧ WAt b0 T R w' v' (ws ++ ws2) ∧ Below R w w' := by
  obtain ⟨hu, hi, hz, hp, hnb⟩ := elemW
  obtain ⟨i0, hi0, hz0, hz1, hz2⟩ := info_parts hi
  obtain ⟨ht, xs, ho, hx⟩ := h
  obtain ⟨ht2, xs2, ho2, hx2⟩ := h2
  have hx2l : xs2.length = ws2.length * 2 := ho2.1
  rcases ho2.2 with ⟨rfl, h0⟩ | ⟨g, cap, cur, hv, hbg, hh, hc, _⟩
  · have hw2 : ws2 = [] := List.length_eq_zero_iff.1 h0
    subst hw2
    exact ⟨v, w, run_append_owned_none (P := Try.prog) (w := w) R 27 ty 48 i0 2 hu hi0 v ws.length xs ho, by rw [List.append_nil]; exact ⟨ht, xs, ho, hx⟩, Below.refl _ _⟩
  · subst hv
    obtain ⟨v', w', hrun, h3, h4, _⟩ := run_append_own (P := Try.prog) w R 27 ty 48 i0 _ 2 32 hu hi0 hz0 hz1 hz2 hz hp v ws.length xs ho ⟨g, 0, none⟩ ws2.length cap xs2 hx2l (ho2.cells (g := g) rfl)
      (fun u hu2 => by
        obtain ⟨k, hk, rfl⟩ := List.mem_iff_getElem.1 hu2
        have hj : k / 2 < ws2.length := by omega
        obtain ⟨c1, _, d, o, c, c3, _⟩ := hx2 (k / 2) (ws2[k / 2]).1 (ws2[k / 2]).2 (List.getElem?_eq_getElem hj)
        by_cases hp : k % 2 = 0
        · rw [show k / 2 * 2 = k from by omega, List.getElem?_eq_getElem hk] at c1
          rw [Option.some.inj c1]; rfl
        · rw [show k / 2 * 2 + 1 = k from by omega, List.getElem?_eq_getElem hk] at c3
          rw [Option.some.inj c3]; rfl) (by unfold maxLen; omega) (by omega) ht.2
    exact ⟨v', w', hrun, WAt.join ht ho hx hx2l hx2 h3 h4, (Below.refl R w).grown h4 ht.2 (fun k hk => (ho.lt k hk).1)⟩

/-- 'append' of which the run is known, as one operation of a statement that draws its order. -/
theorem op_append_known {o : Oper} {a : Act} {w : World} {K : Act → World → Prop} {Q : Exit → Act → World → Prop} (s y : Operand) (t u : TypeId) (ho : o.op = .call { callee := .builtin .append, args := #[s, y], argTypes := #[t, u] }) (v x : Value) (hs : a.eval s = v) (hy : a.eval y = x) (R : Value → World → Prop)
    (hr : ∃ v' w', (Builtin.append_ #[t, u] o.type #[v, x]).run Try.prog w = .ok v' w' ∧ R v' w') (h : ∀ v' w', R v' w' → K (a.put o.dst v') w') : Oper.wp Try.prog o a w K Q := by
  obtain ⟨v', w', hrun, hR⟩ := hr
  unfold Oper.wp
  simp [execOp, ho, resolve, invoke, builtin, hs, hy, hrun, Result.andThen]
  exact h v' w' hR

theorem WIn.kept {F : Nat → Prop} {w w' : World} {ao : Option Addr} {m : Nat} {ws : List (Int × List Int)} (h : WIn F w ao m ws) (hk : ∀ k, F k → w'.heap[k]? = w.heap[k]?) : WIn F w' ao m ws := by
  obtain ⟨h1, h2, h3⟩ := h
  refine ⟨h1, h2, h3.imp_right ?_⟩
  rintro ⟨b, off, rfl, hF, hc⟩
  refine ⟨b, off, rfl, hF, fun j a zs hj => ?_⟩
  obtain ⟨c1, c2, db, doff, cap, c3, c5, c4⟩ := hc j a zs hj
  exact ⟨by rw [cell_of_heap (p := ⟨b, off + j * 2, none⟩) (hk b hF)]; exact c1, c2, db, doff, cap, by rw [cell_of_heap (p := ⟨b, off + j * 2 + 1, none⟩) (hk b hF)]; exact c3, c5, c4.kept (fun b' o s e => by cases e; exact hk db c5)⟩
theorem WIn.under {b0 : Nat} {w : World} {ao : Option Addr} {m : Nat} {ws : List (Int × List Int)} (h : WIn (fun k => b0 ≤ k) w ao m ws) : WIn (fun k => b0 ≤ k ∧ k < w.heap.size) w ao m ws := by
  obtain ⟨h1, h2, h3⟩ := h
  by_cases h0 : m = 0
  · exact ⟨h1, h2, Or.inl h0⟩
  obtain ⟨b, off, rfl, hF, hc⟩ := h3.resolve_left h0
  obtain ⟨p, hp⟩ : ∃ p, ws[0]? = some p := ⟨_, List.getElem?_eq_getElem (by omega)⟩
  refine ⟨h1, h2, Or.inr ⟨b, off, rfl, ⟨hF, World.block_lt_of_cell? _ _ (hc 0 p.1 p.2 hp).1⟩, fun j a zs hj => ?_⟩⟩
  obtain ⟨c1, c2, db, doff, cap, c3, c5, c4⟩ := hc j a zs hj
  exact ⟨c1, c2, db, doff, cap, c3, ⟨c5, arg_lt c4⟩, c4⟩

/-- Lists of writes, all in blocks from b0 on and below T. -/
def LAt (b0 T : Nat) (w : World) (ao : Option Addr) (m : Nat) (ls : List (List (Int × List Int))) : Prop :=
  ls.length = m ∧ (m = 0 ∨ ∃ b off, ao = some ⟨b, off, none⟩ ∧ (b0 ≤ b ∧ b < T) ∧ ∀ (j : Nat) (l : List (Int × List Int)), ls[j]? = some l → ∃ ad cap, w.cell? ⟨b, off + j, none⟩ = some (.slice ad l.length cap) ∧ WIn (fun k => b0 ≤ k ∧ k < T) w ad l.length l)
theorem LIn.under {b0 : Nat} {w : World} {ao : Option Addr} {m : Nat} {ls : List (List (Int × List Int))} (h : LIn b0 w ao m ls) : LAt b0 w.heap.size w ao m ls := by
  obtain ⟨h1, h3⟩ := h
  by_cases h0 : m = 0
  · exact ⟨h1, Or.inl h0⟩
  obtain ⟨b, off, rfl, hb, hc⟩ := h3.resolve_left h0
  obtain ⟨p, hp⟩ : ∃ p, ls[0]? = some p := ⟨_, List.getElem?_eq_getElem (by omega)⟩
  obtain ⟨ad0, cap0, c0, _⟩ := hc 0 p hp
  refine ⟨h1, Or.inr ⟨b, off, rfl, ⟨hb, World.block_lt_of_cell? _ _ c0⟩, fun j l hj => ?_⟩⟩
  obtain ⟨ad, cap, c1, c2⟩ := hc j l hj
  exact ⟨ad, cap, c1, c2.under⟩
theorem LAt.kept {b0 T : Nat} {w w' : World} {ao : Option Addr} {m : Nat} {ls : List (List (Int × List Int))} (h : LAt b0 T w ao m ls) (hk : ∀ k, b0 ≤ k → k < T → w'.heap[k]? = w.heap[k]?) : LAt b0 T w' ao m ls := by
  obtain ⟨h1, h3⟩ := h
  refine ⟨h1, h3.imp_right ?_⟩
  rintro ⟨b, off, rfl, hb, hc⟩
  refine ⟨b, off, rfl, hb, fun j l hj => ?_⟩
  obtain ⟨ad, cap, c1, c2⟩ := hc j l hj
  exact ⟨ad, cap, by rw [cell_of_heap (p := ⟨b, off + j, none⟩) (hk b hb.1 hb.2)]; exact c1, c2.kept (fun k h => hk k h.1 h.2)⟩
theorem LAt.at {b0 T : Nat} {w : World} {ao : Option Addr} {m i : Nat} {ls : List (List (Int × List Int))} (h : LAt b0 T w ao m ls) (hi : i < m) : ∃ b off l ad cap, ao = some ⟨b, off, none⟩ ∧ ls[i]? = some l ∧ w.cell? ⟨b, off + i, none⟩ = some (.slice ad l.length cap) ∧ WIn (fun k => b0 ≤ k ∧ k < T) w ad l.length l := by
  obtain ⟨h1, h3⟩ := h
  obtain ⟨b, off, rfl, _, hc⟩ := h3.resolve_left (by omega)
  have hx : ls[i]? = some (ls[i]'(by omega)) := List.getElem?_eq_getElem (by omega)
  obtain ⟨ad, cap, c1, c2⟩ := hc i _ hx
  exact ⟨b, off, _, ad, cap, rfl, hx, c1, c2⟩
theorem WAt.kept {b0 T R g : Nat} {w : World} {v : Value} {ws : List (Int × List Int)} (h : WAt b0 T R w v ws) (i : Nat) (x : Value) (hg : g < b0) (hb : b0 ≤ T) : WAt b0 T R (w.setCell ⟨g, i, none⟩ x) v ws := by
  obtain ⟨ht, xs, ho, hx⟩ := h
  refine ⟨⟨ht.1, by rw [set_size]; exact ht.2⟩, xs, owns_setCell ho (by omega), fun j a zs hj => ?_⟩
  obtain ⟨c1, c2, d, o, c, c3, c4, c6⟩ := hx j a zs hj
  exact ⟨c1, c2, d, o, c, c3, c4, c6.kept (fun b o s e => by cases e; exact set_heap w g i x (by omega))⟩

theorem BOwn.still {base lo : Nat} {w w' : World} {v : Value} {bs : List (List Int)} (h : BOwn base lo w v bs) {b0 : Nat} (h1 : b0 ≤ base) (h2 : b0 ≤ lo) (hk : ∀ k, b0 ≤ k → k < w.heap.size → w'.heap[k]? = w.heap[k]?) (hs : w.heap.size ≤ w'.heap.size) : BOwn base lo w' v bs := by
  obtain ⟨xs, ho, hx⟩ := h
  refine ⟨xs, owns_turn ho (fun k e => hk k (by have := (ho.lt k e).1; omega) (ho.lt k e).2), fun j zs hj => ?_⟩
  obtain ⟨d, o, c, c1, c2, c3, c4⟩ := hx j zs hj
  exact ⟨d, o, c, c1, ⟨c2.1, by omega⟩, c3, c4.kept (fun b o s e => by cases e; exact hk d (by omega) c2.2)⟩

/-- While a log's found writes are gathered: the view, the result, the head's variable, the blocks, what was found, what is gathered. -/
structure View2 (w : World) (D : DM) (rb q p5 : Nat) (bv : Value) (fa fs : Int) (b0 T : Nat) (ao : Option Addr) (ls : List (List (Int × List Int))) (wv : Value) (ws : List (Int × List Int)) (wr : World) : Prop where
  v : V4 wr q bv wv (.int .i64 0) (.int .i64 0)
  r : V4 wr rb (.slice none 0 0) (.slice none 0 0) (.int .i64 0) (.int .i64 0)
  h : RC wr p5 (.int .i64 fa) (.int .i64 fs)
  bo : ∃ w4 : World, BOwn (q + 1) (q + 1) w4 bv (curs D) ∧ w4.heap.size ≤ p5 ∧ ∀ k, q + 1 ≤ k → k < w4.heap.size → wr.heap[k]? = w4.heap[k]?
  lat : LAt b0 T wr ao ls.length ls
  wat : WAt b0 T T wr wv ws
  below : Below w.heap.size w wr
  ord : w.heap.size ≤ rb ∧ rb < q ∧ q < p5 ∧ p5 < b0 ∧ b0 ≤ T
theorem View2.later {w : World} {D : DM} {rb q p5 : Nat} {bv : Value} {fa fs : Int} {b0 T : Nat} {ao : Option Addr} {ls : List (List (Int × List Int))} {wv : Value} {ws : List (Int × List Int)} {wr w' : World} (h : View2 w D rb q p5 bv fa fs b0 T ao ls wv ws wr) (hb : Below wr.heap.size wr w') : View2 w D rb q p5 bv fa fs b0 T ao ls wv ws w' where
  v := h.v.later hb
  r := h.r.later hb
  h := h.h.later hb
  bo := by
    obtain ⟨w4, h1, h2, h3⟩ := h.bo
    exact ⟨w4, h1, h2, fun k hk hk2 => by rw [hb.block k (by have := h.h.lt; omega)]; exact h3 k hk hk2⟩
  lat := h.lat.kept (fun k _ h2 => hb.block k (Nat.lt_of_lt_of_le h2 h.wat.1.2))
  wat := h.wat.later hb
  below := h.below.trans (hb.mono h.below.size)
  ord := h.ord
/-- More is gathered: appended in new memory, then kept in the view. -/
theorem View2.put {w : World} {D : DM} {rb q p5 : Nat} {bv : Value} {fa fs : Int} {b0 T : Nat} {ao : Option Addr} {ls : List (List (Int × List Int))} {wv wv' : Value} {ws ws' : List (Int × List Int)} {wr w' : World} (h : View2 w D rb q p5 bv fa fs b0 T ao ls wv ws wr) (hb : Below T wr w') (hw : WAt b0 T T w' wv' ws') : View2 w D rb q p5 bv fa fs b0 T ao ls wv' ws' (w'.setCell ⟨q, 1, none⟩ wv') where
  v := (h.v.kept (hb.block q (by have := h.ord; omega))).set1 wv'
  r := (h.r.kept (hb.block rb (by have := h.ord; omega))).kept (set_heap w' q 1 wv' (by have := h.ord; omega))
  h := (h.h.kept (hb.block p5 (by have := h.ord; omega))).kept (set_heap w' q 1 wv' (by have := h.ord; omega))
  bo := by
    obtain ⟨w4, h1, h2, h3⟩ := h.bo
    exact ⟨w4, h1, h2, fun k hk hk2 => by rw [set_heap w' q 1 wv' (by omega), hb.block k (by have := h.ord; omega)]; exact h3 k hk hk2⟩
  lat := h.lat.kept (fun k h1 h2 => by rw [set_heap w' q 1 wv' (by have := h.ord; omega)]; exact hb.block k h2)
  wat := hw.kept 1 wv' (by have := h.ord; omega) (by have := h.ord; omega)
  below := (h.below.trans (hb.mono (by have := h.ord; omega))).setCell (p := ⟨q, 1, none⟩) (by have := h.ord; show w.heap.size ≤ q; omega) wv'
  ord := h.ord

theorem WAt.low {b0 b1 T R : Nat} {w : World} {v : Value} {ws : List (Int × List Int)} (h : WAt b0 T R w v ws) (hb : b1 ≤ b0) : WAt b1 T R w v ws := by
  obtain ⟨ht, xs, ho, hx⟩ := h
  refine ⟨ht, xs, ho, fun j a zs hj => ?_⟩
  obtain ⟨c1, c2, d, o, c, c3, c4, c6⟩ := hx j a zs hj
  exact ⟨c1, c2, d, o, c, c3, ⟨by omega, c4.2⟩, c6⟩
theorem BOwn.low {base lo b1 : Nat} {w : World} {v : Value} {bs : List (List Int)} (h : BOwn base lo w v bs) (h1 : b1 ≤ base) (h2 : b1 ≤ lo) : BOwn b1 b1 w v bs := by
  obtain ⟨xs, ho, hx⟩ := h
  refine ⟨xs, owns_mono_r ho h1, fun j zs hj => ?_⟩
  obtain ⟨d, o, c, c1, c2, c3, c4⟩ := hx j zs hj
  exact ⟨d, o, c, c1, ⟨by omega, c2.2⟩, c3, c4⟩
/-- Behind the last stores: into the view's head, and into the result. -/
theorem View2.done {w : World} {D : DM} {rb q p5 : Nat} {bv : Value} {fa fs : Int} {b0 T : Nat} {ao : Option Addr} {ls : List (List (Int × List Int))} {wv : Value} {ws : List (Int × List Int)} {wr : World} (h : View2 w D rb q p5 bv fa fs b0 T ao ls wv ws wr) (x1 x2 x3 x4 x5 x6 : Value) :
    BOwn w.heap.size w.heap.size ((((((wr.setCell ⟨q, 2, none⟩ x1).setCell ⟨q, 3, none⟩ x2).setCell ⟨rb, 0, none⟩ x3).setCell ⟨rb, 1, none⟩ x4).setCell ⟨rb, 2, none⟩ x5).setCell ⟨rb, 3, none⟩ x6) bv (curs D) ∧
    (∀ g, bv.ownBlock = some g → g < b0) ∧
    WAt b0 T T ((((((wr.setCell ⟨q, 2, none⟩ x1).setCell ⟨q, 3, none⟩ x2).setCell ⟨rb, 0, none⟩ x3).setCell ⟨rb, 1, none⟩ x4).setCell ⟨rb, 2, none⟩ x5).setCell ⟨rb, 3, none⟩ x6) wv ws ∧
    Below w.heap.size w ((((((wr.setCell ⟨q, 2, none⟩ x1).setCell ⟨q, 3, none⟩ x2).setCell ⟨rb, 0, none⟩ x3).setCell ⟨rb, 1, none⟩ x4).setCell ⟨rb, 2, none⟩ x5).setCell ⟨rb, 3, none⟩ x6) := by
  have ho := h.ord
  obtain ⟨w4, h1, h2, h3⟩ := h.bo
  have hl := h.h.lt
  refine ⟨?_, fun g hg => ?_, ?_, ?_⟩
  · refine (h1.still (Nat.le_refl _) (Nat.le_refl _) (fun k hk hk2 => ?_) ?_).low (by omega) (by omega)
    · rw [set_heap _ rb 3 _ (by omega), set_heap _ rb 2 _ (by omega), set_heap _ rb 1 _ (by omega), set_heap _ rb 0 _ (by omega), set_heap _ q 3 _ (by omega), set_heap _ q 2 _ (by omega)]
      exact h3 k hk hk2
    · simp only [set_size]
      omega
  · obtain ⟨xs, hown, _⟩ := h1
    have := (hown.lt g hg).2
    omega
  · exact ((((((h.wat.kept 2 x1 (g := q) (by omega) (by omega)).kept 3 x2 (g := q) (by omega) (by omega)).kept 0 x3 (g := rb) (by omega) (by omega)).kept 1 x4 (g := rb) (by omega) (by omega)).kept 2 x5 (g := rb) (by omega) (by omega)).kept 3 x6 (g := rb) (by omega) (by omega))
  · exact (((((h.below.setCell (p := ⟨q, 2, none⟩) (by show w.heap.size ≤ q; omega) x1).setCell (p := ⟨q, 3, none⟩) (by show w.heap.size ≤ q; omega) x2).setCell (p := ⟨rb, 0, none⟩) ho.1 x3).setCell (p := ⟨rb, 1, none⟩) ho.1 x4).setCell (p := ⟨rb, 2, none⟩) ho.1 x5).setCell (p := ⟨rb, 3, none⟩) ho.1 x6

end Go.Proofs.Ytbnepjojfaeggaa
