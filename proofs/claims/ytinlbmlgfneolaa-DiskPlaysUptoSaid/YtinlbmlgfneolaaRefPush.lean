/-
  Proved here: where the document's own disk lies behind one write more.
  The conditions stand at each theorem.
-/
import Derived.Test.YtinlbmlgfneolaaRefNew
namespace Go.Proofs.Ytinlbmlgfneolaa
open Go.RowKit
set_option linter.unusedVariables false

/-- One write more in block k. -/
theorem RIs.push {w3 w4 w5 : World} {d gl go cl co : Nat} {ao : Nat → Option Addr} {cp : Nat → Nat} {s : DM} (h : RIs w3 d gl go cl co ao cp s) {k : Nat} (hk : k < s.n) (hb4 : Below w3.heap.size w3 w4) {zs : List Int} (hz : zs.length = 64 ∧ ∀ z ∈ zs, 0 ≤ z ∧ z ≤ 255)
    {g5 cap5 H : Nat} (ho : w5.ownsRow 0 9 1 (.slice (some ⟨g5, 0, none⟩) ((s.hist k).tail.length + 1) cap5) ((s.hist k).tail.length + 1) (texts (s.hist k).tail ++ [.string (str zs)]))
    (hg : w4.grownBy w5 (Value.slice (ao k) (s.hist k).tail.length (cp k)).ownBlock) (hat : (Value.slice (ao k) (s.hist k).tail.length (cp k)).ownBlock = some g5 ∨ g5 = H) (hH : w3.heap.size ≤ H) :
    RIs (w5.setCell ⟨go, k, none⟩ (.slice (some ⟨g5, 0, none⟩) ((s.hist k).tail.length + 1) cap5)) d gl go cl co (fun i => if i = k then some ⟨g5, 0, none⟩ else ao i) (fun i => if i = k then cap5 else cp i) (addW s k zs) ∧
      Grew (RFoot d gl go ao s.n) (RFoot d gl go (fun i => if i = k then some ⟨g5, 0, none⟩ else ao i) s.n) w3 (w5.setCell ⟨go, k, none⟩ (.slice (some ⟨g5, 0, none⟩) ((s.hist k).tail.length + 1) cap5)) := by
  have hCk := h.cells k hk
  have hf := hCk.form.1
  obtain ⟨ob, hob⟩ : ∃ ob, (Value.slice (ao k) (s.hist k).tail.length (cp k)).ownBlock = ob := ⟨_, rfl⟩
  rw [hob] at hg hat
  have hobr : ∀ r, ob = some r → ao k = some ⟨r, 0, none⟩ := fun r e => own_of_ao hf (hob.trans e)
  have hobl : ob ≠ some gl := fun e => hCk.awl (hob.trans e)
  have hobo : ob ≠ some go := fun e => hCk.awo (hob.trans e)
  have hobd : ob ≠ some d := fun e => h.awayd k hk (hobr d e)
  have hdl : d < w3.heap.size := World.block_lt_of_cell? _ _ h.off
  have hll : gl < w3.heap.size := World.block_lt_of_cell? _ _ hCk.last
  have hol : go < w3.heap.size := World.block_lt_of_cell? _ _ hCk.opn
  have h45 : ∀ b, b < w3.heap.size → ob ≠ some b → w5.heap[b]? = w3.heap[b]? := fun b hb hne => by
    rw [hg.block b (Nat.lt_of_lt_of_le hb hb4.size) (fun e => hne e.symm), hb4.block b hb]
  have h5d : ∀ b, b < w3.heap.size → ob ≠ some b → b ≠ go → (w5.setCell ⟨go, k, none⟩ (.slice (some ⟨g5, 0, none⟩) ((s.hist k).tail.length + 1) cap5)).heap[b]? = w3.heap[b]? := fun b hb hne hbg => by
    rw [Below.heap_setCell _ _ _ _ hbg, h45 b hb hne]
  have hne5 : ∀ b, b < w3.heap.size → ob ≠ some b → g5 ≠ b := fun b hb hne e => by
    rcases hat with e' | e'
    · exact hne (by rw [e', e])
    · omega
  have hcd : ∀ j, (w5.setCell ⟨go, k, none⟩ (.slice (some ⟨g5, 0, none⟩) ((s.hist k).tail.length + 1) cap5)).cell? ⟨d, j, none⟩ = w3.cell? ⟨d, j, none⟩ := fun j => cell_of_heap (p := ⟨d, j, none⟩) (h5d d hdl hobd h.dO)
  have hcl : ∀ j, (w5.setCell ⟨go, k, none⟩ (.slice (some ⟨g5, 0, none⟩) ((s.hist k).tail.length + 1) cap5)).cell? ⟨gl, j, none⟩ = w3.cell? ⟨gl, j, none⟩ := fun j => cell_of_heap (p := ⟨gl, j, none⟩) (h5d gl hll hobl h.lo)
  have hco : ∀ j, j ≠ k → (w5.setCell ⟨go, k, none⟩ (.slice (some ⟨g5, 0, none⟩) ((s.hist k).tail.length + 1) cap5)).cell? ⟨go, j, none⟩ = w3.cell? ⟨go, j, none⟩ := fun j hj => by
    rw [World.cell?_setCell_other (h := ne_off (Ne.symm hj)), cell_of_heap (p := ⟨go, j, none⟩) (h45 go hol hobo)]
  have hne : s.hist k ≠ [] := (h.ok k).1
  have hhd : (s.hist k ++ [zs]).headD [] = (s.hist k).headD [] := by
    cases hh : s.hist k with
    | nil => exact absurd hh hne
    | cons x r => rfl
  have htl : (s.hist k ++ [zs]).tail = (s.hist k).tail ++ [zs] := by
    cases hh : s.hist k with
    | nil => exact absurd hh hne
    | cons x r => rfl
  refine ⟨⟨h.dl, h.dO, h.lo, h.n1, h.n480, fun i => ?_, by rw [hcd]; exact h.sl, by rw [hcd]; exact h.so, by rw [hcd]; exact h.pow, by rw [hcd]; exact h.off, fun j => ?_, fun j => ?_, fun j => ?_, fun i hi => ?_, fun i hi => ?_, fun i j hi hj hij => ?_⟩, ?_⟩
  · show (if i = k then s.hist i ++ [zs] else s.hist i) ≠ [] ∧ ∀ c ∈ (if i = k then s.hist i ++ [zs] else s.hist i), _
    by_cases e : i = k
    · rw [if_pos e]
      refine ⟨by simp, fun c hc => ?_⟩
      rcases List.mem_append.1 hc with hc | hc
      · exact (h.ok i).2 c hc
      · rw [List.mem_singleton.1 hc]; exact hz
    · rw [if_neg e]; exact h.ok i
  · rw [World.frozen?_of_block (w := w3) (a := ⟨d, j, none⟩) (h5d d hdl hobd h.dO)]; exact h.frd j
  · rw [World.frozen?_of_block (w := w3) (a := ⟨gl, j, none⟩) (h5d gl hll hobl h.lo)]; exact h.frl j
  · rw [World.frozen?_setCell, World.frozen?_of_block (w := w3) (a := ⟨go, j, none⟩) (h45 go hol hobo)]; exact h.fro j
  · have hi' : i < s.n := hi
    show RCell _ gl go i ((if i = k then s.hist i ++ [zs] else s.hist i).headD []) (if i = k then some ⟨g5, 0, none⟩ else ao i) (if i = k then cap5 else cp i) (if i = k then s.hist i ++ [zs] else s.hist i).tail
    have hC := h.cells i hi'
    by_cases e : i = k
    · subst e
      simp only [if_pos]
      rw [hhd, htl]
      have hl : ((s.hist i).tail ++ [zs]).length = (s.hist i).tail.length + 1 := by rw [List.length_append]; rfl
      refine ⟨by rw [hcl]; exact hC.last, ?_, ?_, by simp [Value.ownBlock]; exact hne5 gl hll hobl, by simp [Value.ownBlock]; exact hne5 go hol hobo⟩
      · rw [hl]
        exact World.cell?_setCell_same _ _ _ (by rw [cell_of_heap (p := ⟨go, i, none⟩) (h45 go hol hobo)]; exact hC.opn)
      · rw [hl, texts_snoc]
        exact owns_turn ho (fun b hb => by
          simp [Value.ownBlock] at hb
          rw [Below.heap_setCell _ _ _ _ (fun e => hne5 go hol hobo (hb.trans e))])
    · simp only [if_neg e]
      refine ⟨by rw [hcl]; exact hC.last, by rw [hco i e]; exact hC.opn, owns_turn hC.row (fun b hb => ?_), hC.awl, hC.awo⟩
      have hao := own_of_ao hC.form.1 hb
      refine h5d b (hC.row.lt b hb).2 (fun e' => ?_) (fun e' => hC.awo (by rw [hb, e']))
      rcases h.apart i k hi' hk e with h0 | h0
      · rw [h0] at hao; cases hao
      · exact h0 (hao.trans (hobr b e').symm)
  · show (if i = k then some ⟨g5, 0, none⟩ else ao i) ≠ _
    by_cases e : i = k
    · rw [if_pos e]; intro e'; cases e'; exact hne5 d hdl hobd rfl
    · rw [if_neg e]; exact h.awayd i hi
  · have key : ∀ x, x < s.n → x ≠ k → ao x ≠ some ⟨g5, 0, none⟩ := fun x hx hxk ex => by
      rcases hat with e | e
      · rcases h.apart x k hx hk hxk with h0 | h0
        · rw [h0] at ex; cases ex
        · exact h0 (ex.trans (hobr g5 e).symm)
      · have hC := h.cells x hx
        rw [ex] at hC
        have := (hC.row.lt g5 rfl).2
        omega
    show (if i = k then some ⟨g5, 0, none⟩ else ao i) = none ∨ (if i = k then some ⟨g5, 0, none⟩ else ao i) ≠ (if j = k then some ⟨g5, 0, none⟩ else ao j)
    by_cases e1 : i = k <;> by_cases e2 : j = k
    · omega
    · rw [if_pos e1, if_neg e2]; exact Or.inr (Ne.symm (key j hj e2))
    · rw [if_neg e1, if_pos e2]; exact Or.inr (key i hi e1)
    · rw [if_neg e1, if_neg e2]; exact h.apart i j hi hj hij
  · refine ⟨hg.os.trans hb4.os, hg.tape.trans hb4.tape, hg.output.trans hb4.output, Nat.le_trans hb4.size (Nat.le_trans hg.size (by simp [World.setCell])), fun b hb hF => ?_, fun b hF => ?_⟩
    · exact h5d b hb (fun e => hF (Or.inr (Or.inr (Or.inr ⟨k, hk, hobr b e⟩)))) (fun e => hF (Or.inr (Or.inr (Or.inl e))))
    · rcases hF with e | e | e | ⟨i, hi, e⟩
      · exact Or.inl (Or.inl e)
      · exact Or.inl (Or.inr (Or.inl e))
      · exact Or.inl (Or.inr (Or.inr (Or.inl e)))
      · by_cases ek : i = k
        · simp only [if_pos ek] at e
          cases e
          rcases hat with e' | e'
          · exact Or.inl (Or.inr (Or.inr (Or.inr ⟨k, hk, hobr _ e'⟩)))
          · exact Or.inr (by omega)
        · simp only [if_neg ek] at e
          exact Or.inl (Or.inr (Or.inr (Or.inr ⟨i, hi, e⟩)))

/-- The loop of Put behind i rounds. -/
def RPuts (w0 : World) (d gl go cl co : Nat) (F : Nat → Prop) (s : DM) (ws : List (Int × List Int)) (n i : Nat) (wr : World) : Prop :=
  ∃ ao cp s1, RIs wr d gl go cl co ao cp s1 ∧ s1.n = n ∧ putAll s ws = putAll s1 (ws.drop i) ∧ (∀ k, k < n → (s1.hist k).length + (ws.length - i) ≤ 1099511627776) ∧ Grew F (RFoot d gl go ao n) w0 wr

/-- What the region of one write reads, but for the row: it hangs on three blocks alone. -/
def SP (d go n co b o bd od c : Nat) (k : Nat) (S : ByteArray) (w : World) : Prop :=
  w.cell? ⟨d, 1, none⟩ = some (.slice (some ⟨go, 0, none⟩) n co) ∧ w.cell? ⟨b, o, none⟩ = some (.int .i64 (k : Int)) ∧ w.cell? ⟨b, o + 1, none⟩ = some (.slice (some ⟨bd, od, none⟩) 64 c) ∧
    (convert 36 9 (.slice (some ⟨bd, od, none⟩) 64 c)).run Try.prog w = .ok (.string S) w

theorem sp_of {d go n co b o bd od c k : Nat} {zs : List Int} {w w' : World} (h1 : w.cell? ⟨d, 1, none⟩ = some (.slice (some ⟨go, 0, none⟩) n co)) (h2 : w.cell? ⟨b, o, none⟩ = some (.int .i64 (k : Int))) (h3 : w.cell? ⟨b, o + 1, none⟩ = some (.slice (some ⟨bd, od, none⟩) 64 c)) (hA : Bts w (some ⟨bd, od, none⟩) 64 zs)
    (e1 : w'.heap[d]? = w.heap[d]?) (e2 : w'.heap[b]? = w.heap[b]?) (e3 : w'.heap[bd]? = w.heap[bd]?) : SP d go n co b o bd od c k (str zs) w' := by
  refine ⟨by rw [cell_of_heap (p := ⟨d, 1, none⟩) e1]; exact h1, by rw [cell_of_heap (p := ⟨b, o, none⟩) e2]; exact h2, by rw [cell_of_heap (p := ⟨b, o + 1, none⟩) e2]; exact h3, str_bytes ?_⟩
  obtain ⟨a1, a2, a3, a4⟩ := hA
  obtain ⟨b', o', e, hc⟩ := a4.resolve_left (by decide)
  cases e
  exact ⟨a1, a2, a3, Or.inr ⟨bd, od, rfl, fun j hj => by rw [cell_of_heap (p := ⟨bd, od + j, none⟩) e3]; exact hc j hj⟩⟩

end Go.Proofs.Ytinlbmlgfneolaa
