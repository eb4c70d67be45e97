/-
  Proved here: where the landed disk lies behind one write more; lists of writes stay as they are while other blocks turn.
  The conditions stand at each theorem.
-/
import Derived.Test.YtinlbmlgfneolaaDevFault
namespace Go.Proofs.Ytinlbmlgfneolaa
open Go.RowKit
set_option linter.unusedVariables false
set_option linter.unusedSimpArgs false

theorem Arg.grew {F F' : Nat → Prop} {w w' : World} {ad : Option Addr} {l c : Nat} {zs : List Int} (h : Arg w ad l c zs) (hG : Grew F F' w w') (hb : ∀ b' o s, ad = some ⟨b', o, s⟩ → l ≠ 0 → ¬ F b') : Arg w' ad l c zs := by
  obtain ⟨⟨h1, h2, h3, h4⟩, h5, h6, h7⟩ := h
  refine ⟨⟨h1, h2, h3, ?_⟩, h5, h6, h7⟩
  rcases h4 with h4 | ⟨b, o, rfl, hc⟩
  · exact Or.inl h4
  · by_cases h0 : l = 0
    · exact Or.inl h0
    · have hlt := World.block_lt_of_cell? _ _ (hc 0 (by omega))
      exact Or.inr ⟨b, o, rfl, fun j hj => by rw [cell_of_heap (p := ⟨b, o + j, none⟩) (hG.2.2.2.2.1 b hlt (hb b o none rfl h0))]; exact hc j hj⟩

theorem ListIs.grew {F F' G : Nat → Prop} {w w' : World} {ao : Option Addr} {m : Nat} {ws : List (Int × List Int)} (h : ListIs w G ao m ws) (hG : Grew F F' w w') (hd : ∀ k, F k → ¬ G k) : ListIs w' G ao m ws := by
  obtain ⟨h1, h2, h3⟩ := h
  refine ⟨h1, h2, ?_⟩
  rcases h3 with h0 | ⟨b, off, rfl, hGb, hc⟩
  · exact Or.inl h0
  · refine Or.inr ⟨b, off, rfl, hGb, fun j a zs hj => ?_⟩
    obtain ⟨c1, c2, ad, l, c, c3, c4, c5⟩ := hc j a zs hj
    have hk := hG.2.2.2.2.1 b (World.block_lt_of_cell? _ _ c1) (fun hf => hd b hf hGb)
    exact ⟨by rw [cell_of_heap (p := ⟨b, off + 2 * j, none⟩) hk]; exact c1, c2, ad, l, c, by rw [cell_of_heap (p := ⟨b, off + 2 * j + 1, none⟩) hk]; exact c3, c4.grew hG (fun b' o s e hl hf => hd b' hf (c5 b' o s e hl)), c5⟩

theorem own_of_ao {ao : Option Addr} {r n cap : Nat} (hf : ao = none ∨ ∃ r, ao = some ⟨r, 0, none⟩) (h : (Value.slice ao n cap).ownBlock = some r) : ao = some ⟨r, 0, none⟩ := by
  rcases hf with rfl | ⟨q, rfl⟩
  · simp [Value.ownBlock] at h
  · simp [Value.ownBlock] at h
    rw [h]

/-- One write more in cell k. -/
theorem DIs.push {w3 w4 w5 : World} {d g : Nat} {ao : Nat → Option Addr} {cp : Nat → Nat} {s : DM} (h : DIs w3 d g ao cp s) {k : Nat} (hk : k < s.n) (hb4 : Below w3.heap.size w3 w4) {zs : List Int} (hz : zs.length = 64 ∧ ∀ z ∈ zs, 0 ≤ z ∧ z ≤ 255)
    {g5 cap5 H : Nat} (ho : w5.ownsRow 0 65 64 (.slice (some ⟨g5, 0, none⟩) ((s.hist k).tail.length + 1) cap5) ((s.hist k).tail.length + 1) (flat (s.hist k).tail ++ bys zs))
    (hg : w4.grownBy w5 (Value.slice (ao k) (s.hist k).tail.length (cp k)).ownBlock) (hat : (Value.slice (ao k) (s.hist k).tail.length (cp k)).ownBlock = some g5 ∨ g5 = H) (hH : w3.heap.size ≤ H) :
    DIs (w5.setCell ⟨g, k * 65 + 64, none⟩ (.slice (some ⟨g5, 0, none⟩) ((s.hist k).tail.length + 1) cap5)) d g (fun i => if i = k then some ⟨g5, 0, none⟩ else ao i) (fun i => if i = k then cap5 else cp i) (addW s k zs) ∧
      Grew (Foot d g ao s.n) (Foot d g (fun i => if i = k then some ⟨g5, 0, none⟩ else ao i) s.n) w3 (w5.setCell ⟨g, k * 65 + 64, none⟩ (.slice (some ⟨g5, 0, none⟩) ((s.hist k).tail.length + 1) cap5)) := by
  have hCk := h.cells k hk
  have hf := hCk.form.1
  obtain ⟨ob, hob⟩ : ∃ ob, (Value.slice (ao k) (s.hist k).tail.length (cp k)).ownBlock = ob := ⟨_, rfl⟩
  rw [hob] at hg hat
  have hobr : ∀ r, ob = some r → ao k = some ⟨r, 0, none⟩ := fun r e => own_of_ao hf (hob.trans e)
  have hobg : ob ≠ some g := fun e => hCk.away (hob.trans e)
  have hobd : ob ≠ some d := fun e => h.awayd k hk (hobr d e)
  have hdl : d < w3.heap.size := World.block_lt_of_cell? _ _ h.off
  have hgl : g < w3.heap.size := hCk.lt
  have h45 : ∀ b, b < w3.heap.size → ob ≠ some b → w5.heap[b]? = w3.heap[b]? := fun b hb hne => by
    rw [hg.block b (Nat.lt_of_lt_of_le hb hb4.size) (fun e => hne e.symm), hb4.block b hb]
  have h5d : ∀ b, b < w3.heap.size → ob ≠ some b → b ≠ g → (w5.setCell ⟨g, k * 65 + 64, none⟩ (.slice (some ⟨g5, 0, none⟩) ((s.hist k).tail.length + 1) cap5)).heap[b]? = w3.heap[b]? := fun b hb hne hbg => by
    rw [Below.heap_setCell _ _ _ _ hbg, h45 b hb hne]
  have hg5g : g5 ≠ g := by
    rcases hat with e | e
    · intro e'; exact hobg (by rw [e, e'])
    · omega
  have hg5d : g5 ≠ d := by
    rcases hat with e | e
    · intro e'; exact hobd (by rw [e, e'])
    · omega
  have hcg : ∀ j, j ≠ k * 65 + 64 → (w5.setCell ⟨g, k * 65 + 64, none⟩ (.slice (some ⟨g5, 0, none⟩) ((s.hist k).tail.length + 1) cap5)).cell? ⟨g, j, none⟩ = w3.cell? ⟨g, j, none⟩ := fun j hj => by
    rw [World.cell?_setCell_other (h := ne_off (Ne.symm hj)), cell_of_heap (p := ⟨g, j, none⟩) (h45 g hgl hobg)]
  have hcd : ∀ j, (w5.setCell ⟨g, k * 65 + 64, none⟩ (.slice (some ⟨g5, 0, none⟩) ((s.hist k).tail.length + 1) cap5)).cell? ⟨d, j, none⟩ = w3.cell? ⟨d, j, none⟩ := fun j => cell_of_heap (p := ⟨d, j, none⟩) (h5d d hdl hobd h.dg)
  have hne : s.hist k ≠ [] := (h.ok k).1
  have hhd : (s.hist k ++ [zs]).headD [] = (s.hist k).headD [] := by
    cases hh : s.hist k with
    | nil => exact absurd hh hne
    | cons x r => rfl
  have htl : (s.hist k ++ [zs]).tail = (s.hist k).tail ++ [zs] := by
    cases hh : s.hist k with
    | nil => exact absurd hh hne
    | cons x r => rfl
  refine ⟨⟨h.dg, h.n1, h.n480, fun i => ?_, by rw [hcd]; exact h.off, by rw [hcd, hcd]; exact h.pow, by rw [hcd]; exact h.sl, fun j => ?_, fun j => ?_, fun i hi => ?_, fun i hi => ?_, fun i j hi hj hij => ?_⟩, ?_⟩
  · show (if i = k then s.hist i ++ [zs] else s.hist i) ≠ [] ∧ ∀ c ∈ (if i = k then s.hist i ++ [zs] else s.hist i), _
    by_cases e : i = k
    · rw [if_pos e]
      refine ⟨by simp, fun c hc => ?_⟩
      rcases List.mem_append.1 hc with hc | hc
      · exact (h.ok i).2 c hc
      · rw [List.mem_singleton.1 hc]; exact hz
    · rw [if_neg e]; exact h.ok i
  · rw [World.frozen?_of_block (w := w3) (a := ⟨d, j, none⟩) (h5d d hdl hobd h.dg)]; exact h.frd j
  · rw [World.frozen?_setCell, World.frozen?_of_block (w := w3) (a := ⟨g, j, none⟩) (h45 g hgl hobg)]; exact h.frg j
  · have hi' : i < s.n := hi
    show CellIs _ g (i * 65) ((if i = k then s.hist i ++ [zs] else s.hist i).headD []) (if i = k then some ⟨g5, 0, none⟩ else ao i) (if i = k then cap5 else cp i) (if i = k then s.hist i ++ [zs] else s.hist i).tail
    have hC := h.cells i hi'
    by_cases e : i = k
    · subst e
      simp only [if_pos]
      rw [hhd, htl]
      have hl : ((s.hist i).tail ++ [zs]).length = (s.hist i).tail.length + 1 := by rw [List.length_append]; rfl
      refine ⟨fun j v hv => ?_, ?_, ?_, ?_, hC.len.1, fun c hc => ?_⟩
      · have hj : j < 64 := by have := (List.getElem?_eq_some_iff.1 hv).1; rw [bys_length, hC.len.1] at this; exact this
        rw [hcg _ (by omega)]; exact hC.last j v hv
      · rw [hl]
        exact World.cell?_setCell_same _ _ _ (by rw [cell_of_heap (p := ⟨g, i * 65 + 64, none⟩) (h45 g hgl hobg)]; exact hC.opn)
      · rw [hl, flat_snoc]
        exact owns_turn ho (fun b hb => by
          simp [Value.ownBlock] at hb
          rw [Below.heap_setCell _ _ _ _ (fun e => hg5g (hb.trans e))])
      · simp [Value.ownBlock]
        exact hg5g
      · rcases List.mem_append.1 hc with hc | hc
        · exact hC.len.2 c hc
        · rw [List.mem_singleton.1 hc]; exact hz.1
    · simp only [if_neg e]
      refine ⟨fun j v hv => ?_, ?_, owns_turn hC.row (fun b hb => ?_), hC.away, hC.len⟩
      · have hj : j < 64 := by have := (List.getElem?_eq_some_iff.1 hv).1; rw [bys_length, hC.len.1] at this; exact this
        rw [hcg _ (by omega)]; exact hC.last j v hv
      · rw [hcg _ (by omega)]; exact hC.opn
      · have hao := own_of_ao hC.form.1 hb
        refine h5d b (hC.row.lt b hb).2 (fun e' => ?_) (fun e' => hC.away (by rw [hb, e']))
        rcases h.apart i k hi' hk e with h0 | h0
        · rw [h0] at hao; cases hao
        · exact h0 (hao.trans (hobr b e').symm)
  · show (if i = k then some ⟨g5, 0, none⟩ else ao i) ≠ _
    by_cases e : i = k
    · rw [if_pos e]; intro e'; cases e'; exact hg5d rfl
    · rw [if_neg e]; exact h.awayd i hi
  · have key : ∀ x, x < s.n → x ≠ k → ao x ≠ some ⟨g5, 0, none⟩ := fun x hx hxk ex => by
      rcases hat with e | e
      · rcases h.apart x k hx hk hxk with h0 | h0
        · rw [h0] at ex; cases ex
        · exact h0 (ex.trans (hobr g5 e).symm)
      · have hC := h.cells x hx
        rw [ex] at hC
        have := hC.row_lt
        omega
    show (if i = k then some ⟨g5, 0, none⟩ else ao i) = none ∨ (if i = k then some ⟨g5, 0, none⟩ else ao i) ≠ (if j = k then some ⟨g5, 0, none⟩ else ao j)
    by_cases e1 : i = k <;> by_cases e2 : j = k
    · omega
    · rw [if_pos e1, if_neg e2]; exact Or.inr (Ne.symm (key j hj e2))
    · rw [if_neg e1, if_pos e2]; exact Or.inr (key i hi e1)
    · rw [if_neg e1, if_neg e2]; exact h.apart i j hi hj hij
  · refine ⟨hg.os.trans hb4.os, hg.tape.trans hb4.tape, hg.output.trans hb4.output, Nat.le_trans hb4.size (Nat.le_trans hg.size (by simp [World.setCell])), fun b hb hF => ?_, fun b hF => ?_⟩
    · exact h5d b hb (fun e => hF (Or.inr (Or.inr ⟨k, hk, hobr b e⟩))) (fun e => hF (Or.inr (Or.inl e)))
    · rcases hF with e | e | ⟨i, hi, e⟩
      · exact Or.inl (Or.inl e)
      · exact Or.inl (Or.inr (Or.inl e))
      · by_cases ek : i = k
        · simp only [if_pos ek] at e
          cases e
          rcases hat with e' | e'
          · exact Or.inl (Or.inr (Or.inr ⟨k, hk, hobr _ e'⟩))
          · exact Or.inr (by omega)
        · simp only [if_neg ek] at e
          exact Or.inl (Or.inr (Or.inr ⟨i, hi, e⟩))

end Go.Proofs.Ytinlbmlgfneolaa
