/-
  Proved here: what keep of the document's own disk makes of one block.
  The conditions stand at each theorem.
-/
import Derived.Test.YtinlbmlgfneolaaRefD
namespace Go.Proofs.Ytinlbmlgfneolaa
open Go.RowKit
set_option linter.unusedVariables false

/-- One block has settled: its contents are c, nothing is open; nothing else has turned. -/
structure RSettled (w w' : World) (gl go i : Nat) (c : List Int) : Prop where
  grew : Grew (fun k => k = gl ∨ k = go) (fun k => k = gl ∨ k = go) w w'
  restl : ∀ j, j ≠ i → w'.cell? ⟨gl, j, none⟩ = w.cell? ⟨gl, j, none⟩
  resto : ∀ j, j ≠ i → w'.cell? ⟨go, j, none⟩ = w.cell? ⟨go, j, none⟩
  frl : ∀ j, w'.frozen? ⟨gl, j, none⟩ = w.frozen? ⟨gl, j, none⟩
  fro : ∀ j, w'.frozen? ⟨go, j, none⟩ = w.frozen? ⟨go, j, none⟩
  last : w'.cell? ⟨gl, i, none⟩ = some (.string (str c))
  opn : w'.cell? ⟨go, i, none⟩ = some (.slice none 0 0)

theorem ne_blk {a b i j : Nat} (h : a ≠ b) : (⟨a, i, none⟩ : Addr) ≠ ⟨b, j, none⟩ := fun e => by cases e; exact h rfl

theorem rsettled_none {w : World} {gl go i : Nat} {c : List Int} {v : Value} (hlo : gl ≠ go) (hl : w.cell? ⟨gl, i, none⟩ = some (.string (str c))) (ho : w.cell? ⟨go, i, none⟩ = some v) : RSettled w (w.setCell ⟨go, i, none⟩ (.slice none 0 0)) gl go i c := by
  refine ⟨Grew.setCell (fun k => k = gl ∨ k = go) w (p := ⟨go, i, none⟩) (Or.inr rfl) _, fun j hj => ?_, fun j hj => ?_, fun j => by simp only [World.frozen?_setCell], fun j => by simp only [World.frozen?_setCell], ?_, World.cell?_setCell_same _ _ _ ho⟩
  · rw [World.cell?_setCell_other (h := ne_blk (Ne.symm hlo))]
  · rw [World.cell?_setCell_other (h := ne_off (Ne.symm hj))]
  · rw [World.cell?_setCell_other (h := ne_blk (Ne.symm hlo))]; exact hl

theorem rsettled_some {w : World} {gl go i : Nat} {c : List Int} {u v : Value} (hlo : gl ≠ go) (hl : w.cell? ⟨gl, i, none⟩ = some u) (ho : w.cell? ⟨go, i, none⟩ = some v) : RSettled w (((w.setCell ⟨gl, i, none⟩ (.string (str c))).setCell ⟨go, i, none⟩ (.slice none 0 0)).drew) gl go i c := by
  have h1 : (w.setCell ⟨gl, i, none⟩ (.string (str c))).cell? ⟨go, i, none⟩ = some v := by rw [World.cell?_setCell_other (h := ne_blk hlo)]; exact ho
  refine ⟨((Grew.setCell (fun k => k = gl ∨ k = go) w (p := ⟨gl, i, none⟩) (Or.inl rfl) _).trans (Grew.setCell (fun k => k = gl ∨ k = go) _ (p := ⟨go, i, none⟩) (Or.inr rfl) _)).trans (Grew.drew _ _), fun j hj => ?_, fun j hj => ?_, fun j => ?_, fun j => ?_, ?_, ?_⟩
  · show ((w.setCell ⟨gl, i, none⟩ (.string (str c))).setCell ⟨go, i, none⟩ (.slice none 0 0)).cell? ⟨gl, j, none⟩ = _
    rw [World.cell?_setCell_other (h := ne_blk (Ne.symm hlo)), World.cell?_setCell_other (h := ne_off (Ne.symm hj))]
  · show ((w.setCell ⟨gl, i, none⟩ (.string (str c))).setCell ⟨go, i, none⟩ (.slice none 0 0)).cell? ⟨go, j, none⟩ = _
    rw [World.cell?_setCell_other (h := ne_off (Ne.symm hj)), World.cell?_setCell_other (h := ne_blk hlo)]
  · show ((w.setCell ⟨gl, i, none⟩ (.string (str c))).setCell ⟨go, i, none⟩ (.slice none 0 0)).frozen? ⟨gl, j, none⟩ = _
    simp only [World.frozen?_setCell]
  · show ((w.setCell ⟨gl, i, none⟩ (.string (str c))).setCell ⟨go, i, none⟩ (.slice none 0 0)).frozen? ⟨go, j, none⟩ = _
    simp only [World.frozen?_setCell]
  · show ((w.setCell ⟨gl, i, none⟩ (.string (str c))).setCell ⟨go, i, none⟩ (.slice none 0 0)).cell? ⟨gl, i, none⟩ = _
    rw [World.cell?_setCell_other (h := ne_blk (Ne.symm hlo))]
    exact World.cell?_setCell_same _ _ _ hl
  · show ((w.setCell ⟨gl, i, none⟩ (.string (str c))).setCell ⟨go, i, none⟩ (.slice none 0 0)).cell? ⟨go, i, none⟩ = _
    exact World.cell?_setCell_same _ _ _ h1

/-- No write is kept. -/
def KeepPost (d gl go i : Nat) (w : World) (k : Int) (c : List Int) : Prop :=
  Calls Try.prog 29 #[.pointer (some ⟨d, 0, none⟩), .int .i64 i, .int .i64 k] w fun e w' => e = .returned (.tuple #[]) ∧ RSettled w w' gl go i c

set_option maxRecDepth 100000 in
set_option maxHeartbeats 1600000 in
theorem keep_none {w : World} {d gl go n cl co i L cap : Nat} {ao : Option Addr} {c : List Int} (k : Int) (hlo : gl ≠ go) (hi : i < n) (hn : n ≤ 480) (hs0 : w.cell? ⟨d, 0, none⟩ = some (.slice (some ⟨gl, 0, none⟩) n cl)) (hs1 : w.cell? ⟨d, 1, none⟩ = some (.slice (some ⟨go, 0, none⟩) n co))
    (hl : w.cell? ⟨gl, i, none⟩ = some (.string (str c))) (ho : w.cell? ⟨go, i, none⟩ = some (.slice ao L cap)) (hfo : w.frozen? ⟨go, i, none⟩ = false) (h0 : k ≤ 0 ∨ L = 0) (hL : L ≤ 9223372036854775807) : KeepPost d gl go i w k c := by
  have HS := Lib.hid (rsettled_none hlo hl ho)
  have i1 : (i : Int) < (n : Int) := by omega
  unfold KeepPost
  clear hlo hl
  by_cases hk : (L : Int) < k
  · have hL0 : L = 0 := by omega
    subst hL0
    have hk' : (0 : Int) < k := by omega
    go_enter Try.func29, Try.ntmps29
    go_wp2_with fail
    go_end0
    exact ⟨rfl, HS.out⟩
  · have hk' : k ≤ 0 := by omega
    go_enter Try.func29, Try.ntmps29
    go_wp2_with fail
    go_end0
    exact ⟨rfl, HS.out⟩

set_option maxRecDepth 100000 in
set_option maxHeartbeats 1600000 in
theorem keep_some {w : World} {d gl go n cl co i r q cap L : Nat} {u : Value} {c : List Int} (k : Int) (hlo : gl ≠ go) (hdl : d ≠ gl) (hi : i < n) (hn : n ≤ 480) (hs0 : w.cell? ⟨d, 0, none⟩ = some (.slice (some ⟨gl, 0, none⟩) n cl)) (hs1 : w.cell? ⟨d, 1, none⟩ = some (.slice (some ⟨go, 0, none⟩) n co))
    (hl : w.cell? ⟨gl, i, none⟩ = some u) (ho : w.cell? ⟨go, i, none⟩ = some (.slice (some ⟨r, 0, none⟩) L cap)) (hfo : w.frozen? ⟨go, i, none⟩ = false) (hfl : w.frozen? ⟨gl, i, none⟩ = false) (hL : L ≤ 9223372036854775807) (hc : w.cell? ⟨r, q, none⟩ = some (.string (str c)))
    (hq : ((L : Int) < k ∧ q + 1 = L) ∨ (k ≤ L ∧ k = q + 1)) : KeepPost d gl go i w k c := by
  have HS := Lib.hid (rsettled_some (c := c) hlo hl ho)
  have i1 : (i : Int) < (n : Int) := by omega
  have hsb : (w.setCell ⟨gl, i, none⟩ (.string (str c))).cell? ⟨d, 1, none⟩ = some (.slice (some ⟨go, 0, none⟩) n co) := by rw [World.cell?_setCell_other (h := ne_blk (Ne.symm hdl))]; exact hs1
  have hob : ((w.setCell ⟨gl, i, none⟩ (.string (str c))).cell? ⟨go, i, none⟩) = some (.slice (some ⟨r, 0, none⟩) L cap) := by rw [World.cell?_setCell_other (h := ne_blk hlo)]; exact ho
  have hwr : IntKind.i64.wrap (q : Int) = (q : Int) := by rw [IntKind.wrap_i64]; omega
  unfold KeepPost
  clear hlo hdl
  rcases hq with ⟨hk, hq⟩ | ⟨hk, hq⟩
  · subst hq
    have i2 : (q : Int) < (q : Int) + 1 := by omega
    have hk' : (q : Int) + 1 < k := by omega
    have i3 : (0 : Int) < (q : Int) + 1 := by omega
    clear hL hk
    go_enter Try.func29, Try.ntmps29
    go_wp2_with fail
    go_still_tail 17, (by kernel_rfl)
    go_wp2_with fail
    go_end0
    exact ⟨rfl, HS.out⟩
  · subst hq
    have i2 : (q : Int) < (L : Int) := by omega
    have i3 : (0 : Int) < (q : Int) + 1 := by omega
    have i4 : ¬ (L : Int) < (q : Int) + 1 := by omega
    clear hL hk
    go_enter Try.func29, Try.ntmps29
    go_wp2_with fail
    go_still_tail 17, (by kernel_rfl)
    go_wp2_with fail
    go_end0
    exact ⟨rfl, HS.out⟩

theorem keep_ri {w : World} {d gl go cl co : Nat} {ao : Nat → Option Addr} {cp : Nat → Nat} {s : DM} (h : RIs w d gl go cl co ao cp s) {i : Nat} (hi : i < s.n) (k : Int) : KeepPost d gl go i w k (((s.hist i).headD [] :: (s.hist i).tail).getD (keptN k (s.hist i).tail.length) []) := by
  have hC := h.cells i hi
  obtain ⟨L, hL⟩ : ∃ L, (s.hist i).tail.length = L := ⟨_, rfl⟩
  have hfew := hC.few
  have ho := hC.opn
  rw [hL] at ho hfew ⊢
  by_cases h0 : k ≤ 0 ∨ L = 0
  · have e : keptN k L = 0 := by unfold keptN; omega
    rw [e]
    exact keep_none k h.lo hi h.n480 h.sl h.so hC.last ho (h.fro i) h0 hfew
  · obtain ⟨q, hq⟩ : ∃ q, keptN k L = q + 1 := ⟨keptN k L - 1, by unfold keptN; omega⟩
    have hqL : q < L := by unfold keptN at hq; omega
    rw [hq]
    have hqt : (s.hist i).tail[q]? = some ((s.hist i).tail.getD q []) := by rw [List.getD_eq_getElem?_getD, List.getElem?_eq_getElem (by rw [hL]; exact hqL)]; rfl
    rcases hC.form.1 with hn | ⟨r, hr⟩
    · have hv := hC.row
      rw [hn] at hv
      have := hv.form (by rw [hL]; omega)
      obtain ⟨g, c, hg, _⟩ := this
      cases hg
    · rw [hr] at hC ho
      have hc := hC.text hqt
      refine keep_some k h.lo h.dl hi h.n480 h.sl h.so hC.last ho (h.fro i) (h.frl i) hfew hc ?_
      unfold keptN at hq
      by_cases hk : (L : Int) < k
      · exact Or.inl ⟨hk, by omega⟩
      · exact Or.inr ⟨by omega, by omega⟩

end Go.Proofs.Ytinlbmlgfneolaa
