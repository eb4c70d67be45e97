/-
  Proved here: what Barrier, Restart and Get of the document's own disk answer.
  The conditions stand at each theorem.
-/
import Derived.Test.YtinlbmlgfneolaaRefKeep
namespace Go.Proofs.Ytinlbmlgfneolaa
open Go.RowKit
set_option linter.unusedVariables false

/-- One block has settled. -/
theorem RIs.settle {w w' : World} {d gl go cl co : Nat} {ao : Nat → Option Addr} {cp : Nat → Nat} {s : DM} (h : RIs w d gl go cl co ao cp s) {i : Nat} (hi : i < s.n) {c : List Int} (hS : RSettled w w' gl go i c) (hc : c.length = 64 ∧ ∀ z ∈ c, 0 ≤ z ∧ z ≤ 255) :
    RIs w' d gl go cl co (fun k => if k = i then none else ao k) (fun k => if k = i then 0 else cp k) { s with hist := fun k => if k = i then [c] else s.hist k } := by
  have hdl : d < w.heap.size := World.block_lt_of_cell? _ _ h.off
  have hd : w'.heap[d]? = w.heap[d]? := hS.grew.2.2.2.2.1 d hdl (fun e => e.elim h.dl h.dO)
  have hcell : ∀ j, w'.cell? ⟨d, j, none⟩ = w.cell? ⟨d, j, none⟩ := fun j => cell_of_heap (p := ⟨d, j, none⟩) hd
  refine ⟨h.dl, h.dO, h.lo, h.n1, h.n480, fun k => ?_, by rw [hcell]; exact h.sl, by rw [hcell]; exact h.so, by rw [hcell]; exact h.pow, by rw [hcell]; exact h.off, fun j => ?_, fun j => by rw [hS.frl]; exact h.frl j, fun j => by rw [hS.fro]; exact h.fro j, fun k hk => ?_, fun k hk => ?_, fun k l hk hl hkl => ?_⟩
  · show (if k = i then [c] else s.hist k) ≠ [] ∧ ∀ x ∈ (if k = i then [c] else s.hist k), _
    by_cases e : k = i
    · rw [if_pos e]
      exact ⟨by simp, fun x hx => by rw [List.mem_singleton.1 hx]; exact hc⟩
    · rw [if_neg e]; exact h.ok k
  · rw [World.frozen?_of_block (w := w) (a := ⟨d, j, none⟩) hd]; exact h.frd j
  · show RCell w' gl go k ((if k = i then [c] else s.hist k).headD []) (if k = i then none else ao k) (if k = i then 0 else cp k) (if k = i then [c] else s.hist k).tail
    by_cases e : k = i
    · subst e
      simp only [if_pos]
      exact ⟨hS.last, hS.opn, ⟨rfl, Or.inl ⟨rfl, rfl⟩⟩, by simp [Value.ownBlock], by simp [Value.ownBlock]⟩
    · simp only [if_neg e]
      have hk' : k < s.n := hk
      have hC := h.cells k hk'
      refine ⟨by rw [hS.restl k e]; exact hC.last, by rw [hS.resto k e]; exact hC.opn, owns_turn hC.row (fun b hb => hS.grew.2.2.2.2.1 b (hC.row.lt b hb).2 (fun e' => ?_)), hC.awl, hC.awo⟩
      rcases e' with e' | e'
      · exact hC.awl (by rw [hb, e'])
      · exact hC.awo (by rw [hb, e'])
  · show (if k = i then none else ao k) ≠ _
    by_cases e : k = i
    · rw [if_pos e]; intro h; cases h
    · rw [if_neg e]; exact h.awayd k hk
  · show (if k = i then none else ao k) = none ∨ (if k = i then none else ao k) ≠ (if l = i then none else ao l)
    by_cases e1 : k = i
    · rw [if_pos e1]; exact Or.inl rfl
    · rw [if_neg e1]
      by_cases e2 : l = i
      · rw [if_pos e2]
        cases hk' : ao k with
        | none => exact Or.inl rfl
        | some x => exact Or.inr (by intro e; cases e)
      · rw [if_neg e2]; exact h.apart k l hk hl hkl

def RMids (w0 : World) (d gl go cl co : Nat) (F : Nat → Prop) (s : DM) (m : Nat → Int) (i : Nat) (wr : World) : Prop :=
  ∃ ao cp, RIs wr d gl go cl co ao cp (mid s m i) ∧ (∀ k, RFoot d gl go ao s.n k → F k) ∧ Grew F F w0 wr

theorem RMids.step {w0 : World} {d gl go cl co : Nat} {F : Nat → Prop} {s : DM} {m : Nat → Int} {i : Nat} {wr w' : World} {ao : Nat → Option Addr} {cp : Nat → Nat} (hs : s.Ok) (h : RIs wr d gl go cl co ao cp (mid s m i)) (hF : ∀ k, RFoot d gl go ao s.n k → F k) (hG : Grew F F w0 wr) (hi : i < s.n)
    (hS : RSettled wr w' gl go i (((s.hist i).headD [] :: (s.hist i).tail).getD (keptN (m i) (s.hist i).tail.length) [])) : RMids w0 d gl go cl co F s m (i + 1) w' := by
  obtain ⟨c, hk, hmem, hc⟩ := keep_ok hs i (m i)
  rw [hc] at hS
  refine ⟨fun k => if k = i then none else ao k, fun k => if k = i then 0 else cp k, ?_, fun k hk => ?_, hG.trans ⟨hS.grew.1, hS.grew.2.1, hS.grew.2.2.1, hS.grew.2.2.2.1, fun k hk hF' => hS.grew.2.2.2.2.1 k hk (fun e => hF' (e.elim (fun e => hF k (Or.inr (Or.inl e))) (fun e => hF k (Or.inr (Or.inr (Or.inl e)))))), fun k hk => Or.inl hk⟩⟩
  · rw [mid_succ, hk]
    exact h.settle hi hS ((hs i).2 c hmem)
  · rcases hk with h | h | h | ⟨j, hj, e⟩
    · exact hF k (Or.inl h)
    · exact hF k (Or.inr (Or.inl h))
    · exact hF k (Or.inr (Or.inr (Or.inl h)))
    · refine hF k (Or.inr (Or.inr (Or.inr ⟨j, hj, ?_⟩)))
      by_cases e' : j = i
      · simp only [if_pos e'] at e; cases e
      · simp only [if_neg e'] at e; exact e

set_option maxRecDepth 100000 in
set_option maxHeartbeats 1600000 in
theorem ri_barrier {w : World} {a : Addr} {F : Nat → Prop} {s : DM} (h : RI w a F s) : Calls Try.prog 16 #[.pointer (some a)] w fun e w' => ∃ F', e = .returned (.int .i64 (barRes s).2) ∧ RI w' a F' (barRes s).1 ∧ Grew F F' w w' := by
  obtain ⟨d, gl, go, cl, co, ao, cp, rfl, h, rfl⟩ := h
  have hof := h.off
  by_cases hoff : s.off = true
  · rw [hoff] at hof
    have HE : Hid (barRes s = (s, 8)) := Lib.hid (by unfold barRes; rw [if_pos hoff])
    have H := Lib.hid h
    clear hoff h
    go_enter Try.func16, Try.ntmps16
    go_wp2_with fail
    go_ret
    exact ⟨_, by rw [HE.out]; rfl, by rw [HE.out]; exact ⟨d, gl, go, cl, co, ao, cp, rfl, H.out, rfl⟩, Grew.refl _ _⟩
  · have hoff' : s.off = false := by rw [Bool.not_eq_true] at hoff; exact hoff
    rw [hoff'] at hof
    have c2 := goes_ri h
    by_cases hz : s.left = 0
    · rw [if_pos hz, decide_eq_true hz] at c2
      have HE : Hid (barRes s = (gone s, 8)) := Lib.hid (by unfold barRes; rw [if_neg hoff, if_pos hz])
      clear hoff hoff' h hz
      go_enter Try.func16, Try.ntmps16
      go_wp2_with (go_at_call 25; refine c2.mono ?_; rintro e w2 ⟨rfl, hd2, hg2⟩; have HD2 := Lib.hid hd2; have HG2 := Lib.hid hg2; clear hd2 hg2)
      go_ret
      exact ⟨_, by rw [HE.out]; rfl, by rw [HE.out]; exact ⟨d, gl, go, cl, co, ao, cp, rfl, HD2.out, rfl⟩, grew_in HG2.out (Or.inl rfl)⟩
    · rw [if_neg hz, decide_eq_false hz] at c2
      obtain ⟨n, hnn⟩ : ∃ n, s.n = n := ⟨_, rfl⟩
      have hn4 := h.n480
      rw [hnn] at hn4
      have HE : Hid (barRes s = (lastOnly (step1 s), 0)) := Lib.hid (by unfold barRes; rw [if_neg hoff, if_neg hz])
      obtain ⟨s1, hs1⟩ : ∃ s1, step1 s = s1 := ⟨_, rfl⟩
      rw [hs1] at c2 HE
      have hn1 : s1.n = n := by rw [← hs1]; exact hnn
      have hok1 : s1.Ok := by rw [← hs1]; exact h.ok
      have HNN := Lib.hid hnn
      have HN1 := Lib.hid hn1
      have HOK := Lib.hid hok1
      clear hoff hoff' h hz hs1 hnn hn1 hok1
      go_enter Try.func16, Try.ntmps16
      go_wp2_with (go_at_call 25; refine c2.mono ?_; rintro e w2 ⟨rfl, hd2, hg2⟩; have HD2 := Lib.hid hd2; have HG2 : Hid (Grew (RFoot d gl go ao s.n) (RFoot d gl go ao s.n) w w2) := Lib.hid (grew_in hg2 (Or.inl rfl)); clear hd2 hg2)
      clear c2 hof
      have HM0 : Hid (RMids w d gl go cl co (RFoot d gl go ao s.n) s1 (fun k => (((s1.hist k).length - 1 : Nat) : Int)) 0 w2) := Lib.hid ⟨ao, cp, by rw [mid_zero]; exact HD2.out, fun k hk => by rw [HNN.out]; rw [HN1.out] at hk; exact hk, HG2.out⟩
      clear HD2 HG2
      go_loopw [3] (fun iv wr => ∃ i : Nat, iv = .int .i64 (i : Int) ∧ i ≤ n ∧ Hid (RMids w d gl go cl co (RFoot d gl go ao s.n) s1 (fun k => (((s1.hist k).length - 1 : Nat) : Int)) i wr)) (fun iv _ => n - (intOf iv).toNat)
      case atStart => exact ⟨0, rfl, Nat.zero_le _, HM0⟩
      case round =>
        clear HM0
        obtain ⟨i, rfl, hi, HM⟩ := hrel
        obtain ⟨ao1, cp1, hD, hF1, hG1⟩ := HM.out
        have HD := Lib.hid hD
        have HF1 := Lib.hid hF1
        have HG1 := Lib.hid hG1
        have hso := hD.so
        have hnm : (mid s1 (fun k => (((s1.hist k).length - 1 : Nat) : Int)) i).n = n := HN1.out
        rw [hnm] at hso
        by_cases hlt : i < n
        · have cK := keep_ri hD (i := i) (by rw [hnm]; exact hlt) ((((s1.hist i).length - 1 : Nat) : Int))
          have hC := hD.cells i (by rw [hnm]; exact hlt)
          rw [mid_hist] at hC cK
          have hopn := hC.opn
          have hLL : (s1.hist i).tail.length = (s1.hist i).length - 1 := List.length_tail
          obtain ⟨L, hL⟩ : ∃ L, (s1.hist i).length - 1 = L := ⟨_, rfl⟩
          rw [hLL, hL] at hopn
          rw [hL] at cK
          unfold KeepPost at cK
          have HLL := Lib.hid hL
          have i1 : (i : Int) < (n : Int) := by omega
          clear hD hF1 hG1 hnm hC hLL hL HM
          go_wp2_with (go_at_call 29; refine cK.mono ?_; rintro e w3 ⟨rfl, hS⟩; have HS := Lib.hid hS; clear hS)
          go_roundw
          case rel =>
            refine ⟨i + 1, by go_num, by omega, Lib.hid (RMids.step HOK.out HD.out (fun k hk => HF1.out k hk) HG1.out (by rw [HN1.out]; exact hlt) ?_)⟩
            show RSettled wr w3 gl go i (((s1.hist i).headD [] :: (s1.hist i).tail).getD (keptN (((s1.hist i).length - 1 : Nat) : Int) (s1.hist i).tail.length) [])
            rw [HLL.out]
            exact HS.out
          case measure => simp [intOf]; omega
        · have hin : i = n := by omega
          subst hin
          clear hD hF1 hG1 hnm HM
          go_wp2_with fail
          go_ret
          refine ⟨RFoot d gl go ao1 i, by rw [HE.out]; rfl, ?_, HG1.out.1, HG1.out.2.1, HG1.out.2.2.1, HG1.out.2.2.2.1, HG1.out.2.2.2.2.1, fun k hk => Or.inl (HF1.out k (by rw [HN1.out]; exact hk))⟩
          rw [HE.out]
          refine ⟨d, gl, go, cl, co, ao1, cp1, rfl, HD.out.same rfl rfl rfl (last_ok HOK.out) (fun k hk => ?_), by rw [show (lastOnly s1).n = i from HN1.out]⟩
          have hk' : k < i := by
            have h1 : (mid s1 (fun k => (((s1.hist k).length - 1 : Nat) : Int)) i).n = i := HN1.out
            omega
          show [(s1.hist k).getLastD []] = (if k < i then keepAt (s1.hist k) _ else s1.hist k)
          rw [if_pos hk']
          exact (keep_last HOK.out k).symm

/-- The power is set anew. -/
theorem RIs.reset {w : World} {d gl go cl co : Nat} {ao : Nat → Option Addr} {cp : Nat → Nat} {s : DM} (h : RIs w d gl go cl co ao cp s) : RIs ((w.setCell ⟨d, 3, none⟩ (.bool false)).setCell ⟨d, 2, none⟩ (.int .i64 (-1))) d gl go cl co ao cp { s with left := -1, off := false } ∧ Grew (fun k => k = d) (fun k => k = d) w ((w.setCell ⟨d, 3, none⟩ (.bool false)).setCell ⟨d, 2, none⟩ (.int .i64 (-1))) := by
  obtain ⟨l, h2, _, _⟩ := h.pow
  refine ⟨h.power (fun k hk => by rw [Below.heap_setCell _ _ _ _ hk, Below.heap_setCell _ _ _ _ hk]) _ rfl rfl ?_ ?_ ⟨-1, ?_, by decide, Or.inl ⟨by decide, rfl⟩⟩ ?_ (fun j => by simp only [World.frozen?_setCell]; exact h.frd j), (Grew.setCell (fun k => k = d) w (p := ⟨d, 3, none⟩) rfl _).trans (Grew.setCell (fun k => k = d) _ (p := ⟨d, 2, none⟩) rfl _)⟩
  · rw [World.cell?_setCell_other (h := ne_off (by decide)), World.cell?_setCell_other (h := ne_off (by decide))]
  · rw [World.cell?_setCell_other (h := ne_off (by decide)), World.cell?_setCell_other (h := ne_off (by decide))]
  · exact World.cell?_setCell_same _ _ _ (by rw [World.cell?_setCell_other (h := ne_off (by decide))]; exact h2)
  · rw [World.cell?_setCell_other (h := ne_off (by decide))]
    exact World.cell?_setCell_same _ _ _ h.off

set_option maxRecDepth 100000 in
set_option maxHeartbeats 1600000 in
theorem ri_restart {w : World} {a : Addr} {F : Nat → Prop} {s : DM} (G : Nat → Prop) (ko : Option Addr) (m cap : Nat) (ks : List Int) (h : RI w a F s) (hN : NumsAre w G ko m ks) (hFG : ∀ k, F k → ¬ G k) :
    Calls Try.prog 19 #[.pointer (some a), .slice ko m cap] w fun e w' => ∃ F', e = .returned (.tuple #[]) ∧ RI w' a F' (restarted s ks) ∧ Grew F F' w w' := by
  obtain ⟨d, gl, go, cl, co, ao, cp, rfl, h, rfl⟩ := h
  obtain ⟨n, hnn⟩ : ∃ n, s.n = n := ⟨_, rfl⟩
  have hn4 := h.n480
  rw [hnn] at hn4
  have HNN := Lib.hid hnn
  have HOK := Lib.hid h.ok
  have HFG := Lib.hid hFG
  have HN := Lib.hid hN
  have HM0 : Hid (RMids w d gl go cl co (RFoot d gl go ao s.n) s (fun k => ks.getD k 0) 0 w) := Lib.hid ⟨ao, cp, by rw [mid_zero]; exact h, fun k hk => hk, Grew.refl _ _⟩
  clear h hnn hFG hN
  go_enter Try.func19, Try.ntmps19
  go_wp2_with fail
  go_loopw [4] (fun iv wr => ∃ i : Nat, iv = .int .i64 (i : Int) ∧ i ≤ n ∧ Hid (RMids w d gl go cl co (RFoot d gl go ao s.n) s (fun k => ks.getD k 0) i wr)) (fun iv _ => n - (intOf iv).toNat)
  case atStart => exact ⟨0, rfl, Nat.zero_le _, HM0⟩
  case round =>
    clear HM0
    obtain ⟨i, rfl, hi, HM⟩ := hrel
    obtain ⟨ao1, cp1, hD, hF1, hG1⟩ := HM.out
    have HD := Lib.hid hD
    have HF1 := Lib.hid hF1
    have HG1 := Lib.hid hG1
    have hso := hD.so
    have hnm : (mid s (fun k => ks.getD k 0) i).n = n := HNN.out
    rw [hnm] at hso
    by_cases hlt : i < n
    · have i1 : (i : Int) < (n : Int) := by omega
      by_cases him : i < m
      · obtain ⟨b, off, rfl, hGb, hks⟩ := HN.out.2.resolve_left (by omega)
        have hx : ks[i]? = some (ks.getD i 0) := by rw [List.getD_eq_getElem?_getD, List.getElem?_eq_getElem (by rw [HN.out.1]; exact him)]; rfl
        obtain ⟨hcw, hxb⟩ := hks i _ hx
        obtain ⟨x, hxe⟩ : ∃ x, ks.getD i 0 = x := ⟨_, rfl⟩
        have hcell : wr.cell? ⟨b, off + i, none⟩ = some (.int .i64 x) := by
          rw [cell_of_heap (p := ⟨b, off + i, none⟩) (hG1.2.2.2.2.1 b (World.block_lt_of_cell? _ _ hcw) (fun hf => HFG.out b hf hGb)), hcw, hxe]
        have cK := keep_ri hD (i := i) (by rw [hnm]; exact hlt) x
        rw [mid_hist] at cK
        unfold KeepPost at cK
        have HX := Lib.hid hxe
        have i2 : (i : Int) < (m : Int) := by omega
        clear hD hF1 hG1 hnm HM hks hx hcw hxb hxe
        go_wp2_with (go_at_call 29; refine cK.mono ?_; rintro e w3 ⟨rfl, hS⟩; have HS := Lib.hid hS; clear hS)
        go_roundw
        case rel =>
          refine ⟨i + 1, by go_num, by omega, Lib.hid (RMids.step HOK.out HD.out (fun k hk => HF1.out k hk) HG1.out (by rw [HNN.out]; exact hlt) ?_)⟩
          show RSettled wr w3 gl go i (((s.hist i).headD [] :: (s.hist i).tail).getD (keptN (ks.getD i 0) (s.hist i).tail.length) [])
          rw [HX.out]
          exact HS.out
        case measure => simp [intOf]; omega
      · have cK := keep_ri hD (i := i) (by rw [hnm]; exact hlt) 0
        rw [mid_hist] at cK
        unfold KeepPost at cK
        have HX : Hid (ks.getD i 0 = 0) := Lib.hid (by rw [List.getD_eq_getElem?_getD, List.getElem?_eq_none (by rw [HN.out.1]; omega)]; rfl)
        have i2 : ¬ (i : Int) < (m : Int) := by omega
        clear hD hF1 hG1 hnm HM
        go_wp2_with (go_at_call 29; refine cK.mono ?_; rintro e w3 ⟨rfl, hS⟩; have HS := Lib.hid hS; clear hS)
        go_roundw
        case rel =>
          refine ⟨i + 1, by go_num, by omega, Lib.hid (RMids.step HOK.out HD.out (fun k hk => HF1.out k hk) HG1.out (by rw [HNN.out]; exact hlt) ?_)⟩
          show RSettled wr w3 gl go i (((s.hist i).headD [] :: (s.hist i).tail).getD (keptN (ks.getD i 0) (s.hist i).tail.length) [])
          rw [HX.out]
          exact HS.out
        case measure => simp [intOf]; omega
    · have hin : i = n := by omega
      subst hin
      have HR := Lib.hid hD.reset
      obtain ⟨l, h2, _, _⟩ := hD.pow
      have h3 := hD.off
      have f2 := hD.frd 2
      have f3 := hD.frd 3
      have h2' : (wr.setCell ⟨d, 3, none⟩ (.bool false)).cell? ⟨d, 2, none⟩ = some (.int .i64 l) := by rw [World.cell?_setCell_other (h := ne_off (by decide))]; exact h2
      clear hD hF1 hG1 hnm HM
      go_wp2_with fail
      go_end0
      refine ⟨RFoot d gl go ao1 i, rfl, ?_, ?_⟩
      · refine ⟨d, gl, go, cl, co, ao1, cp1, rfl, HR.out.1.same rfl rfl rfl (restart_ok HOK.out ks) (fun k hk => ?_), by rw [show (restarted s ks).n = i from HNN.out]⟩
        have hk' : k < i := by
          have h1 : (mid s (fun k => ks.getD k 0) i).n = i := HNN.out
          exact h1 ▸ hk
        show keepAt (s.hist k) (ks.getD k 0) = (if k < i then keepAt (s.hist k) (ks.getD k 0) else s.hist k)
        rw [if_pos hk']
      · have hG2 := HG1.out.trans (grew_in (F := RFoot d gl go ao s.n) HR.out.2 (Or.inl rfl))
        exact ⟨hG2.1, hG2.2.1, hG2.2.2.1, hG2.2.2.2.1, hG2.2.2.2.2.1, fun k hk => Or.inl (HF1.out k (by rw [HNN.out]; exact hk))⟩

end Go.Proofs.Ytinlbmlgfneolaa
