/-
  Proved here: what Restart of the landed disk makes of it.
  The conditions stand at each theorem.
-/
import Derived.Test.YtinlbmlgfneolaaDevBar
namespace Go.Proofs.Ytinlbmlgfneolaa
open Go.RowKit
set_option linter.unusedVariables false
set_option linter.unusedSimpArgs false

theorem restart_ok {s : DM} (h : s.Ok) (ks : List Int) : (restarted s ks).Ok := fun k => by
  obtain ⟨c, hc, hmem, _⟩ := keep_ok h k (ks.getD k 0)
  show keepAt (s.hist k) (ks.getD k 0) ≠ [] ∧ ∀ x ∈ keepAt (s.hist k) (ks.getD k 0), _
  rw [hc]
  exact ⟨by simp, fun x hx => by rw [List.mem_singleton.1 hx]; exact (h k).2 c hmem⟩

theorem mid_ok {s : DM} (h : s.Ok) (m : Nat → Int) (i : Nat) : (mid s m i).Ok := fun k => by
  show (if k < i then keepAt (s.hist k) (m k) else s.hist k) ≠ [] ∧ ∀ x ∈ (if k < i then keepAt (s.hist k) (m k) else s.hist k), _
  by_cases e : k < i
  · rw [if_pos e]
    obtain ⟨c, hc, hmem, _⟩ := keep_ok h k (m k)
    rw [hc]
    exact ⟨by simp, fun x hx => by rw [List.mem_singleton.1 hx]; exact (h k).2 c hmem⟩
  · rw [if_neg e]; exact h k

/-- The power is set anew. -/
theorem DIs.reset {w : World} {d g : Nat} {ao : Nat → Option Addr} {cp : Nat → Nat} {s : DM} (h : DIs w d g ao cp s) : DIs (w.setCells d 0 [.bool false, .bool false, .int .i64 0]) d g ao cp { s with left := -1, off := false } ∧ Grew (fun k => k = d) (fun k => k = d) w (w.setCells d 0 [.bool false, .bool false, .int .i64 0]) := by
  obtain ⟨du, l, h1, h2, _, _⟩ := h.pow
  refine ⟨h.power (fun k hk => ?_) _ rfl rfl ?_ ⟨false, 0, ?_, ?_, by decide, Or.inl ⟨rfl, rfl⟩⟩ ?_ (fun j => by rw [World.frozen?_setCells]; exact h.frd j), Grew.setCells (fun k => k = d) (b := d) rfl _ _ _⟩
  · show (((w.setCell ⟨d, 0, none⟩ (.bool false)).setCell ⟨d, 1, none⟩ (.bool false)).setCell ⟨d, 2, none⟩ (.int .i64 0)).heap[k]? = _
    rw [Below.heap_setCell _ _ _ _ hk, Below.heap_setCell _ _ _ _ hk, Below.heap_setCell _ _ _ _ hk]
  · show (((w.setCell ⟨d, 0, none⟩ (.bool false)).setCell ⟨d, 1, none⟩ (.bool false)).setCell ⟨d, 2, none⟩ (.int .i64 0)).cell? ⟨d, 0, none⟩ = _
    rw [World.cell?_setCell_other (h := ne_off (by decide)), World.cell?_setCell_other (h := ne_off (by decide))]
    exact World.cell?_setCell_same _ _ _ h.off
  · show (((w.setCell ⟨d, 0, none⟩ (.bool false)).setCell ⟨d, 1, none⟩ (.bool false)).setCell ⟨d, 2, none⟩ (.int .i64 0)).cell? ⟨d, 1, none⟩ = _
    rw [World.cell?_setCell_other (h := ne_off (by decide))]
    exact World.cell?_setCell_same _ _ _ (by rw [World.cell?_setCell_other (h := ne_off (by decide))]; exact h1)
  · show (((w.setCell ⟨d, 0, none⟩ (.bool false)).setCell ⟨d, 1, none⟩ (.bool false)).setCell ⟨d, 2, none⟩ (.int .i64 0)).cell? ⟨d, 2, none⟩ = _
    exact World.cell?_setCell_same _ _ _ (by rw [World.cell?_setCell_other (h := ne_off (by decide)), World.cell?_setCell_other (h := ne_off (by decide))]; exact h2)
  · show (((w.setCell ⟨d, 0, none⟩ (.bool false)).setCell ⟨d, 1, none⟩ (.bool false)).setCell ⟨d, 2, none⟩ (.int .i64 0)).cell? ⟨d, 3, none⟩ = _
    rw [World.cell?_setCell_other (h := ne_off (by decide)), World.cell?_setCell_other (h := ne_off (by decide)), World.cell?_setCell_other (h := ne_off (by decide))]

theorem DIs.there3 {w : World} {d g : Nat} {ao : Nat → Option Addr} {cp : Nat → Nat} {s : DM} (h : DIs w d g ao cp s) : w.there d 0 3 := by
  obtain ⟨du, l, h1, h2, _, _⟩ := h.pow
  intro j hj
  refine ⟨?_, h.frd _⟩
  rw [Nat.zero_add]
  match j, hj with
  | 0, _ => rw [h.off]; rfl
  | 1, _ => rw [h1]; rfl
  | 2, _ => rw [h2]; rfl

theorem p60 : (#[Value.bool false, .bool false, .int .i64 0] : Array Value).all (·.oneCell') = true := all_oneCell_toArray (cs := [Value.bool false, .bool false, .int .i64 0]) (by simp [Value.oneCell'])
theorem i60 : (Try.prog.info? 60).map (·.size) = some (#[Value.bool false, .bool false, .int .i64 0] : Array Value).size := by kernel_rfl

set_option maxRecDepth 100000 in
set_option maxHeartbeats 1600000 in
theorem di_restart {w : World} {a : Addr} {F : Nat → Prop} {s : DM} (G : Nat → Prop) (ko : Option Addr) (m cap : Nat) (ks : List Int) (h : DI w a F s) (hN : NumsAre w G ko m ks) (hFG : ∀ k, F k → ¬ G k) :
    Calls Try.prog 18 #[.pointer (some a), .slice ko m cap] w fun e w' => ∃ F', e = .returned (.tuple #[]) ∧ DI w' a F' (restarted s ks) ∧ Grew F F' w w' := by
  obtain ⟨d, g, ao, cp, rfl, h, rfl⟩ := h
  obtain ⟨n, hnn⟩ : ∃ n, s.n = n := ⟨_, rfl⟩
  have hn4 := h.n480
  rw [hnn] at hn4
  have HNN := Lib.hid hnn
  have HOK := Lib.hid h.ok
  have hsl := h.sl
  rw [hnn] at hsl
  have HFG := Lib.hid hFG
  have HN := Lib.hid hN
  have HM0 : Hid (Mids w d g (Foot d g ao s.n) s (fun k => ks.getD k 0) 0 w) := Lib.hid ⟨ao, cp, by rw [mid_zero]; exact h, fun k hk => hk, Grew.refl _ _⟩
  clear h hnn hFG hN
  go_enter Try.func18, Try.ntmps18
  go_wp2_with fail
  clear hsl
  go_loopw [13] (fun iv wr => ∃ i : Nat, iv = .int .i64 (i : Int) ∧ i ≤ n ∧ Hid (Mids w d g (Foot d g ao s.n) s (fun k => ks.getD k 0) i wr)) (fun iv _ => n - (intOf iv).toNat)
  case atStart => exact ⟨0, rfl, Nat.zero_le _, HM0⟩
  case round =>
    clear HM0
    obtain ⟨i, rfl, hi, HM⟩ := hrel
    obtain ⟨ao1, cp1, hD, hF1, hG1⟩ := HM.out
    have HD := Lib.hid hD
    have HF1 := Lib.hid hF1
    have HG1 := Lib.hid hG1
    have hsl := hD.sl
    have hnm : (mid s (fun k => ks.getD k 0) i).n = n := HNN.out
    rw [hnm] at hsl
    by_cases hlt : i < n
    · have hC := hD.cells i (by rw [hnm]; exact hlt)
      rw [mid_hist] at hC
      have i1 : (i : Int) < (n : Int) := by omega
      by_cases him : i < m
      · obtain ⟨b, off, rfl, hGb, hks⟩ := HN.out.2.resolve_left (by omega)
        have hx : ks[i]? = some (ks.getD i 0) := by rw [List.getD_eq_getElem?_getD, List.getElem?_eq_getElem (by rw [HN.out.1]; exact him)]; rfl
        obtain ⟨hcw, hxb⟩ := hks i _ hx
        obtain ⟨x, hxe⟩ : ∃ x, ks.getD i 0 = x := ⟨_, rfl⟩
        have hcell : wr.cell? ⟨b, off + i, none⟩ = some (.int .i64 x) := by
          rw [cell_of_heap (p := ⟨b, off + i, none⟩) (hG1.2.2.2.2.1 b (World.block_lt_of_cell? _ _ hcw) (fun hf => HFG.out b hf hGb)), hcw, hxe]
        have cS := settle_any hC hD.frg x
        have HX := Lib.hid hxe
        have i2 : (i : Int) < (m : Int) := by omega
        clear hD hF1 hG1 hnm hC HM hks hx hcw hxb hxe
        go_wp2_with (go_at_call 28; refine cS.mono ?_; rintro e w3 ⟨rfl, hS⟩; have HS := Lib.hid hS; clear hS)
        go_roundw
        case rel =>
          refine ⟨i + 1, by go_num, by omega, Lib.hid (Mids.step HOK.out HD.out (fun k hk => HF1.out k hk) HG1.out (by rw [HNN.out]; exact hlt) ?_)⟩
          show Settled wr w3 g (i * 65) (((s.hist i).headD [] :: (s.hist i).tail).getD (keptN (ks.getD i 0) (s.hist i).tail.length) [])
          rw [HX.out]
          exact HS.out
        case measure => simp [intOf]; omega
      · have cS := settle_any hC hD.frg 0
        have HX : Hid (ks.getD i 0 = 0) := Lib.hid (by rw [List.getD_eq_getElem?_getD, List.getElem?_eq_none (by rw [HN.out.1]; omega)]; rfl)
        have i2 : ¬ (i : Int) < (m : Int) := by omega
        clear hD hF1 hG1 hnm hC HM
        go_wp2_with (go_at_call 28; refine cS.mono ?_; rintro e w3 ⟨rfl, hS⟩; have HS := Lib.hid hS; clear hS)
        go_roundw
        case rel =>
          refine ⟨i + 1, by go_num, by omega, Lib.hid (Mids.step HOK.out HD.out (fun k hk => HF1.out k hk) HG1.out (by rw [HNN.out]; exact hlt) ?_)⟩
          show Settled wr w3 g (i * 65) (((s.hist i).headD [] :: (s.hist i).tail).getD (keptN (ks.getD i 0) (s.hist i).tail.length) [])
          rw [HX.out]
          exact HS.out
        case measure => simp [intOf]; omega
    · have hin : i = n := by omega
      subst hin
      have HT := Lib.hid hD.there3
      have HR := Lib.hid hD.reset
      clear hD hF1 hG1 hnm HM
      go_wp2_with (refine wpList_store_mid rfl 60 (.tmp 36) (.tmp 34) rfl d 0 #[.bool false, .bool false, .int .i64 0] rfl rfl HT.out i60 p60 ?_)
      go_end0
      refine ⟨rfl, Foot d g ao1 i, ?_, ?_⟩
      · refine ⟨d, g, ao1, cp1, rfl, HR.out.1.same rfl rfl rfl (restart_ok HOK.out ks) (fun k hk => ?_), by rw [show (restarted s ks).n = i from HNN.out]⟩
        have hk' : k < i := by
          have h1 : (mid s (fun k => ks.getD k 0) i).n = i := HNN.out
          exact h1 ▸ hk
        show keepAt (s.hist k) (ks.getD k 0) = (if k < i then keepAt (s.hist k) (ks.getD k 0) else s.hist k)
        rw [if_pos hk']
      · have hG2 := HG1.out.trans (grew_in (F := Foot d g ao s.n) HR.out.2 (Or.inl rfl))
        exact ⟨hG2.1, hG2.2.1, hG2.2.2.1, hG2.2.2.2.1, hG2.2.2.2.2.1, fun k hk => Or.inl (HF1.out k (by rw [HNN.out]; exact hk))⟩

end Go.Proofs.Ytinlbmlgfneolaa
