/-
  Proved here: what Barrier and Restart of the landed disk make of it.
  The conditions stand at each theorem.
-/
import Derived.Test.YtinlbmlgfneolaaDevGet
namespace Go.Proofs.Ytinlbmlgfneolaa
open Go.RowKit
set_option linter.unusedVariables false
set_option linter.unusedSimpArgs false

theorem ne_off {d i j : Nat} (h : i ≠ j) : (⟨d, i, none⟩ : Addr) ≠ ⟨d, j, none⟩ := fun e => by cases e; exact h rfl

/-- The power is asked. -/
theorem holds_di {w : World} {d g : Nat} {ao : Nat → Option Addr} {cp : Nat → Nat} {s : DM} (h : DIs w d g ao cp s) :
    Calls Try.prog 24 #[.pointer (some ⟨d, 0, none⟩)] w fun e w' => e = .returned (.bool (decide (s.left ≠ 0))) ∧ DIs w' d g ao cp (if s.left = 0 then gone s else step1 s) ∧ Grew (fun k => k = d) (fun k => k = d) w w' := by
  obtain ⟨du, l, h1, h2, hl, hp⟩ := h.pow
  rcases hp with ⟨rfl, hp⟩ | ⟨rfl, hp, h0⟩
  · refine (holds_never h1).mono ?_
    rintro e w' ⟨rfl, rfl⟩
    have e1 : step1 s = s := by
      unfold step1
      rw [if_neg (by omega)]
    rw [if_neg (by omega), e1, decide_eq_true (by omega)]
    exact ⟨rfl, h, Grew.refl _ _⟩
  · by_cases hz : s.left = 0
    · have hl0 : l = 0 := by omega
      subst hl0
      refine (holds_gone h.off h1 h2 (h.frd 0)).mono ?_
      rintro e w' ⟨rfl, rfl⟩
      rw [if_pos hz, decide_eq_false (by omega)]
      refine ⟨rfl, h.power (fun k hk => Below.heap_setCell _ _ _ _ hk) (gone s) rfl rfl (World.cell?_setCell_same _ _ _ h.off) ⟨true, 0, ?_, ?_, by decide, Or.inr ⟨rfl, hz, Int.le_refl _⟩⟩ ?_ (fun j => by simp only [World.frozen?_setCell]; exact h.frd j), Grew.setCell (fun k => k = d) w (p := ⟨d, 0, none⟩) rfl _⟩
      · rw [World.cell?_setCell_other (h := ne_off (by decide))]; exact h1
      · rw [World.cell?_setCell_other (h := ne_off (by decide))]; exact h2
      · rw [World.cell?_setCell_other (h := ne_off (by decide))]
    · refine (holds_less h1 h2 (by omega) hl.2 (h.frd 2)).mono ?_
      rintro e w' ⟨rfl, rfl⟩
      rw [if_neg hz, decide_eq_true hz]
      refine ⟨rfl, h.power (fun k hk => Below.heap_setCell _ _ _ _ hk) (step1 s) rfl rfl ?_ ⟨true, l - 1, ?_, World.cell?_setCell_same _ _ _ h2, by omega, Or.inr ⟨rfl, ?_, by omega⟩⟩ ?_ (fun j => by simp only [World.frozen?_setCell]; exact h.frd j), Grew.setCell (fun k => k = d) w (p := ⟨d, 2, none⟩) rfl _⟩
      · rw [World.cell?_setCell_other (h := ne_off (by decide))]; exact h.off
      · rw [World.cell?_setCell_other (h := ne_off (by decide))]; exact h1
      · show (if 0 < s.left then s.left - 1 else s.left) = l - 1
        rw [if_pos (by omega)]; omega
      · rw [World.cell?_setCell_other (h := ne_off (by decide))]

/-- Another state in plain words that has the same power, and the same contents. -/
theorem DIs.same {w : World} {d g : Nat} {ao : Nat → Option Addr} {cp : Nat → Nat} {s : DM} (h : DIs w d g ao cp s) {s' : DM} (hn : s'.n = s.n) (ho : s'.off = s.off) (hl : s'.left = s.left) (hok : s'.Ok) (hh : ∀ k, k < s.n → s'.hist k = s.hist k) : DIs w d g ao cp s' :=
  ⟨h.dg, by rw [hn]; exact h.n1, by rw [hn]; exact h.n480, hok, by rw [ho]; exact h.off, by rw [hl]; exact h.pow, by rw [hn]; exact h.sl, h.frd, h.frg, fun k hk => by
    rw [hn] at hk
    rw [hh k hk]; exact h.cells k hk, fun k hk => h.awayd k (by rw [← hn]; exact hk), fun i j hi hj => h.apart i j (by rw [← hn]; exact hi) (by rw [← hn]; exact hj)⟩

/-- One cell has settled. -/
theorem DIs.settle {w w' : World} {d g : Nat} {ao : Nat → Option Addr} {cp : Nat → Nat} {s : DM} (h : DIs w d g ao cp s) {i : Nat} (hi : i < s.n) {c : List Int} (hS : Settled w w' g (i * 65) c) (hc : c.length = 64 ∧ ∀ z ∈ c, 0 ≤ z ∧ z ≤ 255) :
    DIs w' d g (fun k => if k = i then none else ao k) (fun k => if k = i then 0 else cp k) { s with hist := fun k => if k = i then [c] else s.hist k } := by
  have hdl : d < w.heap.size := World.block_lt_of_cell? _ _ h.off
  have hd : w'.heap[d]? = w.heap[d]? := hS.grew.2.2.2.2.1 d hdl h.dg
  have hcell : ∀ j, w'.cell? ⟨d, j, none⟩ = w.cell? ⟨d, j, none⟩ := fun j => cell_of_heap (p := ⟨d, j, none⟩) hd
  refine ⟨h.dg, h.n1, h.n480, fun k => ?_, by rw [hcell]; exact h.off, by rw [hcell, hcell]; exact h.pow, by rw [hcell]; exact h.sl, fun j => ?_, fun j => by rw [hS.frz]; exact h.frg j, fun k hk => ?_, fun k hk => ?_, fun k l hk hl hkl => ?_⟩
  · show (if k = i then [c] else s.hist k) ≠ [] ∧ ∀ x ∈ (if k = i then [c] else s.hist k), _
    by_cases e : k = i
    · rw [if_pos e]
      exact ⟨by simp, fun x hx => by rw [List.mem_singleton.1 hx]; exact hc⟩
    · rw [if_neg e]; exact h.ok k
  · rw [World.frozen?_of_block (w := w) (a := ⟨d, j, none⟩) hd]; exact h.frd j
  · show CellIs w' g (k * 65) ((if k = i then [c] else s.hist k).headD []) (if k = i then none else ao k) (if k = i then 0 else cp k) (if k = i then [c] else s.hist k).tail
    by_cases e : k = i
    · subst e
      simp only [if_pos]
      exact ⟨hS.last, hS.opn, ⟨rfl, Or.inl ⟨rfl, rfl⟩⟩, by simp [Value.ownBlock], hc.1, by simp⟩
    · simp only [if_neg e]
      have hk' : k < s.n := hk
      have hC := h.cells k hk'
      have ho : k * 65 + 65 ≤ i * 65 ∨ i * 65 + 65 ≤ k * 65 := by omega
      refine ⟨fun j v hv => ?_, ?_, owns_turn hC.row (fun b hb => ?_), hC.away, hC.len⟩
      · have hj : j < 64 := by have := (List.getElem?_eq_some_iff.1 hv).1; rw [bys_length, hC.len.1] at this; exact this
        rw [hS.rest _ (by omega)]
        exact hC.last j v hv
      · rw [hS.rest _ (by omega)]; exact hC.opn
      · refine hS.grew.2.2.2.2.1 b (hC.row.lt b hb).2 (fun e' => hC.away ?_)
        rw [hb, e']
  · show (if k = i then none else ao k) ≠ _
    by_cases e : k = i
    · rw [if_pos e]; intro h; cases h
    · rw [if_neg e]; exact h.awayd k hk
  · show (if k = i then none else ao k) = none ∨ (if k = i then none else ao k) ≠ (if l = i then none else ao l)
    by_cases e1 : k = i
    · rw [if_pos e1]; exact Or.inl rfl
    · rw [if_neg e1]
      by_cases e2 : l = i
      · rw [if_pos e2]
        cases hk' : ao k with
        | none => exact Or.inl rfl
        | some x => exact Or.inr (by intro e; cases e)
      · rw [if_neg e2]; exact h.apart k l hk hl hkl

/-- The first i cells have settled, of cell k so many writes are kept. -/
def mid (s : DM) (m : Nat → Int) (i : Nat) : DM := { s with hist := fun k => if k < i then keepAt (s.hist k) (m k) else s.hist k }

theorem mid_zero (s : DM) (m : Nat → Int) : mid s m 0 = s := by
  unfold mid
  simp

theorem mid_succ (s : DM) (m : Nat → Int) (i : Nat) : mid s m (i + 1) = { mid s m i with hist := fun k => if k = i then keepAt (s.hist i) (m i) else (mid s m i).hist k } := by
  unfold mid
  congr 1
  funext k
  by_cases e : k = i
  · subst e
    simp
  · simp only [if_neg e]
    by_cases h : k < i
    · rw [if_pos h, if_pos (by omega)]
    · rw [if_neg h, if_neg (by omega)]

theorem mid_hist (s : DM) (m : Nat → Int) (i : Nat) : (mid s m i).hist i = s.hist i := by
  show (if i < i then _ else s.hist i) = _
  rw [if_neg (Nat.lt_irrefl i)]

/-- The loop of Barrier and of Restart behind i rounds. -/
def Mids (w0 : World) (d g : Nat) (F : Nat → Prop) (s : DM) (m : Nat → Int) (i : Nat) (wr : World) : Prop :=
  ∃ ao cp, DIs wr d g ao cp (mid s m i) ∧ (∀ k, Foot d g ao s.n k → F k) ∧ Grew F F w0 wr

theorem keep_ok {s : DM} (h : s.Ok) (k : Nat) (n : Int) : ∃ c, keepAt (s.hist k) n = [c] ∧ c ∈ s.hist k ∧ ((s.hist k).headD [] :: (s.hist k).tail).getD (keptN n (s.hist k).tail.length) [] = c := by
  refine ⟨_, rfl, ?_, ?_⟩
  · have hne := (h k).1
    have hlt : min n.toNat ((s.hist k).length - 1) < (s.hist k).length := by have := List.length_pos_iff.2 hne; omega
    rw [List.getD_eq_getElem?_getD, List.getElem?_eq_getElem hlt]
    exact List.getElem_mem hlt
  · rw [← hist_eq h k, List.length_tail]
    rfl

theorem Mids.step {w0 : World} {d g : Nat} {F : Nat → Prop} {s : DM} {m : Nat → Int} {i : Nat} {wr w' : World} {ao : Nat → Option Addr} {cp : Nat → Nat} (hs : s.Ok) (h : DIs wr d g ao cp (mid s m i)) (hF : ∀ k, Foot d g ao s.n k → F k) (hG : Grew F F w0 wr) (hi : i < s.n)
    (hS : Settled wr w' g (i * 65) (((s.hist i).headD [] :: (s.hist i).tail).getD (keptN (m i) (s.hist i).tail.length) [])) : Mids w0 d g F s m (i + 1) w' := by
  obtain ⟨c, hk, hmem, hc⟩ := keep_ok hs i (m i)
  rw [hc] at hS
  refine ⟨fun k => if k = i then none else ao k, fun k => if k = i then 0 else cp k, ?_, fun k hk => ?_, hG.trans ⟨hS.grew.1, hS.grew.2.1, hS.grew.2.2.1, hS.grew.2.2.2.1, fun k hk hF' => hS.grew.2.2.2.2.1 k hk (fun e => hF' (hF k (Or.inr (Or.inl e)))), fun k hk => Or.inl hk⟩⟩
  · rw [mid_succ, hk]
    exact h.settle hi hS ((hs i).2 c hmem)
  · rcases hk with h | h | ⟨j, hj, e⟩
    · exact hF k (Or.inl h)
    · exact hF k (Or.inr (Or.inl h))
    · refine hF k (Or.inr (Or.inr ⟨j, hj, ?_⟩))
      by_cases e' : j = i
      · simp only [if_pos e'] at e; cases e
      · simp only [if_neg e'] at e; exact e

theorem grew_in {F : Nat → Prop} {d : Nat} {w w' : World} (h : Grew (fun k => k = d) (fun k => k = d) w w') (hd : F d) : Grew F F w w' :=
  ⟨h.1, h.2.1, h.2.2.1, h.2.2.2.1, fun k hk hF => h.2.2.2.2.1 k hk (fun e => hF (by rw [e]; exact hd)), fun k hk => Or.inl hk⟩

theorem last_ok {s : DM} (h : s.Ok) : (lastOnly s).Ok := fun k => ⟨by show [(s.hist k).getLastD []] ≠ []; simp, fun c hc => by
  have hc : c ∈ [(s.hist k).getLastD []] := hc
  rw [List.mem_singleton.1 hc]
  exact (h k).2 _ (hist_last h k)⟩

theorem keep_last {s : DM} (h : s.Ok) (k : Nat) : keepAt (s.hist k) (((s.hist k).length - 1 : Nat) : Int) = [(s.hist k).getLastD []] := by
  unfold keepAt
  rw [Int.toNat_natCast, Nat.min_self, List.getLastD_eq_getLast?, List.getLast?_eq_getElem?, List.getD_eq_getElem?_getD]

set_option maxHeartbeats 400000 in
theorem bar_nil (w : World) : Calls Try.prog 15 #[.pointer none] w fun e w' => e = .returned (.int .i64 1) ∧ w = w' := by
  have c := ready_nil w
  go_enter Try.func15, Try.ntmps15
  go_wp2_with (go_at_call 22; refine c.mono ?_; rintro e w' ⟨rfl, rfl⟩)
  go_ret
  exact ⟨rfl, rfl⟩

set_option maxHeartbeats 400000 in
theorem res_nil (ao : Option Addr) (m cap : Nat) (w : World) : Calls Try.prog 18 #[.pointer none, .slice ao m cap] w fun e w' => e = .returned (.tuple #[]) ∧ w = w' := by
  go_enter Try.func18, Try.ntmps18
  go_wp2_with fail
  refine bodyPost_ret (results_none rfl _ _ _) rfl ?_
  exact ⟨rfl, rfl⟩

set_option maxRecDepth 100000 in
set_option maxHeartbeats 1600000 in
theorem di_barrier {w : World} {a : Addr} {F : Nat → Prop} {s : DM} (h : DI w a F s) : Calls Try.prog 15 #[.pointer (some a)] w fun e w' => ∃ F', e = .returned (.int .i64 (barRes s).2) ∧ DI w' a F' (barRes s).1 ∧ Grew F F' w w' := by
  obtain ⟨d, g, ao, cp, rfl, h, rfl⟩ := h
  have c1 := ready_d h.off
  by_cases hoff : s.off = true
  · rw [if_pos hoff] at c1
    have HE : Hid (barRes s = (s, 8)) := Lib.hid (by unfold barRes; rw [if_pos hoff])
    have H := Lib.hid h
    clear hoff h
    go_enter Try.func15, Try.ntmps15
    go_wp2_with (go_at_call 22; refine c1.mono ?_; rintro e w' ⟨rfl, rfl⟩)
    go_ret
    exact ⟨_, by rw [HE.out]; rfl, by rw [HE.out]; exact ⟨d, g, ao, cp, rfl, H.out, rfl⟩, Grew.refl _ _⟩
  · rw [if_neg hoff] at c1
    have c2 := holds_di h
    by_cases hz : s.left = 0
    · rw [if_pos hz, decide_eq_false (by omega)] at c2
      have HE : Hid (barRes s = (gone s, 8)) := Lib.hid (by unfold barRes; rw [if_neg hoff, if_pos hz])
      clear hoff h hz
      go_enter Try.func15, Try.ntmps15
      go_wp2_with (first
        | (go_at_call 22; refine c1.mono ?_; rintro e w' ⟨rfl, rfl⟩)
        | (go_at_call 24; refine c2.mono ?_; rintro e w2 ⟨rfl, hd2, hg2⟩; have HD2 := Lib.hid hd2; have HG2 := Lib.hid hg2; clear hd2 hg2))
      go_ret
      exact ⟨_, by rw [HE.out]; rfl, by rw [HE.out]; exact ⟨d, g, ao, cp, rfl, HD2.out, rfl⟩, grew_in HG2.out (Or.inl rfl)⟩
    · rw [if_neg hz, decide_eq_true hz] at c2
      obtain ⟨n, hnn⟩ : ∃ n, s.n = n := ⟨_, rfl⟩
      have hn4 := h.n480
      rw [hnn] at hn4
      have HE : Hid (barRes s = (lastOnly (step1 s), 0)) := Lib.hid (by unfold barRes; rw [if_neg hoff, if_neg hz])
      obtain ⟨s1, hs1⟩ : ∃ s1, step1 s = s1 := ⟨_, rfl⟩
      rw [hs1] at c2 HE
      have hn1 : s1.n = n := by rw [← hs1]; exact hnn
      have hok1 : s1.Ok := by rw [← hs1]; exact h.ok
      have HNN := Lib.hid hnn
      have HN1 := Lib.hid hn1
      have HOK := Lib.hid hok1
      have hsl := h.sl
      rw [hnn] at hsl
      clear hoff h hz hs1 hnn hn1 hok1
      go_enter Try.func15, Try.ntmps15
      go_wp2_with (first
        | (go_at_call 22; refine c1.mono ?_; rintro e w' ⟨rfl, rfl⟩)
        | (go_at_call 24; refine c2.mono ?_; rintro e w2 ⟨rfl, hd2, hg2⟩; have HD2 := Lib.hid hd2; have hsl2 := hd2.sl; rw [HN1.out] at hsl2; have HG2 : Hid (Grew (Foot d g ao s.n) (Foot d g ao s.n) w w2) := Lib.hid (grew_in hg2 (Or.inl rfl)); clear hd2 hg2))
      clear c1 c2 hsl
      have HM0 : Hid (Mids w d g (Foot d g ao s.n) s1 (fun k => (((s1.hist k).length - 1 : Nat) : Int)) 0 w2) := Lib.hid ⟨ao, cp, by rw [mid_zero]; exact HD2.out, fun k hk => by rw [HNN.out]; rw [HN1.out] at hk; exact hk, HG2.out⟩
      clear HD2 HG2 hsl2
      go_loopw [21] (fun iv wr => ∃ i : Nat, iv = .int .i64 (i : Int) ∧ i ≤ n ∧ Hid (Mids w d g (Foot d g ao s.n) s1 (fun k => (((s1.hist k).length - 1 : Nat) : Int)) i wr)) (fun iv _ => n - (intOf iv).toNat)
      case atStart => exact ⟨0, rfl, Nat.zero_le _, HM0⟩
      case round =>
        clear HM0
        obtain ⟨i, rfl, hi, HM⟩ := hrel
        obtain ⟨ao1, cp1, hD, hF1, hG1⟩ := HM.out
        have HD := Lib.hid hD
        have HF1 := Lib.hid hF1
        have HG1 := Lib.hid hG1
        have hsl := hD.sl
        have hnm : (mid s1 (fun k => (((s1.hist k).length - 1 : Nat) : Int)) i).n = n := HN1.out
        rw [hnm] at hsl
        by_cases hlt : i < n
        · have hC := hD.cells i (by rw [hnm]; exact hlt)
          rw [mid_hist] at hC
          have hopn := hC.opn
          have hLL : (s1.hist i).tail.length = (s1.hist i).length - 1 := List.length_tail
          obtain ⟨L, hL⟩ : ∃ L, (s1.hist i).tail.length = L := ⟨_, rfl⟩
          rw [hL] at hopn
          have cS := settle_any hC hD.frg (L : Int)
          have HLL : Hid ((((s1.hist i).length - 1 : Nat) : Int) = (L : Int)) := Lib.hid (by rw [← hLL, hL])
          have i1 : (i : Int) < (n : Int) := by omega
          clear hD hF1 hG1 hnm hC hLL hL HM
          go_wp2_with (go_at_call 28; refine cS.mono ?_; rintro e w3 ⟨rfl, hS⟩; have HS := Lib.hid hS; clear hS)
          go_roundw
          case rel =>
            refine ⟨i + 1, by go_num, by omega, Lib.hid (Mids.step HOK.out HD.out (fun k hk => HF1.out k hk) HG1.out (by rw [HN1.out]; exact hlt) ?_)⟩
            show Settled wr w3 g (i * 65) (((s1.hist i).headD [] :: (s1.hist i).tail).getD (keptN (((s1.hist i).length - 1 : Nat) : Int) (s1.hist i).tail.length) [])
            rw [HLL.out]
            exact HS.out
          case measure => simp [intOf]; omega
        · have hin : i = n := by omega
          subst hin
          clear hD hF1 hG1 hnm HM
          go_wp2_with fail
          go_ret
          refine ⟨Foot d g ao1 i, by rw [HE.out]; rfl, ?_, HG1.out.1, HG1.out.2.1, HG1.out.2.2.1, HG1.out.2.2.2.1, HG1.out.2.2.2.2.1, fun k hk => Or.inl (HF1.out k (by rw [HN1.out]; exact hk))⟩
          rw [HE.out]
          refine ⟨d, g, ao1, cp1, rfl, HD.out.same rfl rfl rfl (last_ok HOK.out) (fun k hk => ?_), by rw [show (lastOnly s1).n = i from HN1.out]⟩
          have hk' : k < i := by
            have h1 : (mid s1 (fun k => (((s1.hist k).length - 1 : Nat) : Int)) i).n = i := HN1.out
            omega
          show [(s1.hist k).getLastD []] = (if k < i then keepAt (s1.hist k) _ else s1.hist k)
          rw [if_pos hk']
          exact (keep_last HOK.out k).symm

end Go.Proofs.Ytinlbmlgfneolaa
