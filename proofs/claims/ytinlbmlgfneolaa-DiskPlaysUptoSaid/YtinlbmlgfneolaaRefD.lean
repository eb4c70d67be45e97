/-
  Proved here: where the document's own disk (drydockref07) lies; what its small calls answer: goes, Get; what keep makes of one block.
  The conditions stand at each theorem.
-/
import Derived.Test.YtinlbmlgfneolaaDiskIs
import Derived.Deep.RegionLaw
namespace Go.Proofs.Ytinlbmlgfneolaa
open Go.RowKit
set_option linter.unusedVariables false

def texts (L : List (List Int)) : List Value := L.map fun t => .string (str t)
theorem texts_length (L : List (List Int)) : (texts L).length = L.length := by unfold texts; simp
theorem texts_at {L : List (List Int)} {i : Nat} {c : List Int} (h : L[i]? = some c) : (texts L)[i]? = some (.string (str c)) := by unfold texts; rw [List.getElem?_map, h]; rfl
theorem texts_snoc (L : List (List Int)) (c : List Int) : texts (L ++ [c]) = texts L ++ [.string (str c)] := by unfold texts; simp

/-- One block of the document's disk: the text that lasts, the row of the open ones. -/
structure RCell (w : World) (gl go k : Nat) (ls : List Int) (ao : Option Addr) (cap : Nat) (os : List (List Int)) : Prop where
  last : w.cell? ⟨gl, k, none⟩ = some (.string (str ls))
  opn : w.cell? ⟨go, k, none⟩ = some (.slice ao os.length cap)
  row : w.ownsRow 0 9 1 (.slice ao os.length cap) os.length (texts os)
  awl : (Value.slice ao os.length cap).ownBlock ≠ some gl
  awo : (Value.slice ao os.length cap).ownBlock ≠ some go

structure RIs (w : World) (d gl go cl co : Nat) (ao : Nat → Option Addr) (cp : Nat → Nat) (s : DM) : Prop where
  dl : d ≠ gl
  dO : d ≠ go
  lo : gl ≠ go
  n1 : 1 ≤ s.n
  n480 : s.n ≤ 480
  ok : s.Ok
  sl : w.cell? ⟨d, 0, none⟩ = some (.slice (some ⟨gl, 0, none⟩) s.n cl)
  so : w.cell? ⟨d, 1, none⟩ = some (.slice (some ⟨go, 0, none⟩) s.n co)
  pow : ∃ l, w.cell? ⟨d, 2, none⟩ = some (.int .i64 l) ∧ (-9223372036854775808 ≤ l ∧ l ≤ 9223372036854775807) ∧ ((l < 0 ∧ s.left = -1) ∨ (0 ≤ l ∧ s.left = l))
  off : w.cell? ⟨d, 3, none⟩ = some (.bool s.off)
  frd : ∀ j, w.frozen? ⟨d, j, none⟩ = false
  frl : ∀ j, w.frozen? ⟨gl, j, none⟩ = false
  fro : ∀ j, w.frozen? ⟨go, j, none⟩ = false
  cells : ∀ k, k < s.n → RCell w gl go k ((s.hist k).headD []) (ao k) (cp k) (s.hist k).tail
  awayd : ∀ k, k < s.n → ao k ≠ some ⟨d, 0, none⟩
  apart : ∀ i j, i < s.n → j < s.n → i ≠ j → ao i = none ∨ ao i ≠ ao j

def RFoot (d gl go : Nat) (ao : Nat → Option Addr) (n k : Nat) : Prop := k = d ∨ k = gl ∨ k = go ∨ ∃ i, i < n ∧ ao i = some ⟨k, 0, none⟩

def RI (w : World) (a : Addr) (F : Nat → Prop) (s : DM) : Prop := ∃ d gl go cl co ao cp, a = ⟨d, 0, none⟩ ∧ RIs w d gl go cl co ao cp s ∧ F = RFoot d gl go ao s.n

variable {w w' : World} {d gl go cl co : Nat} {ao : Nat → Option Addr} {cp : Nat → Nat} {s : DM}

theorem RCell.form {k : Nat} {ls : List Int} {ao : Option Addr} {cap : Nat} {os : List (List Int)} (h : RCell w gl go k ls ao cap os) : (ao = none ∨ ∃ r, ao = some ⟨r, 0, none⟩) ∧ os.length ≤ cap := by
  rcases h.row.2 with ⟨hv, h0⟩ | ⟨r, cap', cur, hv, _, _, hc, _⟩
  · simp only [Value.slice.injEq] at hv
    exact ⟨Or.inl hv.1, by omega⟩
  · simp only [Value.slice.injEq, true_and] at hv
    obtain ⟨rfl, rfl⟩ := hv
    exact ⟨Or.inr ⟨r, rfl⟩, hc⟩

theorem RCell.few {k : Nat} {ls : List Int} {ao : Option Addr} {cap : Nat} {os : List (List Int)} (h : RCell w gl go k ls ao cap os) : os.length ≤ 9223372036854775807 := by
  rcases h.row.2 with ⟨_, h0⟩ | ⟨g, cap, cur, _, _, _, hc, hm, _⟩
  · omega
  · unfold maxLen at hm; omega

theorem RCell.text {k : Nat} {ls : List Int} {r cap : Nat} {os : List (List Int)} (h : RCell w gl go k ls (some ⟨r, 0, none⟩) cap os) {j : Nat} {c : List Int} (hj : os[j]? = some c) : w.cell? ⟨r, j, none⟩ = some (.string (str c)) := by
  have h1 := h.row.cells rfl j _ (texts_at hj)
  rw [Go.WideShapes.add_plain] at h1
  simpa using h1

theorem RCell.turn {k : Nat} {ls : List Int} {ao : Option Addr} {cap : Nat} {os : List (List Int)} (h : RCell w gl go k ls ao cap os) (hl : w'.heap[gl]? = w.heap[gl]?) (ho : w'.heap[go]? = w.heap[go]?) (hr : ∀ b, ao = some ⟨b, 0, none⟩ → w'.heap[b]? = w.heap[b]?) : RCell w' gl go k ls ao cap os :=
  ⟨by rw [cell_of_heap (p := ⟨gl, k, none⟩) hl]; exact h.last, by rw [cell_of_heap (p := ⟨go, k, none⟩) ho]; exact h.opn, owns_turn h.row (fun b hb => hr b (own_of_ao h.form.1 hb)), h.awl, h.awo⟩

theorem RIs.lt (h : RIs w d gl go cl co ao cp s) {k : Nat} (hk : RFoot d gl go ao s.n k) : k < w.heap.size := by
  rcases hk with rfl | rfl | rfl | ⟨i, hi, e⟩
  · exact World.block_lt_of_cell? _ _ h.off
  · exact World.block_lt_of_cell? _ _ (h.cells 0 h.n1).last
  · exact World.block_lt_of_cell? _ _ (h.cells 0 h.n1).opn
  · have hc := h.cells i hi
    rw [e] at hc
    exact (hc.row.lt k rfl).2

theorem RIs.turn (h : RIs w d gl go cl co ao cp s) (hk : ∀ k, RFoot d gl go ao s.n k → w'.heap[k]? = w.heap[k]?) : RIs w' d gl go cl co ao cp s := by
  have hd := hk d (Or.inl rfl)
  have hl := hk gl (Or.inr (Or.inl rfl))
  have ho := hk go (Or.inr (Or.inr (Or.inl rfl)))
  have hc : ∀ j, w'.cell? ⟨d, j, none⟩ = w.cell? ⟨d, j, none⟩ := fun j => cell_of_heap (p := ⟨d, j, none⟩) hd
  refine ⟨h.dl, h.dO, h.lo, h.n1, h.n480, h.ok, by rw [hc]; exact h.sl, by rw [hc]; exact h.so, by rw [hc]; exact h.pow, by rw [hc]; exact h.off, fun j => ?_, fun j => ?_, fun j => ?_, fun k hk' => (h.cells k hk').turn hl ho (fun b hb => hk b (Or.inr (Or.inr (Or.inr ⟨k, hk', hb⟩)))), h.awayd, h.apart⟩
  · rw [World.frozen?_of_block (w := w) (a := ⟨d, j, none⟩) hd]; exact h.frd j
  · rw [World.frozen?_of_block (w := w) (a := ⟨gl, j, none⟩) hl]; exact h.frl j
  · rw [World.frozen?_of_block (w := w) (a := ⟨go, j, none⟩) ho]; exact h.fro j

theorem ri_lt {a : Addr} {F : Nat → Prop} (h : RI w a F s) : ∀ k, F k → k < w.heap.size := by
  obtain ⟨d, gl, go, cl, co, ao, cp, rfl, h, rfl⟩ := h
  exact fun k hk => h.lt hk

theorem ri_kept {a : Addr} {F : Nat → Prop} (h : RI w a F s) (hk : ∀ k, F k → w'.heap[k]? = w.heap[k]?) : RI w' a F s := by
  obtain ⟨d, gl, go, cl, co, ao, cp, rfl, h, rfl⟩ := h
  exact ⟨d, gl, go, cl, co, ao, cp, rfl, h.turn hk, rfl⟩

/-- Only the disk's own variable has turned. -/
theorem RIs.power (h : RIs w d gl go cl co ao cp s) (hk : ∀ k, k ≠ d → w'.heap[k]? = w.heap[k]?) (s' : DM) (hn : s'.n = s.n) (hh : s'.hist = s.hist)
    (hsl : w'.cell? ⟨d, 0, none⟩ = w.cell? ⟨d, 0, none⟩) (hso : w'.cell? ⟨d, 1, none⟩ = w.cell? ⟨d, 1, none⟩) (hpow : ∃ l, w'.cell? ⟨d, 2, none⟩ = some (.int .i64 l) ∧ (-9223372036854775808 ≤ l ∧ l ≤ 9223372036854775807) ∧ ((l < 0 ∧ s'.left = -1) ∨ (0 ≤ l ∧ s'.left = l)))
    (hoff : w'.cell? ⟨d, 3, none⟩ = some (.bool s'.off)) (hfr : ∀ j, w'.frozen? ⟨d, j, none⟩ = false) : RIs w' d gl go cl co ao cp s' := by
  have hl := hk gl (Ne.symm h.dl)
  have ho := hk go (Ne.symm h.dO)
  refine ⟨h.dl, h.dO, h.lo, by rw [hn]; exact h.n1, by rw [hn]; exact h.n480, fun k => by rw [hh]; exact h.ok k, by rw [hsl, hn]; exact h.sl, by rw [hso, hn]; exact h.so, hpow, hoff, hfr, fun j => ?_, fun j => ?_, fun k hk' => ?_, fun k hk' => h.awayd k (by rw [← hn]; exact hk'), fun i j hi hj => h.apart i j (by rw [← hn]; exact hi) (by rw [← hn]; exact hj)⟩
  · rw [World.frozen?_of_block (w := w) (a := ⟨gl, j, none⟩) hl]; exact h.frl j
  · rw [World.frozen?_of_block (w := w) (a := ⟨go, j, none⟩) ho]; exact h.fro j
  · rw [hh]
    rw [hn] at hk'
    exact (h.cells k hk').turn hl ho (fun b hb => hk b (fun e => h.awayd k hk' (by rw [hb, e])))

theorem RIs.same (h : RIs w d gl go cl co ao cp s) {s' : DM} (hn : s'.n = s.n) (ho : s'.off = s.off) (hl : s'.left = s.left) (hok : s'.Ok) (hh : ∀ k, k < s.n → s'.hist k = s.hist k) : RIs w d gl go cl co ao cp s' :=
  ⟨h.dl, h.dO, h.lo, by rw [hn]; exact h.n1, by rw [hn]; exact h.n480, hok, by rw [hn]; exact h.sl, by rw [hn]; exact h.so, by rw [hl]; exact h.pow, by rw [ho]; exact h.off, h.frd, h.frl, h.fro, fun k hk => by
    rw [hn] at hk
    rw [hh k hk]; exact h.cells k hk, fun k hk => h.awayd k (by rw [← hn]; exact hk), fun i j hi hj => h.apart i j (by rw [← hn]; exact hi) (by rw [← hn]; exact hj)⟩

set_option maxHeartbeats 400000 in
theorem goes_never {l : Int} (h2 : w.cell? ⟨d, 2, none⟩ = some (.int .i64 l)) (hl : l < 0) : Calls Try.prog 25 #[.pointer (some ⟨d, 0, none⟩)] w fun e w' => e = .returned (.bool false) ∧ w' = w := by
  have hne : (l == 0) = false := by simp; omega
  go_enter Try.func25, Try.ntmps25
  go_wp2_with fail
  go_ret
  exact ⟨rfl, rfl⟩

set_option maxHeartbeats 400000 in
theorem goes_gone {b : Bool} (h2 : w.cell? ⟨d, 2, none⟩ = some (.int .i64 0)) (h3 : w.cell? ⟨d, 3, none⟩ = some (.bool b)) (hf : w.frozen? ⟨d, 3, none⟩ = false) : Calls Try.prog 25 #[.pointer (some ⟨d, 0, none⟩)] w fun e w' => e = .returned (.bool true) ∧ w' = w.setCell ⟨d, 3, none⟩ (.bool true) := by
  go_enter Try.func25, Try.ntmps25
  go_wp2_with fail
  go_ret
  exact ⟨rfl, rfl⟩

set_option maxHeartbeats 400000 in
theorem goes_less {l : Int} (h2 : w.cell? ⟨d, 2, none⟩ = some (.int .i64 l)) (h0 : 0 < l) (h9 : l ≤ 9223372036854775807) (hf : w.frozen? ⟨d, 2, none⟩ = false) : Calls Try.prog 25 #[.pointer (some ⟨d, 0, none⟩)] w fun e w' => e = .returned (.bool false) ∧ w' = w.setCell ⟨d, 2, none⟩ (.int .i64 (l - 1)) := by
  have hne : (l == 0) = false := by simp; omega
  go_enter Try.func25, Try.ntmps25
  go_wp2_with fail
  go_ret
  exact ⟨rfl, rfl⟩

theorem goes_ri (h : RIs w d gl go cl co ao cp s) :
    Calls Try.prog 25 #[.pointer (some ⟨d, 0, none⟩)] w fun e w' => e = .returned (.bool (decide (s.left = 0))) ∧ RIs w' d gl go cl co ao cp (if s.left = 0 then gone s else step1 s) ∧ Grew (fun k => k = d) (fun k => k = d) w w' := by
  obtain ⟨l, h2, hl, hp⟩ := h.pow
  rcases hp with ⟨hl0, hp⟩ | ⟨hl0, hp⟩
  · refine (goes_never h2 hl0).mono ?_
    rintro e w' ⟨rfl, rfl⟩
    have e1 : step1 s = s := by
      unfold step1
      rw [if_neg (by omega)]
    rw [if_neg (by omega), e1, decide_eq_false (by omega)]
    exact ⟨rfl, h, Grew.refl _ _⟩
  · by_cases hz : s.left = 0
    · have hl0 : l = 0 := by omega
      subst hl0
      refine (goes_gone h2 h.off (h.frd 3)).mono ?_
      rintro e w' ⟨rfl, rfl⟩
      rw [if_pos hz, decide_eq_true hz]
      refine ⟨rfl, h.power (fun k hk => Below.heap_setCell _ _ _ _ hk) (gone s) rfl rfl ?_ ?_ ⟨0, ?_, by decide, Or.inr ⟨Int.le_refl _, hz⟩⟩ (World.cell?_setCell_same _ _ _ h.off) (fun j => by simp only [World.frozen?_setCell]; exact h.frd j), Grew.setCell (fun k => k = d) w (p := ⟨d, 3, none⟩) rfl _⟩
      · rw [World.cell?_setCell_other (h := ne_off (by decide))]
      · rw [World.cell?_setCell_other (h := ne_off (by decide))]
      · rw [World.cell?_setCell_other (h := ne_off (by decide))]; exact h2
    · refine (goes_less h2 (by omega) hl.2 (h.frd 2)).mono ?_
      rintro e w' ⟨rfl, rfl⟩
      rw [if_neg hz, decide_eq_false hz]
      refine ⟨rfl, h.power (fun k hk => Below.heap_setCell _ _ _ _ hk) (step1 s) rfl rfl ?_ ?_ ⟨l - 1, World.cell?_setCell_same _ _ _ h2, by omega, Or.inr ⟨by omega, ?_⟩⟩ ?_ (fun j => by simp only [World.frozen?_setCell]; exact h.frd j), Grew.setCell (fun k => k = d) w (p := ⟨d, 2, none⟩) rfl _⟩
      · rw [World.cell?_setCell_other (h := ne_off (by decide))]
      · rw [World.cell?_setCell_other (h := ne_off (by decide))]
      · show (if 0 < s.left then s.left - 1 else s.left) = l - 1
        rw [if_pos (by omega)]; omega
      · rw [World.cell?_setCell_other (h := ne_off (by decide))]; exact h.off

end Go.Proofs.Ytinlbmlgfneolaa
