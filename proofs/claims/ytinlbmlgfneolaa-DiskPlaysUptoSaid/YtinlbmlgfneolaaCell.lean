/-
  Proved here: what the landed disk's cells answer: the last contents of one (last), what it is when it has settled (settle).
  The conditions stand at each theorem.
-/
import Derived.Test.YtinlbmlgfneolaaDev
import Derived.Deep.RegionHeld3
import Derived.Deep.QuietTactic
import Derived.BigQuiet
import Derived.StillTailTactics
import Derived.Deep.AppendLies
import Derived.Laws.ResultCell
namespace Go.Proofs.Ytinlbmlgfneolaa
open Go.RowKit
set_option linter.unusedVariables false
set_option linter.unusedSimpArgs false

def bys (l : List Int) : List Value := l.map (Value.int .u8)
def flat (L : List (List Int)) : List Value := bys L.flatten
theorem bys_length (l : List Int) : (bys l).length = l.length := by unfold bys; simp
theorem bys_one (l : List Int) : ∀ u ∈ bys l, u.oneCell' = true := one_cells l
theorem flat_length {L : List (List Int)} (h : ∀ c ∈ L, c.length = 64) : (flat L).length = L.length * 64 := by
  unfold flat
  rw [bys_length]
  induction L with
  | nil => rfl
  | cons c r ih =>
    rw [List.flatten_cons, List.length_append, ih (fun x hx => h x (List.mem_cons_of_mem _ hx)), h c (by simp), List.length_cons]
    omega

theorem bys_append (a b : List Int) : bys (a ++ b) = bys a ++ bys b := by unfold bys; simp

theorem flat_at : ∀ {L : List (List Int)} (_ : ∀ c ∈ L, c.length = 64) {i : Nat} {c : List Int} (_ : L[i]? = some c) (j : Nat) (v : Value), (bys c)[j]? = some v → (flat L)[i * 64 + j]? = some v
  | [], _, i, c, hi, _, _, _ => by simp at hi
  | x :: r, h, 0, c, hi, j, v, hv => by
    simp at hi
    subst hi
    unfold flat
    rw [List.flatten_cons, bys_append, List.getElem?_append_left (by have := (List.getElem?_eq_some_iff.1 hv).1; omega)]
    simpa using hv
  | x :: r, h, i + 1, c, hi, j, v, hv => by
    have ih := flat_at (fun c hc => h c (List.mem_cons_of_mem _ hc)) (show r[i]? = some c by simpa using hi) j v hv
    have hx : (bys x).length = 64 := by rw [bys_length]; exact h x (by simp)
    show (bys (x ++ r.flatten))[_]? = _
    rw [bys_append, List.getElem?_append_right (by omega), hx, show (i + 1) * 64 + j - 64 = i * 64 + j by omega]
    exact ih

theorem flat_take : ∀ (L : List (List Int)) (k : Nat), (∀ c ∈ L, c.length = 64) → (flat L).take (k * 64) = flat (L.take k)
  | L, 0, _ => by simp [flat, bys]
  | [], k + 1, _ => by simp [flat, bys]
  | x :: r, k + 1, h => by
    have hx : (bys x).length = 64 := by rw [bys_length]; exact h x (by simp)
    have ih := flat_take r k (fun c hc => h c (List.mem_cons_of_mem _ hc))
    show (bys (x ++ r.flatten)).take _ = bys (x ++ (r.take k).flatten)
    rw [bys_append, bys_append, show (k + 1) * 64 = (bys x).length + k * 64 by omega, List.take_length_add_append]
    exact congrArg _ ih

theorem flat_snoc (L : List (List Int)) (c : List Int) : flat (L ++ [c]) = flat L ++ bys c := by
  unfold flat
  rw [List.flatten_append, bys_append]
  simp

theorem u65 : Try.prog.underlying 65 = some (.array 64 5) := Try.underlying65
theorem i65 {c : List Int} (h : c.length = 64) : (Try.prog.info? 65).map (·.size) = some (bys c).length := by rw [bys_length, h]; kernel_rfl
theorem i65a {c : List Int} (h : c.length = 64) : (Try.prog.info? 65).map (·.size) = some (bys c).toArray.size := by rw [List.size_toArray]; exact i65 h

/-- The first so many elements of a row of the call's own. -/
theorem owns_takeN {w : World} {base n k sz : Nat} {e : TypeId} {ao : Option Addr} {cap : Nat} {xs : List Value} (h : w.ownsRow base e sz (.slice ao n cap) n xs) (hk : k ≤ n) : w.ownsRow base e sz (.slice ao k cap) k (xs.take (k * sz)) := by
  obtain ⟨hl, h⟩ := h
  refine ⟨by rw [List.length_take, hl]; exact Nat.min_eq_left (Nat.mul_le_mul hk (Nat.le_refl _)), ?_⟩
  rcases h with ⟨hv, h0⟩ | ⟨g, cap', cur, hv, hb, hg, hc, hm, hs, ht⟩
  · simp only [Value.slice.injEq] at hv
    obtain ⟨rfl, rfl, rfl⟩ := hv
    exact Or.inl ⟨by rw [show k = 0 by omega], by omega⟩
  · simp only [Value.slice.injEq, true_and] at hv
    obtain ⟨rfl, rfl⟩ := hv
    refine Or.inr ⟨g, cap, cur, rfl, hb, hg, by omega, hm, hs, ?_⟩
    rw [← ht, List.take_take, Nat.min_eq_left (Nat.mul_le_mul hk (Nat.le_refl _))]

/-- One block of a row of blocks. -/
theorem owns_range {w : World} {base n : Nat} {g cap : Nat} {L : List (List Int)} (h : w.ownsRow base 65 64 (.slice (some ⟨g, 0, none⟩) n cap) n (flat L)) (hL : ∀ c ∈ L, c.length = 64) {i : Nat} {c : List Int} (hi : L[i]? = some c) : w.rangeAt g (i * 64) (bys c) := by
  intro j v hv
  have h1 := h.cells rfl (i * 64 + j) v (flat_at hL hi j v hv)
  rw [Go.WideShapes.add_plain] at h1
  simpa using h1

def zero65 : Array Value := (bys zeros64).toArray

theorem getLastD_cons_ne {α : Type} (x d : α) : ∀ (l : List α), l ≠ [] → (x :: l).getLastD d = l.getLastD d
  | [], h => absurd rfl h
  | [_], _ => rfl
  | _ :: _ :: _, _ => rfl

theorem alloc65 (w : World) : (Instr.alloc 65 true (.tuple #[])).run Try.prog w = .ok (.pointer (some ⟨w.heap.size, 0, none⟩)) (w.alloc (.cells zero65 65)) := by
  rfl

section
variable {ops : Array Oper} {rest : List Oper} {o : Oper} {a : Act} {w : World} {Q : Exit → Act → World → Prop}

/-- A new variable of a block. -/
theorem wp_new65 (hg : o.guard = none) (ho : o.op = .alloc 65) (dst : Option Tmp) (hd : o.dst = dst)
    (h : ∀ n1 w1, n1 = w.heap.size → w1 = w.alloc (.cells zero65 65) → wpList Try.prog ops Q rest (a.put dst (.pointer (some ⟨n1, 0, none⟩))) w1) : wpList Try.prog ops Q (o :: rest) a w := by
  subst hd
  refine wpList_plain hg fun K hK => ?_
  unfold Oper.wp execOp
  simp only [ho, Sem.run_bind, alloc65, Sem.run_pure, Result.andThen_ok]
  exact hK _ _ (h _ _ rfl rfl)
end

theorem range_later {w wx : World} {b o : Nat} {cs : List Value} (hb : Below w.heap.size w wx) (h : w.rangeAt b o cs) : wx.rangeAt b o cs := fun j v hv => cell_later hb (h j v hv)

theorem results_cell1 {fn : Func} {p : Tmp} {ty : TypeId} (h : fn.results = #[.cell p ty]) (tmps : Array Value) (P : Program) (w : World) :
    (results fn tmps).run P w = ((asAddr (tmps.getD p undef)).run P w).andThen fun a w₁ => (loadVar ty a).run P w₁ := by
  simp only [results, h]
  simp [Sem.run_bind, Result.andThen]

theorem new_there (w : World) : (w.alloc (.cells zero65 65)).there w.heap.size 0 64 := by
  intro j hj
  refine ⟨?_, by rw [World.frozen?_alloc_mark]; simp⟩
  rw [Nat.zero_add, World.cell?_alloc_new]
  simp [zero65, bys, zeros64, hj]

theorem below_setCells {B : Nat} {w0 : World} (b : Nat) (hB : B ≤ b) : ∀ (vs : List Value) (o : Nat) (w : World), Below B w0 w → Below B w0 (w.setCells b o vs)
  | [], _, _, h => h
  | v :: r, o, w, h => by
    rw [World.setCells]
    exact below_setCells b hB r (o + 1) _ (h.setCell (p := ⟨b, o, none⟩) hB v)

/-- A block's contents go into a new variable. -/
theorem stored65 {w w1 : World} {n1 : Nat} {c : List Int} (hn : n1 = w.heap.size) (hw : w1 = w.alloc (.cells zero65 65)) (hc : c.length = 64) :
    w1.there n1 0 (bys c).toArray.size ∧ (w1.setCells n1 0 (bys c).toArray.toList).rangeAt n1 0 (bys c) ∧ Below w.heap.size w (w1.setCells n1 0 (bys c).toArray.toList) := by
  subst hn
  subst hw
  have ht := new_there w
  have h64 : (bys c).length = 64 := by rw [bys_length, hc]
  have e : (bys c).toArray.size = 64 := by simp [h64]
  rw [e]
  refine ⟨ht, ?_, ?_⟩
  · exact World.rangeAt_setCells_same _ _ _ _ (by rw [h64]; exact ht)
  · exact below_setCells _ (Nat.le_refl _) _ _ _ ((Below.refl _ _).alloc (Nat.le_refl _) _)

theorem stored65d {w w1 : World} {n1 : Nat} {c : List Int} (hn : n1 = w.heap.size) (hw : w1 = w.alloc (.cells zero65 65)) (hc : c.length = 64) :
    w1.drew.there n1 0 (bys c).toArray.size ∧ (w1.drew.setCells n1 0 (bys c).toArray.toList).rangeAt n1 0 (bys c) ∧ Below w.heap.size w (w1.drew.setCells n1 0 (bys c).toArray.toList) := by
  obtain ⟨h1, h2, h3⟩ := stored65 hn hw hc
  have h64 : (bys c).length = 64 := by rw [bys_length, hc]
  have e : (bys c).toArray.size = 64 := by simp [h64]
  rw [e] at h1
  rw [e]
  refine ⟨(World.there_drew _ _ _ _).2 h1, World.rangeAt_setCells_same _ _ _ _ (by rw [h64]; exact (World.there_drew _ _ _ _).2 h1), below_setCells _ (by rw [hn]; exact Nat.le_refl _) _ _ _ ?_⟩
  rw [hw]
  exact ((Below.refl _ _).alloc (Nat.le_refl _) _).drew

set_option maxRecDepth 100000 in
set_option maxHeartbeats 800000 in
theorem cellLast_none {w : World} {g off cap : Nat} {ao : Option Addr} {ls : List Int} (hl : ls.length = 64) (hr : w.rangeAt g off (bys ls)) (hv : w.cell? ⟨g, off + 64, none⟩ = some (.slice ao 0 cap)) :
    Calls Try.prog 27 #[.pointer (some ⟨g, off, none⟩)] w fun e w' => e = .returned (.agg (bys ls).toArray) ∧ Below w.heap.size w w' := by
  have HL := Lib.hid hl
  have HR := Lib.hid hr
  have HV := Lib.hid hv
  clear hl hr hv
  go_enter Try.func27, Try.ntmps27
  go_wp2_with (first
    | (refine wp_new65 rfl rfl (some 2) rfl ?_; intro n1 w1 hn1 hw1; have HB1 : Hid (Below w.heap.size w w1) := Lib.hid (by rw [hw1]; exact (Below.refl _ _).alloc (Nat.le_refl _) _); have hv1 := cell_later HB1.out HV.out; have HS := Lib.hid (stored65 hn1 hw1 HL.out); clear hn1 hw1)
    | (refine wpList_load_mid rfl 65 (.tmp 11) rfl g off rfl (bys ls) _ (range_later HB1.out HR.out) u65 rfl (i65 HL.out) ?_)
    | (refine wpList_store_mid rfl 65 (.tmp 2) (.tmp 12) rfl n1 0 (bys ls).toArray rfl rfl HS.out.1 (i65a HL.out) (all_oneCell_toArray (bys_one ls)) ?_; clear hv1))
  refine bodyPost_ret (v := .agg (bys ls).toArray) ?_ rfl ⟨rfl, HS.out.2.2⟩
  rw [results_cell1 rfl]
  simp only [asAddr, Sem.run_pure, Result.andThen_ok]
  exact run_loadVar_mid _ _ _ _ _ _ HS.out.2.1 u65 rfl (i65 HL.out)

theorem still_load65 {ops : Array Oper} {rest : List Oper} {o : Oper} {a : Act} {w : World} {Q : Act → Prop} (hg : o.guard = none) (x : Operand) (ho : o.op = .load 65 x) (dst : Option Tmp) (hd : o.dst = dst) (b off : Nat) (hx : a.eval x = .pointer (some ⟨b, off, none⟩))
    (c : List Int) (hr : w.rangeAt b off (bys c)) (hc : c.length = 64) (h : wpStill Try.prog ops w Q rest (a.put dst (.agg (bys c).toArray))) : wpStill Try.prog ops w Q (o :: rest) a := by
  subst hd
  refine wpStill_step (fun K hK => ?_)
  rw [if_pos (by simp [Region.wanted, hg])]
  unfold Oper.still execOp
  simp only [ho, hx, Instr.loadAt, Instr.sureAddr, Sem.run_bind, Sem.run_pure, Result.andThen_ok, run_loadVar_mid w b off _ (bys c) _ hr u65 rfl (i65 hc), Oper.stillUpon_value]
  exact hK _ h

theorem drew_eq (w : World) : { w with drawn := w.drawn + 1 } = w.drew := rfl

set_option maxRecDepth 100000 in
set_option maxHeartbeats 1600000 in
theorem cellLast_some {w : World} {g off r k cap : Nat} {c : List Int} (hc : c.length = 64) (hr : w.rangeAt r (k * 64) (bys c)) (hk : k ≤ 9223372036854775806) (hv : w.cell? ⟨g, off + 64, none⟩ = some (.slice (some ⟨r, 0, none⟩) (k + 1) cap)) :
    Calls Try.prog 27 #[.pointer (some ⟨g, off, none⟩)] w fun e w' => e = .returned (.agg (bys c).toArray) ∧ Below w.heap.size w w' := by
  have HL := Lib.hid hc
  have HR := Lib.hid hr
  have HV := Lib.hid hv
  clear hc hr hv
  have hwr : IntKind.i64.wrap (k : Int) = (k : Int) := by rw [IntKind.wrap_i64]; omega
  have i1 : (k : Int) < (k : Int) + 1 := by omega
  have hne : ((k : Int) + 1 == 0) = false := by simp; omega
  clear hk
  go_enter Try.func27, Try.ntmps27
  go_wp2_with (first
    | (refine wp_new65 rfl rfl (some 2) rfl ?_; intro n1 w1 hn1 hw1; have HB1 : Hid (Below w.heap.size w w1) := Lib.hid (by rw [hw1]; exact (Below.refl _ _).alloc (Nat.le_refl _) _); have hv1 := cell_later HB1.out HV.out; have HS := Lib.hid (stored65d hn1 hw1 HL.out); clear hn1 hw1))
  refine wp_region_still_tail 12 (by kernel_rfl) (by kernel_rfl) ?_
  simp only [List.take_succ_cons, List.take_zero, List.drop_succ_cons, List.drop_zero]
  try rw [drew_eq]
  iterate 11 still_step
  refine still_load65 rfl (.tmp 23) rfl (some 24) rfl r (k * 64) rfl c ((World.rangeAt_drew _ _ _ _).2 (range_later HB1.out HR.out)) HL.out ?_
  refine wpStill_nil ?_
  refine wpList_store_mid rfl 65 (.tmp 2) (.tmp 24) rfl n1 0 (bys c).toArray rfl rfl HS.out.1 (i65a HL.out) (all_oneCell_toArray (bys_one c)) ?_
  clear hv1
  go_wp2_with fail
  refine bodyPost_ret (v := .agg (bys c).toArray) ?_ rfl ⟨rfl, HS.out.2.2⟩
  rw [results_cell1 rfl]
  simp only [asAddr, Sem.run_pure, Result.andThen_ok]
  exact run_loadVar_mid _ _ _ _ _ _ HS.out.2.1 u65 rfl (i65 HL.out)

/-- What lies in a cell: the contents that last, and the row of the open ones. -/
structure CellIs (w : World) (g off : Nat) (ls : List Int) (ao : Option Addr) (cap : Nat) (os : List (List Int)) : Prop where
  last : w.rangeAt g off (bys ls)
  opn : w.cell? ⟨g, off + 64, none⟩ = some (.slice ao os.length cap)
  row : w.ownsRow 0 65 64 (.slice ao os.length cap) os.length (flat os)
  away : (Value.slice ao os.length cap).ownBlock ≠ some g
  len : ls.length = 64 ∧ ∀ c ∈ os, c.length = 64

theorem CellIs.few {w : World} {g off : Nat} {ls : List Int} {ao : Option Addr} {cap : Nat} {os : List (List Int)} (h : CellIs w g off ls ao cap os) : os.length ≤ 9223372036854775807 := by
  rcases h.row.2 with ⟨_, h0⟩ | ⟨g, cap, cur, _, _, _, hc, hm, _⟩
  · omega
  · unfold maxLen at hm; omega

theorem last_cell {w : World} {g off : Nat} {ls : List Int} {ao : Option Addr} {cap : Nat} {os : List (List Int)} (h : CellIs w g off ls ao cap os) :
    Calls Try.prog 27 #[.pointer (some ⟨g, off, none⟩)] w fun e w' => e = .returned (.agg (bys ((ls :: os).getLastD [])).toArray) ∧ Below w.heap.size w w' := by
  rcases Nat.eq_zero_or_pos os.length with h0 | h0
  · have : os = [] := List.length_eq_zero_iff.1 h0
    subst this
    exact cellLast_none h.len.1 h.last h.opn
  · obtain ⟨r, cap', hv, _, _⟩ := h.row.form h0
    simp only [Value.slice.injEq, true_and] at hv
    obtain ⟨rfl, rfl⟩ := hv
    obtain ⟨k, hk⟩ : ∃ k, os.length = k + 1 := ⟨os.length - 1, by omega⟩
    have hi : os[k]? = some (os.getLastD []) := by
      rw [List.getLastD_eq_getLast?, List.getLast?_eq_getElem?, show os.length - 1 = k by omega, List.getElem?_eq_getElem (show k < os.length by omega)]
      rfl
    have hr := owns_range h.row h.len.2 hi
    have hc := h.len.2 _ (List.mem_of_getElem? hi)
    have ho := h.opn
    have hf := h.few
    rw [hk] at ho hf
    rw [getLastD_cons_ne _ _ _ (by intro e; rw [e] at h0; exact Nat.lt_irrefl 0 h0)]
    exact cellLast_some hc hr (by omega) ho

end Go.Proofs.Ytinlbmlgfneolaa
