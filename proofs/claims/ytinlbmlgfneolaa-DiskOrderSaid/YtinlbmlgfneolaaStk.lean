/-
  Proved here: six rows of texts of the call's own, in rows of their own, beside a disk's blocks; what append and store make of them; what a disk of plain words holds behind single writes and a restart.
  The conditions stand at each theorem.
-/
import Derived.Test.YtinlbmlgfneolaaLastW
import Derived.Deep.AppendLies
namespace Go.Proofs.Ytinlbmlgfneolaa
open Go.RowKit Go.ChangeShapes Go.WideShapes

/-! ### In plain words -/

theorem put_one {s : DM} {n : Nat} {d : List Int} (h1 : s.left = -1) (h2 : s.off = false) (hn : n < s.n) (hd : d.length = 64) : putRes s [((n : Int), d)] = (addW s n d, 0) := by
  unfold putRes
  rw [if_neg (by rw [h2]; decide), if_neg (by simp [badLen, hd]), if_neg (by simp [badAt]; omega), putAll_cons _ _ _ h1]
  rfl

/-- A disk of six blocks whose contents are these, its power on. -/
def Six (s : DM) (H : Nat → List (List Int)) : Prop := s.n = 6 ∧ s.off = false ∧ s.left = -1 ∧ ∀ i, i < 6 → s.hist i = H i

theorem six_fresh : Six (freshD 6) (fun _ => [zeros64]) := ⟨rfl, rfl, rfl, fun _ _ => rfl⟩
theorem Six.add {s : DM} {H : Nat → List (List Int)} (h : Six s H) (n : Nat) (d : List Int) : Six (addW s n d) (fun i => if i = n then H i ++ [d] else H i) := by
  refine ⟨h.1, h.2.1, h.2.2.1, fun i hi => ?_⟩
  show (if i = n then s.hist i ++ [d] else s.hist i) = _
  rw [h.2.2.2 i hi]

/-- Which one a restart keeps. -/
def kept (ks : List Int) (H : Nat → List (List Int)) (n : Nat) : Nat := min (ks.getD n 0).toNat ((H n).length - 1)

theorem six_restart {s : DM} {H : Nat → List (List Int)} (h : Six s H) (ks : List Int) {n : Nat} (hn : n < 6) : getErr (restarted s ks) n = 0 ∧ getOut (restarted s ks) n = (H n).getD (kept ks H n) [] ∧ openOf (restarted s ks) n = 0 := by
  have e1 : (restarted s ks).n = 6 := h.1
  have he : getErr (restarted s ks) n = 0 := by
    unfold getErr
    rw [if_neg (by show ¬ false = true; decide), if_pos (by rw [e1]; omega)]
  refine ⟨he, ?_, ?_⟩
  · unfold getOut
    rw [if_pos he, Int.toNat_natCast]
    show ([(s.hist n).getD (min (ks.getD n 0).toNat ((s.hist n).length - 1)) []] : List (List Int)).getLastD [] = _
    rw [h.2.2.2 n hn]
    rfl
  · unfold openOf
    split
    · rfl
    · rfl

/-! ### In memory -/

def rowVal (bs cp : Nat → Nat) (H : Nat → List (List Int)) (i : Nat) : Value := .slice (some ⟨bs i, 0, none⟩) (H i).length (cp i)
def rowsOf (m : Nat) (bs cp : Nat → Nat) (H : Nat → List (List Int)) : List Value := (List.range 6).map fun i => if i < m then rowVal bs cp H i else .slice none 0 0
def txts (L : List (List Int)) : List Value := L.map fun t => .string (str t)

theorem rowsOf_length (m : Nat) (bs cp : Nat → Nat) (H : Nat → List (List Int)) : (rowsOf m bs cp H).length = 6 := by unfold rowsOf; simp
theorem rowsOf_ne (m : Nat) (bs cp : Nat → Nat) (H : Nat → List (List Int)) : rowsOf m bs cp H ≠ [] := by intro h; have := congrArg List.length h; rw [rowsOf_length] at this; cases this
theorem rowsOf_at {m : Nat} {bs cp : Nat → Nat} {H : Nat → List (List Int)} {i : Nat} (h : i < m) (h6 : i < 6) : (rowsOf m bs cp H)[i]? = some (rowVal bs cp H i) := by unfold rowsOf; simp [h, h6]
theorem rowsOf_get (m : Nat) (bs cp : Nat → Nat) (H : Nat → List (List Int)) (i : Nat) : (rowsOf m bs cp H)[i]? = if i < 6 then some (if i < m then rowVal bs cp H i else .slice none 0 0) else none := by
  unfold rowsOf
  rw [List.getElem?_map]
  by_cases h : i < 6
  · rw [List.getElem?_range h, if_pos h]; rfl
  · rw [if_neg h, List.getElem?_eq_none (by simpa using h)]; rfl

structure Stk (base : Nat) (w0 : World) (F : Nat → Prop) (gl m : Nat) (bs cp : Nat → Nat) (H : Nat → List (List Int)) (w : World) : Prop where
  outer : OwnV base w0 gl (rowsOf m bs cp H) w
  typ : ∃ cs fr, w.heap[gl]? = some (.cells cs 43 fr)
  rows : ∀ i, i < m → H i ≠ [] ∧ w.ownsRow base 9 1 (rowVal bs cp H i) (H i).length (txts (H i))
  apart : ∀ i j, i < m → j < m → i ≠ j → bs i ≠ bs j
  away : (∀ k, F k → base ≤ k ∧ k ≠ gl) ∧ ∀ i, i < m → ¬ F (bs i)

variable {base gl m : Nat} {w0 w w' : World} {F F' : Nat → Prop} {bs cp : Nat → Nat} {H : Nat → List (List Int)}

theorem lt_of_heap {w : World} {k : Nat} {x : Obj} (h : w.heap[k]? = some x) : k < w.heap.size := by
  rcases Nat.lt_or_ge k w.heap.size with h' | h'
  · exact h'
  · rw [Array.getElem?_eq_none h'] at h; cases h

theorem Stk.gl_lt (h : Stk base w0 F gl m bs cp H w) : gl < w.heap.size := by
  obtain ⟨cs, fr, hh⟩ := h.typ
  exact lt_of_heap hh

theorem Stk.row_lt (h : Stk base w0 F gl m bs cp H w) {i : Nat} (hi : i < m) : base ≤ bs i ∧ bs i < w.heap.size := (h.rows i hi).2.lt _ rfl

theorem Stk.row_ne (h : Stk base w0 F gl m bs cp H w) {i : Nat} (hi : i < m) : bs i ≠ gl := by
  intro e
  obtain ⟨cs, fr, hh⟩ := h.typ
  rcases (h.rows i hi).2.2 with ⟨hv, _⟩ | ⟨g, cap, cur, hv, _, hg, _⟩
  · unfold rowVal at hv; simp at hv
  · unfold rowVal at hv
    simp at hv
    rw [← hv.1, e, hh] at hg
    simp at hg

theorem Stk.base_le (h : Stk base w0 F gl m bs cp H w) : base ≤ w.heap.size := Nat.le_of_lt (Nat.lt_of_le_of_lt h.outer.2.2.1 h.gl_lt)

theorem Stk.turn (h : Stk base w0 F gl m bs cp H w) (hb : Below base w0 w') (hk : ∀ k, (k = gl ∨ ∃ i, i < m ∧ k = bs i) → w'.heap[k]? = w.heap[k]?) (hF : (∀ k, F' k → base ≤ k ∧ k ≠ gl) ∧ ∀ i, i < m → ¬ F' (bs i)) : Stk base w0 F' gl m bs cp H w' := by
  have h0 := hk gl (Or.inl rfl)
  refine ⟨⟨fun j x hj => ?_, fun j => ?_, h.outer.2.2.1, hb⟩, by rw [h0]; exact h.typ, fun i hi => ⟨(h.rows i hi).1, (h.rows i hi).2.1, ?_⟩, h.apart, hF⟩
  · rw [cell_of_heap (p := ⟨gl, j, none⟩) h0]; exact h.outer.1 j x hj
  · rw [World.frozen?_of_block (w := w) (a := ⟨gl, j, none⟩) h0]; exact h.outer.2.1 j
  · rcases (h.rows i hi).2.2 with hv | ⟨g, cap, cur, hv, hg, hh, r⟩
    · exact Or.inl hv
    · refine Or.inr ⟨g, cap, cur, hv, hg, ?_, r⟩
      have e : bs i = g := by unfold rowVal at hv; simp at hv; exact hv.1
      rw [hk g (Or.inr ⟨i, hi, e.symm⟩)]
      exact hh

theorem Stk.later (h : Stk base w0 F gl m bs cp H w) (hb : Below w.heap.size w w') : Stk base w0 F gl m bs cp H w' :=
  h.turn (h.outer.2.2.2.trans (hb.mono h.base_le)) (fun k hk => hb.block k (by
    rcases hk with rfl | ⟨i, hi, rfl⟩
    · exact h.gl_lt
    · exact (h.row_lt hi).2)) h.away

theorem Stk.alloc (h : Stk base w0 F gl m bs cp H w) (o : Obj) : Stk base w0 F gl m bs cp H (w.alloc o) := h.later ((Below.refl _ _).alloc (Nat.le_refl _) _)

theorem Stk.drew (h : Stk base w0 F gl m bs cp H w) : Stk base w0 F gl m bs cp H w.drew := h.turn h.outer.2.2.2.drew (fun _ _ => rfl) h.away

/-- A call on the disk. -/
theorem Stk.grew (h : Stk base w0 F gl m bs cp H w) (hG : Grew F F' w w') : Stk base w0 F' gl m bs cp H w' := by
  refine h.turn (hG.below h.outer.2.2.2 h.base_le (fun k hk => (h.away.1 k hk).1)) (fun k hk => ?_) ⟨fun k hk => ?_, fun i hi hf => ?_⟩
  · rcases hk with rfl | ⟨i, hi, rfl⟩
    · exact hG.2.2.2.2.1 _ h.gl_lt (fun hf => (h.away.1 _ hf).2 rfl)
    · exact hG.2.2.2.2.1 _ (h.row_lt hi).2 (h.away.2 i hi)
  · rcases hG.2.2.2.2.2 k hk with hf | hf
    · exact h.away.1 k hf
    · have := h.gl_lt; have := h.base_le
      exact ⟨by omega, by omega⟩
  · rcases hG.2.2.2.2.2 _ hf with hf | hf
    · exact h.away.2 i hi hf
    · have := (h.row_lt hi).2; omega

theorem Stk.cell (h : Stk base w0 F gl m bs cp H w) {i : Nat} (hi : i < m) (h6 : i < 6) : w.cell? ⟨gl, i, none⟩ = some (rowVal bs cp H i) := h.outer.1 i _ (rowsOf_at hi h6)

theorem Stk.text (h : Stk base w0 F gl m bs cp H w) {i k : Nat} (hi : i < m) (hk : k < (H i).length) : w.cell? ⟨bs i, k, none⟩ = some (.string (str ((H i).getD k []))) := by
  have hr := (h.rows i hi).2
  unfold rowVal at hr
  rw [hr.cellAt k (by omega)]
  unfold txts
  rw [List.getElem?_map, List.getElem?_eq_getElem hk]
  simp [List.getD, List.getElem?_eq_getElem hk]

theorem info43 : (Try.prog.info? 43).map (fun i => (i.zero, i.size, i.bytes)) = some (some (.slice none 0 0), 1, 24) := by kernel_rfl
theorem elemStr : (Try.prog.info? 9).map (fun i => (i.zero, i.size, i.bytes)) = some (some (.string ByteArray.empty), 1, 16) := by kernel_rfl

/-- 'make([][]string, 6)'. -/
theorem run_make_stk (w : World) : (Instr.makeSlice 44 (.int .i64 6) (.int .i64 6)).run Try.prog w =
    .ok (.slice (some ⟨w.heap.size, 0, none⟩) 6 6) (w.alloc (.cells (madeCells #[.slice none 0 0] 6) 43)) := by
  obtain ⟨i0, hi, hz0, hz1, hz2⟩ := info_parts info43
  have h := run_make (P := Try.prog) w 44 43 i0 (.slice none 0 0) Try.underlying44 hi hz0 .i64 .i64 6 6 (by omega) (Int.le_refl _) (by rw [hz2]; omega) (by omega)
  simpa [hz1, Value.cells] using h

theorem stk_made (h0 : Below base w0 w) (hb : base ≤ w.heap.size) (hF : ∀ k, F k → base ≤ k ∧ k < w.heap.size) (bs cp : Nat → Nat) (H : Nat → List (List Int)) : Stk base w0 F w.heap.size 0 bs cp H (w.alloc (.cells (madeCells #[.slice none 0 0] 6) 43)) := by
  refine ⟨⟨fun j x hj => ?_, fun j => ?_, hb, h0.alloc hb _⟩, ⟨_, _, heap_alloc_new w _⟩, fun i hi => by omega, fun i j hi => by omega, fun k hk => ?_, fun i hi => by omega⟩
  · rw [rowsOf_get] at hj
    split at hj
    · rename_i h
      rw [if_neg (by omega)] at hj
      cases hj
      rw [World.cell?_alloc_new]
      simp [madeCells, h, Nat.mod_one]
    · cases hj
  · rw [World.frozen?_alloc_mark]; simp
  · have := hF k hk; exact ⟨this.1, by omega⟩

theorem typ_store {w : World} {g k : Nat} {T : TypeId} {y : Value} (h : ∃ cs fr, w.heap[g]? = some (.cells cs T fr)) : ∃ cs fr, (w.setCell ⟨g, k, none⟩ y).heap[g]? = some (.cells cs T fr) := by
  obtain ⟨cs, fr, hh⟩ := h
  simp only [World.setCell, Array.getElem?_modify]
  rw [if_pos trivial, hh]
  exact ⟨_, _, rfl⟩

theorem owns_store {w : World} {g k n : Nat} {e : TypeId} {v y : Value} {xs : List Value} (h : w.ownsRow base e 1 v n xs) (hv : v.ownBlock ≠ some g) : (w.setCell ⟨g, k, none⟩ y).ownsRow base e 1 v n xs := by
  refine ⟨h.1, ?_⟩
  rcases h.2 with h1 | ⟨b, cap, cur, hv1, hg, hh, r⟩
  · exact Or.inl h1
  · refine Or.inr ⟨b, cap, cur, hv1, hg, ?_, r⟩
    rw [Below.heap_setCell _ _ _ _ (by rintro rfl; rw [hv1] at hv; exact hv rfl)]
    exact hh

/-- The next row, of one text, in a block of its own. -/
theorem Stk.first (h : Stk base w0 F gl m bs cp H w) (hm : m < 6) (d : List Int) (hF : ∀ k, F k → k < w.heap.size) :
    Stk base w0 F gl (m + 1) (fun i => if i = m then w.heap.size else bs i) (fun i => if i = m then 1 else cp i) (fun i => if i = m then [d] else H i) ((w.alloc (.cells #[.string (str d)] 9)).setCell ⟨gl, m, none⟩ (.slice (some ⟨w.heap.size, 0, none⟩) 1 1)) := by
  have hA := h.alloc (.cells #[.string (str d)] 9)
  have hlt := h.gl_lt
  have hv : ∀ i, i < m → rowVal (fun i => if i = m then w.heap.size else bs i) (fun i => if i = m then 1 else cp i) (fun i => if i = m then [d] else H i) i = rowVal bs cp H i := fun i hi => by
    unfold rowVal; simp only [if_neg (Nat.ne_of_lt hi)]
  have hset : (rowsOf m bs cp H).set m (.slice (some ⟨w.heap.size, 0, none⟩) 1 1) = rowsOf (m + 1) (fun i => if i = m then w.heap.size else bs i) (fun i => if i = m then 1 else cp i) (fun i => if i = m then [d] else H i) := by
    refine List.ext_getElem? fun i => ?_
    rw [List.getElem?_set, rowsOf_get, rowsOf_get, rowsOf_length]
    by_cases e : m = i
    · subst e
      rw [if_pos rfl, if_pos hm, if_pos hm, if_pos (by omega)]
      unfold rowVal; simp
    · rw [if_neg e]
      by_cases h6 : i < 6
      · rw [if_pos h6, if_pos h6]
        by_cases hi : i < m
        · rw [if_pos hi, if_pos (by omega), hv i hi]
        · rw [if_neg hi, if_neg (by omega)]
      · rw [if_neg h6, if_neg h6]
  refine ⟨?_, typ_store hA.typ, fun i hi => ?_, fun i j hi hj hij => ?_, h.away.1, fun i hi => ?_⟩
  · rw [← hset]
    exact hA.outer.store (by rw [rowsOf_length]; exact hm)
  · by_cases e : i = m
    · subst e
      have hnew : (w.alloc (.cells #[.string (str d)] 9)).ownsRow base 9 1 (.slice (some ⟨w.heap.size, 0, none⟩) 1 1) 1 (txts [d]) := ⟨rfl, Or.inr ⟨w.heap.size, 1, _, rfl, h.base_le, heap_alloc_new w _, Nat.le_refl _, by decide, rfl, rfl⟩⟩
      have := owns_store (k := i) (y := .slice (some ⟨w.heap.size, 0, none⟩) 1 1) hnew (g := gl) (by intro e; simp [Value.ownBlock] at e; omega)
      unfold rowVal
      simp only [if_pos]
      exact ⟨by simp, this⟩
    · have hi' : i < m := by omega
      rw [hv i hi']
      simp only [if_neg e]
      exact ⟨(h.rows i hi').1, owns_store (hA.rows i hi').2 (by intro e; unfold rowVal at e; simp [Value.ownBlock] at e; exact h.row_ne hi' e)⟩
  · have l1 : ∀ x, x < m → bs x < w.heap.size := fun x hx => (h.row_lt hx).2
    by_cases e1 : i = m <;> by_cases e2 : j = m
    · omega
    · simp only [if_pos e1, if_neg e2]; have := l1 j (by omega); omega
    · simp only [if_neg e1, if_pos e2]; have := l1 i (by omega); omega
    · simp only [if_neg e1, if_neg e2]; exact h.apart i j (by omega) (by omega) hij
  · by_cases e1 : i = m
    · simp only [if_pos e1]; intro hf; have := hF _ hf; omega
    · simp only [if_neg e1]; exact h.away.2 i (by omega)

/-- A text more at the end of one row: behind append and store. -/
theorem Stk.push (h : Stk base w0 F gl 6 bs cp H w) (hF : ∀ k, F k → k < w.heap.size) {r g cap : Nat} {w1 : World} {d : List Int} (hr : r < 6) (ho : w1.ownsRow base 9 1 (.slice (some ⟨g, 0, none⟩) ((H r).length + 1) cap) ((H r).length + 1) (txts (H r) ++ [.string (str d)]))
    (hg : w.grownBy w1 (some (bs r))) (hat : g = bs r ∨ g = w.heap.size) :
    Stk base w0 F gl 6 (fun i => if i = r then g else bs i) (fun i => if i = r then cap else cp i) (fun i => if i = r then H i ++ [d] else H i) (w1.setCell ⟨gl, r, none⟩ (.slice (some ⟨g, 0, none⟩) ((H r).length + 1) cap)) := by
  have hlt := h.gl_lt
  have hrl := h.row_lt hr
  have hB : Below base w0 w1 := h.outer.2.2.2.grown hg h.base_le (fun k hk => by cases hk; exact hrl.1)
  have hgl : w1.heap[gl]? = w.heap[gl]? := hg.block gl hlt (by intro e; cases e; exact h.row_ne hr rfl)
  have hO : OwnV base w0 gl (rowsOf 6 bs cp H) w1 := ⟨fun j x hj => by rw [cell_of_heap (p := ⟨gl, j, none⟩) hgl]; exact h.outer.1 j x hj, fun j => by rw [World.frozen?_of_block (w := w) (a := ⟨gl, j, none⟩) hgl]; exact h.outer.2.1 j, h.outer.2.2.1, hB⟩
  have hv : ∀ i, i ≠ r → rowVal (fun i => if i = r then g else bs i) (fun i => if i = r then cap else cp i) (fun i => if i = r then H i ++ [d] else H i) i = rowVal bs cp H i := fun i hi => by
    unfold rowVal; simp only [if_neg hi]
  have hvr : rowVal (fun i => if i = r then g else bs i) (fun i => if i = r then cap else cp i) (fun i => if i = r then H i ++ [d] else H i) r = .slice (some ⟨g, 0, none⟩) ((H r).length + 1) cap := by
    unfold rowVal; simp
  have hset : (rowsOf 6 bs cp H).set r (.slice (some ⟨g, 0, none⟩) ((H r).length + 1) cap) = rowsOf 6 (fun i => if i = r then g else bs i) (fun i => if i = r then cap else cp i) (fun i => if i = r then H i ++ [d] else H i) := by
    refine List.ext_getElem? fun i => ?_
    rw [List.getElem?_set, rowsOf_get, rowsOf_get, rowsOf_length]
    by_cases e : r = i
    · subst e
      rw [if_pos rfl, if_pos hr, if_pos hr, if_pos hr, hvr]
    · rw [if_neg e]
      by_cases h6 : i < 6
      · simp only [if_pos h6, hv i (fun e' => e e'.symm)]
      · rw [if_neg h6, if_neg h6]
  have hgn : g ≠ gl := by
    rcases hat with rfl | rfl
    · exact h.row_ne hr
    · omega
  refine ⟨?_, typ_store (by rw [hgl]; exact h.typ), fun i hi => ?_, fun i j hi hj hij => ?_, h.away.1, fun i hi => ?_⟩
  · rw [← hset]
    exact hO.store (by rw [rowsOf_length]; exact hr)
  · by_cases e : i = r
    · subst e
      have := owns_store (k := i) (y := .slice (some ⟨g, 0, none⟩) ((H i).length + 1) cap) ho (g := gl) (by intro e; simp [Value.ownBlock] at e; exact hgn e)
      rw [hvr]
      simp only [if_pos]
      refine ⟨by simp, ?_⟩
      rw [List.length_append]
      have e2 : txts (H i ++ [d]) = txts (H i) ++ [.string (str d)] := by unfold txts; simp
      rw [e2]
      exact this
    · rw [hv i e]
      simp only [if_neg e]
      refine ⟨(h.rows i hi).1, owns_store ((h.rows i hi).2.kept hg (Or.inr ?_)) (by intro e; unfold rowVal at e; simp [Value.ownBlock] at e; exact h.row_ne hi e)⟩
      intro e'
      unfold rowVal at e'
      simp [Value.ownBlock] at e'
      exact h.apart i r hi hr e e'
  · have l1 : ∀ x, x < 6 → x ≠ r → bs x ≠ g := fun x hx hxr => by
      rcases hat with rfl | rfl
      · exact h.apart x r hx hr hxr
      · have := (h.row_lt hx).2; omega
    by_cases e1 : i = r <;> by_cases e2 : j = r
    · omega
    · simp only [if_pos e1, if_neg e2]; exact fun e => l1 j hj e2 e.symm
    · simp only [if_neg e1, if_pos e2]; exact l1 i hi e1
    · simp only [if_neg e1, if_neg e2]; exact h.apart i j hi hj hij
  · by_cases e1 : i = r
    · simp only [if_pos e1]
      rcases hat with rfl | rfl
      · exact h.away.2 r hr
      · intro hf; have := hF _ hf; omega
    · simp only [if_neg e1]; exact h.away.2 i hi

theorem at_or {b L c g S : Nat} (h : (Value.slice (some ⟨b, 0, none⟩) L c).ownBlock = some g ∨ g = S) : g = b ∨ g = S := by
  rcases h with h | h
  · left; simp [Value.ownBlock] at h; exact h.symm
  · exact Or.inr h

theorem Stk.length_push {H : Nat → List (List Int)} {i r : Nat} {d : List Int} (h : ∀ n, n < 6 → (H n).length ≤ i + 1) : ∀ n, n < 6 → ((fun n => if n = r then H n ++ [d] else H n) n).length ≤ i + 1 + 1 := fun n hn => by
  have := h n hn
  by_cases e : n = r
  · simp only [if_pos e, List.length_append]; simp; omega
  · simp only [if_neg e]; omega

/-! ### The disk beside them -/

theorem DiskOk.store {DI : World → Addr → (Nat → Prop) → DM → Prop} (hD : DiskOk DI) {a : Addr} {s : DM} (h : DI w a F s) {g k : Nat} (hn : ¬ F g) (y : Value) : DI (w.setCell ⟨g, k, none⟩ y) a F s :=
  hD.kept h (fun b hb => Below.heap_setCell _ _ _ _ (by rintro rfl; exact hn hb)) (by simp [World.setCell])

theorem DiskOk.grown {DI : World → Addr → (Nat → Prop) → DM → Prop} (hD : DiskOk DI) {a : Addr} {s : DM} (h : DI w a F s) {b : Nat} (hn : ¬ F b) (hg : w.grownBy w' (some b)) : DI w' a F s :=
  hD.kept h (fun k hk => hg.block k (hD.lt h k hk) (by intro e; cases e; exact hn hk)) hg.size

/-- What stands at the head of each round: the disk holds what the rows say. -/
def Playing (DI : World → Addr → (Nat → Prop) → DM → Prop) (w0 : World) (a : Addr) (gl i : Nat) (w : World) : Prop :=
  ∃ F s bs cp H, DI w a F s ∧ Six s H ∧ Stk w0.heap.size w0 F gl 6 bs cp H w ∧ ∀ r, r < 6 → (H r).length ≤ i + 1

end Go.Proofs.Ytinlbmlgfneolaa
