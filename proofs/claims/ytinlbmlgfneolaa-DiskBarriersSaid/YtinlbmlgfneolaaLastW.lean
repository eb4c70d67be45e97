/-
  Proved here: lists of writes that a law makes of texts, and what a disk of plain words holds behind them, behind a barrier, and behind a restart.
  The conditions stand at each theorem.
-/
import Derived.Test.YtinlbmlgfneolaaRowsIn
namespace Go.Proofs.Ytinlbmlgfneolaa
open Go.RowKit Go.ChangeShapes Go.WideShapes

/-! ### In plain words -/

theorem step1_never {s : DM} (h : s.left = -1) : step1 s = s := by
  unfold step1
  rw [h, if_neg (by decide)]
  cases s
  simp at h
  rw [h]

theorem putAll_never : ∀ (ws : List (Int × List Int)) (s : DM), s.left = -1 → s.off = false → (putAll s ws).2 = 0 ∧ (putAll s ws).1.left = -1 ∧ (putAll s ws).1.off = false ∧ (putAll s ws).1.n = s.n
  | [], s, h1, h2 => ⟨rfl, h1, h2, rfl⟩
  | (a, d) :: r, s, h1, h2 => by
    unfold putAll
    rw [if_neg (by rw [h1]; decide), step1_never h1]
    exact putAll_never r (addW s a.toNat d) h1 h2

theorem putAll_cons {s : DM} (a : Int) (d : List Int) (r : List (Int × List Int)) (h1 : s.left = -1) : putAll s ((a, d) :: r) = putAll (addW s a.toNat d) r := by
  conv => lhs; unfold putAll
  rw [if_neg (by rw [h1]; decide), step1_never h1]

theorem putAll_snoc : ∀ (ws : List (Int × List Int)) (s : DM) (a : Int) (d : List Int), s.left = -1 → (putAll s (ws ++ [(a, d)])).1 = addW (putAll s ws).1 a.toNat d
  | [], s, a, d, h1 => by
    show (putAll s [(a, d)]).1 = addW s a.toNat d
    rw [putAll_cons a d [] h1]
    rfl
  | (a', d') :: r, s, a, d, h1 => by
    show (putAll s ((a', d') :: (r ++ [(a, d)]))).1 = _
    rw [putAll_cons _ _ _ h1, putAll_cons _ _ _ h1]
    exact putAll_snoc r (addW s a'.toNat d') a d h1

/-- What block n holds behind these writes. -/
def lastW (n0 : Nat) (ws : List (Int × List Int)) (n : Nat) : List Int := ((putAll (freshD n0) ws).1.hist n).getLastD []

theorem last_none (n0 n : Nat) : lastW n0 [] n = zeros64 := rfl
theorem last_snoc (n0 : Nat) (ws : List (Int × List Int)) (a : Int) (d : List Int) (n : Nat) : lastW n0 (ws ++ [(a, d)]) n = if n = a.toNat then d else lastW n0 ws n := by
  unfold lastW
  rw [putAll_snoc ws _ a d rfl]
  show (if n = a.toNat then (putAll (freshD n0) ws).1.hist n ++ [d] else (putAll (freshD n0) ws).1.hist n).getLastD [] = _
  by_cases h : n = a.toNat
  · rw [if_pos h, if_pos h]; simp
  · rw [if_neg h, if_neg h]

/-- Behind sound writes, a barrier and any restart. -/
theorem barrier_all {n0 : Nat} {ws : List (Int × List Int)} (hl : ∀ p ∈ ws, p.2.length = 64) (ha : ∀ p ∈ ws, 0 ≤ p.1 ∧ p.1 < n0) : ∃ s1 s2, putRes (freshD n0) ws = (s1, 0) ∧ barRes s1 = (s2, 0) ∧ (∀ n, openOf s2 n = 0) ∧
    ∀ (ks : List Int) (n : Nat), n < n0 → getErr (restarted s2 ks) n = 0 ∧ getOut (restarted s2 ks) n = lastW n0 ws n := by
  obtain ⟨p1, p2, p3, p4⟩ := putAll_never ws (freshD n0) rfl rfl
  have e1 : putRes (freshD n0) ws = ((putAll (freshD n0) ws).1, 0) := by
    unfold putRes
    have b1 : badLen ws = false := by
      unfold badLen
      rw [List.any_eq_false]
      intro p hp
      simp [hl p hp]
    have b2 : badAt (freshD n0).n ws = false := by
      unfold badAt
      rw [List.any_eq_false]
      intro p hp
      have := ha p hp
      have e : (freshD n0).n = n0 := rfl
      simp only [e, decide_eq_true_eq]
      omega
    rw [if_neg (show ¬ (freshD n0).off = true by show ¬ false = true; decide), if_neg (by rw [b1]; decide), if_neg (by rw [b2]; decide)]
    exact Prod.ext rfl p1
  refine ⟨_, lastOnly (putAll (freshD n0) ws).1, e1, ?_, fun n => ?_, fun ks n hn => ?_⟩
  · unfold barRes
    rw [if_neg (by rw [p3]; decide), if_neg (by rw [p2]; decide), step1_never p2]
  · unfold openOf
    split
    · rfl
    · rfl
  · have hn4 : (restarted (lastOnly (putAll (freshD n0) ws).1) ks).n = n0 := p4
    have he : getErr (restarted (lastOnly (putAll (freshD n0) ws).1) ks) n = 0 := by
      unfold getErr
      rw [if_neg (by show ¬ false = true; decide), if_pos (by rw [hn4]; omega)]
    refine ⟨he, ?_⟩
    unfold getOut
    rw [if_pos he, Int.toNat_natCast]
    show ([[(((putAll (freshD n0) ws).1.hist n).getLastD [])].getD (min (ks.getD n 0).toNat 0) []]).getLastD [] = _
    rw [Nat.min_zero]
    rfl

/-! ### In memory -/

/-- A list of writes of the call's own. -/
def WL (base n0 : Nat) (vv : Value) (ws : List (Int × List Int)) (wr : World) : Prop :=
  ∃ xs, wr.ownsRow base 54 2 vv ws.length xs ∧ ∀ (i : Nat) (a : Int) (zs : List Int), ws[i]? = some (a, zs) → (0 ≤ a ∧ a < n0) ∧ zs.length = 64 ∧ ∃ g, xs[2 * i]? = some (.int .i64 a) ∧ xs[2 * i + 1]? = some (.slice (some ⟨g, 0, none⟩) 64 64) ∧ base ≤ g ∧ ByteBlock wr g zs

/-- Blocks of writes, and of bytes, are as they were. -/
def SameRows (w w' : World) : Prop := ∀ k : Nat, (∃ cs fr, w.heap[k]? = some (Obj.cells cs 54 fr)) ∨ (∃ cs fr, w.heap[k]? = some (Obj.cells cs 5 fr)) → w'.heap[k]? = w.heap[k]?

theorem WL.turn {base n0 : Nat} {vv : Value} {ws : List (Int × List Int)} {w w' : World} (h : WL base n0 vv ws w) (hs : SameRows w w') : WL base n0 vv ws w' := by
  obtain ⟨xs, ho, hx⟩ := h
  refine ⟨xs, ⟨ho.1, ?_⟩, fun i a zs hi => ?_⟩
  · rcases ho.2 with h | ⟨g, cap, cur, hv, hb, hh, r⟩
    · exact Or.inl h
    · exact Or.inr ⟨g, cap, cur, hv, hb, by rw [hs g (Or.inl ⟨_, _, hh⟩)]; exact hh, r⟩
  · obtain ⟨h1, h2, g, h3, h4, h5, h6⟩ := hx i a zs hi
    exact ⟨h1, h2, g, h3, h4, h5, h6.kept (hs g (Or.inr h6.1))⟩

theorem WL.more {base n0 : Nat} {vv v' : Value} {ws : List (Int × List Int)} {wr w' : World} {xs : List Value} {g : Nat} {x : Int} {d : List Int} (hn : base ≤ g) (hx0 : 0 ≤ x ∧ x < n0) (hd : d.length = 64)
    (ho : wr.ownsRow base 54 2 vv ws.length xs) (h : ∀ (i : Nat) (a : Int) (zs : List Int), ws[i]? = some (a, zs) → (0 ≤ a ∧ a < n0) ∧ zs.length = 64 ∧ ∃ g, xs[2 * i]? = some (.int .i64 a) ∧ xs[2 * i + 1]? = some (.slice (some ⟨g, 0, none⟩) 64 64) ∧ base ≤ g ∧ ByteBlock wr g zs)
    (hz : ByteBlock wr g d) (hown : w'.ownsRow base 54 2 v' (ws.length + 1) (xs ++ [.int .i64 x, .slice (some ⟨g, 0, none⟩) 64 64])) (hg : wr.grownBy w' vv.ownBlock) : WL base n0 v' (ws ++ [(x, d)]) w' := by
  have hl : xs.length = 2 * ws.length := by have := ho.1; omega
  have keep : ∀ g zs, ByteBlock wr g zs → ByteBlock w' g zs := fun g zs hb => by
    obtain ⟨cs, fr, hgz⟩ := hb.1
    have hlt : g < wr.heap.size := by
      rcases Nat.lt_or_ge g wr.heap.size with h | h
      · exact h
      · rw [Array.getElem?_eq_none h] at hgz; cases hgz
    refine hb.kept (hg.block g hlt ?_)
    rcases ho.2 with ⟨rfl, _⟩ | ⟨g', cap, cur, rfl, _, hh, _⟩
    · simp [Value.ownBlock]
    · intro e
      simp [Value.ownBlock] at e
      subst e
      rw [hh] at hgz
      simp at hgz
  refine ⟨_, by rw [List.length_append]; exact hown, fun i a zs hi => ?_⟩
  by_cases e : i = ws.length
  · subst e
    rw [List.getElem?_append_right (Nat.le_refl _), Nat.sub_self] at hi
    simp at hi
    obtain ⟨rfl, rfl⟩ := hi
    refine ⟨hx0, hd, g, ?_, ?_, hn, keep g _ hz⟩
    · rw [List.getElem?_append_right (by omega), show 2 * ws.length - xs.length = 0 by omega]; rfl
    · rw [List.getElem?_append_right (by omega), show 2 * ws.length + 1 - xs.length = 1 by omega]; rfl
  · have hlt : i < ws.length := by
      have := (List.getElem?_eq_some_iff.1 hi).1
      rw [List.length_append] at this
      simp at this
      omega
    rw [List.getElem?_append_left hlt] at hi
    obtain ⟨h1, h2, g', h3, h4, h5, h6⟩ := h i a zs hi
    exact ⟨h1, h2, g', by rw [List.getElem?_append_left (by omega)]; exact h3, by rw [List.getElem?_append_left (by omega)]; exact h4, h5, keep g' _ h6⟩

theorem WL.list {base n0 : Nat} {vv : Value} {ws : List (Int × List Int)} {wr : World} (h : WL base n0 vv ws wr) (hn : n0 ≤ 480) (hj : ws.length ≤ 100) : ∃ ao cap, vv = .slice ao ws.length cap ∧ ListIs wr (fun k => base ≤ k) ao ws.length ws := by
  obtain ⟨xs, ho, hx⟩ := h
  rcases ho.2 with ⟨rfl, h0⟩ | ⟨g, cap, cur, hv, hb, _⟩
  · exact ⟨none, 0, by rw [h0], rfl, by omega, Or.inl h0⟩
  · refine ⟨_, cap, hv, rfl, by omega, Or.inr ⟨g, 0, rfl, hb, fun i a zs hi => ?_⟩⟩
    obtain ⟨h1, _, g', h3, h4, h5, h6⟩ := hx i a zs hi
    rw [hv] at ho
    have c1 := ho.cells rfl (2 * i) _ h3
    have c2 := ho.cells rfl (2 * i + 1) _ h4
    rw [Go.WideShapes.add_plain] at c1 c2
    refine ⟨c1, by omega, _, _, _, c2, h6.2, fun b' o s e => by cases e; exact h5⟩

theorem WL.sound {base n0 : Nat} {vv : Value} {ws : List (Int × List Int)} {wr : World} (h : WL base n0 vv ws wr) : (∀ p ∈ ws, p.2.length = 64) ∧ ∀ p ∈ ws, 0 ≤ p.1 ∧ p.1 < n0 := by
  obtain ⟨xs, _, hx⟩ := h
  refine ⟨fun p hp => ?_, fun p hp => ?_⟩
  · obtain ⟨i, hi⟩ := List.mem_iff_getElem?.1 hp
    exact (hx i p.1 p.2 hi).2.1
  · obtain ⟨i, hi⟩ := List.mem_iff_getElem?.1 hp
    exact (hx i p.1 p.2 hi).1

/-- Block g holds strings of the call's own. -/
def Strs (base : Nat) (w0 : World) (g : Nat) (xs : List Value) (wr : World) : Prop := OwnV base w0 g xs wr ∧ ∃ cs fr, wr.heap[g]? = some (.cells cs 9 fr)

theorem Strs.store {base g k : Nat} {w0 wr : World} {xs : List Value} {y : Value} (h : Strs base w0 g xs wr) (hk : k < xs.length) : Strs base w0 g (xs.set k y) (wr.setCell ⟨g, k, none⟩ y) := by
  refine ⟨h.1.store hk, ?_⟩
  obtain ⟨cs, fr, hh⟩ := h.2
  simp only [World.setCell, Array.getElem?_modify]
  rw [if_pos trivial, hh]
  exact ⟨_, _, rfl⟩

theorem strs_same {g k : Nat} {wr : World} {y : Value} (h : ∃ cs fr, wr.heap[g]? = some (.cells cs 9 fr)) : SameRows wr (wr.setCell ⟨g, k, none⟩ y) := by
  intro b hb
  refine Below.heap_setCell _ _ _ _ ?_
  intro e
  simp at e
  subst e
  obtain ⟨cs, fr, h⟩ := h
  rcases hb with ⟨cs', fr', h'⟩ | ⟨cs', fr', h'⟩
  · rw [h] at h'; simp at h'
  · rw [h] at h'; simp at h'

/-- What only grows, but for one row of writes, keeps strings. -/
theorem Strs.grown {base g n : Nat} {w0 w w' : World} {xs : List Value} {vv : Value} {ys : List Value} (h : Strs base w0 g xs w) (ho : w.ownsRow base 54 2 vv n ys) (hg : w.grownBy w' vv.ownBlock) (hb : base ≤ w.heap.size) : Strs base w0 g xs w' := by
  obtain ⟨cs, fr, hh⟩ := h.2
  have hlt : g < w.heap.size := by
    rcases Nat.lt_or_ge g w.heap.size with h | h
    · exact h
    · rw [Array.getElem?_eq_none h] at hh; cases hh
  have hk : w'.heap[g]? = w.heap[g]? := hg.block g hlt (by
    rcases ho.2 with ⟨rfl, _⟩ | ⟨g', cap, cur, rfl, _, hh', _⟩
    · simp [Value.ownBlock]
    · intro e
      simp [Value.ownBlock] at e
      subst e
      rw [hh'] at hh
      simp at hh)
  obtain ⟨h1, h2, h3, h4⟩ := h.1
  exact ⟨⟨fun j x hj => by rw [cell_of_heap (p := ⟨g, j, none⟩) hk]; exact h1 j x hj, fun j => by rw [World.frozen?_of_block (w := w) (a := ⟨g, j, none⟩) hk]; exact h2 j, h3, h4.grown hg hb (fun k hk => (ho.lt k hk).1)⟩, by rw [hk]; exact h.2⟩

theorem info9 : (Try.prog.info? 9).map (fun i => (i.zero, i.size, i.bytes)) = some (some (.string ByteArray.empty), 1, 16) := by kernel_rfl

/-- 'make([]string, n)'. -/
theorem run_make_strs (w : World) (n : Nat) (hn : n ≤ 100000) : (Instr.makeSlice 43 (.int .i64 (n : Int)) (.int .i64 (n : Int))).run Try.prog w =
    .ok (.slice (some ⟨w.heap.size, 0, none⟩) n n) (w.alloc (.cells (madeCells #[.string ByteArray.empty] n) 9)) := by
  obtain ⟨i0, hi, hz0, hz1, hz2⟩ := info_parts info9
  have h := run_make (P := Try.prog) w 43 9 i0 (.string ByteArray.empty) Try.underlying43 hi hz0 .i64 .i64 (n : Int) (n : Int) (by omega) (Int.le_refl _) (by rw [hz2]; omega) (by omega)
  simpa [hz1, Value.cells] using h

theorem made_strs (w : World) (n : Nat) : Strs w.heap.size w w.heap.size (List.replicate n (.string ByteArray.empty)) (w.alloc (.cells (madeCells #[.string ByteArray.empty] n) 9)) := by
  refine ⟨⟨fun j x hj => ?_, fun j => ?_, Nat.le_refl _, (Below.refl _ _).alloc (Nat.le_refl _) _⟩, _, _, heap_alloc_new w _⟩
  · rw [List.getElem?_replicate] at hj
    split at hj
    · rename_i h
      cases hj
      rw [World.cell?_alloc_new]
      simp [madeCells, h, Nat.mod_one]
    · cases hj
  · rw [World.frozen?_alloc_mark]; simp

theorem Strs.alloc {base g : Nat} {w0 w : World} {xs : List Value} (h : Strs base w0 g xs w) (h0 : xs ≠ []) (o : Obj) : Strs base w0 g xs (w.alloc o) := by
  obtain ⟨cs, fr, hh⟩ := h.2
  have hlt : g < w.heap.size := by
    rcases Nat.lt_or_ge g w.heap.size with h | h
    · exact h
    · rw [Array.getElem?_eq_none h] at hh; cases hh
  refine ⟨h.1.later ((Below.refl _ _).alloc (Nat.le_refl _) _) h0, cs, fr, ?_⟩
  rw [Below.heap_alloc w o g hlt]
  exact hh

theorem Strs.later {base g : Nat} {w0 w wx : World} {xs : List Value} (h : Strs base w0 g xs w) (hb : Below w.heap.size w wx) (h0 : xs ≠ []) : Strs base w0 g xs wx := by
  obtain ⟨cs, fr, hh⟩ := h.2
  have hlt : g < w.heap.size := by
    rcases Nat.lt_or_ge g w.heap.size with h | h
    · exact h
    · rw [Array.getElem?_eq_none h] at hh; cases hh
  exact ⟨h.1.later hb h0, cs, fr, by rw [hb.block g hlt]; exact hh⟩

theorem Strs.drew {base g : Nat} {w0 w : World} {xs : List Value} (h : Strs base w0 g xs w) : Strs base w0 g xs w.drew :=
  ⟨⟨fun j x hj => h.1.1 j x hj, fun j => h.1.2.1 j, h.1.2.2.1, h.1.2.2.2.drew⟩, h.2⟩

theorem same_of_below {w wx : World} (hb : Below w.heap.size w wx) : SameRows w wx := by
  intro k hk
  refine hb.block k ?_
  rcases Nat.lt_or_ge k w.heap.size with h | h
  · exact h
  · rcases hk with ⟨_, _, h'⟩ | ⟨_, _, h'⟩ <;> (rw [Array.getElem?_eq_none h] at h'; cases h')

theorem byte_block {base g : Nat} {w0 w : World} {zs : List Int} (hO : Own base w0 g zs w) (hl : zs.length = 64) (hT : ∃ cs fr, w.heap[g]? = some (Obj.cells cs 5 fr)) : ByteBlock w g zs := by
  have hB := hO.bts (by omega)
  rw [hl] at hB
  exact ⟨hT, hB, (fun h => by cases h), Nat.le_refl _, by decide⟩

theorem ByteBlock.lt {w : World} {g : Nat} {zs : List Int} (h : ByteBlock w g zs) : g < w.heap.size := by
  obtain ⟨cs, fr, hgz⟩ := h.1
  rcases Nat.lt_or_ge g w.heap.size with h | h
  · exact h
  · rw [Array.getElem?_eq_none h] at hgz; cases hgz

theorem ByteBlock.grown {base g n : Nat} {w w' : World} {zs : List Int} {vv : Value} {ys : List Value} (h : ByteBlock w g zs) (ho : w.ownsRow base 54 2 vv n ys) (hg : w.grownBy w' vv.ownBlock) : ByteBlock w' g zs := by
  obtain ⟨cs, fr, hgz⟩ := h.1
  have hlt : g < w.heap.size := by
    rcases Nat.lt_or_ge g w.heap.size with h | h
    · exact h
    · rw [Array.getElem?_eq_none h] at hgz; cases hgz
  refine h.kept (hg.block g hlt ?_)
  rcases ho.2 with ⟨rfl, _⟩ | ⟨g', cap, cur, rfl, _, hh, _⟩
  · simp [Value.ownBlock]
  · intro e
    simp [Value.ownBlock] at e
    subst e
    rw [hh] at hgz
    simp at hgz

/-- Seven texts. -/
def strsOf (f : Nat → List Int) : List Value := (List.range 7).map fun i => Value.string (str (f i))
theorem strsOf_length (f : Nat → List Int) : (strsOf f).length = 7 := by unfold strsOf; simp
theorem strsOf_ne (f : Nat → List Int) : strsOf f ≠ [] := by intro h; have := congrArg List.length h; rw [strsOf_length] at this; cases this
theorem strsOf_at (f : Nat → List Int) {i : Nat} (h : i < 7) : (strsOf f)[i]? = some (.string (str (f i))) := by unfold strsOf; simp [h]
theorem strsOf_set (f : Nat → List Int) {k : Nat} (h : k < 7) (d : List Int) : (strsOf f).set k (.string (str d)) = strsOf (fun i => if i = k then d else f i) := by
  refine List.ext_getElem? (fun i => ?_)
  rw [List.getElem?_set, strsOf_length]
  by_cases hi : i < 7
  · rw [strsOf_at (fun i => if i = k then d else f i) hi, strsOf_at f hi]
    by_cases e : k = i
    · subst e; simp [h]
    · rw [if_neg e, if_neg (fun e' => e e'.symm)]
  · rw [if_neg (by omega), List.getElem?_eq_none (by rw [strsOf_length]; omega), List.getElem?_eq_none (by rw [strsOf_length]; omega)]
theorem strsOf_none : List.replicate 7 (Value.string ByteArray.empty) = strsOf (fun _ => []) := rfl

theorem nums_of_row {w : World} {a : Option Addr} {len cap : Nat} {zs : List Int} (h : IsRow .i64 w a len cap zs) : ∃ ks, NumsAre w (fun k => k < w.heap.size) a len ks := by
  rcases h with ⟨rfl, rfl, rfl, rfl⟩ | ⟨x, rfl, hl, hm, hz, hcell, hwz⟩
  · exact ⟨[], rfl, Or.inl rfl⟩
  · refine ⟨zs.take len, by rw [List.length_take]; omega, ?_⟩
    rcases Nat.eq_zero_or_pos len with h0 | h0
    · exact Or.inl h0
    · obtain ⟨b, off, rfl, hc⟩ := ints_at hcell (by omega)
      refine Or.inr ⟨b, off, rfl, World.block_lt_of_cell? _ _ (hc 0 (by omega)), fun j x hj => ?_⟩
      have hjl : j < len := by
        have := (List.getElem?_eq_some_iff.1 hj).1
        rw [List.length_take] at this
        omega
      rw [List.getElem?_take, if_pos hjl] at hj
      have hx : zs.getD j 0 = x := by simp [List.getD, hj]
      exact ⟨by rw [hc j (by omega), hx], wf_i64 (hwz x (List.mem_of_getElem? hj))⟩

theorem NumsAre.later {w wx : World} {G : Nat → Prop} {a : Option Addr} {len : Nat} {ks : List Int} (h : NumsAre w G a len ks) (hb : Below w.heap.size w wx) : NumsAre wx G a len ks := by
  refine ⟨h.1, ?_⟩
  rcases h.2 with h0 | ⟨b, off, rfl, hg, hc⟩
  · exact Or.inl h0
  · exact Or.inr ⟨b, off, rfl, hg, fun j x hj => ⟨cell_later hb (hc j x hj).1, (hc j x hj).2⟩⟩

end Go.Proofs.Ytinlbmlgfneolaa
