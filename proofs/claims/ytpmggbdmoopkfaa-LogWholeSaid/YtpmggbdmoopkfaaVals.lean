/-
  Proved here: what is known of slices of one-cell elements of any type: given ones, new ones, ones of the call's own; and what 'append' of one element does to the latter.
  The conditions stand at each theorem.
-/
import Derived.Test.YtpmggbdmoopkfaaMem
import Derived.Deep.RegionLaw
namespace Go.Proofs.Ytpmggbdmoopkfaa
open Go.RowKit

/-- A slice whose elements are the values xs. -/
def Vals (w : World) (ao : Option Addr) (len : Nat) (xs : List Value) : Prop :=
  xs.length = len ∧ len ≤ 140737488351232 ∧ (len = 0 ∨ ∃ b off, ao = some ⟨b, off, none⟩ ∧ ∀ j x, xs[j]? = some x → w.cell? ⟨b, off + j, none⟩ = some x)

theorem Vals.later {w wx : World} {ao : Option Addr} {len : Nat} {xs : List Value} (h : Vals w ao len xs) (hb : Below w.heap.size w wx) : Vals wx ao len xs := by
  obtain ⟨h1, h2, h3⟩ := h
  refine ⟨h1, h2, ?_⟩
  rcases h3 with h3 | ⟨b, off, rfl, hc⟩
  · exact Or.inl h3
  · exact Or.inr ⟨b, off, rfl, fun j x hj => cell_later hb (hc j x hj)⟩

/-- A slice that a call hands back: its elements are xs; where it has any they lie in new memory (blocks from base on). -/
def FreshV (w : World) (base : Nat) (v : Value) (xs : List Value) : Prop :=
  ∃ ao cap, v = .slice ao xs.length cap ∧ Vals w ao xs.length xs ∧ xs.length ≤ cap ∧ (xs = [] ∨ ∃ g, ao = some ⟨g, 0, none⟩ ∧ base ≤ g ∧ ∀ j, w.frozen? ⟨g, j, none⟩ = false)

theorem FreshV.later {w wx : World} {base : Nat} {v : Value} {xs : List Value} (h : FreshV w base v xs) (hb : Below w.heap.size w wx) : FreshV wx base v xs := by
  obtain ⟨ao, cap, hv, hB, hcap, hf⟩ := h
  refine ⟨ao, cap, hv, hB.later hb, hcap, ?_⟩
  rcases hf with h0 | ⟨g, he, hg, hfr⟩
  · exact Or.inl h0
  · by_cases hx : xs = []
    · exact Or.inl hx
    · refine Or.inr ⟨g, he, hg, fun j => ?_⟩
      have hpos : 0 < xs.length := List.length_pos_iff.2 hx
      rcases hB.2.2 with h0 | ⟨b, o, he', hc⟩
      · omega
      · rw [he] at he'
        simp only [Option.some.injEq, Addr.mk.injEq, and_true] at he'
        obtain ⟨rfl, rfl⟩ := he'
        have hlt := World.block_lt_of_cell? _ _ (hc 0 xs[0] (List.getElem?_eq_getElem hpos))
        rw [hb.frozen (p := ⟨g, j, none⟩) hlt]
        exact hfr j

theorem FreshV.mono {w : World} {base base' : Nat} {v : Value} {xs : List Value} (h : FreshV w base' v xs) (hb : base ≤ base') : FreshV w base v xs := by
  obtain ⟨ao, cap, hv, hA, hc, hf⟩ := h
  refine ⟨ao, cap, hv, hA, hc, ?_⟩
  rcases hf with h0 | ⟨g, he, hg, hfr⟩
  · exact Or.inl h0
  · exact Or.inr ⟨g, he, Nat.le_trans hb hg, hfr⟩

theorem FreshV.nil (w : World) (base : Nat) : FreshV w base (.slice none 0 0) [] :=
  ⟨none, 0, rfl, ⟨rfl, by decide, Or.inl rfl⟩, Nat.le_refl _, Or.inl rfl⟩

theorem owns_vals {w : World} {base n : Nat} {e : TypeId} {v : Value} {xs : List Value} (h : w.ownsRow base e 1 v n xs) (hn : n ≤ 140737488351232) : FreshV w base v xs := by
  have hl : xs.length = n := by have := h.1; rw [Nat.mul_one] at this; exact this
  rcases h.2 with ⟨hv, h0⟩ | ⟨g, cap, cur, hv, hg, _, hc, _⟩
  · have : xs = [] := List.length_eq_zero_iff.1 (by rw [hl, h0])
    subst this
    rw [hv]
    exact FreshV.nil w base
  · rw [hv] at h
    refine ⟨some ⟨g, 0, none⟩, cap, by rw [hl]; exact hv, ⟨rfl, by rw [hl]; exact hn, ?_⟩, by rw [hl]; exact hc, Or.inr ⟨g, rfl, hg, fun j => h.frozenAt j⟩⟩
    refine Or.inr ⟨g, 0, rfl, fun j x hj => ?_⟩
    have hjl := (List.getElem?_eq_some_iff.1 hj).1
    rw [Nat.zero_add, h.cellAt j (by omega)]
    simpa using hj

/-- Block g holds the values xs, in new memory (blocks from base on), and may be written; what lies below base is as it was in w0. -/
def OwnV (base : Nat) (w0 : World) (g : Nat) (xs : List Value) (wr : World) : Prop :=
  (∀ j x, xs[j]? = some x → wr.cell? ⟨g, j, none⟩ = some x) ∧ (∀ j, wr.frozen? ⟨g, j, none⟩ = false) ∧ base ≤ g ∧ Below base w0 wr

theorem OwnV.store {base g k : Nat} {w0 wr : World} {xs : List Value} {y : Value} (h : OwnV base w0 g xs wr) (hk : k < xs.length) : OwnV base w0 g (xs.set k y) (wr.setCell ⟨g, k, none⟩ y) := by
  obtain ⟨h1, h2, h3, h4⟩ := h
  refine ⟨fun j x hj => ?_, fun j => by simpa using h2 j, h3, h4.setCell (p := ⟨g, k, none⟩) h3 _⟩
  rw [List.getElem?_set] at hj
  by_cases e : k = j
  · subst e
    rw [if_pos rfl, if_pos hk] at hj
    cases hj
    exact World.cell?_setCell_same wr _ _ (h1 k xs[k] (List.getElem?_eq_getElem hk))
  · rw [if_neg e] at hj
    rw [World.cell?_setCell_other (h := by intro e'; cases e'; exact e rfl)]
    exact h1 j x hj

theorem OwnV.later {base g : Nat} {w0 wr wx : World} {xs : List Value} (h : OwnV base w0 g xs wr) (hb : Below wr.heap.size wr wx) (h0 : xs ≠ []) : OwnV base w0 g xs wx := by
  obtain ⟨h1, h2, h3, h4⟩ := h
  have hpos : 0 < xs.length := List.length_pos_iff.2 h0
  have hlt := World.block_lt_of_cell? _ _ (h1 0 xs[0] (List.getElem?_eq_getElem hpos))
  refine ⟨fun j x hj => cell_later hb (h1 j x hj), fun j => ?_, h3, h4.trans (hb.mono (Nat.le_of_lt (Nat.lt_of_le_of_lt h3 hlt)))⟩
  rw [hb.frozen (p := ⟨g, j, none⟩) hlt]
  exact h2 j

theorem OwnV.vals {base g : Nat} {w0 wr : World} {xs : List Value} (h : OwnV base w0 g xs wr) (hl : xs.length ≤ 140737488351232) : Vals wr (some ⟨g, 0, none⟩) xs.length xs :=
  ⟨rfl, hl, Or.inr ⟨g, 0, rfl, fun j x hj => by rw [Nat.zero_add]; exact h.1 j x hj⟩⟩

theorem ownV_of_fresh {base : Nat} {w0 w : World} {v : Value} {xs : List Value} (h : FreshV w base v xs) (hb : Below base w0 w) (h0 : xs ≠ []) : ∃ g cap, v = .slice (some ⟨g, 0, none⟩) xs.length cap ∧ xs.length ≤ cap ∧ OwnV base w0 g xs w := by
  obtain ⟨ao, cap, hv, hB, hcap, hf⟩ := h
  obtain ⟨g, rfl, hg, hfr⟩ := hf.resolve_left h0
  obtain ⟨b, o, he, hc⟩ := hB.2.2.resolve_left (by have := List.length_pos_iff.2 h0; omega)
  simp only [Option.some.injEq, Addr.mk.injEq, and_true] at he
  obtain ⟨rfl, rfl⟩ := he
  exact ⟨g, cap, hv, hcap, fun j x hj => by have := hc j x hj; rwa [Nat.zero_add] at this, hfr, hg, hb⟩

/-- What the program says of an element's type: its zero value; one cell; so many bytes. -/
def Elem (t e : TypeId) (z : Value) (nb : Nat) : Prop :=
  Try.prog.underlying t = some (.slice e) ∧ (Try.prog.info? e).map (fun i => (i.zero, i.size, i.bytes)) = some (some z, 1, nb) ∧ z.cells.size = 1 ∧ nb ≤ 16

theorem run_append_one {t e : TypeId} {z : Value} {nb : Nat} (hE : Elem t e z nb) (w : World) (ty : TypeId) (base n : Nat) (v : Value) (xs : List Value) (hown : w.ownsRow base e 1 v n xs) (ad : Addr) (c : Nat) (x : Value)
    (hx : w.cell? ad = some x) (h1 : x.oneCell' = true) (hp : ad.spot = none) (hb : n ≤ 100000) (hbase : base ≤ w.heap.size) :
    ∃ v' w', (Builtin.append_ #[t, t] ty #[v, .slice (some ad) 1 c]).run Try.prog w = .ok v' w' ∧ w'.ownsRow base e 1 v' (n + 1) (xs ++ [x]) ∧ Below base w w' := by
  obtain ⟨hu, hi, hz, hnb⟩ := hE
  obtain ⟨i0, hi0, hz0, hz1, hz2⟩ := info_parts hi
  obtain ⟨v', w', h1, h2, h3, _⟩ := run_append_own (P := Try.prog) w base t ty e i0 z 1 nb hu hi0 hz0 hz1 hz2 hz (by decide) v n xs hown ad 1 c [x] rfl (fun j u hj => by
      match j, hj with
      | 0, hj =>
        simp at hj
        subst hj
        have e0 : ad.add 0 = ad := by cases ad; simp only at hp; subst hp; rfl
        rw [e0]; exact hx
      | j + 1, hj => simp at hj) (by simpa using h1)
      (by unfold maxLen; omega) (by have : (n + 1) * nb ≤ 100001 * 16 := Nat.mul_le_mul (by omega) hnb
                                    omega) hbase
  exact ⟨v', w', h1, h2, (Below.refl base w).grown h3 hbase (fun k hk => (hown.lt k hk).1)⟩

section
variable {ops : Array Oper} {rest : List Oper} {o : Oper} {a : Act} {w : World} {K : Act → World → Prop} {Q : Exit → Act → World → Prop} {E : Prop}

/-- 'append(dst, x)', as one operation of the walk. -/
theorem wp_append_one {t e : TypeId} {z : Value} {nb : Nat} (hE : Elem t e z nb) (hgd : o.guard = none) (s y : Operand) (ho : o.op = .call { callee := .builtin .append, args := #[s, y], argTypes := #[t, t] })
    (base n : Nat) (v : Value) (xs : List Value) (hs : a.eval s = v) (hown : w.ownsRow base e 1 v n xs) (ad : Addr) (c : Nat) (x : Value) (hy : a.eval y = .slice (some ad) 1 c)
    (hx : w.cell? ad = some x) (h1 : x.oneCell' = true) (hp : ad.spot = none) (hb : n ≤ 100000) (hbase : base ≤ w.heap.size)
    (h : ∀ v' w', w'.ownsRow base e 1 v' (n + 1) (xs ++ [x]) → Below base w w' → wpList Try.prog ops Q rest (a.put o.dst v') w') : wpList Try.prog ops Q (o :: rest) a w := by
  obtain ⟨v', w', hrun, h2, h3⟩ := run_append_one hE w o.type base n v xs hown ad c x hx h1 hp hb hbase
  refine wpList_plain hgd fun K hK => ?_
  unfold Oper.wp
  simp [execOp, ho, resolve, invoke, builtin, hs, hy, hrun, Result.andThen]
  exact hK _ _ (h v' w' h2 h3)

/-- The same, as one step of a statement that draws its order. -/
theorem step_append_one {t e : TypeId} {z : Value} {nb : Nat} (hE : Elem t e z nb) (hgd : o.guard = none) (s y : Operand) (ho : o.op = Op.call { callee := Callee.builtin Builtin.append, args := #[s, y], argTypes := #[t, t] })
    (base n : Nat) (v : Value) (xs : List Value) (hs : a.eval s = v) (hown : w.ownsRow base e 1 v n xs) (ad : Addr) (c : Nat) (x : Value) (hy : a.eval y = .slice (some ad) 1 c)
    (hx : w.cell? ad = some x) (h1 : x.oneCell' = true) (hp : ad.spot = none) (hb : n ≤ 100000) (hbase : base ≤ w.heap.size)
    (hK : ∀ v' w', w'.ownsRow base e 1 v' (n + 1) (xs ++ [x]) → Below base w w' → K (a.put o.dst v') w') :
    if Region.wanted o (yielded ops a.tmps) = true then Oper.wp Try.prog o a w K Q else E := by
  have hw : Region.wanted o (yielded ops a.tmps) = true := by simp [Region.wanted, hgd]
  rw [if_pos hw]
  obtain ⟨v', w', hrun, h2, h3⟩ := run_append_one hE w o.type base n v xs hown ad c x hx h1 hp hb hbase
  unfold Oper.wp
  simp [execOp, ho, resolve, invoke, builtin, hs, hy, hrun, Result.andThen]
  exact hK v' w' h2 h3
end

/-- 'append(dst, x)', told with what other blocks keep. -/
theorem wp_append_one_g {ops : Array Oper} {rest : List Oper} {o : Oper} {a : Act} {w : World} {Q : Exit → Act → World → Prop} {t e : TypeId} {z : Value} {nb : Nat} (hE : Elem t e z nb) (hgd : o.guard = none) (s y : Operand) (ho : o.op = .call { callee := .builtin .append, args := #[s, y], argTypes := #[t, t] })
    (base n : Nat) (v : Value) (xs : List Value) (hs : a.eval s = v) (hown : w.ownsRow base e 1 v n xs) (ad : Addr) (c : Nat) (x : Value) (hy : a.eval y = .slice (some ad) 1 c)
    (hx : w.cell? ad = some x) (h1 : x.oneCell' = true) (hp : ad.spot = none) (hb : n ≤ 100000) (hbase : base ≤ w.heap.size)
    (h : ∀ v' w', w'.ownsRow base e 1 v' (n + 1) (xs ++ [x]) → w.grownBy w' v.ownBlock → wpList Try.prog ops Q rest (a.put o.dst v') w') : wpList Try.prog ops Q (o :: rest) a w := by
  obtain ⟨hu, hi, hz, hnb⟩ := hE
  obtain ⟨i0, hi0, hz0, hz1, hz2⟩ := info_parts hi
  obtain ⟨v', w', hrun, h2, h3, _⟩ := run_append_own (P := Try.prog) w base t o.type e i0 z 1 nb hu hi0 hz0 hz1 hz2 hz (by decide) v n xs hown ad 1 c [x] rfl (fun j u hj => by
      match j, hj with
      | 0, hj =>
        simp at hj
        subst hj
        have e0 : ad.add 0 = ad := by cases ad; simp only at hp; subst hp; rfl
        rw [e0]; exact hx
      | j + 1, hj => simp at hj) (by simpa using h1)
      (by unfold maxLen; omega) (by have : (n + 1) * nb ≤ 100001 * 16 := Nat.mul_le_mul (by omega) hnb
                                    omega) hbase
  refine wpList_plain hgd fun K hK => ?_
  unfold Oper.wp
  simp [execOp, ho, resolve, invoke, builtin, hs, hy, hrun, Result.andThen]
  exact hK _ _ (h v' w' h2 h3)

theorem owns_later {w w' : World} {base n : Nat} {e : TypeId} {v : Value} {xs : List Value} (h : w.ownsRow base e 1 v n xs) (hb : Below w.heap.size w w') : w'.ownsRow base e 1 v n xs :=
  h.kept (row := none) ⟨hb.os, hb.tape, hb.output, hb.size, fun k hk _ => hb.block k hk⟩ (by cases v.ownBlock <;> simp)

/-- Two rows of elements of two types lie in two blocks. -/
theorem owns_ne {w : World} {b1 n1 b2 n2 : Nat} {e1 e2 : TypeId} {v1 v2 : Value} {x1 x2 : List Value} (h1 : w.ownsRow b1 e1 1 v1 n1 x1) (h2 : w.ownsRow b2 e2 1 v2 n2 x2) (he : e1 ≠ e2) : v1.ownBlock = none ∨ v1.ownBlock ≠ v2.ownBlock := by
  rcases h1.2 with ⟨rfl, _⟩ | ⟨g1, c1, u1, rfl, _, hg1, _⟩
  · exact Or.inl rfl
  · refine Or.inr ?_
    rcases h2.2 with ⟨rfl, _⟩ | ⟨g2, c2, u2, rfl, _, hg2, _⟩
    · simp [Value.ownBlock]
    · intro e
      simp [Value.ownBlock] at e
      subst e
      rw [hg1] at hg2
      simp at hg2
      exact he hg2.2

theorem below_grown {base : Nat} {w0 w w' : World} {row : Option Nat} (hb : Below base w0 w) (hg : w.grownBy w' row) (hsz : base ≤ w.heap.size) (hr : ∀ k, row = some k → base ≤ k) : Below base w0 w' :=
  hb.grown hg hsz hr

/-- 'make([]T, n)'. -/
theorem run_make_vals {t e : TypeId} {z : Value} {nb : Nat} (hE : Elem t e z nb) (w : World) (n : Nat) (hn : n ≤ 100000) : (Instr.makeSlice t (.int .i64 (n : Int)) (.int .i64 (n : Int))).run Try.prog w =
    .ok (.slice (some ⟨w.heap.size, 0, none⟩) n n) (w.alloc (.cells (madeCells z.cells n) e)) := by
  obtain ⟨hu, hi, hz, hnb⟩ := hE
  obtain ⟨i0, hi0, hz0, hz1, hz2⟩ := info_parts hi
  have h := run_make (P := Try.prog) w t e i0 z hu hi0 hz0 .i64 .i64 (n : Int) (n : Int) (by omega) (Int.le_refl _) (by
    rw [hz2]
    have : (nb : Int) * (n : Int) ≤ 16 * 100000 := Int.mul_le_mul (by omega) (by omega) (by omega) (by omega)
    omega) (by omega)
  simpa [hz1] using h

theorem one_cell_new (w : World) (x : Value) (t : TypeId) : (w.alloc (.cells #[x] t)).cell? ⟨w.heap.size, 0, none⟩ = some x := by
  rw [World.cell?_alloc_new]
  rfl

end Go.Proofs.Ytpmggbdmoopkfaa
