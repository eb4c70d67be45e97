/-
  Proved here: what 'append' of one element of any number of cells does to a slice of the call's own; lists of writes that a law makes itself, their data of 64 zeros.
  The conditions stand at each theorem.
-/
import Derived.Test.YtinlbmlgfneolaaDisk
import Derived.Test.YtinlbmlgfneolaaCopy
namespace Go.Proofs.Ytinlbmlgfneolaa
open Go.RowKit

/-- What the program says of an element's type: its zero value; so many cells; so many bytes. -/
def ElemK (t e : TypeId) (z : Value) (sz nb : Nat) : Prop :=
  Try.prog.underlying t = some (.slice e) ∧ (Try.prog.info? e).map (fun i => (i.zero, i.size, i.bytes)) = some (some z, sz, nb) ∧ z.cells.size = sz ∧ 0 < sz ∧ nb ≤ 64

section
variable {ops : Array Oper} {rest : List Oper} {o : Oper} {a : Act} {w : World} {Q : Exit → Act → World → Prop}

/-- 'append(dst, x)' of an element of some cells, told with what other blocks keep. -/
theorem wp_append_k {t e : TypeId} {z : Value} {sz nb : Nat} (hE : ElemK t e z sz nb) (hgd : o.guard = none) (s y : Operand) (ho : o.op = .call { callee := .builtin .append, args := #[s, y], argTypes := #[t, t] })
    (base n : Nat) (v : Value) (xs : List Value) (hs : a.eval s = v) (hown : w.ownsRow base e sz v n xs) (ad : Addr) (c : Nat) (news : List Value) (hl : news.length = sz) (hy : a.eval y = .slice (some ad) 1 c)
    (hx : ∀ j u, news[j]? = some u → w.cell? (ad.add j) = some u) (h1 : ∀ u ∈ news, u.oneCell' = true) (hb : n ≤ 100000) (hbase : base ≤ w.heap.size)
    (h : ∀ v' w', w'.ownsRow base e sz v' (n + 1) (xs ++ news) → w.grownBy w' v.ownBlock → wpList Try.prog ops Q rest (a.put o.dst v') w') : wpList Try.prog ops Q (o :: rest) a w := by
  obtain ⟨hu, hi, hz, hp, hnb⟩ := hE
  obtain ⟨i0, hi0, hz0, hz1, hz2⟩ := info_parts hi
  obtain ⟨v', w', hrun, h2, h3, _⟩ := run_append_own (P := Try.prog) w base t o.type e i0 z sz nb hu hi0 hz0 hz1 hz2 hz hp v n xs hown ad 1 c news (by rw [hl, Nat.one_mul]) hx h1
      (by unfold maxLen; omega) (by have : (n + 1) * nb ≤ 100001 * 64 := Nat.mul_le_mul (by omega) hnb
                                    omega) hbase
  refine wpList_plain hgd fun K hK => ?_
  unfold Oper.wp
  simp [execOp, ho, resolve, invoke, builtin, hs, hy, hrun, Result.andThen]
  exact hK _ _ (h v' w' h2 h3)
end

theorem elemWrite : ElemK 30 54 (.agg #[.int .i64 0, .slice none 0 0]) 2 32 := ⟨Try.underlying30, by kernel_rfl, rfl, by decide, by decide⟩

theorem two_cells_new (w : World) (x y : Value) (T : TypeId) : ∀ (j : Nat) (u : Value), [x, y][j]? = some u → (w.alloc (.cells #[x, y] T)).cell? ((⟨w.heap.size, 0, none⟩ : Addr).add j) = some u := by
  intro j u hj
  rw [Go.WideShapes.add_plain]
  match j, hj with
  | 0, hj => simp at hj; subst hj; simp
  | 1, hj => simp at hj; subst hj; simp
  | j + 2, hj => simp at hj

/-- 64 zeros in a block of their own. -/
def zeroObj : Obj := .cells (madeCells #[.int .u8 0] 64) 5

theorem zero_arg {w : World} {g : Nat} (h : w.heap[g]? = some zeroObj) : Arg w (some ⟨g, 0, none⟩) 64 64 zeros64 := by
  refine ⟨⟨rfl, by decide, by decide, Or.inr ⟨g, 0, rfl, fun j hj => ?_⟩⟩, (fun h => by cases h), Nat.le_refl _, by decide⟩
  have hc : w.cell? ⟨g, 0 + j, none⟩ = (madeCells #[Value.int .u8 0] 64)[0 + j]? := by
    unfold World.cell?
    rw [h]
    rfl
  rw [hc, Nat.zero_add, made_cell 64 j hj]
  unfold zeros64
  rw [List.getD_eq_getElem?_getD, List.getElem?_replicate, if_pos hj]
  rfl

theorem heap_alloc_keep {w : World} {g : Nat} {x : Obj} (h : w.heap[g]? = some x) (o : Obj) : (w.alloc o).heap[g]? = some x := by
  have hlt : g < w.heap.size := by
    rcases Nat.lt_or_ge g w.heap.size with h' | h'
    · exact h'
    · rw [Array.getElem?_eq_none h'] at h; cases h
  rw [Below.heap_alloc w o g hlt]
  exact h

theorem heap_alloc2 (w : World) (x o : Obj) : ((w.alloc x).alloc o).heap[w.heap.size]? = some x :=
  heap_alloc_keep (heap_alloc_new w x) o

/-- A list of j writes at the blocks 0 to j - 1, each of 64 zeros, in memory of the call's own. -/
def ZL (base : Nat) (vv : Value) (j : Nat) (wr : World) : Prop :=
  ∃ xs, wr.ownsRow base 54 2 vv j xs ∧ ∀ i, i < j → ∃ g, xs[2 * i]? = some (.int .i64 (i : Int)) ∧ xs[2 * i + 1]? = some (.slice (some ⟨g, 0, none⟩) 64 64) ∧ base ≤ g ∧ wr.heap[g]? = some zeroObj

theorem ZL.more {base j : Nat} {vv v' : Value} {wr w' : World} {xs : List Value} {g : Nat} (hn : base ≤ g) (h : ∀ i, i < j → ∃ g, xs[2 * i]? = some (.int .i64 (i : Int)) ∧ xs[2 * i + 1]? = some (.slice (some ⟨g, 0, none⟩) 64 64) ∧ base ≤ g ∧ wr.heap[g]? = some zeroObj)
    (ho : wr.ownsRow base 54 2 vv j xs) (hz : wr.heap[g]? = some zeroObj) (hown : w'.ownsRow base 54 2 v' (j + 1) (xs ++ [.int .i64 (j : Int), .slice (some ⟨g, 0, none⟩) 64 64])) (hg : wr.grownBy w' vv.ownBlock) : ZL base v' (j + 1) w' := by
  have hl : xs.length = 2 * j := by have := ho.1; omega
  have keep : ∀ g, wr.heap[g]? = some zeroObj → w'.heap[g]? = some zeroObj := fun g hgz => by
    have hlt : g < wr.heap.size := by
      rcases Nat.lt_or_ge g wr.heap.size with h | h
      · exact h
      · rw [Array.getElem?_eq_none h] at hgz; cases hgz
    rw [hg.block g hlt ?_]
    · exact hgz
    · rcases ho.2 with ⟨rfl, _⟩ | ⟨g', cap, cur, rfl, _, hh, _⟩
      · simp [Value.ownBlock]
      · intro e
        simp [Value.ownBlock] at e
        subst e
        rw [hh] at hgz
        unfold zeroObj at hgz
        simp at hgz
  refine ⟨_, hown, fun i hi => ?_⟩
  by_cases e : i = j
  · subst e
    refine ⟨g, ?_, ?_, hn, keep g hz⟩
    · rw [List.getElem?_append_right (by omega), show 2 * i - xs.length = 0 by omega]; rfl
    · rw [List.getElem?_append_right (by omega), show 2 * i + 1 - xs.length = 1 by omega]; rfl
  · obtain ⟨g', h1, h2, h3, h4⟩ := h i (by omega)
    exact ⟨g', by rw [List.getElem?_append_left (by omega)]; exact h1, by rw [List.getElem?_append_left (by omega)]; exact h2, h3, keep g' h4⟩

def zeroWrites (j : Nat) : List (Int × List Int) := (List.range j).map fun i : Nat => ((i : Int), zeros64)

theorem ZL.list {base j : Nat} {vv : Value} {wr : World} (h : ZL base vv j wr) (hj : j ≤ 100) : ∃ ao cap, vv = .slice ao j cap ∧ ListIs wr (fun k => base ≤ k) ao j (zeroWrites j) := by
  obtain ⟨xs, ho, hx⟩ := h
  have hl : (zeroWrites j).length = j := by unfold zeroWrites; simp
  rcases ho.2 with ⟨rfl, h0⟩ | ⟨g, cap, cur, hv, hb, _⟩
  · exact ⟨none, 0, by rw [h0], hl, by omega, Or.inl h0⟩
  · refine ⟨_, cap, hv, hl, by omega, Or.inr ⟨g, 0, rfl, hb, fun i a zs hi => ?_⟩⟩
    unfold zeroWrites at hi
    rw [List.getElem?_map] at hi
    have hij : i < j := by
      rcases Nat.lt_or_ge i j with h | h
      · exact h
      · rw [List.getElem?_eq_none (by simpa using h)] at hi; cases hi
    rw [List.getElem?_range hij] at hi
    simp at hi
    obtain ⟨rfl, rfl⟩ := hi
    obtain ⟨g', h1, h2, h3, h4⟩ := hx i hij
    rw [hv] at ho
    have c1 := ho.cells rfl (2 * i) _ h1
    have c2 := ho.cells rfl (2 * i + 1) _ h2
    rw [Go.WideShapes.add_plain] at c1 c2
    refine ⟨c1, by omega, _, _, _, c2, zero_arg h4, fun b' o s e => by cases e; exact h3⟩

theorem zero_put {s : DM} {k : Nat} (h0 : s.off = false) (hk : k ≤ s.n) : putRes s (zeroWrites k) = putAll s (zeroWrites k) := by
  have h1 : badLen (zeroWrites k) = false := by
    unfold badLen
    rw [List.any_eq_false]
    intro p hp
    unfold zeroWrites at hp
    obtain ⟨i, _, rfl⟩ := List.mem_map.1 hp
    simp [zeros64]
  have h2 : badAt s.n (zeroWrites k) = false := by
    unfold badAt
    rw [List.any_eq_false]
    intro p hp
    unfold zeroWrites at hp
    obtain ⟨i, hi, rfl⟩ := List.mem_map.1 hp
    have := List.mem_range.1 hi
    simp
    omega
  unfold putRes
  rw [if_neg (by rw [h0]; decide), if_neg (by rw [h1]; decide), if_neg (by rw [h2]; decide)]

theorem zero_length (k : Nat) : (zeroWrites k).length = k := by unfold zeroWrites; simp

end Go.Proofs.Ytinlbmlgfneolaa
