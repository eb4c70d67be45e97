/-
  Proved here: slices of numbers: given ones, new ones, ones of the call's own; what 'append' and 'copy' do to them; rows of elements of any number of cells; whether an array of numbers is all 0.
  The conditions stand at each theorem.
-/
import Derived.Test.YtpmggbdmoopkfaaVals
import Derived.Test.YtpmggbdmoopkfaaCopy
import Derived.Deep.MidRow
import Derived.ChangeKeysEq
namespace Go.Proofs.Ytpmggbdmoopkfaa
open Go.RowKit
set_option linter.unusedVariables false
set_option linter.unusedSimpArgs false

def ints (l : List Int) : List Value := l.map (Value.int .i64)
theorem ints_length (l : List Int) : (ints l).length = l.length := by unfold ints; simp
theorem ints_get {l : List Int} {i : Nat} {x : Int} (h : l[i]? = some x) : (ints l)[i]? = some (.int .i64 x) := by unfold ints; rw [List.getElem?_map, h]; rfl
theorem ints_inv {l : List Int} {i : Nat} {v : Value} (h : (ints l)[i]? = some v) : ∃ x, l[i]? = some x ∧ v = .int .i64 x := by
  unfold ints at h
  rw [List.getElem?_map] at h
  cases hx : l[i]? with
  | none => rw [hx] at h; cases h
  | some x => rw [hx] at h; cases h; exact ⟨x, rfl, rfl⟩
theorem ints_one (l : List Int) : ∀ u ∈ ints l, u.oneCell' = true := by
  intro u hu
  unfold ints at hu
  obtain ⟨x, _, rfl⟩ := List.mem_map.1 hu
  rfl
theorem ints_append (a b : List Int) : ints (a ++ b) = ints a ++ ints b := by unfold ints; simp
theorem ints_set (l : List Int) (i : Nat) (x : Int) : ints (l.set i x) = (ints l).set i (.int .i64 x) := by unfold ints; rw [List.map_set]
theorem ints_take (l : List Int) (k : Nat) : ints (l.take k) = (ints l).take k := by unfold ints; rw [List.map_take]
theorem ints_drop (l : List Int) (k : Nat) : ints (l.drop k) = (ints l).drop k := by unfold ints; rw [List.map_drop]

def I64 (z : Int) : Prop := -9223372036854775808 ≤ z ∧ z ≤ 9223372036854775807

/-- A slice of numbers as a call is handed it. -/
def IArg (w : World) (ao : Option Addr) (len cap : Nat) (zs : List Int) : Prop :=
  Vals w ao len (ints zs) ∧ (∀ z ∈ zs, I64 z) ∧ (ao = none → len = 0 ∧ cap = 0) ∧ len ≤ cap

theorem IArg.len {w : World} {ao : Option Addr} {len cap : Nat} {zs : List Int} (h : IArg w ao len cap zs) : zs.length = len := by have := h.1.1; rwa [ints_length] at this
theorem IArg.big {w : World} {ao : Option Addr} {len cap : Nat} {zs : List Int} (h : IArg w ao len cap zs) : len ≤ 140737488351232 := h.1.2.1
theorem IArg.later {w wx : World} {ao : Option Addr} {len cap : Nat} {zs : List Int} (h : IArg w ao len cap zs) (hb : Below w.heap.size w wx) : IArg wx ao len cap zs := ⟨h.1.later hb, h.2⟩
theorem IArg.drew {w : World} {ao : Option Addr} {len cap : Nat} {zs : List Int} (h : IArg w ao len cap zs) : IArg w.drew ao len cap zs := h.later (Below.refl _ _).drew
theorem IArg.nil (w : World) : IArg w none 0 0 [] := ⟨⟨rfl, by decide, Or.inl rfl⟩, by simp, fun _ => ⟨rfl, rfl⟩, Nat.le_refl _⟩

theorem IArg.at {w : World} {ao : Option Addr} {len cap i : Nat} {zs : List Int} (h : IArg w ao len cap zs) (hi : i < len) :
    ∃ b off x, ao = some ⟨b, off, none⟩ ∧ zs[i]? = some x ∧ w.cell? ⟨b, off + i, none⟩ = some (.int .i64 x) ∧ I64 x := by
  obtain ⟨b, off, rfl, hc⟩ := h.1.2.2.resolve_left (by omega)
  have hx : zs[i]? = some (zs[i]'(by rw [h.len]; exact hi)) := List.getElem?_eq_getElem (by rw [h.len]; exact hi)
  exact ⟨b, off, _, rfl, hx, hc i _ (ints_get hx), h.2.1 _ (List.getElem_mem _)⟩

theorem IArg.news {w : World} {ad : Addr} {len cap : Nat} {zs : List Int} (h : IArg w (some ad) len cap zs) : ∀ j u, (ints zs)[j]? = some u → w.cell? (ad.add j) = some u := by
  intro j u hu
  have hj := (List.getElem?_eq_some_iff.1 hu).1
  rw [ints_length, h.len] at hj
  obtain ⟨b, off, he, hc⟩ := h.1.2.2.resolve_left (by omega)
  cases he
  rw [Go.WideShapes.add_plain]
  exact hc j u hu

theorem IArg.take {w : World} {b off len cap k : Nat} {zs : List Int} (h : IArg w (some ⟨b, off, none⟩) len cap zs) (hk : k ≤ len) : IArg w (some ⟨b, off, none⟩) k cap (zs.take k) := by
  have hl := h.len
  have hb := h.big
  have hc := h.2.2.2
  refine ⟨⟨by rw [ints_length, List.length_take]; omega, by omega, ?_⟩, fun z hz => h.2.1 z (List.mem_of_mem_take hz), (fun e => by cases e), by omega⟩
  by_cases h0 : k = 0
  · exact Or.inl h0
  · obtain ⟨b', o', he, hc⟩ := h.1.2.2.resolve_left (by omega)
    refine Or.inr ⟨b', o', he, fun j x hj => hc j x ?_⟩
    rw [ints_take] at hj
    rw [List.getElem?_take] at hj
    split at hj
    · exact hj
    · cases hj

theorem IArg.drop {w : World} {b off len cap k : Nat} {zs : List Int} (h : IArg w (some ⟨b, off, none⟩) len cap zs) (hk : k ≤ len) : IArg w (some ⟨b, off + k, none⟩) (len - k) (cap - k) (zs.drop k) := by
  have hl := h.len
  have hb := h.big
  have hc := h.2.2.2
  refine ⟨⟨by rw [ints_length, List.length_drop]; omega, by omega, ?_⟩, fun z hz => h.2.1 z (List.mem_of_mem_drop hz), (fun e => by cases e), by omega⟩
  by_cases h0 : len - k = 0
  · exact Or.inl h0
  · obtain ⟨b', o', he, hc⟩ := h.1.2.2.resolve_left (by omega)
    simp only [Option.some.injEq, Addr.mk.injEq, and_true] at he
    obtain ⟨rfl, rfl⟩ := he
    refine Or.inr ⟨b, off + k, rfl, fun j x hj => ?_⟩
    rw [ints_drop, List.getElem?_drop] at hj
    rw [Nat.add_assoc]
    exact hc _ x hj

theorem vals_range {w : World} {b off len : Nat} {xs : List Value} (h : Vals w (some ⟨b, off, none⟩) len xs) : w.rangeAt b off xs := by
  intro j v hj
  have hl := (List.getElem?_eq_some_iff.1 hj).1
  obtain ⟨b', o', he, hc⟩ := h.2.2.resolve_left (by have := h.1; omega)
  simp only [Option.some.injEq, Addr.mk.injEq, and_true] at he
  obtain ⟨rfl, rfl⟩ := he
  exact hc j v hj

/-- A slice of a block of numbers. -/
theorem iarg_of_range {w : World} {b off cap : Nat} {zs : List Int} (h : w.rangeAt b off (ints zs)) (hz : ∀ z ∈ zs, I64 z) (hl : zs.length ≤ 140737488351232) (hc : zs.length ≤ cap) : IArg w (some ⟨b, off, none⟩) zs.length cap zs :=
  ⟨⟨ints_length zs, hl, Or.inr ⟨b, off, rfl, h⟩⟩, hz, (fun e => by cases e), hc⟩

theorem elemI : Elem 22 3 (.int .i64 0) 8 := ⟨Try.underlying22, by kernel_rfl, rfl, by decide⟩

/-- A slice of numbers that a call hands back, in new memory (blocks from base on). -/
def FreshI (w : World) (base : Nat) (v : Value) (zs : List Int) : Prop :=
  ∃ ao cap, v = .slice ao zs.length cap ∧ IArg w ao zs.length cap zs ∧ (zs = [] ∨ ∃ g off, ao = some ⟨g, off, none⟩ ∧ base ≤ g)

theorem FreshI.later {w wx : World} {base : Nat} {v : Value} {zs : List Int} (h : FreshI w base v zs) (hb : Below w.heap.size w wx) : FreshI wx base v zs := by
  obtain ⟨ao, cap, h1, h2, h3⟩ := h
  exact ⟨ao, cap, h1, h2.later hb, h3⟩
theorem FreshI.mono {w : World} {base base' : Nat} {v : Value} {zs : List Int} (h : FreshI w base' v zs) (hb : base ≤ base') : FreshI w base v zs := by
  obtain ⟨ao, cap, h1, h2, h3⟩ := h
  exact ⟨ao, cap, h1, h2, h3.imp_right (fun ⟨g, off, e, hg⟩ => ⟨g, off, e, Nat.le_trans hb hg⟩)⟩
theorem FreshI.nil (w : World) (base : Nat) : FreshI w base (.slice none 0 0) [] := ⟨none, 0, rfl, IArg.nil w, Or.inl rfl⟩
theorem fresh_of_ints {w : World} {base n : Nat} {v : Value} {zs : List Int} (h : w.ownsRow base 3 1 v n (ints zs)) (hz : ∀ z ∈ zs, I64 z) (hn : n ≤ 140737488351232) : FreshI w base v zs := by
  have hl : zs.length = n := by have := h.1; rw [ints_length, Nat.mul_one] at this; exact this
  rcases h.2 with ⟨hv, h0⟩ | ⟨g, cap, cur, hv, hg, _, hc, _⟩
  · obtain rfl : zs = [] := List.length_eq_zero_iff.1 (by rw [hl, h0])
    rw [hv]
    exact FreshI.nil w base
  · rw [hv] at h
    refine ⟨_, cap, by rw [hl]; exact hv, ?_, Or.inr ⟨g, 0, rfl, hg⟩⟩
    refine iarg_of_range (fun j u hj => ?_) hz (by omega) (by omega)
    have := h.cells rfl j u hj
    rwa [Go.WideShapes.add_plain] at this

/-! ### Rows of elements of any number of cells -/

/-- What the program says of an element's type: its zero value; so many cells; so many bytes. -/
def ElemR (t e : TypeId) (z : Value) (sz nb : Nat) : Prop :=
  Try.prog.underlying t = some (.slice e) ∧ (Try.prog.info? e).map (fun i => (i.zero, i.size, i.bytes)) = some (some z, sz, nb) ∧ z.cells.size = sz ∧ 0 < sz ∧ nb ≤ 64

section
variable {ops : Array Oper} {rest : List Oper} {o : Oper} {a : Act} {w : World} {K : Act → World → Prop} {Q : Exit → Act → World → Prop} {E : Prop}

/-- 'append(dst, news...)' of elements of some cells. -/
theorem wp_append_r {t e : TypeId} {z : Value} {sz nb : Nat} (hE : ElemR t e z sz nb) (hgd : o.guard = none) (s y : Operand) (ho : o.op = .call { callee := .builtin .append, args := #[s, y], argTypes := #[t, t] })
    (base n : Nat) (v : Value) (xs : List Value) (hs : a.eval s = v) (hown : w.ownsRow base e sz v n xs) (ad : Addr) (m c : Nat) (news : List Value) (hl : news.length = m * sz) (hy : a.eval y = .slice (some ad) m c)
    (hx : ∀ j u, news[j]? = some u → w.cell? (ad.add j) = some u) (h1 : ∀ u ∈ news, u.oneCell' = true) (hb : n + m ≤ 100000) (hbase : base ≤ w.heap.size)
    (h : ∀ v' w', w'.ownsRow base e sz v' (n + m) (xs ++ news) → w.grownBy w' v.ownBlock → Below base w w' → wpList Try.prog ops Q rest (a.put o.dst v') w') : wpList Try.prog ops Q (o :: rest) a w := by
  obtain ⟨hu, hi, hz, hp, hnb⟩ := hE
  obtain ⟨i0, hi0, hz0, hz1, hz2⟩ := info_parts hi
  obtain ⟨v', w', hrun, h2, h3, _⟩ := run_append_own (P := Try.prog) w base t o.type e i0 z sz nb hu hi0 hz0 hz1 hz2 hz hp v n xs hown ad m c news hl hx h1
      (by unfold maxLen; omega) (by have : (n + m) * nb ≤ 100001 * 64 := Nat.mul_le_mul (by omega) hnb
                                    omega) hbase
  refine wpList_plain hgd fun K hK => ?_
  unfold Oper.wp
  simp [execOp, ho, resolve, invoke, builtin, hs, hy, hrun, Result.andThen]
  exact hK _ _ (h v' w' h2 h3 ((Below.refl base w).grown h3 hbase (fun k hk => (hown.lt k hk).1)))

/-- The same, as one step of a statement that draws its order. -/
theorem step_append_r {t e : TypeId} {z : Value} {sz nb : Nat} (hE : ElemR t e z sz nb) (hgd : o.guard = none) (s y : Operand) (ho : o.op = Op.call { callee := Callee.builtin Builtin.append, args := #[s, y], argTypes := #[t, t] })
    (base n : Nat) (v : Value) (xs : List Value) (hs : a.eval s = v) (hown : w.ownsRow base e sz v n xs) (ad : Addr) (m c : Nat) (news : List Value) (hl : news.length = m * sz) (hy : a.eval y = .slice (some ad) m c)
    (hx : ∀ j u, news[j]? = some u → w.cell? (ad.add j) = some u) (h1 : ∀ u ∈ news, u.oneCell' = true) (hb : n + m ≤ 100000) (hbase : base ≤ w.heap.size)
    (hK : ∀ v' w', w'.ownsRow base e sz v' (n + m) (xs ++ news) → w.grownBy w' v.ownBlock → Below base w w' → K (a.put o.dst v') w') :
    if Region.wanted o (yielded ops a.tmps) = true then Oper.wp Try.prog o a w K Q else E := by
  have hw : Region.wanted o (yielded ops a.tmps) = true := by simp [Region.wanted, hgd]
  rw [if_pos hw]
  obtain ⟨hu, hi, hz, hp, hnb⟩ := hE
  obtain ⟨i0, hi0, hz0, hz1, hz2⟩ := info_parts hi
  obtain ⟨v', w', hrun, h2, h3, _⟩ := run_append_own (P := Try.prog) w base t o.type e i0 z sz nb hu hi0 hz0 hz1 hz2 hz hp v n xs hown ad m c news hl hx h1
      (by unfold maxLen; omega) (by have : (n + m) * nb ≤ 100001 * 64 := Nat.mul_le_mul (by omega) hnb
                                    omega) hbase
  unfold Oper.wp
  simp [execOp, ho, resolve, invoke, builtin, hs, hy, hrun, Result.andThen]
  exact hK _ _ h2 h3 ((Below.refl base w).grown h3 hbase (fun k hk => (hown.lt k hk).1))

/-- 'append(dst, nil...)'. -/
theorem wp_append_nothing {t e : TypeId} {z : Value} {sz nb : Nat} (hE : ElemR t e z sz nb) (hgd : o.guard = none) (s y : Operand) (ho : o.op = .call { callee := .builtin .append, args := #[s, y], argTypes := #[t, t] })
    (base n : Nat) (v : Value) (xs : List Value) (hs : a.eval s = v) (hown : w.ownsRow base e sz v n xs) (hy : a.eval y = .slice none 0 0)
    (h : wpList Try.prog ops Q rest (a.put o.dst v) w) : wpList Try.prog ops Q (o :: rest) a w := by
  obtain ⟨hu, hi, hz, hp, hnb⟩ := hE
  obtain ⟨i0, hi0, hz0, hz1, hz2⟩ := info_parts hi
  have hrun := run_append_owned_none (P := Try.prog) (w := w) base t o.type e i0 sz hu hi0 v n xs hown
  refine wpList_plain hgd fun K hK => ?_
  unfold Oper.wp
  simp [execOp, ho, resolve, invoke, builtin, hs, hy, hrun, Result.andThen]
  exact hK _ _ h
end

theorem news_r (w : World) (L : List Value) (T : TypeId) : ∀ (j : Nat) (u : Value), L[j]? = some u → (w.alloc (.cells L.toArray T)).cell? ((⟨w.heap.size, 0, none⟩ : Addr).add j) = some u := by
  intro j u hj
  rw [Go.WideShapes.add_plain, Nat.zero_add, World.cell?_alloc_new]
  simpa using hj

theorem owns_nil_r (w : World) (base : Nat) (e : TypeId) (sz : Nat) : w.ownsRow base e sz (.slice none 0 0) 0 [] := ⟨by simp, Or.inl ⟨rfl, rfl⟩⟩
theorem owns_mono_r {w : World} {base base' n sz : Nat} {e : TypeId} {v : Value} {xs : List Value} (h : w.ownsRow base' e sz v n xs) (hb : base ≤ base') : w.ownsRow base e sz v n xs := by
  refine ⟨h.1, h.2.imp_right ?_⟩
  rintro ⟨g, cap, cur, h1, h2, h3⟩
  exact ⟨g, cap, cur, h1, Nat.le_trans hb h2, h3⟩
theorem owns_later_r {w w' : World} {base n sz : Nat} {e : TypeId} {v : Value} {xs : List Value} (h : w.ownsRow base e sz v n xs) (hb : Below w.heap.size w w') : w'.ownsRow base e sz v n xs :=
  h.kept (row := none) ⟨hb.os, hb.tape, hb.output, hb.size, fun k hk _ => hb.block k hk⟩ (by cases v.ownBlock <;> simp)
theorem owns_shape_r {w : World} {base n sz : Nat} {e : TypeId} {v : Value} {xs : List Value} (h : w.ownsRow base e sz v n xs) : ∃ ao cap, v = .slice ao n cap := by
  rcases h.2 with ⟨h, h0⟩ | ⟨g, cap, cur, h, _⟩
  · exact ⟨none, 0, by rw [h, h0]⟩
  · exact ⟨_, cap, h⟩

theorem elemIR : ElemR 22 3 (.int .i64 0) 1 8 := ⟨Try.underlying22, by kernel_rfl, rfl, by decide, by decide⟩

theorem below_cells {B : Nat} {w0 : World} (b : Nat) (hB : B ≤ b) : ∀ (vs : List Value) (o : Nat) (w : World), Below B w0 w → Below B w0 (w.setCells b o vs)
  | [], _, _, h => h
  | v :: r, o, w, h => by
    rw [World.setCells]
    exact below_cells b hB r (o + 1) _ (h.setCell (p := ⟨b, o, none⟩) hB v)

/-! ### Copying numbers -/

theorem OwnV.fillI {base g : Nat} {w0 : World} : ∀ (cs L : List Int) (off : Nat) (wr : World), OwnV base w0 g (ints L) wr → off + cs.length ≤ L.length → OwnV base w0 g (ints (lay L off cs)) (wr.setCells g off (ints cs))
  | [], _, _, _, h, _ => h
  | c :: r, L, off, wr, h, hl => by
    have hl' : off + (r.length + 1) ≤ L.length := hl
    have h2 := h.store (k := off) (y := .int .i64 c) (by rw [ints_length]; omega)
    rw [← ints_set] at h2
    exact OwnV.fillI r (L.set off c) (off + 1) _ h2 (by rw [List.length_set]; omega)

theorem sizeI : (Try.prog.info? 3).map (·.size) = some 1 := by kernel_rfl

theorem own_range {base g : Nat} {w0 w : World} {xs : List Value} (h : OwnV base w0 g xs w) : w.rangeAt g 0 xs := fun j v hj => by rw [Nat.zero_add]; exact h.1 j v hj
theorem own_part {base g : Nat} {w0 w : World} {L : List Int} (h : OwnV base w0 g (ints L) w) (o n : Nat) : w.rangeAt g o (ints ((L.drop o).take n)) := fun j v hj => by
  rw [ints_take, ints_drop, List.getElem?_take] at hj
  split at hj
  · rw [List.getElem?_drop] at hj
    exact h.1 _ v hj
  · cases hj
theorem OwnV.drew {base g : Nat} {w0 wr : World} {xs : List Value} (h : OwnV base w0 g xs wr) : OwnV base w0 g xs wr.drew := ⟨fun j x hj => h.1 j x hj, fun j => h.2.1 j, h.2.2.1, h.2.2.2.drew⟩

/-- Only block g was written. -/
def Keeps (g : Nat) (w w' : World) : Prop := w'.heap.size = w.heap.size ∧ ∀ k, k ≠ g → w'.heap[k]? = w.heap[k]?
theorem Keeps.refl (g : Nat) (w : World) : Keeps g w w := ⟨rfl, fun _ _ => rfl⟩
theorem Keeps.trans {g : Nat} {a b c : World} (h : Keeps g a b) (k : Keeps g b c) : Keeps g a c := ⟨k.1.trans h.1, fun i hi => (k.2 i hi).trans (h.2 i hi)⟩
theorem Keeps.set (w : World) (p : Addr) (u : Value) : Keeps p.block w (w.setCell p u) := ⟨by simp, fun k hk => Below.heap_setCell w p u k hk⟩
theorem Keeps.sets (g : Nat) : ∀ (vs : List Value) (o : Nat) (w : World), Keeps g w (w.setCells g o vs)
  | [], _, w => Keeps.refl g w
  | v :: r, o, w => (Keeps.set w ⟨g, o, none⟩ v).trans (Keeps.sets g r (o + 1) _)
theorem Keeps.cell {g : Nat} {w w' : World} (h : Keeps g w w') {p : Addr} (hp : p.block ≠ g) : w'.cell? p = w.cell? p := World.cell?_of_block (w := w) (h.2 p.block hp)
theorem Keeps.drew {g : Nat} {w w' : World} (h : Keeps g w w') : Keeps g w w'.drew := h
theorem Keeps.iarg {g : Nat} {w w' : World} (h : Keeps g w w') {b off len cap : Nat} {zs : List Int} (hA : IArg w (some ⟨b, off, none⟩) len cap zs) (hb : b ≠ g) : IArg w' (some ⟨b, off, none⟩) len cap zs := by
  refine ⟨⟨hA.1.1, hA.1.2.1, ?_⟩, hA.2⟩
  rcases hA.1.2.2 with h0 | ⟨b', o', he, hc⟩
  · exact Or.inl h0
  · simp only [Option.some.injEq, Addr.mk.injEq, and_true] at he
    obtain ⟨rfl, rfl⟩ := he
    exact Or.inr ⟨b, off, rfl, fun j x hj => by rw [h.cell (p := ⟨b, off + j, none⟩) hb]; exact hc j x hj⟩

theorem own_copy_ints {base g off len cap : Nat} {w0 w : World} {L : List Int} (hO : OwnV base w0 g (ints L) w) (hfit : off + len ≤ L.length) (ao : Option Addr) (m c : Nat) (zs : List Int) (hA : IArg w ao m c zs) (ty : TypeId) :
    ∃ v' w', (Builtin.copy_ #[22, 22] ty #[.slice (some ⟨g, off, none⟩) len cap, .slice ao m c]).run Try.prog w = .ok v' w' ∧ v' = .int .i64 ((min m len : Nat) : Int) ∧ OwnV base w0 g (ints (lay L off (zs.take len))) w' ∧ Keeps g w w' := by
  have hl := hA.len
  cases ao with
  | none =>
    obtain ⟨rfl, rfl⟩ := hA.2.2.1 rfl
    obtain rfl : zs = [] := List.length_eq_zero_iff.1 hl
    exact ⟨_, _, run_copy_none (P := Try.prog) w 22 22 ty 3 _ none len cap 0 0 Try.underlying22 sizeI (by simp), by rw [Nat.zero_min]; rfl, by rw [List.take_nil]; exact hO, Keeps.refl _ _⟩
  | some ad =>
    have hn := hA.news
    have hl2 : (ints (zs.take len)).length = min m len := by rw [ints_length, List.length_take, hl, Nat.min_comm]
    have hr := run_copy_cells (P := Try.prog) w 22 22 ty 3 g off len cap ad m c (ints (zs.take len)) Try.underlying22 sizeI (by rw [hl2])
      (fun j u hj => by
        rw [ints_take, List.getElem?_take] at hj
        split at hj
        · exact hn j u hj
        · cases hj)
      (fun j hj => by rw [hl2] at hj; rw [hO.1 (off + j) (.int .i64 (L.getD (off + j) 0)) (by rw [ints_get]; rw [List.getD_eq_getElem?_getD, List.getElem?_eq_getElem (show off + j < L.length by omega)]; rfl)]; rfl) (fun j _ => hO.2.1 _) (ints_one _)
    rw [hl2] at hr
    exact ⟨_, _, hr, rfl, hO.fillI (zs.take len) L off w (by rw [List.length_take]; omega), Keeps.sets _ _ _ _⟩

theorem lay_get : ∀ (cs L : List Int) (off j : Nat), off + cs.length ≤ L.length → (lay L off cs).getD j 0 = if off ≤ j ∧ j < off + cs.length then cs.getD (j - off) 0 else L.getD j 0
  | [], L, off, j, _ => by rw [if_neg (by simp only [List.length_nil]; omega)]; rfl
  | c :: r, L, off, j, h => by
    have h' : off + (r.length + 1) ≤ L.length := h
    rw [lay, lay_get r _ _ _ (by rw [List.length_set]; omega)]
    rw [List.length_cons]
    by_cases e : off = j
    · subst e
      rw [if_neg (by omega), if_pos (by omega), Nat.sub_self, List.getD_eq_getElem?_getD, List.getElem?_set_self (by omega)]
      rfl
    · by_cases h2 : off + 1 ≤ j ∧ j < off + 1 + r.length
      · rw [if_pos h2, if_pos (by omega), show j - off = (j - (off + 1)) + 1 by omega]
        rfl
      · rw [if_neg h2, if_neg (by omega), List.getD_eq_getElem?_getD, List.getElem?_set_ne e, ← List.getD_eq_getElem?_getD]

end Go.Proofs.Ytpmggbdmoopkfaa
