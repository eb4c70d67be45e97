/-
  Proved here: what the landed node's places answer: head, body.
  The conditions stand at each theorem.
-/
import Derived.Test.YtojfhhmjoledjaaNPtr
import Derived.Test.YtojfhhmjoledjaaCopy
namespace Go.Proofs.Ytojfhhmjoledjaa
open Go.RowKit
set_option linter.unusedVariables false
set_option linter.unusedSimpArgs false

/-- A place: where in half a block, in how many bytes, and which cell of the half's block it belongs to. -/
abbrev Pl := Int × Int × Nat

def placeV (g : Nat) (p : Pl) : List Value := [.int .i64 p.1, .int .i64 p.2.1, .pointer (some ⟨g, p.2.2, none⟩)]
def placesV (g : Nat) (ps : List Pl) : List Value := ps.flatMap (placeV g)

def headPs9 : List Pl := [(0, 1, 0), (1, 1, 1), (2, 2, 2), (4, 2, 3)]
def oldPs : List Pl := [(6, 2, 4), (8, 2, 5), (10, 2, 6), (12, 2, 7), (14, 2, 8), (16, 2, 9)]
def slotPs : List Pl := [(6, 1, 12), (7, 2, 13), (9, 1, 14), (10, 1, 15), (11, 2, 16), (13, 1, 17), (14, 1, 18), (15, 2, 19), (17, 1, 20)]
def newPs : List Pl := slotPs ++ [(18, 2, 11)]
def bodyPs (f : Int) : List Pl := if f = 1 then oldPs else if f = 2 then newPs else []

theorem placesV_length (g : Nat) (ps : List Pl) : (placesV g ps).length = ps.length * 3 := by
  unfold placesV
  induction ps with
  | nil => rfl
  | cons p r ih => rw [List.flatMap_cons, List.length_append, ih]; show 3 + _ = _; rw [List.length_cons]; omega

theorem placesV_append (g : Nat) (ps qs : List Pl) : placesV g (ps ++ qs) = placesV g ps ++ placesV g qs := by
  unfold placesV; rw [List.flatMap_append]

theorem placesV_at (g : Nat) : ∀ (ps : List Pl) (i : Nat) (p : Pl), ps[i]? = some p → (placesV g ps)[i * 3]? = some (.int .i64 p.1) ∧ (placesV g ps)[i * 3 + 1]? = some (.int .i64 p.2.1) ∧ (placesV g ps)[i * 3 + 2]? = some (.pointer (some ⟨g, p.2.2, none⟩))
  | [], i, p, h => by simp at h
  | q :: r, 0, p, h => by
    simp at h
    subst h
    exact ⟨rfl, rfl, rfl⟩
  | q :: r, i + 1, p, h => by
    have h' : r[i]? = some p := by simpa using h
    obtain ⟨h1, h2, h3⟩ := placesV_at g r i p h'
    have e : placesV g (q :: r) = placeV g q ++ placesV g r := rfl
    rw [e, show (i + 1) * 3 = 3 + i * 3 by omega]
    have l3 : (placeV g q).length = 3 := rfl
    refine ⟨?_, ?_, ?_⟩
    · rw [List.getElem?_append_right (by omega), l3, show 3 + i * 3 - 3 = i * 3 by omega]; exact h1
    · rw [List.getElem?_append_right (by omega), l3, show 3 + i * 3 + 1 - 3 = i * 3 + 1 by omega]; exact h2
    · rw [List.getElem?_append_right (by omega), l3, show 3 + i * 3 + 2 - 3 = i * 3 + 2 by omega]; exact h3

theorem placesV_one (g : Nat) (ps : List Pl) : ∀ u ∈ placesV g ps, u.oneCell' = true := by
  intro u hu
  unfold placesV at hu
  obtain ⟨p, _, hp⟩ := List.mem_flatMap.1 hu
  unfold placeV at hp
  simp at hp
  rcases hp with rfl | rfl | rfl <;> rfl

/-- A row of places of the call's own. -/
def Places (w : World) (base g : Nat) (v : Value) (ps : List Pl) : Prop := w.ownsRow base 63 3 v ps.length (placesV g ps)

/-- What the program says of an element's type: its zero value; so many cells; so many bytes. -/
def ElemK9 (t e : TypeId) (z : Value) (sz nb : Nat) : Prop :=
  Try.prog.underlying t = some (.slice e) ∧ (Try.prog.info? e).map (fun i => (i.zero, i.size, i.bytes)) = some (some z, sz, nb) ∧ z.cells.size = sz ∧ 0 < sz ∧ nb ≤ 64

section
variable {ops : Array Oper} {rest : List Oper} {o : Oper} {a : Act} {w : World} {Q : Exit → Act → World → Prop}

/-- 'append(dst, x..)' of elements of some cells, told with what other blocks keep. -/
theorem wp_append_ks {t e : TypeId} {z : Value} {sz nb : Nat} (hE : ElemK9 t e z sz nb) (hgd : o.guard = none) (s y : Operand) (ho : o.op = .call { callee := .builtin .append, args := #[s, y], argTypes := #[t, t] })
    (base n : Nat) (v : Value) (xs : List Value) (hs : a.eval s = v) (hown : w.ownsRow base e sz v n xs) (ad : Addr) (m c : Nat) (news : List Value) (hl : news.length = m * sz) (hy : a.eval y = .slice (some ad) m c)
    (hx : ∀ j u, news[j]? = some u → w.cell? (ad.add j) = some u) (h1 : ∀ u ∈ news, u.oneCell' = true) (hb : n + m ≤ 100000) (hbase : base ≤ w.heap.size)
    (h : ∀ v' w', w'.ownsRow base e sz v' (n + m) (xs ++ news) → w.grownBy w' v.ownBlock → Below base w w' → wpList Try.prog ops Q rest (a.put o.dst v') w') : wpList Try.prog ops Q (o :: rest) a w := by
  obtain ⟨hu, hi, hz, hp, hnb⟩ := hE
  obtain ⟨i0, hi0, hz0, hz1, hz2⟩ := info_parts hi
  obtain ⟨v', w', hrun, h2, h3, _⟩ := run_append_own (P := Try.prog) w base t o.type e i0 z sz nb hu hi0 hz0 hz1 hz2 hz hp v n xs hown ad m c news hl hx h1
      (by unfold maxLen; omega) (by have : (n + m) * nb ≤ 100001 * 64 := Nat.mul_le_mul (by omega) hnb
                                    omega) hbase
  refine wpList_plain hgd fun K hK => ?_
  unfold Oper.wp
  simp [execOp, ho, resolve, invoke, builtin, hs, hy, hrun, Result.andThen]
  exact hK _ _ (h v' w' h2 h3 ((Below.refl base w).grown h3 hbase (fun k hk => (hown.lt k hk).1)))
end

section
variable {ops : Array Oper} {o : Oper} {a : Act} {w : World} {K : Act → World → Prop} {Q : Exit → Act → World → Prop} {E : Prop}

/-- The same, as one step of a statement that draws its order. -/
theorem step_append_ks {t e : TypeId} {z : Value} {sz nb : Nat} (hE : ElemK9 t e z sz nb) (hgd : o.guard = none) (s y : Operand) (ho : o.op = Op.call { callee := Callee.builtin Builtin.append, args := #[s, y], argTypes := #[t, t] })
    (base n : Nat) (v : Value) (xs : List Value) (hs : a.eval s = v) (hown : w.ownsRow base e sz v n xs) (ad : Addr) (m c : Nat) (news : List Value) (hl : news.length = m * sz) (hy : a.eval y = .slice (some ad) m c)
    (hx : ∀ j u, news[j]? = some u → w.cell? (ad.add j) = some u) (h1 : ∀ u ∈ news, u.oneCell' = true) (hb : n + m ≤ 100000) (hbase : base ≤ w.heap.size)
    (hK : ∀ v' w', w'.ownsRow base e sz v' (n + m) (xs ++ news) → w.grownBy w' v.ownBlock → Below base w w' → K (a.put o.dst v') w') :
    if Region.wanted o (yielded ops a.tmps) = true then Oper.wp Try.prog o a w K Q else E := by
  have hw : Region.wanted o (yielded ops a.tmps) = true := by simp [Region.wanted, hgd]
  rw [if_pos hw]
  obtain ⟨hu, hi, hz, hp, hnb⟩ := hE
  obtain ⟨i0, hi0, hz0, hz1, hz2⟩ := info_parts hi
  obtain ⟨v', w', hrun, h2, h3, _⟩ := run_append_own (P := Try.prog) w base t o.type e i0 z sz nb hu hi0 hz0 hz1 hz2 hz hp v n xs hown ad m c news hl hx h1
      (by unfold maxLen; omega) (by have : (n + m) * nb ≤ 100001 * 64 := Nat.mul_le_mul (by omega) hnb
                                    omega) hbase
  unfold Oper.wp
  simp [execOp, ho, resolve, invoke, builtin, hs, hy, hrun, Result.andThen]
  exact hK _ _ h2 h3 ((Below.refl base w).grown h3 hbase (fun k hk => (hown.lt k hk).1))
end

theorem elemPlace : ElemK9 49 63 (.agg #[.int .i64 0, .int .i64 0, .pointer none]) 3 24 := ⟨Try.underlying49, by kernel_rfl, rfl, by decide, by decide⟩

/-- The cells of a list that was made. -/
theorem news_made (w : World) (L : List Value) (T : TypeId) : ∀ (j : Nat) (u : Value), L[j]? = some u → (w.alloc (.cells L.toArray T)).cell? ((⟨w.heap.size, 0, none⟩ : Addr).add j) = some u := by
  intro j u hj
  rw [Go.WideShapes.add_plain, Nat.zero_add, World.cell?_alloc_new]
  simpa using hj

theorem owns_drew {w : World} {base n sz : Nat} {e : TypeId} {v : Value} {xs : List Value} (h : w.ownsRow base e sz v n xs) : w.drew.ownsRow base e sz v n xs := h

set_option maxRecDepth 100000 in
set_option maxHeartbeats 800000 in
theorem head9_any (g : Nat) (w : World) : Calls Try.prog 17 #[.pointer (some ⟨g, 0, none⟩)] w fun e w' => ∃ v, e = .returned v ∧ Places w' w.heap.size g v headPs9 ∧ Below w.heap.size w w' := by
  go_enter Try.func17, Try.ntmps17
  go_wp2_with fail
  refine wp_region_still_tail 16 (by kernel_rfl) (by kernel_rfl) ?_
  simp only [List.take_succ_cons, List.take_zero, List.drop_succ_cons, List.drop_zero]
  try rw [drew_of9]
  iterate 16 still_step
  refine wpStill_nil ?_
  go_wp2_with fail
  go_ret
  exact ⟨_, rfl, World.ownsRow_lit (base := w.heap.size) (e := 63) (size := 3) w (placesV g headPs9).toArray 4 (Nat.le_refl _) (by decide) rfl, ((Below.refl _ _).alloc (Nat.le_refl _) _).drew⟩

end Go.Proofs.Ytojfhhmjoledjaa
