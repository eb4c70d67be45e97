/-
  Proved here: lists of writes, and lists of such lists, in memory: given ones, ones of the call's own; what 'append' does to them. The conditions stand at each theorem. Proved here: a slice of slices of bytes that came in, opened; that it stays while only new memory is made. The conditions stand at each theorem. Proved here: what the document's own Find of a log answers. The conditions stand at each theorem. Proved here: a scope in which the run comes to a label and jumps back to it. General.
-/
import Derived.Test.YtbnepjojfaeggaaA1
import Derived.Deep.Matrix
import Derived.Test.YtbnepjojfaeggaaA5
import Derived.Test.YtbnepjojfaeggaaA0
import Derived.Deep.RegionHeld3
import Derived.WalkMore
import Derived.ScopeJumps
namespace Go.Proofs.Ytbnepjojfaeggaa
open Go.RowKit
set_option linter.unusedVariables false
set_option linter.unusedSimpArgs false

/-- A list of writes: its cells. -/
def WIs (w : World) (ao : Option Addr) (m : Nat) (ws : List (Int × List Int)) : Prop :=
  ws.length = m ∧ m ≤ 140737488351232 ∧ (m = 0 ∨ ∃ b off, ao = some ⟨b, off, none⟩ ∧ ∀ (j : Nat) (a : Int) (zs : List Int), ws[j]? = some (a, zs) → w.cell? ⟨b, off + j * 2, none⟩ = some (.int .i64 a) ∧ I64 a ∧
    ∃ ad len cap, w.cell? ⟨b, off + j * 2 + 1, none⟩ = some (.slice ad len cap) ∧ Arg w ad len cap zs)

theorem WIs.later {w wx : World} {ao : Option Addr} {m : Nat} {ws : List (Int × List Int)} (h : WIs w ao m ws) (hb : Below w.heap.size w wx) : WIs wx ao m ws := by
  obtain ⟨h1, h2, h3⟩ := h
  refine ⟨h1, h2, h3.imp_right ?_⟩
  rintro ⟨b, off, rfl, hc⟩
  refine ⟨b, off, rfl, fun j a zs hj => ?_⟩
  obtain ⟨c1, c2, ad, len, cap, c3, c4⟩ := hc j a zs hj
  exact ⟨cell_later hb c1, c2, ad, len, cap, cell_later hb c3, c4.later hb⟩

theorem WIs.at {w : World} {ao : Option Addr} {m i : Nat} {ws : List (Int × List Int)} (h : WIs w ao m ws) (hi : i < m) : ∃ b off a zs ad len cap, ao = some ⟨b, off, none⟩ ∧ ws[i]? = some (a, zs) ∧
    w.cell? ⟨b, off + i * 2, none⟩ = some (.int .i64 a) ∧ I64 a ∧ w.cell? ⟨b, off + i * 2 + 1, none⟩ = some (.slice ad len cap) ∧ Arg w ad len cap zs := by
  obtain ⟨h1, h2, h3⟩ := h
  obtain ⟨b, off, rfl, hc⟩ := h3.resolve_left (by omega)
  have hx : ws[i]? = some (ws[i]'(by omega)) := List.getElem?_eq_getElem (by omega)
  obtain ⟨c1, c2, ad, len, cap, c3, c4⟩ := hc i _ _ hx
  exact ⟨b, off, _, _, ad, len, cap, rfl, hx, c1, c2, c3, c4⟩

theorem elemW : ElemR 27 48 (.agg #[.int .i64 0, .slice none 0 0]) 2 32 := ⟨Try.underlying27, by kernel_rfl, rfl, by decide, by decide⟩

/-- Where a row lies behind 'append'. -/
theorem append_block {t e : TypeId} {z : Value} {sz nb : Nat} (hE : ElemR t e z sz nb) (w : World) (ty : TypeId) (base n : Nat) (v v' : Value) (w' : World) (xs : List Value) (hown : w.ownsRow base e sz v n xs) (ad : Addr) (m c : Nat) (news : List Value) (hl : news.length = m * sz)
    (hx : ∀ j u, news[j]? = some u → w.cell? (ad.add j) = some u) (h1 : ∀ u ∈ news, u.oneCell' = true) (hb : n + m ≤ 2000000000) (hm : 0 < m)
    (hr : (Builtin.append_ #[t, t] ty #[v, .slice (some ad) m c]).run Try.prog w = .ok v' w') : v'.ownBlock = v.ownBlock ∨ v'.ownBlock = some w.heap.size := by
  obtain ⟨hu, hi, hz, hp, hnb⟩ := hE
  obtain ⟨i0, hi0, hz0, hz1, hz2⟩ := info_parts hi
  have hbytes : (n + m) * i0.bytes ≤ 140737488355328 := by
    rw [hz2]
    have : (n + m) * nb ≤ 2000000000 * 64 := Nat.mul_le_mul (by omega) hnb
    omega
  subst hz1
  rcases hown.2 with ⟨rfl, rfl⟩ | ⟨g, cap, cur, rfl, hbg, hg, hnc, hcm, hcs, htake⟩
  · have h := run_append_nil (P := Try.prog) w t ty e i0 z hu hi0 hz0 ad m c news hl hx hm (by omega) (by rw [Nat.zero_add] at hbytes; omega)
    rw [hr] at h
    cases h
    exact Or.inr rfl
  · by_cases hroom : n + m ≤ cap
    · have h := run_append_room (P := Try.prog) w t ty e i0 hu hi0 g n cap cur hg ad m c news hl hx h1 hroom (by rw [hl, hcs, ← Nat.add_mul]; exact Nat.mul_le_mul_right _ hroom)
      rw [hr] at h
      cases h
      exact Or.inl rfl
    · have h := run_append_grow (P := Try.prog) w t ty e i0 z hu hi0 hz0 ⟨g, 0, none⟩ n cap xs hown.1 (hown.cells (g := g) rfl) ad m c news hl hx (by omega) (by omega) (growslice_fits (by omega) hbytes)
      rw [hr] at h
      cases h
      exact Or.inr rfl

section
variable {ops : Array Oper} {rest : List Oper} {o : Oper} {a : Act} {w : World} {Q : Exit → Act → World → Prop}

/-- 'append(dst, news...)', told with where the row lies. -/
theorem wp_append_at {t e : TypeId} {z : Value} {sz nb : Nat} (hE : ElemR t e z sz nb) (hgd : o.guard = none) (s y : Operand) (ho : o.op = .call { callee := .builtin .append, args := #[s, y], argTypes := #[t, t] })
    (base n : Nat) (v : Value) (xs : List Value) (hs : a.eval s = v) (hown : w.ownsRow base e sz v n xs) (ad : Addr) (m c : Nat) (news : List Value) (hl : news.length = m * sz) (hm : 0 < m) (hy : a.eval y = .slice (some ad) m c)
    (hx : ∀ j u, news[j]? = some u → w.cell? (ad.add j) = some u) (h1 : ∀ u ∈ news, u.oneCell' = true) (hb : n + m ≤ 2000000000) (hbase : base ≤ w.heap.size)
    (h : ∀ v' w', w'.ownsRow base e sz v' (n + m) (xs ++ news) → w.grownBy w' v.ownBlock → Below base w w' → (v'.ownBlock = v.ownBlock ∨ v'.ownBlock = some w.heap.size) → wpList Try.prog ops Q rest (a.put o.dst v') w') : wpList Try.prog ops Q (o :: rest) a w := by
  have hE2 := hE
  obtain ⟨hu, hi, hz, hp, hnb⟩ := hE
  obtain ⟨i0, hi0, hz0, hz1, hz2⟩ := info_parts hi
  obtain ⟨v', w', hrun, h2, h3, _⟩ := run_append_own (P := Try.prog) w base t o.type e i0 z sz nb hu hi0 hz0 hz1 hz2 hz hp v n xs hown ad m c news hl hx h1
      (by unfold maxLen; omega) (by have : (n + m) * nb ≤ 2000000000 * 64 := Nat.mul_le_mul (by omega) hnb
                                    omega) hbase
  have h4 := append_block hE2 w o.type base n v v' w' xs hown ad m c news hl hx h1 hb hm hrun
  refine wpList_plain hgd fun K hK => ?_
  unfold Oper.wp
  simp [execOp, ho, resolve, invoke, builtin, hs, hy, hrun, Result.andThen]
  exact hK _ _ (h v' w' h2 h3 ((Below.refl base w).grown h3 hbase (fun k hk => (hown.lt k hk).1)) h4)
end

/-- A list of writes of the call's own, each text in a block apart from the row. -/
def WOwn (base : Nat) (w : World) (v : Value) (ws : List (Int × List Int)) : Prop :=
  ∃ xs, w.ownsRow base 48 2 v ws.length xs ∧ ∀ (j : Nat) (a : Int) (zs : List Int), ws[j]? = some (a, zs) → xs[j * 2]? = some (.int .i64 a) ∧ I64 a ∧ ∃ db off cap, xs[j * 2 + 1]? = some (.slice (some ⟨db, off, none⟩) 64 cap) ∧ (base ≤ db ∧ db < w.heap.size) ∧ v.ownBlock ≠ some db ∧ Arg w (some ⟨db, off, none⟩) 64 cap zs

theorem WOwn.nil (base : Nat) (w : World) : WOwn base w (.slice none 0 0) [] := ⟨[], owns_nil_r _ _ _ _, fun j a zs h => by simp at h⟩

theorem arg_grown {w w' : World} {db off len cap : Nat} {zs : List Int} {row : Option Nat} (h : Arg w (some ⟨db, off, none⟩) len cap zs) (hg : w.grownBy w' row) (hne : row ≠ some db) : Arg w' (some ⟨db, off, none⟩) len cap zs := by
  obtain ⟨⟨h1, h2, h3, h4⟩, h5⟩ := h
  refine ⟨⟨h1, h2, h3, h4.imp_right ?_⟩, h5⟩
  rintro ⟨b, o, he, hc⟩
  simp only [Option.some.injEq, Addr.mk.injEq, and_true] at he
  obtain ⟨rfl, rfl⟩ := he
  exact ⟨db, off, rfl, fun j hj => hg.cell (hc j hj) (fun e => hne e.symm)⟩

theorem WOwn.snoc {base : Nat} {wr wx w4 : World} {v v' : Value} {ws : List (Int × List Int)} {a : Int} {zs : List Int} {xs : List Value} {db off cap : Nat} {ob : Obj}
    (h1 : wr.ownsRow base 48 2 v ws.length xs) (h2 : ∀ (j : Nat) (a : Int) (zs : List Int), ws[j]? = some (a, zs) → xs[j * 2]? = some (.int .i64 a) ∧ I64 a ∧ ∃ db off cap, xs[j * 2 + 1]? = some (.slice (some ⟨db, off, none⟩) 64 cap) ∧ (base ≤ db ∧ db < wr.heap.size) ∧ v.ownBlock ≠ some db ∧ Arg wr (some ⟨db, off, none⟩) 64 cap zs)
    (hb : Below wr.heap.size wr wx) (hbs : base ≤ wr.heap.size) (ha : I64 a) (hd : wr.heap.size ≤ db) (hd2 : db < wx.heap.size) (hA : Arg wx (some ⟨db, off, none⟩) 64 cap zs)
    (hown : w4.ownsRow base 48 2 v' (ws.length + 1) (xs ++ [.int .i64 a, .slice (some ⟨db, off, none⟩) 64 cap])) (hg : (wx.alloc ob).grownBy w4 v.ownBlock) (hv : v'.ownBlock = v.ownBlock ∨ v'.ownBlock = some (wx.alloc ob).heap.size) : WOwn base w4 v' (ws ++ [(a, zs)]) := by
  have hxl : xs.length = ws.length * 2 := h1.1
  have hsz : wr.heap.size ≤ wx.heap.size := hb.size
  have hsz4 : (wx.alloc ob).heap.size ≤ w4.heap.size := hg.size
  rw [World.size_alloc] at hsz4
  have hal : ∀ {d o l c : Nat} {y : List Int}, Arg wx (some ⟨d, o, none⟩) l c y → Arg (wx.alloc ob) (some ⟨d, o, none⟩) l c y := fun h => h.later ((Below.refl _ _).alloc (Nat.le_refl _) _)
  refine ⟨_, by rw [List.length_append]; exact hown, fun j b ys hj => ?_⟩
  by_cases hjl : j < ws.length
  · rw [List.getElem?_append_left hjl] at hj
    obtain ⟨c1, c2, d, o, c, c3, c4, c5, c6⟩ := h2 j b ys hj
    refine ⟨by rw [List.getElem?_append_left (by omega)]; exact c1, c2, d, o, c, by rw [List.getElem?_append_left (by omega)]; exact c3, ⟨c4.1, by omega⟩, ?_, arg_grown (hal (c6.later hb)) hg c5⟩
    rcases hv with e | e
    · rw [e]; exact c5
    · rw [e, World.size_alloc]
      intro h
      simp at h
      omega
  · have hj0 : j = ws.length := by
      have := (List.getElem?_eq_some_iff.1 hj).1
      simp at this
      omega
    subst hj0
    rw [List.getElem?_append_right (Nat.le_refl _), Nat.sub_self] at hj
    simp at hj
    obtain ⟨rfl, rfl⟩ := hj
    have hvd : v.ownBlock ≠ some db := fun e => by have := (h1.lt db e).2; omega
    refine ⟨by rw [List.getElem?_append_right (by omega), hxl, Nat.sub_self]; rfl, ha, db, off, cap, by rw [List.getElem?_append_right (by omega), show ws.length * 2 + 1 - xs.length = 1 by omega]; rfl, ⟨by omega, by omega⟩, ?_, arg_grown (hal hA) hg hvd⟩
    rcases hv with e | e
    · rw [e]; exact hvd
    · rw [e, World.size_alloc]
      intro h
      simp at h
      omega

theorem owns_keeps {w w' : World} {base n sz g : Nat} {e : TypeId} {v : Value} {xs : List Value} (h : w.ownsRow base e sz v n xs) (hk : Keeps g w w') (hg : g < base) : w'.ownsRow base e sz v n xs := by
  refine ⟨h.1, h.2.imp_right ?_⟩
  rintro ⟨b, cap, cur, hv, hb, hh, rest⟩
  exact ⟨b, cap, cur, hv, hb, by rw [hk.2 b (by omega)]; exact hh, rest⟩
theorem arg_keeps {w w' : World} {db off len cap g : Nat} {zs : List Int} (h : Arg w (some ⟨db, off, none⟩) len cap zs) (hk : Keeps g w w') (hne : db ≠ g) : Arg w' (some ⟨db, off, none⟩) len cap zs := by
  obtain ⟨⟨h1, h2, h3, h4⟩, h5⟩ := h
  refine ⟨⟨h1, h2, h3, h4.imp_right ?_⟩, h5⟩
  rintro ⟨b, o, he, hc⟩
  simp only [Option.some.injEq, Addr.mk.injEq, and_true] at he
  obtain ⟨rfl, rfl⟩ := he
  exact ⟨db, off, rfl, fun j hj => by rw [hk.cell (p := ⟨db, off + j, none⟩) hne]; exact hc j hj⟩
theorem WOwn.keeps {base g : Nat} {w w' : World} {v : Value} {ws : List (Int × List Int)} (h : WOwn base w v ws) (hk : Keeps g w w') (hg : g < base) : WOwn base w' v ws := by
  obtain ⟨xs, ho, hx⟩ := h
  refine ⟨xs, owns_keeps ho hk hg, fun j a zs hj => ?_⟩
  obtain ⟨c1, c2, d, o, c, c3, c4, c5, c6⟩ := hx j a zs hj
  exact ⟨c1, c2, d, o, c, c3, ⟨c4.1, by rw [hk.1]; exact c4.2⟩, c5, arg_keeps c6 hk (by omega)⟩
theorem WOwn.mono {base base' : Nat} {w : World} {v : Value} {ws : List (Int × List Int)} (h : WOwn base' w v ws) (hb : base ≤ base') : WOwn base w v ws := by
  obtain ⟨xs, ho, hx⟩ := h
  refine ⟨xs, owns_mono_r ho hb, fun j a zs hj => ?_⟩
  obtain ⟨c1, c2, d, o, c, c3, c4, c5, c6⟩ := hx j a zs hj
  exact ⟨c1, c2, d, o, c, c3, ⟨by omega, c4.2⟩, c5, c6⟩
theorem WOwn.later {base : Nat} {w w' : World} {v : Value} {ws : List (Int × List Int)} (h : WOwn base w v ws) (hb : Below w.heap.size w w') : WOwn base w' v ws := by
  obtain ⟨xs, ho, hx⟩ := h
  refine ⟨xs, owns_later_r ho hb, fun j a zs hj => ?_⟩
  obtain ⟨c1, c2, d, o, c, c3, c4, c5, c6⟩ := hx j a zs hj
  have := hb.size
  exact ⟨c1, c2, d, o, c, c3, ⟨c4.1, by omega⟩, c5, c6.later hb⟩

theorem WOwn.wis {base : Nat} {w : World} {v : Value} {ws : List (Int × List Int)} (h : WOwn base w v ws) (hl : ws.length ≤ 1000) : ∃ ao cap, v = .slice ao ws.length cap ∧ WIs w ao ws.length ws ∧ (ao = none → ws.length = 0 ∧ cap = 0) ∧ ws.length ≤ cap := by
  obtain ⟨xs, ho, hx⟩ := h
  rcases ho.2 with ⟨rfl, h0⟩ | ⟨g, cap, cur, hv, hb, _, hc, _⟩
  · exact ⟨none, 0, by rw [h0], ⟨rfl, by omega, Or.inl h0⟩, fun _ => ⟨h0, rfl⟩, by omega⟩
  · refine ⟨_, cap, hv, ⟨rfl, by omega, Or.inr ⟨g, 0, rfl, fun j a zs hj => ?_⟩⟩, (fun e => by cases e), hc⟩
    obtain ⟨c1, c2, d, o, c, c3, _, _, c6⟩ := hx j a zs hj
    have e1 := ho.cells (g := g) (by rw [hv]; rfl) _ _ c1
    have e2 := ho.cells (g := g) (by rw [hv]; rfl) _ _ c3
    rw [Go.WideShapes.add_plain] at e1 e2
    exact ⟨e1, c2, _, _, _, by rw [Nat.add_assoc]; exact e2, c6⟩


/-! ### Lists of lists of writes -/

/-- A list of writes, all of it in blocks of F. -/
def WIn (F : Nat → Prop) (w : World) (ao : Option Addr) (m : Nat) (ws : List (Int × List Int)) : Prop :=
  ws.length = m ∧ m ≤ 140737488351232 ∧ (m = 0 ∨ ∃ b off, ao = some ⟨b, off, none⟩ ∧ F b ∧ ∀ (j : Nat) (a : Int) (zs : List Int), ws[j]? = some (a, zs) → w.cell? ⟨b, off + j * 2, none⟩ = some (.int .i64 a) ∧ I64 a ∧
    ∃ db doff cap, w.cell? ⟨b, off + j * 2 + 1, none⟩ = some (.slice (some ⟨db, doff, none⟩) 64 cap) ∧ F db ∧ Arg w (some ⟨db, doff, none⟩) 64 cap zs)

theorem WIn.wis {F : Nat → Prop} {w : World} {ao : Option Addr} {m : Nat} {ws : List (Int × List Int)} (h : WIn F w ao m ws) : WIs w ao m ws := by
  obtain ⟨h1, h2, h3⟩ := h
  refine ⟨h1, h2, h3.imp_right ?_⟩
  rintro ⟨b, off, rfl, _, hc⟩
  refine ⟨b, off, rfl, fun j a zs hj => ?_⟩
  obtain ⟨c1, c2, db, doff, cap, c3, _, c4⟩ := hc j a zs hj
  exact ⟨c1, c2, _, _, _, c3, c4⟩
theorem WIn.imp {F G : Nat → Prop} {w : World} {ao : Option Addr} {m : Nat} {ws : List (Int × List Int)} (h : WIn F w ao m ws) (hi : ∀ k, F k → G k) : WIn G w ao m ws := by
  obtain ⟨h1, h2, h3⟩ := h
  refine ⟨h1, h2, h3.imp_right ?_⟩
  rintro ⟨b, off, rfl, hF, hc⟩
  refine ⟨b, off, rfl, hi _ hF, fun j a zs hj => ?_⟩
  obtain ⟨c1, c2, db, doff, cap, c3, c5, c4⟩ := hc j a zs hj
  exact ⟨c1, c2, db, doff, cap, c3, hi _ c5, c4⟩
theorem WIn.grown {F : Nat → Prop} {w w' : World} {ao : Option Addr} {m : Nat} {ws : List (Int × List Int)} {row : Option Nat} (h : WIn F w ao m ws) (hg : w.grownBy w' row) (hr : ∀ b, row = some b → ¬ F b) : WIn F w' ao m ws := by
  obtain ⟨h1, h2, h3⟩ := h
  refine ⟨h1, h2, h3.imp_right ?_⟩
  rintro ⟨b, off, rfl, hF, hc⟩
  refine ⟨b, off, rfl, hF, fun j a zs hj => ?_⟩
  obtain ⟨c1, c2, db, doff, cap, c3, c5, c4⟩ := hc j a zs hj
  exact ⟨hg.cell c1 (fun e => hr _ e.symm hF), c2, db, doff, cap, hg.cell c3 (fun e => hr _ e.symm hF), c5, arg_grown c4 hg (fun e => hr _ e c5)⟩
theorem WIn.later {F : Nat → Prop} {w wx : World} {ao : Option Addr} {m : Nat} {ws : List (Int × List Int)} (h : WIn F w ao m ws) (hb : Below w.heap.size w wx) : WIn F wx ao m ws :=
  h.grown (row := none) ⟨hb.os, hb.tape, hb.output, hb.size, fun k hk _ => hb.block k hk⟩ (fun b e => by cases e)

/-- A list of one's own, handed on. -/
theorem WOwn.win {base : Nat} {w : World} {v : Value} {ws : List (Int × List Int)} (h : WOwn base w v ws) (hl : ws.length ≤ 1000) : ∃ ao cap, v = .slice ao ws.length cap ∧ WIn (fun k => base ≤ k ∧ k < w.heap.size) w ao ws.length ws := by
  obtain ⟨xs, ho, hx⟩ := h
  rcases ho.2 with ⟨rfl, h0⟩ | ⟨g, cap, cur, hv, hb, _, hc, _⟩
  · exact ⟨none, 0, by rw [h0], rfl, by omega, Or.inl h0⟩
  · have hlt := ho.lt g (by rw [hv]; rfl)
    refine ⟨_, cap, hv, rfl, by omega, Or.inr ⟨g, 0, rfl, hlt, fun j a zs hj => ?_⟩⟩
    obtain ⟨c1, c2, d, o, c, c3, c4, _, c6⟩ := hx j a zs hj
    have e1 := ho.cells (g := g) (by rw [hv]; rfl) _ _ c1
    have e2 := ho.cells (g := g) (by rw [hv]; rfl) _ _ c3
    rw [Go.WideShapes.add_plain] at e1 e2
    exact ⟨e1, c2, _, _, _, by rw [Nat.add_assoc]; exact e2, c4, c6⟩

/-- Lists of writes of the call's own. -/
def LOwn (base : Nat) (w : World) (v : Value) (ls : List (List (Int × List Int))) : Prop :=
  ∃ xs, w.ownsRow base 27 1 v ls.length xs ∧ ∀ (j : Nat) (l : List (Int × List Int)), ls[j]? = some l → ∃ ao cap, xs[j]? = some (.slice ao l.length cap) ∧ WIn (fun k => (base ≤ k ∧ k < w.heap.size) ∧ v.ownBlock ≠ some k) w ao l.length l

theorem elemWs : ElemR 104 27 (.slice none 0 0) 1 24 := ⟨Try.underlying104, by kernel_rfl, rfl, by decide, by decide⟩

theorem LOwn.later {base : Nat} {w w' : World} {v : Value} {ls : List (List (Int × List Int))} (h : LOwn base w v ls) (hb : Below w.heap.size w w') : LOwn base w' v ls := by
  obtain ⟨xs, ho, hx⟩ := h
  refine ⟨xs, owns_later_r ho hb, fun j l hj => ?_⟩
  obtain ⟨ao, cap, c1, c2⟩ := hx j l hj
  have := hb.size
  exact ⟨ao, cap, c1, (c2.imp (fun k hk => ⟨⟨hk.1.1, by omega⟩, hk.2⟩)).later hb⟩

theorem LOwn.snoc {base : Nat} {wr wx w4 : World} {v v' : Value} {ls : List (List (Int × List Int))} {l : List (Int × List Int)} {xs : List Value} {ao : Option Addr} {cap : Nat} {ob : Obj}
    (h1 : wr.ownsRow base 27 1 v ls.length xs) (h2 : ∀ (j : Nat) (l : List (Int × List Int)), ls[j]? = some l → ∃ ao cap, xs[j]? = some (.slice ao l.length cap) ∧ WIn (fun k => (base ≤ k ∧ k < wr.heap.size) ∧ v.ownBlock ≠ some k) wr ao l.length l)
    (hb : Below wr.heap.size wr wx) (hbs : base ≤ wr.heap.size) (hl : WIn (fun k => wr.heap.size ≤ k ∧ k < wx.heap.size) wx ao l.length l)
    (hown : w4.ownsRow base 27 1 v' (ls.length + 1) (xs ++ [.slice ao l.length cap])) (hg : (wx.alloc ob).grownBy w4 v.ownBlock) (hv : v'.ownBlock = v.ownBlock ∨ v'.ownBlock = some (wx.alloc ob).heap.size) : LOwn base w4 v' (ls ++ [l]) := by
  have hxl : xs.length = ls.length := by have := h1.1; omega
  have hsz : wr.heap.size ≤ wx.heap.size := hb.size
  have hsz4 : (wx.alloc ob).heap.size ≤ w4.heap.size := hg.size
  rw [World.size_alloc] at hsz4
  have hnew : ∀ k, k < wx.heap.size → v.ownBlock ≠ some k → v'.ownBlock ≠ some k := fun k hk hn => by
    rcases hv with e | e
    · rw [e]; exact hn
    · rw [e, World.size_alloc]
      intro h
      simp at h
      omega
  refine ⟨_, by rw [List.length_append]; exact hown, fun j m hj => ?_⟩
  by_cases hjl : j < ls.length
  · rw [List.getElem?_append_left hjl] at hj
    obtain ⟨a2, c2, d1, d2⟩ := h2 j m hj
    refine ⟨a2, c2, by rw [List.getElem?_append_left (by omega)]; exact d1, ?_⟩
    have h3 := ((d2.later hb).later ((Below.refl _ _).alloc (Nat.le_refl _) ob)).grown hg (fun b e hF => hF.2 e)
    exact h3.imp (fun k hk => ⟨⟨hk.1.1, by omega⟩, hnew k (by omega) hk.2⟩)
  · have hj0 : j = ls.length := by
      have := (List.getElem?_eq_some_iff.1 hj).1
      simp at this
      omega
    subst hj0
    rw [List.getElem?_append_right (Nat.le_refl _), Nat.sub_self] at hj
    simp at hj
    subst hj
    have hne : ∀ k, wr.heap.size ≤ k → v.ownBlock ≠ some k := fun k hk e => by have := (h1.lt k e).2; omega
    refine ⟨ao, cap, by rw [List.getElem?_append_right (by omega), hxl, Nat.sub_self]; rfl, ?_⟩
    have h3 := (hl.later ((Below.refl _ _).alloc (Nat.le_refl _) ob)).grown hg (fun b e hF => hne b hF.1 e)
    exact h3.imp (fun k hk => ⟨⟨by omega, by omega⟩, hnew k hk.2 (hne k hk.1)⟩)

theorem WIn.keeps {F : Nat → Prop} {g : Nat} {w w' : World} {ao : Option Addr} {m : Nat} {ws : List (Int × List Int)} (h : WIn F w ao m ws) (hk : Keeps g w w') (hF : ¬ F g) : WIn F w' ao m ws := by
  obtain ⟨h1, h2, h3⟩ := h
  refine ⟨h1, h2, h3.imp_right ?_⟩
  rintro ⟨b, off, rfl, hFb, hc⟩
  have hne : b ≠ g := fun e => hF (e ▸ hFb)
  refine ⟨b, off, rfl, hFb, fun j a zs hj => ?_⟩
  obtain ⟨c1, c2, db, doff, cap, c3, c5, c4⟩ := hc j a zs hj
  exact ⟨by rw [hk.cell (p := ⟨b, off + j * 2, none⟩) hne]; exact c1, c2, db, doff, cap, by rw [hk.cell (p := ⟨b, off + j * 2 + 1, none⟩) hne]; exact c3, c5, arg_keeps c4 hk (fun e => hF (e ▸ c5))⟩
theorem LOwn.keeps {base g : Nat} {w w' : World} {v : Value} {ls : List (List (Int × List Int))} (h : LOwn base w v ls) (hk : Keeps g w w') (hg : g < base) : LOwn base w' v ls := by
  obtain ⟨xs, ho, hx⟩ := h
  refine ⟨xs, owns_keeps ho hk hg, fun j l hj => ?_⟩
  obtain ⟨ao, cap, c1, c2⟩ := hx j l hj
  refine ⟨ao, cap, c1, (c2.keeps hk (fun hF => by have := hF.1.1; omega)).imp (fun k hF => ⟨⟨hF.1.1, by rw [hk.1]; exact hF.1.2⟩, hF.2⟩)⟩
theorem LOwn.drew {base : Nat} {w : World} {v : Value} {ls : List (List (Int × List Int))} (h : LOwn base w v ls) : LOwn base w.drew v ls := h.later (Below.refl _ _).drew
theorem LOwn.made (w : World) : LOwn w.heap.size (w.alloc (.cells #[] 27)) (.slice (some ⟨w.heap.size, 0, none⟩) 0 0) [] :=
  ⟨[], World.ownsRow_made (base := w.heap.size) (e := 27) (size := 1) w #[] 0 (Nat.le_refl _) (by decide) rfl, fun j l h => by simp at h⟩
theorem LOwn.mono {base base' : Nat} {w : World} {v : Value} {ls : List (List (Int × List Int))} (h : LOwn base' w v ls) (hb : base ≤ base') : LOwn base w v ls := by
  obtain ⟨xs, ho, hx⟩ := h
  refine ⟨xs, owns_mono_r ho hb, fun j l hj => ?_⟩
  obtain ⟨ao, cap, c1, c2⟩ := hx j l hj
  exact ⟨ao, cap, c1, c2.imp (fun k hk => ⟨⟨by omega, hk.1.2⟩, hk.2⟩)⟩
theorem WOwn.made (w : World) : WOwn w.heap.size (w.alloc (.cells #[] 48)) (.slice (some ⟨w.heap.size, 0, none⟩) 0 0) [] :=
  ⟨[], World.ownsRow_made (base := w.heap.size) (e := 48) (size := 2) w #[] 0 (Nat.le_refl _) (by decide) rfl, fun j a zs h => by simp at h⟩

/-- Lists of writes, to be read. -/
def LIs (w : World) (ao : Option Addr) (m : Nat) (ls : List (List (Int × List Int))) : Prop :=
  ls.length = m ∧ (m = 0 ∨ ∃ b off, ao = some ⟨b, off, none⟩ ∧ ∀ (j : Nat) (l : List (Int × List Int)), ls[j]? = some l → ∃ ad cap, w.cell? ⟨b, off + j, none⟩ = some (.slice ad l.length cap) ∧ WIs w ad l.length l)
theorem LIs.later {w wx : World} {ao : Option Addr} {m : Nat} {ls : List (List (Int × List Int))} (h : LIs w ao m ls) (hb : Below w.heap.size w wx) : LIs wx ao m ls := by
  obtain ⟨h1, h3⟩ := h
  refine ⟨h1, h3.imp_right ?_⟩
  rintro ⟨b, off, rfl, hc⟩
  refine ⟨b, off, rfl, fun j l hj => ?_⟩
  obtain ⟨ad, cap, c1, c2⟩ := hc j l hj
  exact ⟨ad, cap, cell_later hb c1, c2.later hb⟩
theorem LIs.at {w : World} {ao : Option Addr} {m i : Nat} {ls : List (List (Int × List Int))} (h : LIs w ao m ls) (hi : i < m) : ∃ b off l ad cap, ao = some ⟨b, off, none⟩ ∧ ls[i]? = some l ∧ w.cell? ⟨b, off + i, none⟩ = some (.slice ad l.length cap) ∧ WIs w ad l.length l := by
  obtain ⟨h1, h3⟩ := h
  obtain ⟨b, off, rfl, hc⟩ := h3.resolve_left (by omega)
  have hx : ls[i]? = some (ls[i]'(by omega)) := List.getElem?_eq_getElem (by omega)
  obtain ⟨ad, cap, c1, c2⟩ := hc i _ hx
  exact ⟨b, off, _, ad, cap, rfl, hx, c1, c2⟩
theorem LOwn.lis {base : Nat} {w : World} {v : Value} {ls : List (List (Int × List Int))} (h : LOwn base w v ls) : ∃ ao cap, v = .slice ao ls.length cap ∧ LIs w ao ls.length ls := by
  obtain ⟨xs, ho, hx⟩ := h
  rcases ho.2 with ⟨rfl, h0⟩ | ⟨g, cap, cur, hv, hb, _, hc, _⟩
  · exact ⟨none, 0, by rw [h0], rfl, Or.inl h0⟩
  · refine ⟨_, cap, hv, rfl, Or.inr ⟨g, 0, rfl, fun j l hj => ?_⟩⟩
    obtain ⟨ad, c, c1, c2⟩ := hx j l hj
    have e1 := ho.cells (g := g) (by rw [hv]; rfl) _ _ c1
    rw [Go.WideShapes.add_plain] at e1
    exact ⟨ad, c, e1, c2.wis⟩

/-- Lists of writes, all in blocks from base on. -/
def LIn (base : Nat) (w : World) (ao : Option Addr) (m : Nat) (ls : List (List (Int × List Int))) : Prop :=
  ls.length = m ∧ (m = 0 ∨ ∃ b off, ao = some ⟨b, off, none⟩ ∧ base ≤ b ∧ ∀ (j : Nat) (l : List (Int × List Int)), ls[j]? = some l → ∃ ad cap, w.cell? ⟨b, off + j, none⟩ = some (.slice ad l.length cap) ∧ WIn (fun k => base ≤ k) w ad l.length l)
theorem LIn.later {base : Nat} {w wx : World} {ao : Option Addr} {m : Nat} {ls : List (List (Int × List Int))} (h : LIn base w ao m ls) (hb : Below w.heap.size w wx) : LIn base wx ao m ls := by
  obtain ⟨h1, h3⟩ := h
  refine ⟨h1, h3.imp_right ?_⟩
  rintro ⟨b, off, rfl, hbb, hc⟩
  refine ⟨b, off, rfl, hbb, fun j l hj => ?_⟩
  obtain ⟨ad, cap, c1, c2⟩ := hc j l hj
  exact ⟨ad, cap, cell_later hb c1, c2.later hb⟩
theorem LIn.nil (base : Nat) (w : World) : LIn base w none 0 [] := ⟨rfl, Or.inl rfl⟩
theorem LIn.at {base : Nat} {w : World} {ao : Option Addr} {m i : Nat} {ls : List (List (Int × List Int))} (h : LIn base w ao m ls) (hi : i < m) : ∃ b off l ad cap, ao = some ⟨b, off, none⟩ ∧ ls[i]? = some l ∧ w.cell? ⟨b, off + i, none⟩ = some (.slice ad l.length cap) ∧ WIn (fun k => base ≤ k) w ad l.length l := by
  obtain ⟨h1, h3⟩ := h
  obtain ⟨b, off, rfl, _, hc⟩ := h3.resolve_left (by omega)
  have hx : ls[i]? = some (ls[i]'(by omega)) := List.getElem?_eq_getElem (by omega)
  obtain ⟨ad, cap, c1, c2⟩ := hc i _ hx
  exact ⟨b, off, _, ad, cap, rfl, hx, c1, c2⟩
theorem LOwn.lin {base b0 : Nat} {w : World} {v : Value} {ls : List (List (Int × List Int))} (h : LOwn base w v ls) (hb0 : b0 ≤ base) : ∃ ao cap, v = .slice ao ls.length cap ∧ LIn b0 w ao ls.length ls := by
  obtain ⟨xs, ho, hx⟩ := h
  rcases ho.2 with ⟨rfl, h0⟩ | ⟨g, cap, cur, hv, hb, _, hc, _⟩
  · exact ⟨none, 0, by rw [h0], rfl, Or.inl h0⟩
  · refine ⟨_, cap, hv, rfl, Or.inr ⟨g, 0, rfl, Nat.le_trans hb0 hb, fun j l hj => ?_⟩⟩
    obtain ⟨ad, c, c1, c2⟩ := hx j l hj
    have e1 := ho.cells (g := g) (by rw [hv]; rfl) _ _ c1
    rw [Go.WideShapes.add_plain] at e1
    exact ⟨ad, c, e1, c2.imp (fun k hk => Nat.le_trans hb0 hk.1.1)⟩

end Go.Proofs.Ytbnepjojfaeggaa

namespace Go.Proofs.Ytbnepjojfaeggaa
open Go.RowKit Go.ChangeShapes Go.WideShapes

/-- A slice of slices of bytes: row j's elements are the j-th of Z. -/
def RowsIn (w : World) (a : Option Addr) (len cap : Nat) (Z : List (List Int)) : Prop :=
  Z.length = len ∧ len ≤ cap ∧ (len = 0 ∨ ∃ b off, a = some ⟨b, off, none⟩ ∧ ∀ j, j < len → ∃ ad l c, w.cell? ⟨b, off + j, none⟩ = some (.slice ad l c) ∧ Bts w ad l (Z.getD j []) ∧ l ≤ c)

theorem RowsIn.later {w wx : World} {a : Option Addr} {len cap : Nat} {Z : List (List Int)} (h : RowsIn w a len cap Z) (hb : Below w.heap.size w wx) : RowsIn wx a len cap Z := by
  obtain ⟨h1, h2, h3⟩ := h
  refine ⟨h1, h2, ?_⟩
  rcases h3 with h3 | ⟨b, off, rfl, hc⟩
  · exact Or.inl h3
  · refine Or.inr ⟨b, off, rfl, fun j hj => ?_⟩
    obtain ⟨ad, l, c, h4, h5, h6⟩ := hc j hj
    exact ⟨ad, l, c, cell_later hb h4, h5.later hb, h6⟩

theorem open_rows {H : Type} {enc : TypeId × Value → H} {W : World} {a : Option Addr} {len cap : Nat} {d : DataW H} {p : List MemPlace}
    (h : DataW.Trod enc Try.prog W 0 (fun _ => true) true 45 (.slice a len cap) d p) : ∃ Z, RowsIn W a len cap Z := by
  obtain ⟨fuel, hf⟩ := h
  rcases Go.Deep.open_int_rows Try.underlying45 Try.underlying46 Try.underlying5 (by kernel_rfl) (by kernel_rfl) hf with ⟨hcs, _⟩ | ⟨x, l, c, A, L, C, Z, hcs, _, hl, hm, _, hrows⟩
  · simp [Value.cells] at hcs
    obtain ⟨rfl, rfl, rfl⟩ := hcs
    exact ⟨[], rfl, Nat.le_refl _, Or.inl rfl⟩
  · simp [Value.cells] at hcs
    obtain ⟨rfl, rfl, rfl⟩ := hcs
    refine ⟨(List.range len).map fun r => (Z r).take (L r), by simp, hl, ?_⟩
    rcases Nat.eq_zero_or_pos len with h0 | h0
    · exact Or.inl h0
    · obtain ⟨b, off, spot⟩ := x
      have hspot : spot = none := by simpa [Addr.add] using World.cell?_spot (hrows 0 (by omega)).1
      subst hspot
      refine Or.inr ⟨b, off, rfl, fun j hj => ?_⟩
      obtain ⟨h1, h2, h3, h4, h5, h6, h7⟩ := hrows j (by omega)
      rw [add_plain] at h1
      refine ⟨A j, L j, C j, h1, ?_, h2⟩
      have hg : ((List.range len).map fun r => (Z r).take (L r)).getD j [] = (Z j).take (L j) := by simp [List.getD, hj]
      rw [hg]
      refine ⟨by rw [List.length_take]; omega, by unfold maxLen at h3; omega, fun z hz => wf_u8 (h5 z (List.mem_of_mem_take hz)), ?_⟩
      rcases Nat.eq_zero_or_pos (L j) with hz | hz
      · exact Or.inl hz
      · cases hA : A j with
        | none => have := h6 hA; omega
        | some a' =>
          obtain ⟨_, hcell⟩ := h7 a' hA
          obtain ⟨b', off', rfl, hc'⟩ := ints_at (zs := Z j) (fun i hi => hcell i (by omega)) (by omega)
          exact Or.inr ⟨b', off', rfl, fun i hi => by rw [take_getD _ _ _ hi]; exact hc' i (by omega)⟩


theorem RowsIn.at {w : World} {a : Option Addr} {len cap i : Nat} {Z : List (List Int)} (h : RowsIn w a len cap Z) (hi : i < len) : ∃ b off ad l c, a = some ⟨b, off, none⟩ ∧ w.cell? ⟨b, off + i, none⟩ = some (.slice ad l c) ∧ Bts w ad l (Z.getD i []) := by
  obtain ⟨h1, h2, h3⟩ := h
  obtain ⟨b, off, rfl, hc⟩ := h3.resolve_left (by omega)
  obtain ⟨ad, l, c, h4, h5, _⟩ := hc i hi
  exact ⟨b, off, ad, l, c, rfl, h4, h5⟩

/-- A row of 64 bytes, as a call is handed it. -/
theorem RowsIn.full {w : World} {a : Option Addr} {len cap i : Nat} {Z : List (List Int)} (h : RowsIn w a len cap Z) (hi : i < len) (h64 : (Z.getD i []).length = 64) : ∃ b off ad c, a = some ⟨b, off, none⟩ ∧ w.cell? ⟨b, off + i, none⟩ = some (.slice (some ad) (64 : Nat) c) ∧ Arg w (some ad) 64 c (Z.getD i []) := by
  obtain ⟨h1, h2, h3⟩ := h
  obtain ⟨b, off, rfl, hc⟩ := h3.resolve_left (by omega)
  obtain ⟨ad, l, c, h4, h5, h6⟩ := hc i hi
  have hl : l = 64 := by rw [← h5.1, h64]
  subst hl
  obtain ⟨b', o', rfl, _⟩ := h5.2.2.2.resolve_left (by decide)
  exact ⟨b, off, _, c, rfl, h4, h5, (fun e => by cases e), h6, by decide⟩

end Go.Proofs.Ytbnepjojfaeggaa

namespace Go.Proofs.Ytbnepjojfaeggaa
open Go.RowKit
set_option linter.unusedVariables false
set_option linter.unusedSimpArgs false

/-- What Find hands back. -/
def foundOut (bs : List (List Int)) (a s : Int) : List (List (Int × List Int)) × Int × Int := if okLog bs a s = true then ((findF bs a.toNat s).1, ((findF bs a.toNat s).2.1 : Int), (findF bs a.toNat s).2.2) else ([], 0, 0)
def foundErr (bs : List (List Int)) (a s : Int) : Int := if okLog bs a s = true then 0 else 2
def HandedF (base : Nat) (w0 : World) (r : List (List (Int × List Int)) × Int × Int) (err : Int) (e : Ending) (w' : World) : Prop :=
  ∃ ao cap, e = .returned (.tuple #[.slice ao r.1.length cap, .agg #[.int .i64 r.2.1, .int .i64 r.2.2], .int .i64 err]) ∧ LIn base w' ao r.1.length r.1 ∧ Below base w0 w'

theorem results_tct {fn : Func} {p u x : Tmp} {ty : TypeId} (h : fn.results = #[.tmp u, .cell p ty, .tmp x]) (tmps : Array Value) (P : Program) (w : World) :
    (results fn tmps).run P w =
      ((asAddr (tmps.getD p undef)).run P w).andThen fun a w₁ => ((loadVar ty a).run P w₁).andThen fun v w₂ => .ok (.tuple #[tmps.getD u undef, v, tmps.getD x undef]) w₂ := by
  simp only [results, h]
  simp [Sem.run_bind, Result.andThen]

theorem LIs.nil (w : World) : LIs w none 0 [] := ⟨rfl, Or.inl rfl⟩

theorem okLog_false {Z : List (List Int)} {a s : Int} (h : ¬ (Z.length = 40 ∧ 0 ≤ a ∧ a ≤ 39 ∧ 1 ≤ s ∧ s ≤ 1073741824)) : foundErr Z a s = 2 ∧ foundOut Z a s = ([], 0, 0) := by
  have e : okLog Z a s = false := by unfold okLog; rw [decide_eq_false h]; rfl
  unfold foundErr foundOut
  rw [e]
  exact ⟨rfl, rfl⟩
theorem okLog_short {Z : List (List Int)} {a s : Int} {j : Nat} (hj : j < Z.length) (h : (Z.getD j []).length ≠ 64) : foundErr Z a s = 2 ∧ foundOut Z a s = ([], 0, 0) := by
  have e : okLog Z a s = false := by
    cases h2 : okLog Z a s with
    | false => rfl
    | true =>
      unfold okLog at h2
      rw [Bool.and_eq_true] at h2
      have h3 := List.all_eq_true.1 h2.2 (Z.getD j []) (by rw [List.getD_eq_getElem?_getD, List.getElem?_eq_getElem hj]; exact List.getElem_mem _)
      exact absurd (of_decide_eq_true h3) h
  unfold foundErr foundOut
  rw [e]
  exact ⟨rfl, rfl⟩

theorem step_append_at {t e : TypeId} {z : Value} {sz nb : Nat} (hE : ElemR t e z sz nb) {ops : Array Oper} {o : Oper} {a : Act} {w : World} {K : Act → World → Prop} {Q : Exit → Act → World → Prop} {E : Prop} (hgd : o.guard = none) (s y : Operand) (ho : o.op = Op.call { callee := Callee.builtin Builtin.append, args := #[s, y], argTypes := #[t, t] })
    (base n : Nat) (v : Value) (xs : List Value) (hs : a.eval s = v) (hown : w.ownsRow base e sz v n xs) (ad : Addr) (m c : Nat) (news : List Value) (hl : news.length = m * sz) (hm : 0 < m) (hy : a.eval y = .slice (some ad) m c)
    (hx : ∀ j u, news[j]? = some u → w.cell? (ad.add j) = some u) (h1 : ∀ u ∈ news, u.oneCell' = true) (hb : n + m ≤ 2000000000) (hbase : base ≤ w.heap.size)
    (h : ∀ v' w', w'.ownsRow base e sz v' (n + m) (xs ++ news) → w.grownBy w' v.ownBlock → Below base w w' → (v'.ownBlock = v.ownBlock ∨ v'.ownBlock = some w.heap.size) → K (a.put o.dst v') w') :
    if Region.wanted o (yielded ops a.tmps) = true then Oper.wp Try.prog o a w K Q else E := by
  have hw : Region.wanted o (yielded ops a.tmps) = true := by simp [Region.wanted, hgd]
  rw [if_pos hw]
  have hE2 := hE
  obtain ⟨hu, hi, hz, hp, hnb⟩ := hE
  obtain ⟨i0, hi0, hz0, hz1, hz2⟩ := info_parts hi
  obtain ⟨v', w', hrun, h2, h3, _⟩ := run_append_own (P := Try.prog) w base t o.type e i0 z sz nb hu hi0 hz0 hz1 hz2 hz hp v n xs hown ad m c news hl hx h1
      (by unfold maxLen; omega) (by have : (n + m) * nb ≤ 2000000000 * 64 := Nat.mul_le_mul (by omega) hnb
                                    omega) hbase
  have h4 := append_block hE2 w o.type base n v v' w' xs hown ad m c news hl hx h1 hb hm hrun
  unfold Oper.wp
  simp [execOp, ho, resolve, invoke, builtin, hs, hy, hrun, Result.andThen]
  exact h v' w' h2 h3 ((Below.refl base w).grown h3 hbase (fun k hk => (hown.lt k hk).1)) h4

theorem news_f (w : World) (L : List Value) (T : TypeId) : ∀ (j : Nat) (u : Value), L[j]? = some u → (w.alloc (.cells L.toArray T)).cell? ((⟨w.heap.size, 0, none⟩ : Addr).add j) = some u := by
  intro j u hj
  rw [Go.WideShapes.add_plain, Nat.zero_add, World.cell?_alloc_new]
  simpa using hj

/-- What a transaction writes. -/
def txL (Z : List (List Int)) (to : List Int) (a m : Nat) : List (Int × List Int) := (List.range m).map fun i => (to.getD i 0, Z.getD ((a + 1 + i) % 40) [])
theorem txL_length (Z : List (List Int)) (to : List Int) (a m : Nat) : (txL Z to a m).length = m := by unfold txL; rw [List.length_map, List.length_range]
theorem txL_step (Z : List (List Int)) (to : List Int) (a m i : Nat) (h : i < m) : (txL Z to a m).take (i + 1) = (txL Z to a m).take i ++ [(to.getD i 0, Z.getD ((a + 1 + i) % 40) [])] := by
  have e : (txL Z to a m)[i]? = some (to.getD i 0, Z.getD ((a + 1 + i) % 40) []) := by unfold txL; rw [List.getElem?_map, List.getElem?_range h]; rfl
  rw [List.take_add_one, e]
  rfl

theorem findF_none {Z : List (List Int)} {a : Nat} {s : Int} (h : txAt Z a s = none) : findF Z a s = ([], a, s) := by
  unfold findF
  cases (1073741824 - s).toNat with
  | zero => rfl
  | succ k => unfold findL; rw [h]
theorem findF_end {Z : List (List Int)} {a : Nat} {s : Int} (h : 1073741824 ≤ s) : findF Z a s = ([], a, s) := by
  unfold findF
  rw [show (1073741824 - s).toNat = 0 by omega]
  rfl
theorem findF_some {Z : List (List Int)} {a : Nat} {s : Int} {l : List (Int × List Int)} (h : txAt Z a s = some l) (hs : s < 1073741824) : findF Z a s = (l :: (findF Z ((a + (l.length + 2)) % 40) (s + 1)).1, (findF Z ((a + (l.length + 2)) % 40) (s + 1)).2) := by
  unfold findF
  rw [show (1073741824 - s).toNat = (1073741824 - (s + 1)).toNat + 1 by omega]
  conv => lhs; unfold findL
  rw [h]

/-- The head's variable, and the answer's. -/
def FVar (w : World) (a s : Int) (wr : World) : Prop :=
  Below w.heap.size w wr ∧ wr.cell? ⟨w.heap.size, 0, none⟩ = some (.int .i64 a) ∧ wr.cell? ⟨w.heap.size, 1, none⟩ = some (.int .i64 s) ∧ wr.cell? ⟨w.heap.size + 1, 0, none⟩ = some (.int .i64 0) ∧ wr.cell? ⟨w.heap.size + 1, 1, none⟩ = some (.int .i64 0) ∧
    (∀ j, wr.frozen? ⟨w.heap.size, j, none⟩ = false) ∧ ∀ j, wr.frozen? ⟨w.heap.size + 1, j, none⟩ = false
theorem FVar.lt {w wr : World} {a s : Int} (h : FVar w a s wr) : w.heap.size + 1 < wr.heap.size := World.block_lt_of_cell? _ _ h.2.2.2.1
theorem FVar.under {w wr wx : World} {a s : Int} {base : Nat} (h : FVar w a s wr) (hb : Below base wr wx) (hg : w.heap.size + 1 < base) : FVar w a s wx :=
  ⟨h.1.trans (hb.mono (by omega)), cell_under hb h.2.1 (by show w.heap.size < base; omega), cell_under hb h.2.2.1 (by show w.heap.size < base; omega), cell_under hb h.2.2.2.1 hg, cell_under hb h.2.2.2.2.1 hg, frozen_under hb h.2.2.2.2.2.1 (by omega), frozen_under hb h.2.2.2.2.2.2 hg⟩
theorem FVar.later {w wr wx : World} {a s : Int} (h : FVar w a s wr) (hb : Below wr.heap.size wr wx) : FVar w a s wx := h.under hb h.lt
theorem FVar.set {w wr : World} {a s a' s' : Int} (h : FVar w a s wr) : FVar w a' s' ((wr.setCell ⟨w.heap.size, 0, none⟩ (.int .i64 a')).setCell ⟨w.heap.size, 1, none⟩ (.int .i64 s')) := by
  obtain ⟨h1, h2, h3, h4, h5, h6, h7⟩ := h
  refine ⟨(h1.setCell (Nat.le_refl _) _).setCell (Nat.le_refl _) _, ?_, ?_, ?_, ?_, fun j => by simpa using h6 j, fun j => by simpa using h7 j⟩
  · rw [World.cell?_setCell_other (h := by simp)]
    exact World.cell?_setCell_same wr _ _ h2
  · have e : (wr.setCell ⟨w.heap.size, 0, none⟩ (.int .i64 a')).cell? ⟨w.heap.size, 1, none⟩ = some (.int .i64 s) := by
      rw [World.cell?_setCell_other (h := by simp)]
      exact h3
    exact World.cell?_setCell_same _ _ _ e
  · rw [World.cell?_setCell_other (h := by simp), World.cell?_setCell_other (h := by simp)]
    exact h4
  · rw [World.cell?_setCell_other (h := by simp), World.cell?_setCell_other (h := by simp)]
    exact h5

def seqOf (g : Nat) (wr : World) : Nat := match wr.cell? ⟨g, 1, none⟩ with
  | some (.int _ n) => (1073741824 - n).toNat
  | _ => 0

theorem seqOf_eq {w W : World} {a q : Int} (h : FVar w a q W) : seqOf w.heap.size W = (1073741824 - q).toNat := by
  unfold seqOf
  rw [h.2.2.1]

end Go.Proofs.Ytbnepjojfaeggaa

namespace Go.Proofs.Ytbnepjojfaeggaa
open Go.RowKit

section
variable {P : Program} {a : Act} {w : World} {Q : Exit → Act → World → Prop}
/-- A scope in which the run comes to a label and jumps back to it: its rest is walked once. -/
theorem wp_scope_again {c rest : Code} (l : Nat) (J : Act → World → Prop) (μ : Act → World → Nat) (hf : findLabel c l = some (Code.skip.seq rest))
    (first : (∀ a w, J a w → rest.wp P (Exit.jump l J Q) a w) → c.wp P (Exit.jump l J Q) a w)
    (pass : ∀ a w, J a w → rest.wp P (Exit.jump l (fun a' w' => J a' w' ∧ μ a' w' < μ a w) Q) a w) : (Code.scope c).wp P Q a w := by
  refine wp_scope_jumps l J μ hf (first (fun a w h => wp_mono (pass a w h) (fun e a' w' hq => ?_))) (fun a w h => wp_seq (wp_skip (pass a w h)))
  cases e with
  | goto l' => exact ⟨hq.1, hq.2.1⟩
  | _ => exact hq
end
end Go.Proofs.Ytbnepjojfaeggaa
