/-
  Proved here: what the landed journal's commit leans on: its small calls once more, and a row of writes of its own. The conditions stand at each theorem. Proved here: what the landed journal's commit answers where it takes nothing. The conditions stand at each theorem. Proved here: what the landed journal's commit answers. The conditions stand at each theorem.
-/
import Derived.Test.YtbnepjojfaeggaaJrClear
import Derived.Test.YtbnepjojfaeggaaJrGd
namespace Go.Proofs.Ytbnepjojfaeggaa
open Go.RowKit
set_option linter.unusedVariables false
set_option linter.unusedSimpArgs false

theorem inLogZ (W : World) (z : Int) (hz : 0 ≤ z ∧ z ≤ 1000000) (ao : Option Addr) (l c : Nat) : Calls Try.prog 52 #[.int .i64 z, .slice ao l c] W fun e w' => e = .returned (.agg #[.int .i64 (logA z.toNat), .slice ao l c]) ∧ Below W.heap.size W w' := by
  have h := inLog_any W z.toNat (by omega) ao l c
  rw [show ((z.toNat : Nat) : Int) = z by omega] at h
  exact h
theorem clearedZ (W : World) (z s : Int) (hz : 0 ≤ z ∧ z ≤ 1000000) : Calls Try.prog 51 #[.agg #[.int .i64 z, .int .i64 s]] W fun e w' => ∃ g, e = .returned (.agg #[.int .i64 (logA z.toNat), .slice (some ⟨g, 0, none⟩) 64 64]) ∧ Own W.heap.size W g zeros64 w' := by
  have h := cleared_any W z.toNat (by omega) s
  rw [show ((z.toNat : Nat) : Int) = z by omega] at h
  exact h
theorem headBlockZ (W : World) (z s : Int) (hz : 0 ≤ z ∧ z ≤ 39) (hs : 1 ≤ s ∧ s ≤ 1073741824) : Calls Try.prog 36 #[.agg #[.int .i64 z, .int .i64 s]] W fun e w' => ∃ ao c, e = .returned (.agg #[.int .i64 1, .slice ao 64 c]) ∧ Fresh w' W.heap.size (.slice ao 64 c) (headBlock ⟨z, s⟩) ∧ Below W.heap.size W w' :=
  headBlock_any W ⟨z, s⟩ (by unfold PHead.in64 i64w; dsimp only; omega) (by unfold PHead.sound; rw [decide_eq_true_eq]; dsimp only; omega)

theorem ListIs.underJ {w : World} {H : Nat → Prop} {ao : Option Addr} {m : Nat} {ws : List (Int × List Int)} (h : ListIs w H ao m ws) : ListIs w (fun k => H k ∧ k < w.heap.size) ao m ws := by
  obtain ⟨h1, h2, h3⟩ := h
  by_cases h0 : m = 0
  · exact ⟨h1, h2, Or.inl h0⟩
  obtain ⟨b, off, rfl, hg, hc⟩ := h3.resolve_left h0
  refine ⟨h1, h2, Or.inr ⟨b, off, rfl, ⟨hg, ?_⟩, fun j a zs hj => ?_⟩⟩
  · obtain ⟨p, hp⟩ : ∃ p, ws[0]? = some p := ⟨_, List.getElem?_eq_getElem (by omega)⟩
    exact World.block_lt_of_cell? _ _ (hc 0 p.1 p.2 hp).1
  · obtain ⟨c1, c2, ad, l, c, c3, hA, c4⟩ := hc j a zs hj
    refine ⟨c1, c2, ad, l, c, c3, hA, fun b' o s e hl => ⟨c4 b' o s e hl, ?_⟩⟩
    rcases hA.1.2.2.2 with h | ⟨b2, o2, e2, hz⟩
    · exact absurd h hl
    · rw [e] at e2
      cases e2
      exact World.block_lt_of_cell? _ _ (hz 0 (Nat.pos_of_ne_zero hl))
theorem ListIs.wisJ {w : World} {H : Nat → Prop} {ao : Option Addr} {m : Nat} {ws : List (Int × List Int)} (h : ListIs w H ao m ws) : WIs w ao m ws := by
  obtain ⟨h1, h2, h3⟩ := h
  refine ⟨h1, h2, h3.imp_right ?_⟩
  rintro ⟨b, off, rfl, hg, hc⟩
  refine ⟨b, off, rfl, fun j a zs hj => ?_⟩
  obtain ⟨c1, c2, ad, l, c, c3, hA, c4⟩ := hc j a zs hj
  exact ⟨by rw [Nat.mul_comm]; exact c1, c2, ad, l, c, by rw [Nat.mul_comm]; exact c3, hA⟩
/-- One write of a list, whose data have 64 bytes. -/
theorem ListIs.at64 {w : World} {H : Nat → Prop} {ao : Option Addr} {m i : Nat} {ws : List (Int × List Int)} (h : ListIs w H ao m ws) (hi : i < m) (h64 : ∀ p ∈ ws, p.2.length = 64) : ∃ b off x zs db doff c, ao = some ⟨b, off, none⟩ ∧ H b ∧ ws[i]? = some (x, zs) ∧ w.cell? ⟨b, off + i * 2, none⟩ = some (.int .i64 x) ∧
    w.cell? ⟨b, off + i * 2 + 1, none⟩ = some (.slice (some ⟨db, doff, none⟩) 64 c) ∧ Arg w (some ⟨db, doff, none⟩) 64 c zs ∧ H db := by
  obtain ⟨h1, h2, h3⟩ := h
  obtain ⟨b, off, rfl, hg, hc⟩ := h3.resolve_left (by omega)
  obtain ⟨⟨x, zs⟩, hx⟩ : ∃ p, ws[i]? = some p := ⟨_, List.getElem?_eq_getElem (by omega)⟩
  obtain ⟨c1, c2, ad, l, c, c3, hA, c4⟩ := hc i x zs hx
  have hl : l = 64 := by rw [← hA.1.1]; exact h64 _ (List.mem_of_getElem? hx)
  subst hl
  obtain ⟨db, doff, rfl, _⟩ := hA.1.2.2.2.resolve_left (by decide)
  exact ⟨b, off, x, zs, db, doff, c, rfl, hg, hx, by rw [Nat.mul_comm]; exact c1, by rw [Nat.mul_comm]; exact c3, hA, c4 db doff none rfl (by decide)⟩

/-- A row of writes of the call's own, in blocks from R on; its texts in blocks of K, below R. -/
def RowK (K : Nat → Prop) (R : Nat) (w : World) (v : Value) (ws : List (Int × List Int)) : Prop :=
  (R ≤ w.heap.size ∧ ∀ k, K k → k < R) ∧ ∃ xs, w.ownsRow R 48 2 v ws.length xs ∧ ∀ (j : Nat) (a : Int) (zs : List Int), ws[j]? = some (a, zs) → xs[j * 2]? = some (.int .i64 a) ∧ I64 a ∧
    ∃ db off cap, xs[j * 2 + 1]? = some (.slice (some ⟨db, off, none⟩) 64 cap) ∧ K db ∧ Arg w (some ⟨db, off, none⟩) 64 cap zs
theorem RowK.later {K : Nat → Prop} {R : Nat} {w w' : World} {v : Value} {ws : List (Int × List Int)} (h : RowK K R w v ws) (hb : Below w.heap.size w w') : RowK K R w' v ws := by
  obtain ⟨ht, xs, ho, hx⟩ := h
  refine ⟨⟨Nat.le_trans ht.1 hb.size, ht.2⟩, xs, owns_later_r ho hb, fun j a zs hj => ?_⟩
  obtain ⟨c1, c2, d, o, c, c3, c4, c6⟩ := hx j a zs hj
  exact ⟨c1, c2, d, o, c, c3, c4, c6.later hb⟩
theorem RowK.shape {K : Nat → Prop} {R : Nat} {w : World} {v : Value} {ws : List (Int × List Int)} (h : RowK K R w v ws) : ∃ ao cap, v = .slice ao ws.length cap := owns_shape_r h.2.choose_spec.1
theorem RowK.own_lt {K : Nat → Prop} {R : Nat} {w : World} {v : Value} {ws : List (Int × List Int)} (h : RowK K R w v ws) {g : Nat} (hg : v.ownBlock = some g) : R ≤ g ∧ g < w.heap.size := h.2.choose_spec.1.lt g hg
theorem RowK.list {K : Nat → Prop} {R : Nat} {w : World} {v : Value} {ws : List (Int × List Int)} (h : RowK K R w v ws) (hl : ws.length ≤ 140737488351232) : ∃ ao cap, v = .slice ao ws.length cap ∧ ListIs w (fun k => K k ∨ (R ≤ k ∧ k < w.heap.size)) ao ws.length ws := by
  obtain ⟨ht, xs, ho, hx⟩ := h
  rcases ho.2 with ⟨rfl, h0⟩ | ⟨g, cap, cur, hv, hb, _, hc, _⟩
  · exact ⟨none, 0, by rw [h0], rfl, by omega, Or.inl h0⟩
  · have hlt := ho.lt g (by rw [hv]; rfl)
    refine ⟨_, cap, hv, rfl, by omega, Or.inr ⟨g, 0, rfl, Or.inr hlt, fun j a zs hj => ?_⟩⟩
    obtain ⟨c1, c2, d, o, c, c3, c4, c6⟩ := hx j a zs hj
    have e1 := ho.cells (g := g) (by rw [hv]; rfl) _ _ c1
    have e2 := ho.cells (g := g) (by rw [hv]; rfl) _ _ c3
    rw [Go.WideShapes.add_plain, Nat.mul_comm] at e1
    rw [Go.WideShapes.add_plain, ← Nat.add_assoc, Nat.mul_comm] at e2
    exact ⟨e1, c2, _, _, _, e2, c6, fun b' o' s' e _ => by cases e; exact Or.inl c4⟩
/-- A row of two, as it is built. -/
theorem rowK_two {K : Nat → Prop} {w : World} {x y : Int} {zs us : List Int} {d1 o1 c1 d2 o2 c2 : Nat} (hx : I64 x) (hy : I64 y) (hK : ∀ k, K k → k < w.heap.size) (h1 : K d1) (h2 : K d2) (hA : Arg w (some ⟨d1, o1, none⟩) 64 c1 zs) (hB : Arg w (some ⟨d2, o2, none⟩) 64 c2 us) :
    RowK K w.heap.size (w.alloc (.cells #[.int .i64 x, .slice (some ⟨d1, o1, none⟩) 64 c1, .int .i64 y, .slice (some ⟨d2, o2, none⟩) 64 c2] 48)) (.slice (some ⟨w.heap.size, 0, none⟩) 2 2) [(x, zs), (y, us)] := by
  have hb : Below w.heap.size w (w.alloc (.cells #[.int .i64 x, .slice (some ⟨d1, o1, none⟩) 64 c1, .int .i64 y, .slice (some ⟨d2, o2, none⟩) 64 c2] 48)) := (Below.refl _ _).alloc (Nat.le_refl _) _
  have ho : (w.alloc (.cells #[.int .i64 x, .slice (some ⟨d1, o1, none⟩) 64 c1, .int .i64 y, .slice (some ⟨d2, o2, none⟩) 64 c2] 48)).ownsRow w.heap.size 48 2 (.slice (some ⟨w.heap.size, 0, none⟩) 2 2) 2 [.int .i64 x, .slice (some ⟨d1, o1, none⟩) 64 c1, .int .i64 y, .slice (some ⟨d2, o2, none⟩) 64 c2] :=
    ⟨rfl, Or.inr ⟨w.heap.size, 2, _, rfl, Nat.le_refl _, heap_alloc_new w _, Nat.le_refl _, by decide, rfl, rfl⟩⟩
  refine ⟨⟨hb.size, hK⟩, _, ho, fun j a ys hj => ?_⟩
  match j, hj with
  | 0, hj =>
    simp only [List.getElem?_cons_zero, Option.some.injEq, Prod.mk.injEq] at hj
    obtain ⟨rfl, rfl⟩ := hj
    exact ⟨rfl, hx, d1, o1, c1, rfl, h1, hA.later hb⟩
  | 1, hj =>
    simp only [List.getElem?_cons_succ, List.getElem?_cons_zero, Option.some.injEq, Prod.mk.injEq] at hj
    obtain ⟨rfl, rfl⟩ := hj
    exact ⟨rfl, hy, d2, o2, c2, rfl, h2, hB.later hb⟩
  | j + 2, hj => simp at hj
/-- One more, appended out of a row of one that was just built. -/
theorem rowK_snoc {K : Nat → Prop} {R : Nat} {w : World} {v : Value} {ws : List (Int × List Int)} {x : Int} {zs : List Int} {db off cap : Nat} (h : RowK K R w v ws) (hx : I64 x) (hk : K db) (hA : Arg w (some ⟨db, off, none⟩) 64 cap zs) (hl : ws.length ≤ 1000) (ty : TypeId) :
    ∃ v' w', (Builtin.append_ #[27, 27] ty #[v, .slice (some ⟨w.heap.size, 0, none⟩) 1 1]).run Try.prog (w.alloc (.cells #[.int .i64 x, .slice (some ⟨db, off, none⟩) 64 cap] 48)) = .ok v' w' ∧ RowK K R w' v' (ws ++ [(x, zs)]) ∧ Below R (w.alloc (.cells #[.int .i64 x, .slice (some ⟨db, off, none⟩) 64 cap] 48)) w' ∧
      ∀ k, k < w.heap.size → v.ownBlock ≠ some k → w'.heap[k]? = w.heap[k]? := by
  obtain ⟨hu, hi, hz, hp, hnb⟩ := elemW
  obtain ⟨i0, hi0, hz0, hz1, hz2⟩ := info_parts hi
  have hb : Below w.heap.size w (w.alloc (.cells #[.int .i64 x, .slice (some ⟨db, off, none⟩) 64 cap] 48)) := (Below.refl _ _).alloc (Nat.le_refl _) _
  have hKR := h.1.2
  obtain ⟨ht, xs, ho, hxs⟩ := h.later hb
  have hR := ht.1
  have hc : ∀ (j : Nat) (u : Value), [Value.int .i64 x, .slice (some ⟨db, off, none⟩) 64 cap][j]? = some u → (w.alloc (.cells #[.int .i64 x, .slice (some ⟨db, off, none⟩) 64 cap] 48)).cell? ((⟨w.heap.size, 0, none⟩ : Addr).add j) = some u := news_r w [.int .i64 x, .slice (some ⟨db, off, none⟩) 64 cap] _
  have hA2 := hA.later hb
  have hsz : w.heap.size ≤ (w.alloc (.cells #[.int .i64 x, .slice (some ⟨db, off, none⟩) 64 cap] 48)).heap.size := hb.size
  have hbk : ∀ k, k < w.heap.size → (w.alloc (.cells #[.int .i64 x, .slice (some ⟨db, off, none⟩) 64 cap] 48)).heap[k]? = w.heap[k]? := fun k hk => hb.block k hk
  clear hb
  generalize w.alloc (.cells #[.int .i64 x, .slice (some ⟨db, off, none⟩) 64 cap] 48) = V at *
  obtain ⟨v', w', hrun, h3, h4, _⟩ := run_append_own (P := Try.prog) V R 27 ty 48 i0 _ 2 32 hu hi0 hz0 hz1 hz2 hz hp v ws.length xs ho ⟨w.heap.size, 0, none⟩ 1 1 [.int .i64 x, .slice (some ⟨db, off, none⟩) 64 cap] rfl hc
    (fun u hu2 => by simp only [List.mem_cons, List.mem_nil_iff, or_false] at hu2; rcases hu2 with rfl | rfl <;> rfl) (by unfold maxLen; omega) (by omega) hR
  have hxl : xs.length = ws.length * 2 := ho.1
  have hvd : ∀ d, K d → v.ownBlock ≠ some d := fun d hd e => by have h1 := (ho.lt d e).1; have h2 := hKR d hd; omega
  refine ⟨v', w', hrun, ⟨⟨Nat.le_trans hR h4.size, hKR⟩, _, by rw [List.length_append]; exact h3, fun j b ys hj => ?_⟩, (Below.refl R V).grown h4 hR (fun k hk => (ho.lt k hk).1), fun k hk hne => (h4.block k (by omega) (fun e => hne e.symm)).trans (hbk k hk)⟩
  by_cases hjl : j < ws.length
  · rw [List.getElem?_append_left hjl] at hj
    obtain ⟨c1, c2, d, o, c, c3, c4, c6⟩ := hxs j b ys hj
    exact ⟨by rw [List.getElem?_append_left (by omega)]; exact c1, c2, d, o, c, by rw [List.getElem?_append_left (by omega)]; exact c3, c4, arg_grown c6 h4 (hvd d c4)⟩
  · rw [List.getElem?_append_right (by omega)] at hj
    obtain ⟨k, hkk⟩ : ∃ k, j - ws.length = k := ⟨_, rfl⟩
    rw [hkk] at hj
    match k, hj with
    | 0, hj =>
      simp only [List.getElem?_cons_zero, Option.some.injEq, Prod.mk.injEq] at hj
      obtain ⟨rfl, rfl⟩ := hj
      exact ⟨by rw [List.getElem?_append_right (by omega), show j * 2 - xs.length = 0 by omega]; rfl, hx, db, off, cap, by rw [List.getElem?_append_right (by omega), show j * 2 + 1 - xs.length = 1 by omega]; rfl, hk, arg_grown hA2 h4 (hvd db hk)⟩
    | k + 1, hj => simp at hj

/-! ### Behind groups that were written -/
theorem writeP_ones : ∀ (gs : List (List (Int × List Int))) (s : DM), gs ≠ [] → (writeP s gs).2 = 0 → ∀ k, ((writeP s gs).1.hist k).length ≤ 1
  | [], s, h, _ => absurd rfl h
  | g :: r, s, _, h => fun k => by
    unfold writeP at h ⊢
    by_cases e1 : (putRes s g).2 ≠ 0
    · rw [if_pos e1] at h
      exact absurd h e1
    · rw [if_neg e1] at h ⊢
      by_cases e2 : (barRes (putRes s g).1).2 ≠ 0
      · rw [if_pos e2] at h
        exact absurd h e2
      · rw [if_neg e2] at h ⊢
        by_cases hr : r = []
        · rw [hr]
          exact (bar_hist (B := ((putRes s g).1.hist k).length + 1) (by omega) (by omega)).2 (by simpa using e2)
        · exact writeP_ones r _ hr h k
theorem clear_small {d : DM} {s : JS} (h : smallD d) (h0 : (clearP d s).2 = 0) : smallD (clearP d s).1 := by
  unfold clearP at h0 ⊢
  split at h0
  · next e => exact absurd h0 e
  · next e =>
    rw [if_neg e]
    split at h0
    · next e2 =>
      rw [if_pos e2]
      exact fun k => Nat.le_trans (writeP_ones _ _ (by simp) h0 k) (by decide)
    · next e2 =>
      rw [if_neg e2]
      exact h
end Go.Proofs.Ytbnepjojfaeggaa

namespace Go.Proofs.Ytbnepjojfaeggaa
open Go.RowKit
set_option linter.unusedVariables false
set_option linter.unusedSimpArgs false

set_option maxRecDepth 100000 in
theorem commit_none (w : World) (j : Addr) (lo : Option Addr) (lc : Nat) : Calls Try.prog 29 #[.pointer (some j), .slice lo 0 lc] w fun e w' => e = .returned (.int .i64 0) ∧ w' = w := by
  go_enter Try.func29, Try.ntmps29
  go_wp2_with fail
  go_ret
  exact ⟨rfl, rfl⟩
set_option maxRecDepth 100000 in
theorem commit_many (w : World) (j : Addr) (lo : Option Addr) (ll lc : Nat) (h : 20 < ll) : Calls Try.prog 29 #[.pointer (some j), .slice lo ll lc] w fun e w' => e = .returned (.int .i64 1) ∧ w' = w := by
  have l0 : ((ll : Int) == 0) = false := by simp; omega
  have l1 : (20 : Int) < (ll : Int) := by omega
  go_enter Try.func29, Try.ntmps29
  go_wp2_with fail
  go_ret
  exact ⟨rfl, rfl⟩
set_option maxRecDepth 100000 in
theorem commit_full {w : World} {q : Nat} {a : Addr} {x seq : Int} {gone : Bool} (hv : V4 w q (.pointer (some a)) (.int .i64 x) (.int .i64 seq) (.bool gone)) (lo : Option Addr) (ll lc : Nat) (h1 : 1 ≤ ll) (h20 : ll ≤ 20) (hs : 1073741824 ≤ seq) : Calls Try.prog 29 #[.pointer (some ⟨q, 0, none⟩), .slice lo ll lc] w fun e w' => e = .returned (.int .i64 11) ∧ w' = w := by
  have l0 : ((ll : Int) == 0) = false := by simp; omega
  have l1 : ¬ (20 : Int) < (ll : Int) := by omega
  obtain ⟨_, _, c2, _, _⟩ := hv
  go_enter Try.func29, Try.ntmps29
  go_wp2_with fail
  go_ret
  exact ⟨rfl, rfl⟩
end Go.Proofs.Ytbnepjojfaeggaa

namespace Go.Proofs.Ytbnepjojfaeggaa
open Go.RowKit
set_option linter.unusedVariables false
set_option linter.unusedSimpArgs false

theorem first_good {n q : Int} {ws : List (Int × List Int)} (h : firstErr n q ws = 0) : soundD ⟨q, ws.map Prod.fst⟩ = true ∧ firstOut n q ws = begB ⟨q, ws.map Prod.fst⟩ ∧ ∀ p ∈ ws, p.2.length = 64 := by
  unfold firstErr at h
  cases hb : ws.any (badW n) with
  | true => rw [hb, if_pos rfl] at h; cases h
  | false =>
    rw [hb, if_neg (by decide)] at h
    cases hs : soundD ⟨q, ws.map Prod.fst⟩ with
    | false => rw [hs, if_neg (by decide)] at h; cases h
    | true =>
      refine ⟨rfl, ?_, fun p hp => ?_⟩
      · unfold firstOut
        rw [hb, if_neg (by decide), hs, if_pos rfl]
      · have h1 := List.any_eq_false.1 hb p hp
        unfold badW at h1
        rw [decide_eq_true_eq] at h1
        omega
theorem Grew.or {F F' : Nat → Prop} {w w' : World} (h : Grew F F' w w') (q : Nat) : Grew (fun k => F k ∨ k = q) (fun k => F' k ∨ k = q) w w' :=
  ⟨h.1, h.2.1, h.2.2.1, h.2.2.2.1, fun k hk hn => h.2.2.2.2.1 k hk (fun hf => hn (Or.inl hf)), fun k hk => hk.elim (fun hf => (h.2.2.2.2.2 k hf).imp Or.inl id) (fun e => Or.inl (Or.inr e))⟩
theorem behind_take {s : JS} {ws : List (Int × List Int)} {i : Nat} {x : Int} {zs : List Int} (h : ws[i]? = some (x, zs)) : (behindG s ws).take (i + 3) = (behindG s ws).take (i + 2) ++ [(logA (s.at_.toNat + 1 + i), zs)] := by
  obtain ⟨hi, he⟩ := List.getElem?_eq_some_iff.1 h
  have e : (behindG s ws)[i + 2]? = some (logA (s.at_.toNat + 1 + i), zs) := by
    unfold behindG dataG
    rw [List.getElem?_cons_succ, List.getElem?_cons_succ, List.getElem?_map, List.getElem?_range hi, Option.map_some, List.getD_eq_getElem?_getD, h]
    rfl
  rw [List.take_add_one, e]
  rfl
theorem firstlen {ws : List (Int × List Int)} {s : JS} (i : Nat) (hi : i ≤ ws.length) : ((behindG s ws).take (i + 2)).length = i + 2 := by
  unfold behindG dataG
  rw [List.length_take]
  simp
  omega

theorem fresh64 {w : World} {base : Nat} {v : Value} {L : List Int} (h : Fresh w base v L) (hl : L.length = 64) : ∃ d o c, v = .slice (some ⟨d, o, none⟩) 64 c ∧ Arg w (some ⟨d, o, none⟩) 64 c L ∧ base ≤ d ∧ d < w.heap.size := by
  have h0 : L ≠ [] := fun e => by rw [e] at hl; cases hl
  obtain ⟨ao, c, rfl, _⟩ := fresh_form h
  obtain ⟨_, hA, hb⟩ := h.inb h0
  rw [hl] at hA
  obtain ⟨d, o, rfl, _⟩ := hA.1.2.2.2.resolve_left (by decide)
  exact ⟨d, o, c, by rw [hl], hA, hb d o none rfl⟩

set_option maxRecDepth 100000 in
set_option maxHeartbeats 6400000 in
theorem commit_main {w : World} {q : Nat} {a : Addr} {F H : Nat → Prop} {D : DM} {x seq : Int} {gone : Bool} {lo : Option Addr} {ll lc : Nat} {ws : List (Int × List Int)} (hD : DI w a F D) (hv : V4 w q (.pointer (some a)) (.int .i64 x) (.int .i64 seq) (.bool gone)) (hx : 0 ≤ x ∧ x ≤ 39) (hs : 1 ≤ seq ∧ seq < 1073741824) (hqF : ¬ F q)
    (hL : ListIs w H lo ll ws) (hFH : ∀ k, F k → ¬ H k) (hsm : smallD D) (h1 : 1 ≤ ll) (h20 : ll ≤ 20) :
    Calls Try.prog 29 #[.pointer (some ⟨q, 0, none⟩), .slice lo ll lc] w fun e w' => ∃ F', e = .returned (.int .i64 (commit0 D ⟨x, seq, gone⟩ ws).2.2) ∧ DI w' a F' (commit0 D ⟨x, seq, gone⟩ ws).1 ∧
      V4 w' q (.pointer (some a)) (.int .i64 (commit0 D ⟨x, seq, gone⟩ ws).2.1.at_) (.int .i64 (commit0 D ⟨x, seq, gone⟩ ws).2.1.seq) (.bool gone) ∧ Grew (fun k => F k ∨ k = q) (fun k => F' k ∨ k = q) w w' ∧ ¬ F' q := by
  have hlen : ws.length = ll := hL.1
  obtain ⟨S, hS⟩ : ∃ S : JS, (⟨x, seq, gone⟩ : JS) = S := ⟨_, rfl⟩
  have hSx : S.at_ = x := by rw [← hS]
  have hSq : S.seq = seq := by rw [← hS]
  have hSg : S.gone = gone := by rw [← hS]
  have hJ2 : JI2 w ⟨q, 0, none⟩ a (fun k => k = q) S := by rw [← hS]; exact ⟨⟨q, rfl, rfl, hv⟩, hx.1, hx.2, hs.1, by show seq ≤ _; omega⟩
  have cF := first_any (s := S) (cap := lc) hD hJ2.1 (by rw [hSq]; unfold I64; omega) hL.wisJ h20 h1
  rw [hSq] at cF
  rw [hS]
  obtain ⟨e1, he1⟩ : ∃ e, firstErr (D.n : Int) seq ws = e := ⟨_, rfl⟩
  obtain ⟨B1, hB1⟩ : ∃ B, firstOut (D.n : Int) seq ws = B := ⟨_, rfl⟩
  obtain ⟨D3, hD3⟩ : ∃ d, (clearP D S).1 = d := ⟨_, rfl⟩
  obtain ⟨e2, he2⟩ : ∃ e, (clearP D S).2 = e := ⟨_, rfl⟩
  obtain ⟨n, hn⟩ : ∃ n, S.at_.toNat = n := ⟨_, rfl⟩
  have hnx : x = (n : Int) := by rw [← hn, hSx]; omega
  obtain ⟨GS, hGS⟩ : ∃ G, [behindG S ws, [(logA n, B1)], ws] = G := ⟨_, rfl⟩
  obtain ⟨D8, hD8⟩ : ∃ d, (writeP D3 GS).1 = d := ⟨_, rfl⟩
  obtain ⟨e3, he3⟩ : ∃ e, (writeP D3 GS).2 = e := ⟨_, rfl⟩
  obtain ⟨nx, hnxt⟩ : ∃ y : Int, ((nextA S ll : Nat) : Int) = y := ⟨_, rfl⟩
  obtain ⟨sq1, hsq1⟩ : ∃ y : Int, seq + 1 = y := ⟨_, rfl⟩
  have hW : commitW D S ws = (D8, e3) := by
    unfold commitW
    rw [hD3, hSq, hB1, hn, hGS, ← hD8, ← he3]
  have hC0 : commit0 D S ws = if e1 ≠ 0 then (D, S, e1) else if e2 ≠ 0 then (D3, S, e2) else if e3 ≠ 0 then (D8, S, e3) else ((writeP D8 [[(1, headBlock ⟨nx, sq1⟩)]]).1, ⟨nx, sq1, gone⟩, (writeP D8 [[(1, headBlock ⟨nx, sq1⟩)]]).2) := by
    unfold commit0 commitH
    rw [hW, hlen, hnxt, hSq, hsq1, hSg, he1, he2, hD3, if_neg (fun e => by rw [e] at hlen; simp at hlen; omega), if_neg (by omega), if_neg (by omega)]
  have HC0 := Lib.hid hC0
  have HV := Lib.hid hv
  have HD := Lib.hid hD
  have HS := Lib.hid hsm
  have HJ2 := Lib.hid hJ2
  have HQF := Lib.hid hqF
  have HL := Lib.hid hL
  have HFH := Lib.hid hFH
  have HX := Lib.hid hx
  have HSS := Lib.hid hs
  have HLL := Lib.hid (And.intro h1 h20)
  have HE1 := Lib.hid he1
  have HB1e := Lib.hid hB1
  have HE2 := Lib.hid he2
  have HD3e := Lib.hid hD3
  have HD8e := Lib.hid hD8
  have HE3 := Lib.hid he3
  have HGS := Lib.hid hGS
  have HN := Lib.hid hn
  have HNX := Lib.hid hnx
  have HNXT := Lib.hid hnxt
  have HSQ1 := Lib.hid hsq1
  have HSE : Hid (S.at_ = x ∧ S.seq = seq ∧ S.gone = gone) := Lib.hid ⟨hSx, hSq, hSg⟩
  rw [he1, hB1] at cF
  obtain ⟨k1, hk1⟩ : ∃ k, B1.length = k := ⟨_, rfl⟩
  have HK1 := Lib.hid hk1
  have l0 : ((ll : Int) == 0) = false := by simp; omega
  have l1 : ¬ (20 : Int) < (ll : Int) := by omega
  have l2 : ¬ (1073741824 : Int) ≤ seq := by omega
  have hvs := hv
  obtain ⟨p0, p1, p2, _, _⟩ := hvs
  have HLW := Lib.hid hlen
  clear hC0 hW hv hD hsm hJ2 hqF hL hFH hx hs h1 h20 he1 hB1 he2 hD3 hD8 he3 hGS hn hnx hnxt hsq1 hSx hSq hSg hk1 hlen hS
  by_cases he1 : e1 = 0
  · by_cases he2 : e2 = 0
    · subst he1
      subst he2
      obtain ⟨hg1, hg2, hg3⟩ := first_good HE1.out
      have hk64 : k1 = 64 := by rw [← HK1.out, ← HB1e.out, hg2]; exact begB64 hg1
      subst hk64
      have HG64 := Lib.hid hg3
      have cE := fun W => lEnd_any seq (ll : Int) W (by unfold i64w; have := HSS.out; omega) (by unfold i64w; have := HLL.out; omega)
      have hoke : okEnd seq (ll : Int) = true := by unfold okEnd; rw [decide_eq_true_eq]; have := HSS.out; have := HLL.out; omega
      unfold endOut endErr at cE
      rw [if_pos hoke, if_pos hoke] at cE
      have HCE := Lib.hid cE
      have HEL : Hid ((endB seq (ll : Int)).length = 64) := Lib.hid (endB_length _ _)
      clear hg1 hg2 hg3 cE hoke
      go_enter Try.func29, Try.ntmps29
      go_wp2_with (first
        | (go_at_call 50; refine (HCE.out w3).mono ?_; rintro e w4 ⟨v4, rfl, hf4, hb4⟩; obtain ⟨d4, o4, c4, rfl, hA4, hd4⟩ := fresh64 hf4 HEL.out; have HA4 := Lib.hid hA4; have HD4 := Lib.hid hd4; have HB4 := Lib.hid hb4; have HV4 := Lib.hid (HV3.out.later hb4); obtain ⟨p5, hp5⟩ : ∃ p, w4.heap.size = p := ⟨_, rfl⟩; obtain ⟨U5, hU5⟩ : ∃ U, w4.drew.alloc (.cells #[.int .i64 0, .int .i64 0] 58) = U := ⟨_, rfl⟩; clear hf4 hb4 hA4 hd4)
        | (go_at_call 49; refine (clear_any (diskOk.later HD.out HB1.out) HJ1.out (fun k hf hk => HQF.out (by rw [← hk]; exact hf)) HS.out).mono ?_; rintro e w3 ⟨F3, rfl, hD3, hg3⟩; rw [HE2.out]; rw [HD3e.out] at hD3; have HD3 := Lib.hid hD3; have HG3 := Lib.hid hg3; have HV3 := Lib.hid (HV1.out.kept (grew_kept hg3 HV1.out.lt HQF.out)); have h3q : w3.cell? ⟨q, 2, none⟩ = some (.int .i64 seq) := HV3.out.2.2.1; clear hD3 hg3)
        | (go_at_call 48; refine cF.mono ?_; rintro e w1 ⟨v1, rfl, hf1, hb1⟩; obtain ⟨d1, o1, c1, rfl, hA1, hd1⟩ := fresh64 hf1 HK1.out; have HA1 := Lib.hid hA1; have HD1 := Lib.hid hd1; have HB1 := Lib.hid hb1; have HV1 := Lib.hid (HV.out.later hb1); have HJ1 : Hid (JI2 w1 ⟨q, 0, none⟩ a (fun k => k = q) S) := Lib.hid ⟨HJ2.out.1.kept (fun k hk => by rw [hk]; exact hb1.block q HV.out.lt), HJ2.out.2⟩; clear hf1 hb1 hA1 hd1))
      obtain ⟨y1, hy1e⟩ : ∃ y, x + (ll : Int) = y := ⟨_, rfl⟩
      have hy1 : IntKind.i64.wrap (x + (ll : Int)) = y1 := by rw [← hy1e]; exact IntWalk.i64_in _ (by have := HX.out; have := HLL.out; omega)
      obtain ⟨y2, hy2e⟩ : ∃ y, y1 + 2 = y := ⟨_, rfl⟩
      have hy2 : IntKind.i64.wrap (y1 + 2) = y2 := by rw [← hy2e]; exact IntWalk.i64_in _ (by have := HX.out; have := HLL.out; omega)
      have hy3 : Int.tmod y2 40 = nx := by
        have h1 := HX.out
        have h2 := HLL.out
        have h3 := HNX.out
        rw [IntWalk.rem_in _ _ (by omega), ← HNXT.out]
        unfold nextA
        rw [HN.out]
        omega
      have hy4 : IntKind.i64.wrap (seq + 1) = sq1 := by rw [← HSQ1.out]; exact IntWalk.i64_in _ (by have := HSS.out; omega)
      have HBU : Hid (Below w4.heap.size w4 U5) := Lib.hid (by rw [← hU5]; exact (Below.refl _ _).drew.alloc (Nat.le_refl _) _)
      have HVU := Lib.hid (HV4.out.later HBU.out)
      have hru := rc_new w4.drew (.int .i64 0) (.int .i64 0) 58
      rw [hU5, show w4.drew.heap.size = p5 from hp5] at hru
      have HRU := Lib.hid hru
      obtain ⟨ru0, ru1, ruf⟩ := hru
      have ruf0 := ruf 0
      have ruf1 := ruf 1
      obtain ⟨W5, hW5⟩ : ∃ W, (U5.setCell ⟨p5, 0, none⟩ (.int .i64 nx)).setCell ⟨p5, 1, none⟩ (.int .i64 sq1) = W := ⟨_, rfl⟩
      have hr5 := HRU.out.set (.int .i64 nx) (.int .i64 sq1)
      rw [hW5] at hr5
      have HR5 := Lib.hid hr5
      have HB5 : Hid (Below w4.heap.size w4 W5) := Lib.hid (by rw [← hW5]; exact (HBU.out.setCell (p := ⟨p5, 0, none⟩) (Nat.le_of_eq hp5) _).setCell (p := ⟨p5, 1, none⟩) (Nat.le_of_eq hp5) _)
      have HV5 := Lib.hid (HV4.out.later HB5.out)
      have HP5 := Lib.hid hp5
      clear hy1e hy2e ruf hr5
      refine wp_region_held_drew (S := fun W => W.cell? ⟨q, 1, none⟩ = some (.int .i64 x) ∧ W.cell? ⟨q, 2, none⟩ = some (.int .i64 seq)) (by kernel_rfl) ⟨HV4.out.2.1, HV4.out.2.2.1⟩ (fun hHeld => ?_)
      refine wpAnyH_take (i := 0) (oi := ⟨some 52, _, _, _, _, _⟩) (v := .pointer (some ⟨q, 0, none⟩)) rfl (by kernel_rfl) (by kernel_rfl) (by kernel_rfl) (fun _ _ _ h => h) (Or.inl ⟨by kernel_rfl, fun w _ => rfl⟩) (by assumption) ?_
      try simp only [Act.put, List.setIfInBounds_toArray, List.set_cons_zero, List.set_cons_succ]
      refine wpAnyH_take (i := 1) (oi := ⟨some 53, _, _, _, _, _⟩) (v := .pointer (some ⟨q, 0, none⟩)) rfl (by kernel_rfl) (by kernel_rfl) (by kernel_rfl) (fun _ _ _ h => h) (Or.inl ⟨by kernel_rfl, by intro w _; go_simp; (try omega)⟩) (by assumption) ?_
      try simp only [Act.put, List.setIfInBounds_toArray, List.set_cons_zero, List.set_cons_succ]
      refine wpAnyH_take (i := 2) (oi := ⟨some 54, _, _, _, _, _⟩) (v := .pointer (some ⟨q, 1, none⟩)) rfl (by kernel_rfl) (by kernel_rfl) (by kernel_rfl) (fun _ _ _ h => h) (Or.inl ⟨by kernel_rfl, by intro w _; go_simp; (try omega)⟩) (by assumption) ?_
      try simp only [Act.put, List.setIfInBounds_toArray, List.set_cons_zero, List.set_cons_succ]
      refine wpAnyH_take (i := 3) (oi := ⟨some 55, _, _, _, _, _⟩) (v := .pointer (some ⟨q, 1, none⟩)) rfl (by kernel_rfl) (by kernel_rfl) (by kernel_rfl) (fun _ _ _ h => h) (Or.inl ⟨by kernel_rfl, by intro w _; go_simp; (try omega)⟩) (by assumption) ?_
      try simp only [Act.put, List.setIfInBounds_toArray, List.set_cons_zero, List.set_cons_succ]
      refine wpAnyH_take (i := 4) (oi := ⟨some 56, _, _, _, _, _⟩) (v := .int .i64 x) rfl (by kernel_rfl) (by kernel_rfl) (by kernel_rfl) (fun _ _ _ h => h) (Or.inl ⟨by kernel_rfl, by intro w hSw; obtain ⟨s1, s2⟩ := hSw; go_simp⟩) (by assumption) ?_
      try simp only [Act.put, List.setIfInBounds_toArray, List.set_cons_zero, List.set_cons_succ]
      refine wpAnyH_take (i := 5) (oi := ⟨some 57, _, _, _, _, _⟩) (v := .slice lo ll lc) rfl (by kernel_rfl) (by kernel_rfl) (by kernel_rfl) (fun _ _ _ h => h) (Or.inl ⟨by kernel_rfl, fun w _ => rfl⟩) (by assumption) ?_
      try simp only [Act.put, List.setIfInBounds_toArray, List.set_cons_zero, List.set_cons_succ]
      refine wpAnyH_take (i := 6) (oi := ⟨some 58, _, _, _, _, _⟩) (v := .int .i64 (ll : Int)) rfl (by kernel_rfl) (by kernel_rfl) (by kernel_rfl) (fun _ _ _ h => h) (Or.inl ⟨by kernel_rfl, by intro w _; go_simp; (try omega)⟩) (by assumption) ?_
      try simp only [Act.put, List.setIfInBounds_toArray, List.set_cons_zero, List.set_cons_succ]
      refine wpAnyH_take (i := 7) (oi := ⟨some 59, _, _, _, _, _⟩) (v := .int .i64 y1) rfl (by kernel_rfl) (by kernel_rfl) (by kernel_rfl) (fun _ _ _ h => h) (Or.inl ⟨by kernel_rfl, by intro w _; go_simp; (try assumption)⟩) (by assumption) ?_
      try simp only [Act.put, List.setIfInBounds_toArray, List.set_cons_zero, List.set_cons_succ]
      refine wpAnyH_take (i := 8) (oi := ⟨some 60, _, _, _, _, _⟩) (v := .int .i64 y2) rfl (by kernel_rfl) (by kernel_rfl) (by kernel_rfl) (fun _ _ _ h => h) (Or.inl ⟨by kernel_rfl, by intro w _; go_simp; (try assumption)⟩) (by assumption) ?_
      try simp only [Act.put, List.setIfInBounds_toArray, List.set_cons_zero, List.set_cons_succ]
      refine wpAnyH_take (i := 9) (oi := ⟨some 61, _, _, _, _, _⟩) (v := .int .i64 nx) rfl (by kernel_rfl) (by kernel_rfl) (by kernel_rfl) (fun _ _ _ h => h) (Or.inl ⟨by kernel_rfl, by intro w _; go_simp; (try assumption)⟩) (by assumption) ?_
      try simp only [Act.put, List.setIfInBounds_toArray, List.set_cons_zero, List.set_cons_succ]
      refine wpAnyH_take (i := 10) (oi := ⟨some 62, _, _, _, _, _⟩) (v := .pointer (some ⟨q, 0, none⟩)) rfl (by kernel_rfl) (by kernel_rfl) (by kernel_rfl) (fun _ _ _ h => h) (Or.inl ⟨by kernel_rfl, fun w _ => rfl⟩) (by assumption) ?_
      try simp only [Act.put, List.setIfInBounds_toArray, List.set_cons_zero, List.set_cons_succ]
      refine wpAnyH_take (i := 11) (oi := ⟨some 63, _, _, _, _, _⟩) (v := .pointer (some ⟨q, 0, none⟩)) rfl (by kernel_rfl) (by kernel_rfl) (by kernel_rfl) (fun _ _ _ h => h) (Or.inl ⟨by kernel_rfl, by intro w _; go_simp; (try omega)⟩) (by assumption) ?_
      try simp only [Act.put, List.setIfInBounds_toArray, List.set_cons_zero, List.set_cons_succ]
      refine wpAnyH_take (i := 12) (oi := ⟨some 64, _, _, _, _, _⟩) (v := .pointer (some ⟨q, 1, none⟩)) rfl (by kernel_rfl) (by kernel_rfl) (by kernel_rfl) (fun _ _ _ h => h) (Or.inl ⟨by kernel_rfl, by intro w _; go_simp; (try omega)⟩) (by assumption) ?_
      try simp only [Act.put, List.setIfInBounds_toArray, List.set_cons_zero, List.set_cons_succ]
      refine wpAnyH_take (i := 13) (oi := ⟨some 65, _, _, _, _, _⟩) (v := .pointer (some ⟨q, 2, none⟩)) rfl (by kernel_rfl) (by kernel_rfl) (by kernel_rfl) (fun _ _ _ h => h) (Or.inl ⟨by kernel_rfl, by intro w _; go_simp; (try omega)⟩) (by assumption) ?_
      try simp only [Act.put, List.setIfInBounds_toArray, List.set_cons_zero, List.set_cons_succ]
      refine wpAnyH_take (i := 14) (oi := ⟨some 66, _, _, _, _, _⟩) (v := .int .i64 seq) rfl (by kernel_rfl) (by kernel_rfl) (by kernel_rfl) (fun _ _ _ h => h) (Or.inl ⟨by kernel_rfl, by intro w hSw; obtain ⟨s1, s2⟩ := hSw; go_simp⟩) (by assumption) ?_
      try simp only [Act.put, List.setIfInBounds_toArray, List.set_cons_zero, List.set_cons_succ]
      refine wpAnyH_take (i := 15) (oi := ⟨some 67, _, _, _, _, _⟩) (v := .int .i64 sq1) rfl (by kernel_rfl) (by kernel_rfl) (by kernel_rfl) (fun _ _ _ h => h) (Or.inl ⟨by kernel_rfl, by intro w _; go_simp; (try assumption)⟩) (by assumption) ?_
      try simp only [Act.put, List.setIfInBounds_toArray, List.set_cons_zero, List.set_cons_succ]
      refine wpAnyH_take (i := 16) (oi := ⟨some 68, _, _, _, _, _⟩) (v := .agg #[.int .i64 nx, .int .i64 sq1]) rfl (by kernel_rfl) (by kernel_rfl) (by kernel_rfl) (fun _ _ _ h => h) (Or.inl ⟨by kernel_rfl, by intro w _; go_simp; (try omega)⟩) (by assumption) ?_
      try simp only [Act.put, List.setIfInBounds_toArray, List.set_cons_zero, List.set_cons_succ]
      refine wpAnyH_ready (rs := [17]) (by kernel_rfl) (by simp) ?_
      refine AllReadyH.cons (o := ⟨some 10, _, _, _, _, _⟩) rfl (fun K hK => ?_) AllReadyH.nil
      go_simp
      refine hK.out _ _ ?_ (fun hHeld1 => ?_)
      · exact ⟨HVU.out.2.1, HVU.out.2.2.1⟩
      clear hK K
      try simp only [Act.put, List.setIfInBounds_toArray, List.set_cons_zero, List.set_cons_succ]
      refine wpAnyH_ready (rs := [18]) (by kernel_rfl) (by simp) ?_
      refine AllReadyH.cons (o := ⟨none, _, _, _, _, _⟩) rfl (fun K hK => ?_) AllReadyH.nil
      go_simp
      refine hK.out _ _ ?_ (fun hHeld2 => ?_)
      · exact ⟨HV5.out.2.1, HV5.out.2.2.1⟩
      clear hK K
      try simp only [Act.put, List.setIfInBounds_toArray, List.set_cons_zero, List.set_cons_succ]
      refine wpAnyH_done (by kernel_rfl) ?_ _
      go_wp2_with fail
      obtain ⟨u1, hu1e⟩ : ∃ y, x + 1 = y := ⟨_, rfl⟩
      have hu1 : IntKind.i64.wrap (x + 1) = u1 := by rw [← hu1e]; exact IntWalk.i64_in _ (by have := HX.out; omega)
      obtain ⟨u2, hu2e⟩ : ∃ y, u1 + (ll : Int) = y := ⟨_, rfl⟩
      have hu2 : IntKind.i64.wrap (u1 + (ll : Int)) = u2 := by rw [← hu2e]; exact IntWalk.i64_in _ (by have := HX.out; have := HLL.out; omega)
      have HU1 : Hid (u1 = (n : Int) + 1 ∧ n ≤ 39) := Lib.hid (by have := HX.out; have := HNX.out; omega)
      have HU2 : Hid (0 ≤ u2 ∧ u2 ≤ 1000000 ∧ u2.toNat = n + 1 + ll) := Lib.hid (by have := HU1.out; have := HLL.out; omega)
      have HNX0 : Hid (0 ≤ nx ∧ nx ≤ 39 ∧ nx.toNat = nextA S ll) := Lib.hid (by have h := HNXT.out; have h2 : nextA S ll < 40 := Nat.mod_lt _ (by decide); omega)
      obtain ⟨A1, hA1e⟩ : ∃ y, logA nx.toNat = y := ⟨_, rfl⟩
      obtain ⟨A2, hA2e⟩ : ∃ y, logA u2.toNat = y := ⟨_, rfl⟩
      have HA12 : Hid ((0 ≤ A1 ∧ A1 < 59) ∧ (0 ≤ A2 ∧ A2 < 59)) := Lib.hid (by rw [← hA1e, ← hA2e]; exact ⟨logA_in2 _, logA_in2 _⟩)
      have HBG2 : Hid ((behindG S ws).take (0 + 2) = [(A1, zeros64), (A2, endB seq (ll : Int))]) := Lib.hid (by
        unfold behindG
        rw [HLW.out, HN.out, HSE.out.2.1, ← hA1e, ← hA2e, HNX0.out.2.2, HU2.out.2.2]
        rfl)
      have HA1e := Lib.hid hA1e
      have HA2e := Lib.hid hA2e
      clear hu1e hu2e hA1e hA2e
      refine wp_region_held_drew (S := fun W => W.cell? ⟨p5, 0, none⟩ = some (.int .i64 nx) ∧ W.cell? ⟨p5, 1, none⟩ = some (.int .i64 sq1) ∧ W.cell? ⟨q, 1, none⟩ = some (.int .i64 x)) (by kernel_rfl) ⟨HR5.out.1, HR5.out.2.1, HV5.out.2.1⟩ (fun hHeld => ?_)
      refine wpAnyH_take (i := 0) (oi := ⟨some 69, _, _, _, _, _⟩) (v := .agg #[.int .i64 nx, .int .i64 sq1]) rfl (by kernel_rfl) (by kernel_rfl) (by kernel_rfl) (fun _ _ _ h => h) (Or.inl ⟨by kernel_rfl, by intro w hSw; obtain ⟨s1, s2, s3⟩ := hSw; go_simp⟩) (by assumption) ?_
      try simp only [Act.put, List.setIfInBounds_toArray, List.set_cons_zero, List.set_cons_succ]
      refine wpAnyH_take (i := 2) (oi := ⟨some 71, _, _, _, _, _⟩) (v := .pointer (some ⟨q, 0, none⟩)) rfl (by kernel_rfl) (by kernel_rfl) (by kernel_rfl) (fun _ _ _ h => h) (Or.inl ⟨by kernel_rfl, fun w _ => rfl⟩) (by assumption) ?_
      try simp only [Act.put, List.setIfInBounds_toArray, List.set_cons_zero, List.set_cons_succ]
      refine wpAnyH_take (i := 3) (oi := ⟨some 72, _, _, _, _, _⟩) (v := .pointer (some ⟨q, 0, none⟩)) rfl (by kernel_rfl) (by kernel_rfl) (by kernel_rfl) (fun _ _ _ h => h) (Or.inl ⟨by kernel_rfl, by intro w _; go_simp; (try omega)⟩) (by assumption) ?_
      try simp only [Act.put, List.setIfInBounds_toArray, List.set_cons_zero, List.set_cons_succ]
      refine wpAnyH_take (i := 4) (oi := ⟨some 73, _, _, _, _, _⟩) (v := .pointer (some ⟨q, 1, none⟩)) rfl (by kernel_rfl) (by kernel_rfl) (by kernel_rfl) (fun _ _ _ h => h) (Or.inl ⟨by kernel_rfl, by intro w _; go_simp; (try omega)⟩) (by assumption) ?_
      try simp only [Act.put, List.setIfInBounds_toArray, List.set_cons_zero, List.set_cons_succ]
      refine wpAnyH_take (i := 5) (oi := ⟨some 74, _, _, _, _, _⟩) (v := .pointer (some ⟨q, 1, none⟩)) rfl (by kernel_rfl) (by kernel_rfl) (by kernel_rfl) (fun _ _ _ h => h) (Or.inl ⟨by kernel_rfl, by intro w _; go_simp; (try omega)⟩) (by assumption) ?_
      try simp only [Act.put, List.setIfInBounds_toArray, List.set_cons_zero, List.set_cons_succ]
      refine wpAnyH_take (i := 6) (oi := ⟨some 75, _, _, _, _, _⟩) (v := .int .i64 x) rfl (by kernel_rfl) (by kernel_rfl) (by kernel_rfl) (fun _ _ _ h => h) (Or.inl ⟨by kernel_rfl, by intro w hSw; obtain ⟨s1, s2, s3⟩ := hSw; go_simp⟩) (by assumption) ?_
      try simp only [Act.put, List.setIfInBounds_toArray, List.set_cons_zero, List.set_cons_succ]
      refine wpAnyH_take (i := 7) (oi := ⟨some 76, _, _, _, _, _⟩) (v := .int .i64 u1) rfl (by kernel_rfl) (by kernel_rfl) (by kernel_rfl) (fun _ _ _ h => h) (Or.inl ⟨by kernel_rfl, by intro w _; go_simp; (try assumption)⟩) (by assumption) ?_
      try simp only [Act.put, List.setIfInBounds_toArray, List.set_cons_zero, List.set_cons_succ]
      refine wpAnyH_take (i := 8) (oi := ⟨some 77, _, _, _, _, _⟩) (v := .slice lo ll lc) rfl (by kernel_rfl) (by kernel_rfl) (by kernel_rfl) (fun _ _ _ h => h) (Or.inl ⟨by kernel_rfl, fun w _ => rfl⟩) (by assumption) ?_
      try simp only [Act.put, List.setIfInBounds_toArray, List.set_cons_zero, List.set_cons_succ]
      refine wpAnyH_take (i := 9) (oi := ⟨some 78, _, _, _, _, _⟩) (v := .int .i64 (ll : Int)) rfl (by kernel_rfl) (by kernel_rfl) (by kernel_rfl) (fun _ _ _ h => h) (Or.inl ⟨by kernel_rfl, by intro w _; go_simp; (try omega)⟩) (by assumption) ?_
      try simp only [Act.put, List.setIfInBounds_toArray, List.set_cons_zero, List.set_cons_succ]
      refine wpAnyH_take (i := 10) (oi := ⟨some 79, _, _, _, _, _⟩) (v := .int .i64 u2) rfl (by kernel_rfl) (by kernel_rfl) (by kernel_rfl) (fun _ _ _ h => h) (Or.inl ⟨by kernel_rfl, by intro w _; go_simp; (try assumption)⟩) (by assumption) ?_
      try simp only [Act.put, List.setIfInBounds_toArray, List.set_cons_zero, List.set_cons_succ]
      refine wpAnyH_take (i := 11) (oi := ⟨some 80, _, _, _, _, _⟩) (v := .slice (some ⟨d4, o4, none⟩) 64 c4) rfl (by kernel_rfl) (by kernel_rfl) (by kernel_rfl) (fun _ _ _ h => h) (Or.inl ⟨by kernel_rfl, fun w _ => rfl⟩) (by assumption) ?_
      try simp only [Act.put, List.setIfInBounds_toArray, List.set_cons_zero, List.set_cons_succ]
      refine wpAnyH_ready (rs := [1]) (by kernel_rfl) (by simp) ?_
      refine AllReadyH.cons (o := ⟨some 70, _, _, _, _, _⟩) rfl (fun K hK => ?_) AllReadyH.nil
      go_simp
      go_at_call 51
      refine (clearedZ W5.drew nx sq1 (by have := HNX0.out; omega)).mono ?_
      rintro e w6 ⟨g6, rfl, hO6⟩
      rw [HA1e.out]
      have HO6 := Lib.hid hO6
      have HBW6 : Hid (Below W5.heap.size W5 w6) := Lib.hid ((Below.refl _ _).drew.trans hO6.2.2.2.2)
      have HV6 := Lib.hid (HV5.out.later HBW6.out)
      have HR6 := Lib.hid (HR5.out.later HBW6.out)
      clear hO6
      refine hK.out _ _ ?_ (fun hHeld1 => ?_)
      · exact ⟨HR6.out.1, HR6.out.2.1, HV6.out.2.1⟩
      clear hK K
      try simp only [Act.put, List.setIfInBounds_toArray, List.set_cons_zero, List.set_cons_succ]
      refine wpAnyH_ready (rs := [12]) (by kernel_rfl) (by simp) ?_
      refine AllReadyH.cons (o := ⟨some 81, _, _, _, _, _⟩) rfl (fun K hK => ?_) AllReadyH.nil
      go_simp
      go_at_call 52
      refine (inLogZ w6 u2 ⟨HU2.out.1, HU2.out.2.1⟩ _ _ _).mono ?_
      rintro e w7 ⟨rfl, hb7⟩
      rw [HA2e.out]
      have HBW7 := Lib.hid hb7
      have HV7 := Lib.hid (HV6.out.later hb7)
      have HR7 := Lib.hid (HR6.out.later hb7)
      clear hb7
      obtain ⟨V8, hV8⟩ : ∃ V, w7.alloc (.cells #[.int .i64 A1, .slice (some ⟨g6, 0, none⟩) 64 64, .int .i64 A2, .slice (some ⟨d4, o4, none⟩) 64 c4] 48) = V := ⟨_, rfl⟩
      refine hK.out _ _ ?_ (fun hHeld2 => ?_)
      · exact ⟨HR7.out.1, HR7.out.2.1, HV7.out.2.1⟩
      clear hK K
      try simp only [Act.put, List.setIfInBounds_toArray, List.set_cons_zero, List.set_cons_succ]
      refine wpAnyH_ready (rs := [13]) (by kernel_rfl) (by simp) ?_
      refine AllReadyH.cons (o := ⟨some 82, _, _, _, _, _⟩) rfl (fun K hK => ?_) AllReadyH.nil
      go_simp
      have HBV8 : Hid (Below w7.heap.size w7 V8) := Lib.hid (by rw [← hV8]; exact (Below.refl _ _).alloc (Nat.le_refl _) _)
      have HV8 := Lib.hid (HV7.out.later HBV8.out)
      have HR8 := Lib.hid (HR7.out.later HBV8.out)
      have HB47 : Hid (Below w4.heap.size w4 w7 ∧ Below W5.heap.size W5 w7) := Lib.hid (by
        have h1 := HBW6.out.trans (HBW7.out.mono HBW6.out.size)
        exact ⟨HB5.out.trans (h1.mono HB5.out.size), h1⟩)
      have HRK : Hid (RowK (fun k => k < w7.heap.size ∧ ¬ F3 k) w7.heap.size V8 (.slice (some ⟨w7.heap.size, 0, none⟩) 2 2) ((behindG S ws).take (0 + 2))) := Lib.hid (by
        have s34 := HB4.out.size
        have s45 := HB5.out.size
        have s56 := HBW6.out.size
        have s67 := HBW7.out.size
        have h12 := HA12.out
        have f3 : ∀ k, F3 k → k < w3.heap.size := diskOk.lt HD3.out
        have hg6 : g6 < w6.heap.size := own_lt64 HO6.out rfl
        have hg5 : W5.heap.size ≤ g6 := HO6.out.2.2.2.1
        have hd4 := HD4.out
        rw [HBG2.out, ← hV8]
        exact rowK_two (by unfold I64; omega) (by unfold I64; omega) (fun k hk => hk.1) ⟨by omega, fun hf => by have := f3 _ hf; omega⟩ ⟨by omega, fun hf => by have := f3 _ hf; omega⟩ ((own_arg HO6.out rfl).later HBW7.out) (HA4.out.later HB47.out.1))
      clear hV8
      refine hK.out _ _ ?_ (fun hHeld3 => ?_)
      · exact ⟨HR8.out.1, HR8.out.2.1, HV8.out.2.1⟩
      clear hK K
      try simp only [Act.put, List.setIfInBounds_toArray, List.set_cons_zero, List.set_cons_succ]
      refine wpAnyH_ready (rs := [14]) (by kernel_rfl) (by simp) ?_
      refine AllReadyH.cons (o := ⟨some 83, _, _, _, _, _⟩) rfl (fun K hK => ?_) AllReadyH.nil
      go_simp
      go_at_call 35
      refine (group_any V8 _ 2 2).mono ?_
      rintro e w9 ⟨rfl, rfl⟩
      refine hK.out _ _ ?_ (fun hHeld4 => ?_)
      · exact ⟨HR8.out.1, HR8.out.2.1, HV8.out.2.1⟩
      clear hK K
      try simp only [Act.put, List.setIfInBounds_toArray, List.set_cons_zero, List.set_cons_succ]
      refine wpAnyH_take (i := 15) (oi := ⟨some 11, _, _, _, _, _⟩) (v := .slice (some ⟨w7.heap.size, 0, none⟩) 2 2) rfl (by kernel_rfl) (by kernel_rfl) (by kernel_rfl) (fun _ _ _ h => h) (Or.inl ⟨by kernel_rfl, fun w _ => rfl⟩) (by assumption) ?_
      try simp only [Act.put, List.setIfInBounds_toArray, List.set_cons_zero, List.set_cons_succ]
      refine wpAnyH_done (by kernel_rfl) ?_ _
      go_wp2_with fail
      have HB49 : Hid (Below w4.heap.size w4 w9) := Lib.hid (HB47.out.1.trans (HBV8.out.mono HB47.out.1.size))
      have HB39 : Hid (Below w3.heap.size w3 w9) := Lib.hid (HB4.out.trans (HB49.out.mono HB4.out.size))
      have HSZ : Hid (w.heap.size ≤ w1.heap.size ∧ w1.heap.size ≤ w3.heap.size ∧ w3.heap.size ≤ w4.heap.size ∧ w4.heap.size = p5 ∧ p5 < w7.heap.size ∧ w7.heap.size ≤ w9.heap.size ∧ q < w.heap.size) := Lib.hid ⟨HB1.out.size, HG3.out.2.2.2.1, HB4.out.size, HP5.out, HR7.out.lt, HBV8.out.size, HV.out.lt⟩
      have HF3 : Hid (∀ k, F3 k → k < w3.heap.size ∧ (F k ∨ w1.heap.size ≤ k)) := Lib.hid (fun k hk => ⟨diskOk.lt HD3.out k hk, HG3.out.2.2.2.2.2 k hk⟩)
      have HL9 : Hid (ListIs w9 (fun k => H k ∧ k < w.heap.size) lo ll ws) := Lib.hid (((HL.out.underJ.later HB1.out).grew HG3.out (fun k hf hk => HFH.out k hf hk.1)).later HB39.out)
      have HHF : Hid (∀ k, (H k ∧ k < w.heap.size) → k < w7.heap.size ∧ ¬ F3 k) := Lib.hid (fun k hk => by
        have h := HSZ.out
        refine ⟨by omega, fun hf => ?_⟩
        rcases (HF3.out k hf).2 with h2 | h2
        · exact HFH.out k h2 hk.1
        · omega)
      have HKE : Hid (∀ i, ((behindG S ws).take (i + 2)).length ≤ 1000) := Lib.hid (fun i => by
        rw [List.length_take, behind_len, HLW.out]
        have := HLL.out
        omega)
      go_loopw [11, 86] (fun rv iv wr => ∃ i : Nat, iv = .int .i64 (i : Int) ∧ i ≤ ll ∧ Hid (RowK (fun k => k < w7.heap.size ∧ ¬ F3 k) w7.heap.size wr rv ((behindG S ws).take (i + 2))) ∧ Hid (Below w7.heap.size w9 wr)) (fun _ iv _ => ll - (intOf iv).toNat)
      case atStart => exact ⟨0, rfl, Nat.zero_le _, HRK, Lib.hid (Below.refl _ _)⟩
      case round =>
        obtain ⟨i, rfl, hi, HRo, HBl⟩ := hrel
        by_cases hlt : i < ll
        · have hLr := HL9.out.keep (w' := wr) (fun k hk => HBl.out.block k (HHF.out k hk).1)
          obtain ⟨b, off, xi, zs, db, doff, dc, rfl, hHb, hxi, c0, c1', hA, hHd⟩ := hLr.at64 hlt HG64.out
          have i1 : (i : Int) < (ll : Int) := by omega
          have i0 : (0 : Int) ≤ (i : Int) := by omega
          have HHD := Lib.hid (HHF.out db hHd)
          obtain ⟨u3, hu3e⟩ : ∃ y, u1 + (i : Int) = y := ⟨_, rfl⟩
          have hu3 : IntKind.i64.wrap (u1 + (i : Int)) = u3 := by rw [← hu3e]; exact IntWalk.i64_in _ (by have := HU1.out; have := HLL.out; omega)
          have HU3 : Hid (0 ≤ u3 ∧ u3 ≤ 1000000 ∧ u3.toNat = n + 1 + i) := Lib.hid (by have := HU1.out; have := HLL.out; omega)
          obtain ⟨A3, hA3e⟩ : ∃ y, logA u3.toNat = y := ⟨_, rfl⟩
          have HA3i : Hid (0 ≤ A3 ∧ A3 < 59) := Lib.hid (by rw [← hA3e]; exact logA_in2 _)
          have HTK : Hid ((behindG S ws).take (i + 1 + 2) = (behindG S ws).take (i + 2) ++ [(A3, zs)]) := Lib.hid (by
            rw [← hA3e, HU3.out.2.2, ← HN.out]
            exact behind_take hxi)
          obtain ⟨nr, hnr⟩ : ∃ k, ((behindG S ws).take (i + 2)).length = k := ⟨_, rfl⟩
          obtain ⟨ra, rc, hrv⟩ := HRo.out.shape
          rw [hnr] at hrv
          subst hrv
          clear hnr
          obtain ⟨W2, hW2⟩ : ∃ W, wr.alloc (.cells #[.int .i64 xi, .slice (some ⟨db, doff, none⟩) 64 dc] 48) = W := ⟨_, rfl⟩
          have b2 : Below wr.heap.size wr W2 := by rw [← hW2]; exact (Below.refl _ _).alloc (Nat.le_refl _) _
          have hz := rc_new wr (.int .i64 xi) (.slice (some ⟨db, doff, none⟩) 64 dc) 48
          rw [hW2] at hz
          have HZ := Lib.hid hz
          have HB2 := Lib.hid b2
          have HVr := Lib.hid (HV8.out.kept (HBl.out.block q (by have := HSZ.out; omega)))
          have HV2 := Lib.hid (HVr.out.later b2)
          have HA := Lib.hid hA
          have HA3e := Lib.hid hA3e
          have HQW : Hid (q < wr.heap.size) := Lib.hid HVr.out.lt
          clear hLr hHb hxi hA hHd hu3e hA3e b2 hz
          go_wp2_with fail
          refine wp_region_held_drew (S := fun W => W.cell? ⟨q, 1, none⟩ = some (.int .i64 x) ∧ W.cell? ⟨wr.heap.size, 1, none⟩ = some (.slice (some ⟨db, doff, none⟩) 64 dc)) (by kernel_rfl) ⟨HV2.out.2.1, HZ.out.2.1⟩ (fun hHeld => ?_)
          refine wpAnyH_take (i := 0) (oi := ⟨some 91, _, _, _, _, _⟩) (v := .slice ra nr rc) rfl (by kernel_rfl) (by kernel_rfl) (by kernel_rfl) (fun _ _ _ h => h) (Or.inl ⟨by kernel_rfl, fun w _ => rfl⟩) (by assumption) ?_
          try simp only [Act.put, List.setIfInBounds_toArray, List.set_cons_zero, List.set_cons_succ]
          refine wpAnyH_take (i := 1) (oi := ⟨some 92, _, _, _, _, _⟩) (v := .pointer (some ⟨q, 0, none⟩)) rfl (by kernel_rfl) (by kernel_rfl) (by kernel_rfl) (fun _ _ _ h => h) (Or.inl ⟨by kernel_rfl, fun w _ => rfl⟩) (by assumption) ?_
          try simp only [Act.put, List.setIfInBounds_toArray, List.set_cons_zero, List.set_cons_succ]
          refine wpAnyH_take (i := 2) (oi := ⟨some 93, _, _, _, _, _⟩) (v := .pointer (some ⟨q, 0, none⟩)) rfl (by kernel_rfl) (by kernel_rfl) (by kernel_rfl) (fun _ _ _ h => h) (Or.inl ⟨by kernel_rfl, by intro w _; go_simp; (try omega)⟩) (by assumption) ?_
          try simp only [Act.put, List.setIfInBounds_toArray, List.set_cons_zero, List.set_cons_succ]
          refine wpAnyH_take (i := 3) (oi := ⟨some 94, _, _, _, _, _⟩) (v := .pointer (some ⟨q, 1, none⟩)) rfl (by kernel_rfl) (by kernel_rfl) (by kernel_rfl) (fun _ _ _ h => h) (Or.inl ⟨by kernel_rfl, by intro w _; go_simp; (try omega)⟩) (by assumption) ?_
          try simp only [Act.put, List.setIfInBounds_toArray, List.set_cons_zero, List.set_cons_succ]
          refine wpAnyH_take (i := 4) (oi := ⟨some 95, _, _, _, _, _⟩) (v := .pointer (some ⟨q, 1, none⟩)) rfl (by kernel_rfl) (by kernel_rfl) (by kernel_rfl) (fun _ _ _ h => h) (Or.inl ⟨by kernel_rfl, by intro w _; go_simp; (try omega)⟩) (by assumption) ?_
          try simp only [Act.put, List.setIfInBounds_toArray, List.set_cons_zero, List.set_cons_succ]
          refine wpAnyH_take (i := 5) (oi := ⟨some 96, _, _, _, _, _⟩) (v := .int .i64 x) rfl (by kernel_rfl) (by kernel_rfl) (by kernel_rfl) (fun _ _ _ h => h) (Or.inl ⟨by kernel_rfl, by intro w hSw; obtain ⟨s1, s2⟩ := hSw; go_simp⟩) (by assumption) ?_
          try simp only [Act.put, List.setIfInBounds_toArray, List.set_cons_zero, List.set_cons_succ]
          refine wpAnyH_take (i := 6) (oi := ⟨some 97, _, _, _, _, _⟩) (v := .int .i64 u1) rfl (by kernel_rfl) (by kernel_rfl) (by kernel_rfl) (fun _ _ _ h => h) (Or.inl ⟨by kernel_rfl, by intro w _; go_simp; (try assumption)⟩) (by assumption) ?_
          try simp only [Act.put, List.setIfInBounds_toArray, List.set_cons_zero, List.set_cons_succ]
          refine wpAnyH_take (i := 7) (oi := ⟨some 98, _, _, _, _, _⟩) (v := .int .i64 (i : Int)) rfl (by kernel_rfl) (by kernel_rfl) (by kernel_rfl) (fun _ _ _ h => h) (Or.inl ⟨by kernel_rfl, fun w _ => rfl⟩) (by assumption) ?_
          try simp only [Act.put, List.setIfInBounds_toArray, List.set_cons_zero, List.set_cons_succ]
          refine wpAnyH_take (i := 8) (oi := ⟨some 99, _, _, _, _, _⟩) (v := .int .i64 u3) rfl (by kernel_rfl) (by kernel_rfl) (by kernel_rfl) (fun _ _ _ h => h) (Or.inl ⟨by kernel_rfl, by intro w _; go_simp; (try assumption)⟩) (by assumption) ?_
          try simp only [Act.put, List.setIfInBounds_toArray, List.set_cons_zero, List.set_cons_succ]
          refine wpAnyH_take (i := 9) (oi := ⟨some 100, _, _, _, _, _⟩) (v := .pointer (some ⟨wr.heap.size, 1, none⟩)) rfl (by kernel_rfl) (by kernel_rfl) (by kernel_rfl) (fun _ _ _ h => h) (Or.inl ⟨by kernel_rfl, by intro w _; go_simp; (try omega)⟩) (by assumption) ?_
          try simp only [Act.put, List.setIfInBounds_toArray, List.set_cons_zero, List.set_cons_succ]
          refine wpAnyH_take (i := 10) (oi := ⟨some 101, _, _, _, _, _⟩) (v := .slice (some ⟨db, doff, none⟩) 64 dc) rfl (by kernel_rfl) (by kernel_rfl) (by kernel_rfl) (fun _ _ _ h => h) (Or.inl ⟨by kernel_rfl, by intro w hSw; obtain ⟨s1, s2⟩ := hSw; go_simp⟩) (by assumption) ?_
          try simp only [Act.put, List.setIfInBounds_toArray, List.set_cons_zero, List.set_cons_succ]
          refine wpAnyH_ready (rs := [11]) (by kernel_rfl) (by simp) ?_
          refine AllReadyH.cons (o := ⟨some 102, _, _, _, _, _⟩) rfl (fun K hK => ?_) AllReadyH.nil
          go_simp
          go_at_call 52
          refine (inLogZ W2.drew u3 ⟨HU3.out.1, HU3.out.2.1⟩ _ _ _).mono ?_
          rintro e w10 ⟨rfl, hb10⟩
          rw [HA3e.out]
          have HB10 : Hid (Below wr.heap.size wr w10) := Lib.hid (HB2.out.drew.trans (hb10.mono HB2.out.size))
          have HV10 := Lib.hid (HVr.out.later HB10.out)
          have HZ10 := Lib.hid ((HZ.out.kept (w' := W2.drew) rfl).later hb10)
          have HSW10 : Hid (wr.heap.size < w10.heap.size) := Lib.hid HZ10.out.lt
          clear hb10
          have HAP := Lib.hid (rowK_snoc (x := A3) (zs := zs) (db := db) (off := doff) (cap := dc) (HRo.out.later HB10.out) (by unfold I64; have := HA3i.out; omega) HHD.out (HA.out.later HB10.out) (HKE.out i) 27)
          obtain ⟨V10, hV10⟩ : ∃ V, w10.alloc (.cells #[.int .i64 A3, .slice (some ⟨db, doff, none⟩) 64 dc] 48) = V := ⟨_, rfl⟩
          refine hK.out _ _ ?_ (fun hHeld1 => ?_)
          · exact ⟨HV10.out.2.1, HZ10.out.2.1⟩
          clear hK K
          try simp only [Act.put, List.setIfInBounds_toArray, List.set_cons_zero, List.set_cons_succ]
          refine wpAnyH_ready (rs := [12]) (by kernel_rfl) (by simp) ?_
          refine AllReadyH.cons (o := ⟨some 103, _, _, _, _, _⟩) rfl (fun K hK => ?_) AllReadyH.nil
          go_simp
          rw [hV10] at HAP
          have HBV10 : Hid (Below w10.heap.size w10 V10) := Lib.hid (by rw [← hV10]; exact (Below.refl _ _).alloc (Nat.le_refl _) _)
          clear hV10
          refine hK.out _ _ ?_ (fun hHeld2 => ?_)
          · exact ⟨(HV10.out.later HBV10.out).2.1, (HZ10.out.later HBV10.out).2.1⟩
          clear hK K
          try simp only [Act.put, List.setIfInBounds_toArray, List.set_cons_zero, List.set_cons_succ]
          refine wpAnyH_ready (rs := [13]) (by kernel_rfl) (by simp) ?_
          refine AllReadyH.cons (o := ⟨some 104, _, _, _, _, _⟩) rfl (fun K hK => ?_) AllReadyH.nil
          rw [if_pos (by rfl)]
          refine op_append_known (.tmp 91) (.tmp 103) 27 27 rfl _ _ rfl rfl _ HAP.out ?_
          rintro v11 w11 ⟨hr11, hb11, hk11⟩
          obtain ⟨nr2, hnr2⟩ : ∃ k, ((behindG S ws).take (i + 2) ++ [(A3, zs)]).length = k := ⟨_, rfl⟩
          obtain ⟨ra2, rc2, hrv⟩ := hr11.shape
          rw [hnr2] at hrv
          subst hrv
          clear hnr2
          have HR11 := Lib.hid hr11
          have HB11 : Hid (Below w7.heap.size w9 w11) := Lib.hid ((HBl.out.trans ((HB10.out.trans (HBV10.out.mono HB10.out.size)).mono HRo.out.1.1)).trans hb11)
          have HV11 := Lib.hid (HV8.out.kept (HB11.out.block q (by have := HSZ.out; omega)))
          have hz11 := HZ10.out.kept (hk11 wr.heap.size HSW10.out (fun e => by have := (HRo.out.own_lt e).2; omega))
          have HZ11 := Lib.hid hz11
          clear hr11 hb11 hk11 hz11
          refine hK.out _ _ ?_ (fun hHeld3 => ?_)
          · exact ⟨HV11.out.2.1, HZ11.out.2.1⟩
          clear hK K
          try simp only [Act.put, List.setIfInBounds_toArray, List.set_cons_zero, List.set_cons_succ]
          refine wpAnyH_take (i := 14) (oi := ⟨some 11, _, _, _, _, _⟩) (v := .slice ra2 nr2 rc2) rfl (by kernel_rfl) (by kernel_rfl) (by kernel_rfl) (fun _ _ _ h => h) (Or.inl ⟨by kernel_rfl, fun w _ => rfl⟩) (by assumption) ?_
          try simp only [Act.put, List.setIfInBounds_toArray, List.set_cons_zero, List.set_cons_succ]
          refine wpAnyH_done (by kernel_rfl) ?_ _
          go_wp2_with fail
          go_roundw
          case rel => exact ⟨i + 1, by go_num, by omega, Lib.hid (by rw [HTK.out]; exact HR11.out), HB11⟩
          case measure => simp [intOf]; omega
        · obtain rfl : ll = i := by omega
          have htk : (behindG S ws).take (ll + 2) = behindG S ws := List.take_of_length_le (by rw [behind_len, HLW.out]; exact Nat.le_refl _)
          rw [htk] at HRo
          obtain ⟨nr, hnr⟩ : ∃ k, (behindG S ws).length = k := ⟨_, rfl⟩
          obtain ⟨ra, rc, hrv⟩ := HRo.out.shape
          rw [hnr] at hrv
          subst hrv
          have HNR := Lib.hid hnr
          have HB3r : Hid (Below w3.heap.size w3 wr) := Lib.hid (HB39.out.trans (HBl.out.mono (by have := HSZ.out; omega)))
          have HVr := Lib.hid (HV8.out.kept (HBl.out.block q (by have := HSZ.out; omega)))
          have HRr := Lib.hid (HR8.out.kept (HBl.out.block p5 (by have := HSZ.out; omega)))
          obtain ⟨A4, hA4e⟩ : ∃ y, logA x.toNat = y := ⟨_, rfl⟩
          have HA4e := Lib.hid hA4e
          have HA4i : Hid (0 ≤ A4 ∧ A4 < 59) := Lib.hid (by rw [← hA4e]; exact logA_in2 _)
          have HGS2 : Hid ([behindG S ws, [(A4, B1)], ws] = GS) := Lib.hid (by rw [← hA4e, show x.toNat = n by have := HNX.out; omega]; exact HGS.out)
          have HS3 : Hid (smallD D3) := Lib.hid (by rw [← HD3e.out]; exact clear_small HS.out HE2.out)
          have HA1w : Hid (Arg w3 (some ⟨d1, o1, none⟩) 64 c1 B1) := Lib.hid (HA1.out.kept (fun b' o' s' e => by
            cases e
            exact grew_kept HG3.out HD1.out.2 (fun hf => by have h2 := diskOk.lt HD.out d1 hf; have := HD1.out.1; omega)))
          have HD1F : Hid (¬ F3 d1) := Lib.hid (fun hf => by
            have h1 := HD1.out
            rcases (HF3.out d1 hf).2 with h2 | h2
            · have := diskOk.lt HD.out d1 h2
              omega
            · omega)
          have HQ3 : Hid (¬ F3 q) := Lib.hid (fun hf => by
            rcases (HF3.out q hf).2 with h2 | h2
            · exact HQF.out h2
            · have := HSZ.out
              omega)
          clear hnr htk hA4e
          go_wp2_with fail
          refine wp_region_held_drew (S := fun W => W.cell? ⟨q, 0, none⟩ = some (.pointer (some a)) ∧ W.cell? ⟨q, 1, none⟩ = some (.int .i64 x)) (by kernel_rfl) ⟨HVr.out.1, HVr.out.2.1⟩ (fun hHeld => ?_)
          refine wpAnyH_take (i := 0) (oi := ⟨some 106, _, _, _, _, _⟩) (v := .pointer (some ⟨q, 0, none⟩)) rfl (by kernel_rfl) (by kernel_rfl) (by kernel_rfl) (fun _ _ _ h => h) (Or.inl ⟨by kernel_rfl, fun w _ => rfl⟩) (by assumption) ?_
          try simp only [Act.put, List.setIfInBounds_toArray, List.set_cons_zero, List.set_cons_succ]
          refine wpAnyH_take (i := 1) (oi := ⟨some 107, _, _, _, _, _⟩) (v := .pointer (some ⟨q, 0, none⟩)) rfl (by kernel_rfl) (by kernel_rfl) (by kernel_rfl) (fun _ _ _ h => h) (Or.inl ⟨by kernel_rfl, by intro w _; go_simp; (try omega)⟩) (by assumption) ?_
          try simp only [Act.put, List.setIfInBounds_toArray, List.set_cons_zero, List.set_cons_succ]
          refine wpAnyH_take (i := 2) (oi := ⟨some 108, _, _, _, _, _⟩) (v := .pointer (some ⟨q, 0, none⟩)) rfl (by kernel_rfl) (by kernel_rfl) (by kernel_rfl) (fun _ _ _ h => h) (Or.inl ⟨by kernel_rfl, by intro w _; go_simp; (try omega)⟩) (by assumption) ?_
          try simp only [Act.put, List.setIfInBounds_toArray, List.set_cons_zero, List.set_cons_succ]
          refine wpAnyH_take (i := 3) (oi := ⟨some 109, _, _, _, _, _⟩) (v := .pointer (some a)) rfl (by kernel_rfl) (by kernel_rfl) (by kernel_rfl) (fun _ _ _ h => h) (Or.inl ⟨by kernel_rfl, by intro w hSw; obtain ⟨s1, s2⟩ := hSw; go_simp⟩) (by assumption) ?_
          try simp only [Act.put, List.setIfInBounds_toArray, List.set_cons_zero, List.set_cons_succ]
          refine wpAnyH_take (i := 4) (oi := ⟨some 110, _, _, _, _, _⟩) (v := .slice ra nr rc) rfl (by kernel_rfl) (by kernel_rfl) (by kernel_rfl) (fun _ _ _ h => h) (Or.inl ⟨by kernel_rfl, fun w _ => rfl⟩) (by assumption) ?_
          try simp only [Act.put, List.setIfInBounds_toArray, List.set_cons_zero, List.set_cons_succ]
          refine wpAnyH_take (i := 5) (oi := ⟨some 111, _, _, _, _, _⟩) (v := .pointer (some ⟨q, 0, none⟩)) rfl (by kernel_rfl) (by kernel_rfl) (by kernel_rfl) (fun _ _ _ h => h) (Or.inl ⟨by kernel_rfl, fun w _ => rfl⟩) (by assumption) ?_
          try simp only [Act.put, List.setIfInBounds_toArray, List.set_cons_zero, List.set_cons_succ]
          refine wpAnyH_take (i := 6) (oi := ⟨some 112, _, _, _, _, _⟩) (v := .pointer (some ⟨q, 0, none⟩)) rfl (by kernel_rfl) (by kernel_rfl) (by kernel_rfl) (fun _ _ _ h => h) (Or.inl ⟨by kernel_rfl, by intro w _; go_simp; (try omega)⟩) (by assumption) ?_
          try simp only [Act.put, List.setIfInBounds_toArray, List.set_cons_zero, List.set_cons_succ]
          refine wpAnyH_take (i := 7) (oi := ⟨some 113, _, _, _, _, _⟩) (v := .pointer (some ⟨q, 1, none⟩)) rfl (by kernel_rfl) (by kernel_rfl) (by kernel_rfl) (fun _ _ _ h => h) (Or.inl ⟨by kernel_rfl, by intro w _; go_simp; (try omega)⟩) (by assumption) ?_
          try simp only [Act.put, List.setIfInBounds_toArray, List.set_cons_zero, List.set_cons_succ]
          refine wpAnyH_take (i := 8) (oi := ⟨some 114, _, _, _, _, _⟩) (v := .pointer (some ⟨q, 1, none⟩)) rfl (by kernel_rfl) (by kernel_rfl) (by kernel_rfl) (fun _ _ _ h => h) (Or.inl ⟨by kernel_rfl, by intro w _; go_simp; (try omega)⟩) (by assumption) ?_
          try simp only [Act.put, List.setIfInBounds_toArray, List.set_cons_zero, List.set_cons_succ]
          refine wpAnyH_take (i := 9) (oi := ⟨some 115, _, _, _, _, _⟩) (v := .int .i64 x) rfl (by kernel_rfl) (by kernel_rfl) (by kernel_rfl) (fun _ _ _ h => h) (Or.inl ⟨by kernel_rfl, by intro w hSw; obtain ⟨s1, s2⟩ := hSw; go_simp⟩) (by assumption) ?_
          try simp only [Act.put, List.setIfInBounds_toArray, List.set_cons_zero, List.set_cons_succ]
          refine wpAnyH_take (i := 10) (oi := ⟨some 116, _, _, _, _, _⟩) (v := .slice (some ⟨d1, o1, none⟩) 64 c1) rfl (by kernel_rfl) (by kernel_rfl) (by kernel_rfl) (fun _ _ _ h => h) (Or.inl ⟨by kernel_rfl, fun w _ => rfl⟩) (by assumption) ?_
          try simp only [Act.put, List.setIfInBounds_toArray, List.set_cons_zero, List.set_cons_succ]
          refine wpAnyH_take (i := 14) (oi := ⟨some 120, _, _, _, _, _⟩) (v := .slice lo ll lc) rfl (by kernel_rfl) (by kernel_rfl) (by kernel_rfl) (fun _ _ _ h => h) (Or.inl ⟨by kernel_rfl, fun w _ => rfl⟩) (by assumption) ?_
          try simp only [Act.put, List.setIfInBounds_toArray, List.set_cons_zero, List.set_cons_succ]
          refine wpAnyH_ready (rs := [11]) (by kernel_rfl) (by simp) ?_
          refine AllReadyH.cons (o := ⟨some 117, _, _, _, _, _⟩) rfl (fun K hK => ?_) AllReadyH.nil
          go_simp
          go_at_call 52
          refine (inLogZ wr.drew x (by have := HX.out; omega) _ _ _).mono ?_
          rintro e w12 ⟨rfl, hb12⟩
          rw [HA4e.out]
          have HB12 : Hid (Below wr.heap.size wr w12) := Lib.hid ((Below.refl _ _).drew.trans hb12)
          have HV12 := Lib.hid (HVr.out.later HB12.out)
          clear hb12
          obtain ⟨V12, hV12⟩ : ∃ V, w12.alloc (.cells #[.int .i64 A4, .slice (some ⟨d1, o1, none⟩) 64 c1] 48) = V := ⟨_, rfl⟩
          refine hK.out _ _ ?_ (fun hHeld1 => ?_)
          · exact ⟨HV12.out.1, HV12.out.2.1⟩
          clear hK K
          try simp only [Act.put, List.setIfInBounds_toArray, List.set_cons_zero, List.set_cons_succ]
          refine wpAnyH_ready (rs := [12]) (by kernel_rfl) (by simp) ?_
          refine AllReadyH.cons (o := ⟨some 118, _, _, _, _, _⟩) rfl (fun K hK => ?_) AllReadyH.nil
          go_simp
          have HBV12 : Hid (Below w12.heap.size w12 V12) := Lib.hid (by rw [← hV12]; exact (Below.refl _ _).alloc (Nat.le_refl _) _)
          have HV13 := Lib.hid (HV12.out.later HBV12.out)
          have HB3V : Hid (Below w3.heap.size w3 V12) := Lib.hid (HB3r.out.trans ((HB12.out.trans (HBV12.out.mono HB12.out.size)).mono HB3r.out.size))
          have HBrV : Hid (Below wr.heap.size wr V12) := Lib.hid (HB12.out.trans (HBV12.out.mono HB12.out.size))
          have HL12 : Hid (ListIs V12 (fun k => k < V12.heap.size ∧ ¬ F3 k) (some ⟨w12.heap.size, 0, none⟩) 1 [(A4, B1)]) := Lib.hid (by
            have hsz : V12.heap.size = w12.heap.size + 1 := by rw [← hV12, World.size_alloc]
            have h1 := HSZ.out
            have h2 := HB3r.out.size
            have h3 := HB12.out.size
            have h4 := HD1.out
            rw [← hV12]
            refine list_one (HA1w.out.later (HB3r.out.trans (HB12.out.mono h2))) (by have := HA4i.out; omega) (fun b' o s e => ?_) ?_
            · cases e
              rw [hV12, hsz]
              exact ⟨by omega, HD1F.out⟩
            · rw [hV12, hsz]
              exact ⟨by omega, fun hf => by have := (HF3.out _ hf).1; omega⟩)
          clear hV12
          refine hK.out _ _ ?_ (fun hHeld2 => ?_)
          · exact ⟨HV13.out.1, HV13.out.2.1⟩
          clear hK K
          try simp only [Act.put, List.setIfInBounds_toArray, List.set_cons_zero, List.set_cons_succ]
          refine wpAnyH_ready (rs := [13]) (by kernel_rfl) (by simp) ?_
          refine AllReadyH.cons (o := ⟨some 119, _, _, _, _, _⟩) rfl (fun K hK => ?_) AllReadyH.nil
          go_simp
          go_at_call 35
          refine (group_any V12 _ 1 1).mono ?_
          rintro e w13 ⟨rfl, rfl⟩
          obtain ⟨V13, hV13⟩ : ∃ V, w13.alloc (.cells #[.slice ra nr rc, .slice (some ⟨w12.heap.size, 0, none⟩) 1 1, .slice lo ll lc] 27) = V := ⟨_, rfl⟩
          refine hK.out _ _ ?_ (fun hHeld3 => ?_)
          · exact ⟨HV13.out.1, HV13.out.2.1⟩
          clear hK K
          try simp only [Act.put, List.setIfInBounds_toArray, List.set_cons_zero, List.set_cons_succ]
          refine wpAnyH_ready (rs := [15]) (by kernel_rfl) (by simp) ?_
          refine AllReadyH.cons (o := ⟨some 121, _, _, _, _, _⟩) rfl (fun K hK => ?_) AllReadyH.nil
          go_simp
          have HBV13 : Hid (Below w13.heap.size w13 V13) := Lib.hid (by rw [← hV13]; exact (Below.refl _ _).alloc (Nat.le_refl _) _)
          have HV14 := Lib.hid (HV13.out.later HBV13.out)
          have HB3W : Hid (Below w3.heap.size w3 V13) := Lib.hid (HB3V.out.trans (HBV13.out.mono HB3V.out.size))
          have HG13 : Hid (GsIs V13 (fun k => k < V13.heap.size ∧ ¬ F3 k) (some ⟨w13.heap.size, 0, none⟩) 3 GS) := Lib.hid (by
            have hsz : V13.heap.size = w13.heap.size + 1 := by rw [← hV13, World.size_alloc]
            have h1 := HSZ.out
            have h2 := HB3V.out.size
            have h3 := HBrV.out.size
            have h4 := HB3r.out.size
            have hws := HRo.out.1.1
            obtain ⟨ra2, rc2, e, hLr⟩ := HRo.out.list (by rw [behind_len, HLW.out]; have := HLL.out; omega)
            rw [HNR.out] at e hLr
            simp only [Value.slice.injEq, true_and] at e
            obtain ⟨rfl, rfl⟩ := e
            have hLw := (HL9.out.keep (w' := wr) (fun k hk => HBl.out.block k (HHF.out k hk).1)).later HBrV.out
            rw [← HGS2.out, ← hV13]
            refine gs_three ((hLr.later HBrV.out).wide (fun k hk => ?_)) (HL12.out.wide (fun k hk => ?_)) (hLw.wide (fun k hk => ?_)) ?_
            · rw [hV13, hsz]
              rcases hk with hk | hk
              · exact ⟨by omega, hk.2⟩
              · exact ⟨by omega, fun hf => by have := (HF3.out _ hf).1; omega⟩
            · rw [hV13, hsz]
              exact ⟨by omega, hk.2⟩
            · rw [hV13, hsz]
              have h5 := HHF.out k hk
              exact ⟨by omega, h5.2⟩
            · rw [hV13, hsz]
              exact ⟨by omega, fun hf => by have := (HF3.out _ hf).1; omega⟩)
          clear hV13
          refine hK.out _ _ ?_ (fun hHeld4 => ?_)
          · exact ⟨HV14.out.1, HV14.out.2.1⟩
          clear hK K
          try simp only [Act.put, List.setIfInBounds_toArray, List.set_cons_zero, List.set_cons_succ]
          refine wpAnyH_ready (rs := [16]) (by kernel_rfl) (by simp) ?_
          refine AllReadyH.cons (o := ⟨some 122, _, _, _, _, _⟩) rfl (fun K hK => ?_) AllReadyH.nil
          go_simp
          go_at_call 34
          refine (jwrite_any (diskOk.later HD3.out HB3W.out) HG13.out (fun k hk => hk) HS3.out (fun g hg => by
            rw [← HGS2.out] at hg
            simp only [List.mem_cons, List.not_mem_nil, or_false] at hg
            have h5 := HLL.out
            rcases hg with rfl | rfl | rfl
            · rw [behind_len, HLW.out]
              omega
            · show 1 ≤ 1000000000
              decide
            · rw [HLW.out]
              omega)).mono ?_
          rintro e w15 ⟨F8, rfl, hD8, hg8⟩
          have HP8 : Hid (¬ F8 p5) := Lib.hid (fun hf => by
            have h0 := HSZ.out
            have h4 := HRr.out.lt
            have h5 := HBrV.out.size
            have h6 := HBV13.out.size
            rcases hg8.2.2.2.2.2 p5 hf with h2 | h2
            · have := (HF3.out _ h2).1
              omega
            · omega)
          rw [HE3.out]
          rw [HD8e.out] at hD8
          have HV15 := Lib.hid (HV14.out.kept (grew_kept hg8 HV14.out.lt HQ3.out))
          have HR15 := Lib.hid ((HRr.out.later (HBrV.out.trans (HBV13.out.mono HBrV.out.size))).kept (grew_kept hg8 (Nat.lt_of_lt_of_le HRr.out.lt (HBrV.out.trans (HBV13.out.mono HBrV.out.size)).size) (fun hf => by have h1 := (HF3.out _ hf).1; have := HSZ.out; omega)))
          have HD8 := Lib.hid hD8
          have HGA : Hid (Grew F F8 w w15) := Lib.hid ((Grew.of_below HB1.out).trans (HG3.out.trans ((Grew.of_below HB3W.out).trans hg8)))
          have HQ8 : Hid (¬ F8 q) := Lib.hid (fun hf => by
            rcases HGA.out.2.2.2.2.2 q hf with h2 | h2
            · exact HQF.out h2
            · have := HSZ.out
              omega)
          clear hD8 hg8
          refine hK.out _ _ ?_ (fun hHeld5 => ?_)
          · exact ⟨HV15.out.1, HV15.out.2.1⟩
          clear hK K
          try simp only [Act.put, List.setIfInBounds_toArray, List.set_cons_zero, List.set_cons_succ]
          refine wpAnyH_take (i := 17) (oi := ⟨some 14, _, _, _, _, _⟩) (v := .int .i64 e3) rfl (by kernel_rfl) (by kernel_rfl) (by kernel_rfl) (fun _ _ _ h => h) (Or.inl ⟨by kernel_rfl, fun w _ => rfl⟩) (by assumption) ?_
          try simp only [Act.put, List.setIfInBounds_toArray, List.set_cons_zero, List.set_cons_succ]
          refine wpAnyH_done (by kernel_rfl) ?_ _
          by_cases he3 : e3 = 0
          · subst he3
            obtain ⟨r0, r1, _⟩ := HR15.out
            obtain ⟨y0, y1', y2', y3', yf⟩ := HV15.out
            have yf1 := yf 1
            have yf2 := yf 2
            obtain ⟨W16, hW16⟩ : ∃ W, (w15.setCell ⟨q, 1, none⟩ (.int .i64 nx)).setCell ⟨q, 2, none⟩ (.int .i64 sq1) = W := ⟨_, rfl⟩
            have hv16 := (HV15.out.set1 (.int .i64 nx)).set2 (.int .i64 sq1)
            rw [hW16] at hv16
            have HV16 := Lib.hid hv16
            have hk16 : ∀ k, k ≠ q → W16.heap[k]? = w15.heap[k]? := fun k hk => by rw [← hW16, set_heap _ q 2 _ hk, set_heap _ q 1 _ hk]
            have hs16 : W16.heap.size = w15.heap.size := by rw [← hW16, set_size, set_size]
            have HS16 := Lib.hid hs16
            have HD16 : Hid (DI W16 a F8 D8) := Lib.hid (diskOk.kept HD8.out (fun k hf => hk16 k (fun e => HQ8.out (by rw [← e]; exact hf))) (Nat.le_of_eq hs16.symm))
            have HR16 := Lib.hid (HR15.out.kept (hk16 p5 (by have := HSZ.out; omega)))
            have HG16 : Hid (Grew (fun k => F k ∨ k = q) (fun k => F8 k ∨ k = q) w W16) := Lib.hid ((HGA.out.or q).trans (by rw [← hW16]; exact (Grew.setCell _ _ (Or.inr rfl) _).trans (Grew.setCell _ _ (Or.inr rfl) _)))
            have HNS : Hid ((0 ≤ nx ∧ nx ≤ 39) ∧ 1 ≤ sq1 ∧ sq1 ≤ 1073741824) := Lib.hid (by have h1 := HNX0.out; have h2 := HSS.out; have h3 := HSQ1.out; omega)
            have HS8 : Hid (smallD D8) := Lib.hid (fun k => by rw [← HD8e.out]; exact Nat.le_trans (writeP_ones GS D3 (by rw [← HGS.out]; simp) HE3.out k) (by decide))
            have HP5F : Hid (¬ F8 p5) := Lib.hid (fun hf => HP8.out hf)
            clear hv16 hk16 hs16 yf
            go_wp2_with fail
            refine wp_region_held_drew (S := fun W => W.cell? ⟨q, 0, none⟩ = some (.pointer (some a)) ∧ W.cell? ⟨p5, 0, none⟩ = some (.int .i64 nx) ∧ W.cell? ⟨p5, 1, none⟩ = some (.int .i64 sq1)) (by kernel_rfl) ⟨HV16.out.1, HR16.out.1, HR16.out.2.1⟩ (fun hHeld => ?_)
            refine wpAnyH_take (i := 0) (oi := ⟨some 130, _, _, _, _, _⟩) (v := .pointer (some ⟨q, 0, none⟩)) rfl (by kernel_rfl) (by kernel_rfl) (by kernel_rfl) (fun _ _ _ h => h) (Or.inl ⟨by kernel_rfl, fun w _ => rfl⟩) (by assumption) ?_
            try simp only [Act.put, List.setIfInBounds_toArray, List.set_cons_zero, List.set_cons_succ]
            refine wpAnyH_take (i := 1) (oi := ⟨some 131, _, _, _, _, _⟩) (v := .pointer (some ⟨q, 0, none⟩)) rfl (by kernel_rfl) (by kernel_rfl) (by kernel_rfl) (fun _ _ _ h => h) (Or.inl ⟨by kernel_rfl, by intro w _; go_simp; (try omega)⟩) (by assumption) ?_
            try simp only [Act.put, List.setIfInBounds_toArray, List.set_cons_zero, List.set_cons_succ]
            refine wpAnyH_take (i := 2) (oi := ⟨some 132, _, _, _, _, _⟩) (v := .pointer (some ⟨q, 0, none⟩)) rfl (by kernel_rfl) (by kernel_rfl) (by kernel_rfl) (fun _ _ _ h => h) (Or.inl ⟨by kernel_rfl, by intro w _; go_simp; (try omega)⟩) (by assumption) ?_
            try simp only [Act.put, List.setIfInBounds_toArray, List.set_cons_zero, List.set_cons_succ]
            refine wpAnyH_take (i := 3) (oi := ⟨some 133, _, _, _, _, _⟩) (v := .pointer (some a)) rfl (by kernel_rfl) (by kernel_rfl) (by kernel_rfl) (fun _ _ _ h => h) (Or.inl ⟨by kernel_rfl, by intro w hSw; obtain ⟨s1, s2, s3⟩ := hSw; go_simp⟩) (by assumption) ?_
            try simp only [Act.put, List.setIfInBounds_toArray, List.set_cons_zero, List.set_cons_succ]
            refine wpAnyH_take (i := 4) (oi := ⟨some 134, _, _, _, _, _⟩) (v := .agg #[.int .i64 nx, .int .i64 sq1]) rfl (by kernel_rfl) (by kernel_rfl) (by kernel_rfl) (fun _ _ _ h => h) (Or.inl ⟨by kernel_rfl, by intro w hSw; obtain ⟨s1, s2, s3⟩ := hSw; go_simp⟩) (by assumption) ?_
            try simp only [Act.put, List.setIfInBounds_toArray, List.set_cons_zero, List.set_cons_succ]
            refine wpAnyH_ready (rs := [5]) (by kernel_rfl) (by simp) ?_
            refine AllReadyH.cons (o := ⟨some 135, _, _, _, _, _⟩) rfl (fun K hK => ?_) AllReadyH.nil
            go_simp
            go_at_call 36
            refine (headBlockZ W16.drew nx sq1 HNS.out.1 HNS.out.2).mono ?_
            rintro e w17 ⟨ao7, c7, rfl, hf7, hb7⟩
            obtain ⟨d7, o7, c8, hv7, hA7, hd7⟩ := fresh64 hf7 (headBlock_length _)
            simp only [Value.slice.injEq, true_and] at hv7
            obtain ⟨rfl, rfl⟩ := hv7
            have HA7 := Lib.hid hA7
            have HD7 : Hid (W16.heap.size ≤ d7 ∧ d7 < w17.heap.size) := Lib.hid hd7
            have HB17 : Hid (Below W16.heap.size W16 w17) := Lib.hid ((Below.refl _ _).drew.trans hb7)
            have HV17 := Lib.hid (HV16.out.later HB17.out)
            have HR17 := Lib.hid (HR16.out.later HB17.out)
            clear hf7 hb7 hA7 hd7
            obtain ⟨V17, hV17⟩ : ∃ V, w17.alloc (.cells #[.int .i64 1, .slice (some ⟨d7, o7, none⟩) 64 c7] 48) = V := ⟨_, rfl⟩
            refine hK.out _ _ ?_ (fun hHeld1 => ?_)
            · exact ⟨HV17.out.1, HR17.out.1, HR17.out.2.1⟩
            clear hK K
            try simp only [Act.put, List.setIfInBounds_toArray, List.set_cons_zero, List.set_cons_succ]
            refine wpAnyH_ready (rs := [6]) (by kernel_rfl) (by simp) ?_
            refine AllReadyH.cons (o := ⟨some 136, _, _, _, _, _⟩) rfl (fun K hK => ?_) AllReadyH.nil
            go_simp
            have HBV17 : Hid (Below w17.heap.size w17 V17) := Lib.hid (by rw [← hV17]; exact (Below.refl _ _).alloc (Nat.le_refl _) _)
            have HV18 := Lib.hid (HV17.out.later HBV17.out)
            have HR18 := Lib.hid (HR17.out.later HBV17.out)
            have HB18 : Hid (Below W16.heap.size W16 V17) := Lib.hid (HB17.out.trans (HBV17.out.mono HB17.out.size))
            have HL17 : Hid (ListIs V17 (fun k => W16.heap.size ≤ k ∧ k < V17.heap.size) (some ⟨w17.heap.size, 0, none⟩) 1 [(1, headBlock ⟨nx, sq1⟩)]) := Lib.hid (by
              have hsz : V17.heap.size = w17.heap.size + 1 := by rw [← hV17, World.size_alloc]
              have h1 := HB17.out.size
              have h2 := HD7.out
              rw [← hV17]
              refine list_one HA7.out (by decide) (fun b' o s e => ?_) ?_
              · cases e
                rw [hV17, hsz]
                omega
              · rw [hV17, hsz]
                omega)
            clear hV17
            refine hK.out _ _ ?_ (fun hHeld2 => ?_)
            · exact ⟨HV18.out.1, HR18.out.1, HR18.out.2.1⟩
            clear hK K
            try simp only [Act.put, List.setIfInBounds_toArray, List.set_cons_zero, List.set_cons_succ]
            refine wpAnyH_ready (rs := [7]) (by kernel_rfl) (by simp) ?_
            refine AllReadyH.cons (o := ⟨some 137, _, _, _, _, _⟩) rfl (fun K hK => ?_) AllReadyH.nil
            go_simp
            go_at_call 35
            refine (group_any V17 _ 1 1).mono ?_
            rintro e w18 ⟨rfl, rfl⟩
            obtain ⟨V18, hV18⟩ : ∃ V, w18.alloc (.cells #[.slice (some ⟨w17.heap.size, 0, none⟩) 1 1] 27) = V := ⟨_, rfl⟩
            refine hK.out _ _ ?_ (fun hHeld3 => ?_)
            · exact ⟨HV18.out.1, HR18.out.1, HR18.out.2.1⟩
            clear hK K
            try simp only [Act.put, List.setIfInBounds_toArray, List.set_cons_zero, List.set_cons_succ]
            refine wpAnyH_ready (rs := [8]) (by kernel_rfl) (by simp) ?_
            refine AllReadyH.cons (o := ⟨some 138, _, _, _, _, _⟩) rfl (fun K hK => ?_) AllReadyH.nil
            go_simp
            have HBV18 : Hid (Below w18.heap.size w18 V18) := Lib.hid (by rw [← hV18]; exact (Below.refl _ _).alloc (Nat.le_refl _) _)
            have HV19 := Lib.hid (HV18.out.later HBV18.out)
            have HR19 := Lib.hid (HR18.out.later HBV18.out)
            have HB19 : Hid (Below W16.heap.size W16 V18) := Lib.hid (HB18.out.trans (HBV18.out.mono HB18.out.size))
            have HG18 : Hid (GsIs V18 (fun k => W16.heap.size ≤ k ∧ k < V18.heap.size) (some ⟨w18.heap.size, 0, none⟩) 1 [[(1, headBlock ⟨nx, sq1⟩)]]) := Lib.hid (by
              have hsz : V18.heap.size = w18.heap.size + 1 := by rw [← hV18, World.size_alloc]
              have h1 := HB18.out.size
              rw [← hV18]
              refine gs_one (HL17.out.wide (fun k hk => ?_)) ?_
              · rw [hV18, hsz]
                omega
              · rw [hV18, hsz]
                omega)
            clear hV18
            refine hK.out _ _ ?_ (fun hHeld4 => ?_)
            · exact ⟨HV19.out.1, HR19.out.1, HR19.out.2.1⟩
            clear hK K
            try simp only [Act.put, List.setIfInBounds_toArray, List.set_cons_zero, List.set_cons_succ]
            refine wpAnyH_ready (rs := [9]) (by kernel_rfl) (by simp) ?_
            refine AllReadyH.cons (o := ⟨some 139, _, _, _, _, _⟩) rfl (fun K hK => ?_) AllReadyH.nil
            go_simp
            go_at_call 34
            refine (jwrite_any (diskOk.later HD16.out HB19.out) HG18.out (fun k hk => ⟨hk.2, fun hf => by have h1 := diskOk.lt HD16.out k hf; have := hk.1; omega⟩) HS8.out (fun g hg => by
              rw [List.mem_singleton.1 hg]
              show 1 ≤ 1000000000
              decide)).mono ?_
            rintro e w20 ⟨F9, rfl, hD9, hg9⟩
            have HV20 := Lib.hid (HV19.out.kept (grew_kept hg9 HV19.out.lt HQ8.out))
            have HR20 := Lib.hid (HR19.out.kept (grew_kept hg9 HR19.out.lt (fun hf => by have h1 := (HGA.out.2.2.2.2.2 p5 hf); have h2 := HSZ.out; have h3 := HP5F.out; exact h3 hf)))
            have HD9 := Lib.hid hD9
            have HG9 := Lib.hid hg9
            clear hD9 hg9
            refine hK.out _ _ ?_ (fun hHeld5 => ?_)
            · exact ⟨HV20.out.1, HR20.out.1, HR20.out.2.1⟩
            clear hK K
            try simp only [Act.put, List.setIfInBounds_toArray, List.set_cons_zero, List.set_cons_succ]
            refine wpAnyH_take (i := 10) (oi := ⟨some 4, _, _, _, _, _⟩) (v := .int .i64 (writeP D8 [[(1, headBlock ⟨nx, sq1⟩)]]).2) rfl (by kernel_rfl) (by kernel_rfl) (by kernel_rfl) (fun _ _ _ h => h) (Or.inl ⟨by kernel_rfl, fun w _ => rfl⟩) (by assumption) ?_
            try simp only [Act.put, List.setIfInBounds_toArray, List.set_cons_zero, List.set_cons_succ]
            refine wpAnyH_done (by kernel_rfl) ?_ _
            go_wp2_with fail
            go_ret
            rw [HC0.out, if_neg (by decide), if_neg (by decide), if_neg (by decide)]
            have hgA : Grew (fun k => F k ∨ k = q) (fun k => F9 k ∨ k = q) w w20 := HG16.out.trans (((Grew.of_below HB19.out).trans HG9.out).or q)
            refine ⟨F9, rfl, HD9.out, HV20.out, hgA, fun hf => ?_⟩
            rcases HG9.out.2.2.2.2.2 q hf with h2 | h2
            · exact HQ8.out h2
            · have h3 := HV19.out.lt
              omega
          · have hb3 : (e3 != 0) = true := by simp [he3]
            go_wp2_with fail
            go_ret
            rw [HC0.out, if_neg (by decide), if_neg (by decide), if_pos he3]
            refine ⟨F8, rfl, HD8.out, ?_, HGA.out.or q, HQ8.out⟩
            show V4 w15 q _ (.int .i64 S.at_) (.int .i64 S.seq) _
            rw [HSE.out.1, HSE.out.2.1]
            exact HV15.out
    · have hb2 : (e2 != 0) = true := by simp [he2]
      subst he1
      go_enter Try.func29, Try.ntmps29
      go_wp2_with (first
        | (go_at_call 49; refine (clear_any (diskOk.later HD.out HB1.out) HJ1.out (fun k hf hk => HQF.out (by rw [← hk]; exact hf)) HS.out).mono ?_; rintro e w3 ⟨F3, rfl, hD3, hg3⟩; rw [HE2.out]; rw [HD3e.out] at hD3; have HD3 := Lib.hid hD3; have HG3 := Lib.hid hg3; have HV3 := Lib.hid (HV1.out.kept (grew_kept hg3 HV1.out.lt HQF.out)); have h3q : w3.cell? ⟨q, 2, none⟩ = some (.int .i64 seq) := HV3.out.2.2.1; clear hD3 hg3)
        | (go_at_call 48; refine cF.mono ?_; rintro e w1 ⟨v1, rfl, hf1, hb1⟩; obtain ⟨ao1, c1, rfl, hA1⟩ := fresh_form hf1; rw [HK1.out]; have HF1 := Lib.hid hf1; have HB1 := Lib.hid hb1; have HV1 := Lib.hid (HV.out.later hb1); have HJ1 : Hid (JI2 w1 ⟨q, 0, none⟩ a (fun k => k = q) S) := Lib.hid ⟨HJ2.out.1.kept (fun k hk => by rw [hk]; exact hb1.block q HV.out.lt), HJ2.out.2⟩; clear hf1 hb1 hA1))
      go_ret
      rw [HC0.out, if_neg (by decide), if_pos he2]
      have hgA := (Grew.of_below (F := F) HB1.out).trans HG3.out
      refine ⟨F3, rfl, HD3.out, ?_, hgA.or q, fun hf => ?_⟩
      · show V4 w3 q _ (.int .i64 S.at_) (.int .i64 S.seq) _
        rw [HSE.out.1, HSE.out.2.1]
        exact HV3.out
      · rcases hgA.2.2.2.2.2 q hf with h2 | h2
        · exact HQF.out h2
        · have := HV.out.lt
          omega
  · have hb1 : (e1 != 0) = true := by simp [he1]
    go_enter Try.func29, Try.ntmps29
    go_wp2_with (go_at_call 48; refine cF.mono ?_; rintro e w1 ⟨v1, rfl, hf1, hb1⟩; obtain ⟨ao1, c1, rfl, hA1⟩ := fresh_form hf1; rw [HK1.out]; have HF1 := Lib.hid hf1; have HB1 := Lib.hid hb1; have HV1 := Lib.hid (HV.out.later hb1); have HJ1 : Hid (JI2 w1 ⟨q, 0, none⟩ a (fun k => k = q) S) := Lib.hid ⟨HJ2.out.1.kept (fun k hk => by rw [hk]; exact hb1.block q HV.out.lt), HJ2.out.2⟩; clear hf1 hb1 hA1)
    go_ret
    rw [HC0.out, if_pos he1]
    refine ⟨F, rfl, diskOk.later HD.out HB1.out, ?_, (Grew.of_below HB1.out).or q, HQF.out⟩
    show V4 w1 q _ (.int .i64 S.at_) (.int .i64 S.seq) _
    rw [HSE.out.1, HSE.out.2.1]
    exact HV1.out
end Go.Proofs.Ytbnepjojfaeggaa
