/-
  Proved here: lists of blocks of a call's own; how few transactions a log holds; the landed journal's view in plain words.
  The conditions stand at each theorem.
-/
import Derived.Test.YtbnepjojfaeggaaJrWithin
namespace Go.Proofs.Ytbnepjojfaeggaa
open Go.RowKit
set_option linter.unusedVariables false
set_option linter.unusedSimpArgs false

theorem elemBs : ElemR 45 46 (.slice none 0 0) 1 24 := ⟨Try.underlying45, by kernel_rfl, rfl, by decide, by decide⟩

/-- A list of blocks of 64 bytes, each text apart from the row. -/
def BOwn (base lo : Nat) (w : World) (v : Value) (bs : List (List Int)) : Prop :=
  ∃ xs, w.ownsRow base 46 1 v bs.length xs ∧ ∀ (j : Nat) (zs : List Int), bs[j]? = some zs → ∃ db off cap, xs[j]? = some (.slice (some ⟨db, off, none⟩) 64 cap) ∧ (lo ≤ db ∧ db < w.heap.size) ∧ v.ownBlock ≠ some db ∧ Arg w (some ⟨db, off, none⟩) 64 cap zs

theorem BOwn.later {base lo : Nat} {w w' : World} {v : Value} {bs : List (List Int)} (h : BOwn base lo w v bs) (hb : Below w.heap.size w w') : BOwn base lo w' v bs := by
  obtain ⟨xs, ho, hx⟩ := h
  refine ⟨xs, owns_later_r ho hb, fun j zs hj => ?_⟩
  obtain ⟨d, o, c, c1, c2, c3, c4⟩ := hx j zs hj
  have := hb.size
  exact ⟨d, o, c, c1, ⟨c2.1, by omega⟩, c3, c4.later hb⟩

theorem BOwn.snoc {base lo : Nat} {wr wx w4 : World} {v v' : Value} {bs : List (List Int)} {zs : List Int} {xs : List Value} {db off cap : Nat} {ob : Obj}
    (h1 : wr.ownsRow base 46 1 v bs.length xs) (h2 : ∀ (j : Nat) (zs : List Int), bs[j]? = some zs → ∃ db off cap, xs[j]? = some (.slice (some ⟨db, off, none⟩) 64 cap) ∧ (lo ≤ db ∧ db < wr.heap.size) ∧ v.ownBlock ≠ some db ∧ Arg wr (some ⟨db, off, none⟩) 64 cap zs)
    (hb : Below wr.heap.size wr wx) (hd : lo ≤ db ∧ db < wx.heap.size) (hne : v.ownBlock ≠ some db) (hA : Arg wx (some ⟨db, off, none⟩) 64 cap zs)
    (hown : w4.ownsRow base 46 1 v' (bs.length + 1) (xs ++ [.slice (some ⟨db, off, none⟩) 64 cap])) (hg : (wx.alloc ob).grownBy w4 v.ownBlock) (hv : v'.ownBlock = v.ownBlock ∨ v'.ownBlock = some (wx.alloc ob).heap.size) : BOwn base lo w4 v' (bs ++ [zs]) := by
  have hxl : xs.length = bs.length := by have := h1.1; omega
  have hsz : wr.heap.size ≤ wx.heap.size := hb.size
  have hsz4 : (wx.alloc ob).heap.size ≤ w4.heap.size := hg.size
  rw [World.size_alloc] at hsz4
  have hal : ∀ {d o l c : Nat} {y : List Int}, Arg wx (some ⟨d, o, none⟩) l c y → Arg (wx.alloc ob) (some ⟨d, o, none⟩) l c y := fun h => h.later ((Below.refl _ _).alloc (Nat.le_refl _) _)
  have hnew : ∀ k, k < wx.heap.size → v.ownBlock ≠ some k → v'.ownBlock ≠ some k := fun k hk hn => by
    rcases hv with e | e
    · rw [e]; exact hn
    · rw [e, World.size_alloc]
      intro h
      simp at h
      omega
  refine ⟨_, by rw [List.length_append]; exact hown, fun j ys hj => ?_⟩
  by_cases hjl : j < bs.length
  · rw [List.getElem?_append_left hjl] at hj
    obtain ⟨d, o, c, c1, c2, c3, c4⟩ := h2 j ys hj
    exact ⟨d, o, c, by rw [List.getElem?_append_left (by omega)]; exact c1, ⟨c2.1, by omega⟩, hnew d (by omega) c3, arg_grown (hal (c4.later hb)) hg c3⟩
  · have hj0 : j = bs.length := by
      have := (List.getElem?_eq_some_iff.1 hj).1
      simp at this
      omega
    subst hj0
    rw [List.getElem?_append_right (Nat.le_refl _), Nat.sub_self] at hj
    simp at hj
    subst hj
    exact ⟨db, off, cap, by rw [List.getElem?_append_right (by omega), hxl, Nat.sub_self]; rfl, ⟨hd.1, by omega⟩, hnew db hd.2 hne, arg_grown (hal hA) hg hne⟩

/-- One block, behind a composite literal. -/
theorem BOwn.one {lo : Nat} {w : World} {zs : List Int} {db off cap : Nat} (hd : lo ≤ db ∧ db < w.heap.size) (hA : Arg w (some ⟨db, off, none⟩) 64 cap zs) :
    BOwn w.heap.size lo (w.alloc (.cells #[.slice (some ⟨db, off, none⟩) 64 cap] 46)) (.slice (some ⟨w.heap.size, 0, none⟩) 1 1) [zs] := by
  have ho : (w.alloc (.cells #[.slice (some ⟨db, off, none⟩) 64 cap] 46)).ownsRow w.heap.size 46 1 (.slice (some ⟨w.heap.size, 0, none⟩) 1 1) 1 [.slice (some ⟨db, off, none⟩) 64 cap] :=
    ⟨rfl, Or.inr ⟨w.heap.size, 1, _, rfl, Nat.le_refl _, heap_alloc_new w _, Nat.le_refl _, by decide, rfl, rfl⟩⟩
  refine ⟨_, ho, fun j ys hj => ?_⟩
  match j, hj with
  | 0, hj =>
    cases hj
    refine ⟨db, off, cap, rfl, ⟨hd.1, by simp; omega⟩, ?_, hA.later ((Below.refl _ _).alloc (Nat.le_refl _) _)⟩
    intro h
    simp [Value.ownBlock] at h
    omega
  | j + 1, hj => simp at hj

theorem BOwn.form {base lo : Nat} {w : World} {v : Value} {bs : List (List Int)} (h : BOwn base lo w v bs) (hn : 0 < bs.length) : ∃ g cap, v = .slice (some ⟨g, 0, none⟩) bs.length cap ∧ bs.length ≤ cap ∧ (base ≤ g ∧ g < w.heap.size) ∧ (∀ j, w.frozen? ⟨g, j, none⟩ = false) ∧
    ∀ (j : Nat) (zs : List Int), bs[j]? = some zs → ∃ db off c, w.cell? ⟨g, j, none⟩ = some (.slice (some ⟨db, off, none⟩) 64 c) ∧ (lo ≤ db ∧ db ≠ g) ∧ Arg w (some ⟨db, off, none⟩) 64 c zs := by
  obtain ⟨xs, ho, hx⟩ := h
  rcases ho.2 with ⟨_, h0⟩ | ⟨g, cap, cur, hv, hb, hh, hc, _⟩
  · omega
  · have hlt := ho.lt g (by rw [hv]; rfl)
    rw [hv] at ho
    refine ⟨g, cap, hv, hc, hlt, fun j => ho.frozenAt j, fun j zs hj => ?_⟩
    obtain ⟨d, o, c, c1, c2, c3, c4⟩ := hx j zs hj
    have e := ho.cells (g := g) rfl _ _ c1
    rw [Go.WideShapes.add_plain, Nat.zero_add] at e
    exact ⟨d, o, c, e, ⟨c2.1, fun e => c3 (by rw [hv, e]; rfl)⟩, c4⟩

theorem arg_lt {w : World} {db off cap : Nat} {zs : List Int} (h : Arg w (some ⟨db, off, none⟩) 64 cap zs) : db < w.heap.size := by
  obtain ⟨b', o', he, hc⟩ := h.1.2.2.2.resolve_left (by decide)
  simp only [Option.some.injEq, Addr.mk.injEq, and_true] at he
  obtain ⟨rfl, rfl⟩ := he
  exact World.block_lt_of_cell? _ _ (hc 0 (by decide))

/-- A list, while the ring is written. -/
theorem BOwn.kept {base lo g : Nat} {w w' : World} {v : Value} {bs : List (List Int)} (h : BOwn base lo w v bs) (hk : Keeps g w w') (hg : g < base) (hg2 : g < lo) : BOwn base lo w' v bs := by
  obtain ⟨xs, ho, hx⟩ := h
  refine ⟨xs, owns_keeps ho hk hg, fun j zs hj => ?_⟩
  obtain ⟨d, o, c, c1, c2, c3, c4⟩ := hx j zs hj
  exact ⟨d, o, c, c1, ⟨c2.1, by rw [hk.1]; exact c2.2⟩, c3, arg_keeps c4 hk (by omega)⟩

/-- The rows of a list of blocks, to be read; from a place on. -/
theorem BOwn.rows {base lo : Nat} {w : World} {v : Value} {bs : List (List Int)} (h : BOwn base lo w v bs) (hn : 0 < bs.length) : ∃ g cap, v = .slice (some ⟨g, 0, none⟩) bs.length cap ∧ bs.length ≤ cap ∧ (base ≤ g ∧ g < w.heap.size) ∧ ∀ k m, k + m ≤ bs.length → RowsIn w (some ⟨g, k, none⟩) m (cap - k) ((bs.drop k).take m) := by
  obtain ⟨g, cap, hv, hc, hg, _, hx⟩ := h.form hn
  refine ⟨g, cap, hv, hc, hg, fun k m hkm => ⟨by rw [List.length_take, List.length_drop]; omega, by omega, Or.inr ⟨g, k, rfl, fun j hj => ?_⟩⟩⟩
  obtain ⟨d, o, c, c1, _, c3⟩ := hx (k + j) (bs[k + j]'(by omega)) (List.getElem?_eq_getElem (by omega))
  refine ⟨_, 64, c, c1, ?_, c3.2.2.1⟩
  have e : ((bs.drop k).take m).getD j [] = bs[k + j]'(by omega) := by
    rw [List.getD_eq_getElem?_getD, List.getElem?_take, if_pos hj, List.getElem?_drop, List.getElem?_eq_getElem (by omega)]; rfl
  rw [e]
  exact c3.1

/-! ### How few transactions a log holds -/

theorem nodup_lt : ∀ (n : Nat) (l : List Nat), l.Nodup → (∀ x ∈ l, x < n) → l.length ≤ n
  | 0, l, _, h => by
    cases l with
    | nil => exact Nat.le_refl _
    | cons x r => exact absurd (h x (List.mem_cons_self ..)) (Nat.not_lt_zero x)
  | n + 1, l, hd, h => by
    by_cases hm : n ∈ l
    · have h2 := nodup_lt n (l.erase n) (hd.erase n) (fun x hx => by
        have h3 := h x (List.mem_of_mem_erase hx)
        have h4 : x ≠ n := fun e => by
          subst e
          exact (List.Nodup.not_mem_erase hd) hx
        omega)
      rw [List.length_erase_of_mem hm] at h2
      omega
    · have h2 := nodup_lt n l hd (fun x hx => by
        have h3 := h x hx
        have h4 : x ≠ n := fun e => hm (e ▸ hx)
        omega)
      omega

/-- Where the transactions begin. -/
def begsL (bs : List (List Int)) : Nat → Nat → Int → List Nat
  | 0, _, _ => []
  | k + 1, a, s => match txAt bs a s with
    | none => []
    | some l => a :: begsL bs k ((a + (l.length + 2)) % 40) (s + 1)
theorem begs_len (bs : List (List Int)) : ∀ (k a : Nat) (s : Int), (begsL bs k a s).length = (findL bs k a s).1.length
  | 0, _, _ => rfl
  | k + 1, a, s => by
    unfold begsL findL
    cases txAt bs a s with
    | none => rfl
    | some l => exact congrArg (· + 1) (begs_len bs k _ _)
theorem begs_seq (bs : List (List Int)) : ∀ (k a : Nat) (s : Int), ∀ p ∈ begsL bs k a s, s ≤ (readD (bs.getD p [])).seq
  | 0, _, _ => fun p h => by simp [begsL] at h
  | k + 1, a, s => fun p h => by
    unfold begsL at h
    cases hx : txAt bs a s with
    | none => rw [hx] at h; simp at h
    | some l =>
      rw [hx] at h
      rcases List.mem_cons.1 h with rfl | h
      · exact Int.le_of_eq (tx_some hx).2.1.symm
      · have := begs_seq bs k _ _ p h
        omega
theorem begs_nodup (bs : List (List Int)) : ∀ (k a : Nat) (s : Int), (begsL bs k a s).Nodup
  | 0, _, _ => by simp [begsL]
  | k + 1, a, s => by
    unfold begsL
    cases hx : txAt bs a s with
    | none => simp
    | some l =>
      simp only [List.nodup_cons]
      refine ⟨fun h => ?_, begs_nodup bs k _ _⟩
      have h1 := begs_seq bs k _ _ a h
      have h2 := (tx_some hx).2.1
      omega
theorem begs_lt (bs : List (List Int)) : ∀ (k a : Nat) (s : Int), a < 40 → ∀ p ∈ begsL bs k a s, p < 40
  | 0, _, _ => fun _ p h => by simp [begsL] at h
  | k + 1, a, s => fun ha p h => by
    unfold begsL at h
    cases hx : txAt bs a s with
    | none => rw [hx] at h; simp at h
    | some l =>
      rw [hx] at h
      rcases List.mem_cons.1 h with rfl | h
      · exact ha
      · exact begs_lt bs k _ _ (Nat.mod_lt _ (by decide)) p h
theorem find_few (bs : List (List Int)) (k a : Nat) (s : Int) (ha : a < 40) : (findL bs k a s).1.length ≤ 40 := by
  rw [← begs_len]
  exact nodup_lt 40 _ (begs_nodup bs k a s) (begs_lt bs k a s ha)
theorem find_short (bs : List (List Int)) : ∀ (k a : Nat) (s : Int), ∀ l ∈ (findL bs k a s).1, l.length ≤ 20
  | 0, a, s => fun l h => by simp [findL] at h
  | k + 1, a, s => fun l h => by
    unfold findL at h
    cases hx : txAt bs a s with
    | none => rw [hx] at h; simp at h
    | some y =>
      rw [hx] at h
      rcases List.mem_cons.1 h with rfl | h
      · exact (tx_some hx).2.2.2.2
      · exact find_short bs k _ _ l h
theorem found_few (bs : List (List Int)) (a s : Int) : (foundOut bs a s).1.length ≤ 40 ∧ ∀ l ∈ (foundOut bs a s).1, l.length ≤ 20 := by
  unfold foundOut
  by_cases h : okLog bs a s = true
  · rw [if_pos h]
    have hb := h
    unfold okLog at hb
    rw [Bool.and_eq_true, decide_eq_true_eq] at hb
    exact ⟨find_few bs _ _ _ (by omega), find_short bs _ _ _⟩
  · rw [if_neg h]
    exact ⟨Nat.zero_le _, fun l h => by simp at h⟩

/-! ### The view, in plain words -/

/-- The blocks of a disk, as Get answers them. -/
def curs (D : DM) : List (List Int) := (List.range D.n).map fun (k : Nat) => diskOut D (k : Int)
theorem curs_length (D : DM) : (curs D).length = D.n := by unfold curs; simp
theorem curs_get (D : DM) {k : Nat} (h : k < D.n) : (curs D)[k]? = some (diskOut D (k : Int)) := by unfold curs; simp [h]
def logD (D : DM) : List (List Int) := ((curs D).drop 19).take 40
def headD (D : DM) : PHead := getHead (diskOut D 1)
def lookE (D : DM) : Int := if D.n < 64 then 1 else if D.off = true then 8 else foundErr (logD D) (headD D).a (headD D).b
def lookF (D : DM) : List (List (Int × List Int)) × Int × Int := foundOut (logD D) (headD D).a (headD D).b
def flatK (n : Int) (ls : List (List (Int × List Int))) : List (Int × List Int) := (ls.map (keepW n)).flatten
theorem flatK_len (n : Int) : ∀ ls : List (List (Int × List Int)), (∀ l ∈ ls, l.length ≤ 20) → (flatK n ls).length ≤ 20 * ls.length
  | [], _ => Nat.le_refl _
  | l :: r, h => by
    have h1 := h l (List.mem_cons_self ..)
    have h2 := flatK_len n r (fun x hx => h x (List.mem_cons_of_mem _ hx))
    have h3 := keepW_le n l
    show (keepW n l ++ flatK n r).length ≤ 20 * (r.length + 1)
    rw [List.length_append]
    omega
theorem flatK_snoc {n : Int} {ls : List (List (Int × List Int))} {i : Nat} {l : List (Int × List Int)} (h : ls[i]? = some l) : flatK n (ls.take (i + 1)) = flatK n (ls.take i) ++ keepW n l := by
  unfold flatK
  rw [List.take_add_one, h]
  simp
/-- Nothing where there is an error. -/
def lookR (D : DM) : List (List Int) := if lookE D = 0 then curs D else []
def lookW (D : DM) : List (Int × List Int) := if lookE D = 0 then flatK (D.n : Int) (lookF D).1 else []
def lookH (D : DM) : Int × Int := if lookE D = 0 then (lookF D).2 else (0, 0)
theorem lookW_len (D : DM) : (lookW D).length ≤ 800 := by
  unfold lookW
  split
  · have h := found_few (logD D) (headD D).a (headD D).b
    have h2 := flatK_len (D.n : Int) (lookF D).1 h.2
    have h3 : (lookF D).1.length ≤ 40 := h.1
    omega
  · exact Nat.zero_le _

/-- A variable of four cells. -/
def V4 (w : World) (q : Nat) (a b c d : Value) : Prop := w.cell? ⟨q, 0, none⟩ = some a ∧ w.cell? ⟨q, 1, none⟩ = some b ∧ w.cell? ⟨q, 2, none⟩ = some c ∧ w.cell? ⟨q, 3, none⟩ = some d ∧ ∀ k, w.frozen? ⟨q, k, none⟩ = false
theorem V4.lt {w : World} {q : Nat} {a b c d : Value} (h : V4 w q a b c d) : q < w.heap.size := World.block_lt_of_cell? _ _ h.1
theorem V4.kept {w w' : World} {q : Nat} {a b c d : Value} (h : V4 w q a b c d) (hk : w'.heap[q]? = w.heap[q]?) : V4 w' q a b c d :=
  ⟨by rw [cell_of_heap (p := ⟨q, 0, none⟩) hk]; exact h.1, by rw [cell_of_heap (p := ⟨q, 1, none⟩) hk]; exact h.2.1, by rw [cell_of_heap (p := ⟨q, 2, none⟩) hk]; exact h.2.2.1, by rw [cell_of_heap (p := ⟨q, 3, none⟩) hk]; exact h.2.2.2.1, fun k => by rw [World.frozen?_of_block (w := w) (a := ⟨q, k, none⟩) hk]; exact h.2.2.2.2 k⟩
theorem V4.later {w w' : World} {q : Nat} {a b c d : Value} (h : V4 w q a b c d) (hb : Below w.heap.size w w') : V4 w' q a b c d := h.kept (hb.block q h.lt)
theorem v4_new (w : World) (a b c d : Value) (T : TypeId) : V4 (w.alloc (.cells #[a, b, c, d] T)) w.heap.size a b c d :=
  ⟨by rw [World.cell?_alloc_new]; rfl, by rw [World.cell?_alloc_new]; rfl, by rw [World.cell?_alloc_new]; rfl, by rw [World.cell?_alloc_new]; rfl, fun k => by rw [World.frozen?_alloc_mark]; simp⟩
theorem V4.set0 {w : World} {q : Nat} {a b c d : Value} (h : V4 w q a b c d) (x : Value) : V4 (w.setCell ⟨q, 0, none⟩ x) q x b c d := by
  refine ⟨World.cell?_setCell_same w _ _ h.1, ?_, ?_, ?_, fun k => by simpa using h.2.2.2.2 k⟩
  all_goals rw [World.cell?_setCell_other (h := by simp)]
  · exact h.2.1
  · exact h.2.2.1
  · exact h.2.2.2.1
theorem V4.set1 {w : World} {q : Nat} {a b c d : Value} (h : V4 w q a b c d) (x : Value) : V4 (w.setCell ⟨q, 1, none⟩ x) q a x c d := by
  refine ⟨?_, World.cell?_setCell_same w _ _ h.2.1, ?_, ?_, fun k => by simpa using h.2.2.2.2 k⟩
  all_goals rw [World.cell?_setCell_other (h := by simp)]
  · exact h.1
  · exact h.2.2.1
  · exact h.2.2.2.1
theorem V4.set2 {w : World} {q : Nat} {a b c d : Value} (h : V4 w q a b c d) (x : Value) : V4 (w.setCell ⟨q, 2, none⟩ x) q a b x d := by
  refine ⟨?_, ?_, World.cell?_setCell_same w _ _ h.2.2.1, ?_, fun k => by simpa using h.2.2.2.2 k⟩
  all_goals rw [World.cell?_setCell_other (h := by simp)]
  · exact h.1
  · exact h.2.1
  · exact h.2.2.2.1
theorem V4.set3 {w : World} {q : Nat} {a b c d : Value} (h : V4 w q a b c d) (x : Value) : V4 (w.setCell ⟨q, 3, none⟩ x) q a b c x := by
  refine ⟨?_, ?_, ?_, World.cell?_setCell_same w _ _ h.2.2.2.1, fun k => by simpa using h.2.2.2.2 k⟩
  all_goals rw [World.cell?_setCell_other (h := by simp)]
  · exact h.1
  · exact h.2.1
  · exact h.2.2.1

end Go.Proofs.Ytbnepjojfaeggaa
