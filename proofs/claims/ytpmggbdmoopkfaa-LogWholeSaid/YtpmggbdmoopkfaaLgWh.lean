/-
  Proved here: what LogWhole lays into a ring and what is found there, in plain words; lists of blocks of the call's own, and a ring of blocks, in memory.
  The conditions stand at each theorem.
-/
import Derived.Test.YtpmggbdmoopkfaaAwake15
import Derived.Test.YtpmggbdmoopkfaaLgTx
namespace Go.Proofs.Ytpmggbdmoopkfaa
open Go.RowKit
set_option linter.unusedVariables false
set_option linter.unusedSimpArgs false

def totN : List Nat → Nat
  | [] => 0
  | n :: r => (n + 2) + totN r
theorem totN_snoc (n : Nat) : ∀ r : List Nat, totN (r ++ [n]) = totN r + (n + 2)
  | [] => by show (n + 2) + 0 = 0 + (n + 2); omega
  | m :: r => by show (m + 2) + totN (r ++ [n]) = (m + 2) + totN r + (n + 2); rw [totN_snoc n r]; omega
theorem totN_length : ∀ r : List Nat, r.length ≤ totN r
  | [] => Nat.le_refl _
  | m :: r => by have := totN_length r; show r.length + 1 ≤ (m + 2) + totN r; omega
theorem flatW_length (S fill : Int) : ∀ (r : List Nat) (i : Nat), (flatW S fill i r).length = totN r
  | [], i => rfl
  | n :: r, i => by
    show (txW S fill i n ++ flatW S fill (i + 1) r).length = (n + 2) + totN r
    rw [List.length_append, txW_length, flatW_length S fill r]
theorem flatW_snoc (S fill : Int) (n : Nat) : ∀ (r : List Nat) (i : Nat), flatW S fill i (r ++ [n]) = flatW S fill i r ++ txW S fill (i + r.length) n
  | [], i => by show txW S fill i n ++ [] = [] ++ txW S fill i n; simp
  | m :: r, i => by
    show txW S fill i m ++ flatW S fill (i + 1) (r ++ [n]) = (txW S fill i m ++ flatW S fill (i + 1) r) ++ txW S fill (i + (r.length + 1)) n
    rw [flatW_snoc S fill n r (i + 1), List.append_assoc, show i + 1 + r.length = i + (r.length + 1) by omega]
theorem wholeN_snoc (cut n : Nat) : ∀ (r : List Nat) (p : Nat), wholeN cut p (r ++ [n]) = wholeN cut p r + (if p + totN r + (n + 2) ≤ cut then 1 else 0)
  | [], p => by
    show (if p + (n + 2) ≤ cut then 0 + 1 else 0) = 0 + (if p + 0 + (n + 2) ≤ cut then 1 else 0)
    simp
  | m :: r, p => by
    show (if p + (m + 2) ≤ cut then wholeN cut (p + (m + 2)) (r ++ [n]) + 1 else 0) = (if p + (m + 2) ≤ cut then wholeN cut (p + (m + 2)) r + 1 else 0) + (if p + ((m + 2) + totN r) + (n + 2) ≤ cut then 1 else 0)
    rw [wholeN_snoc cut n r]
    by_cases h : p + (m + 2) ≤ cut
    · rw [if_pos h, if_pos h, show p + (m + 2) + totN r = p + ((m + 2) + totN r) by omega]
      omega
    · rw [if_neg h, if_neg h, if_neg (by omega)]
theorem placeN_snoc (cut n : Nat) : ∀ (r : List Nat) (p : Nat), placeN cut p (r ++ [n]) = if p + totN r + (n + 2) ≤ cut then p + totN r + (n + 2) else placeN cut p r
  | [], p => by
    show (if p + (n + 2) ≤ cut then p + (n + 2) else p) = if p + 0 + (n + 2) ≤ cut then p + 0 + (n + 2) else p
    simp
  | m :: r, p => by
    show (if p + (m + 2) ≤ cut then placeN cut (p + (m + 2)) (r ++ [n]) else p) = if p + ((m + 2) + totN r) + (n + 2) ≤ cut then p + ((m + 2) + totN r) + (n + 2) else (if p + (m + 2) ≤ cut then placeN cut (p + (m + 2)) r else p)
    rw [placeN_snoc cut n r]
    by_cases h : p + (m + 2) ≤ cut
    · rw [if_pos h, if_pos h, show p + (m + 2) + totN r = p + ((m + 2) + totN r) by omega]
    · rw [if_neg h, if_neg h, if_neg (by omega)]
theorem wholeN_all (cut : Nat) : ∀ (r : List Nat) (p : Nat), p + totN r ≤ cut → wholeN cut p r = r.length
  | [], p, _ => rfl
  | m :: r, p, h => by
    have h' : p + ((m + 2) + totN r) ≤ cut := h
    show (if p + (m + 2) ≤ cut then wholeN cut (p + (m + 2)) r + 1 else 0) = r.length + 1
    rw [if_pos (by omega), wholeN_all cut r (p + (m + 2)) (by omega)]
theorem wholeN_le (cut : Nat) : ∀ (r : List Nat) (p : Nat), wholeN cut p r ≤ r.length
  | [], p => Nat.le_refl _
  | m :: r, p => by
    show (if p + (m + 2) ≤ cut then wholeN cut (p + (m + 2)) r + 1 else 0) ≤ r.length + 1
    have := wholeN_le cut r (p + (m + 2))
    split <;> omega

theorem gotW_length (cut : Nat) (S fill : Int) : ∀ (r : List Nat) (p i : Nat), (gotW cut S fill p i r).length = wholeN cut p r
  | [], p, i => rfl
  | m :: r, p, i => by
    rw [gotW_cons, wholeN_cons]
    split
    · rw [List.length_cons, gotW_length cut S fill r]
    · rfl
theorem gotW_at (cut : Nat) (S fill : Int) : ∀ (r : List Nat) (p i j : Nat) (x : List (Int × List Int)), (gotW cut S fill p i r)[j]? = some x → ∃ n, r[j]? = some n ∧ x = (List.range n).map fun (k : Nat) => (60 + 7 * ((i + j : Nat) : Int) + (k : Int), datW fill (i + j))
  | [], p, i, j, x, h => by cases h
  | m :: r, p, i, j, x, h => by
    rw [gotW_cons] at h
    split at h
    · cases j with
      | zero =>
        simp only [List.getElem?_cons_zero, Option.some.injEq] at h
        exact ⟨m, rfl, h.symm⟩
      | succ j =>
        rw [List.getElem?_cons_succ] at h
        obtain ⟨n, h1, h2⟩ := gotW_at cut S fill r _ _ j x h
        refine ⟨n, h1, ?_⟩
        rw [h2, show i + 1 + j = i + (j + 1) by omega]
    · cases h

/-! ### The ring, in plain words -/

theorem laid_start {a cut : Nat} : LaidL (List.replicate 40 zero64) a cut [] := by
  intro p hp
  rw [List.getD_eq_getElem?_getD, List.getElem?_replicate, if_pos (Nat.mod_lt _ (by decide))]
  split <;> rfl
theorem flat_end {flat : List (List Int)} {x : List Int} {p : Nat} (h : p ≠ flat.length) : (flat ++ [x]).getD p zero64 = flat.getD p zero64 := by
  rw [List.getD_eq_getElem?_getD, List.getD_eq_getElem?_getD]
  rcases Nat.lt_or_ge p flat.length with h1 | h1
  · rw [List.getElem?_append_left h1]
  · rw [List.getElem?_eq_none (l := flat) h1, List.getElem?_eq_none (by rw [List.length_append]; simp; omega)]
theorem laid_in {bs : List (List Int)} {a cut : Nat} {flat : List (List Int)} {x : List Int} (h : LaidL bs a cut flat) (ha : a < 40) (hl : bs.length = 40) (hp : flat.length < 40) (hc : flat.length < cut) : LaidL (bs.set ((a + flat.length) % 40) x) a cut (flat ++ [x]) := by
  intro p hp40
  by_cases e : p = flat.length
  · subst e
    rw [if_pos hc, List.getD_eq_getElem?_getD, List.getElem?_set_self (by rw [hl]; exact Nat.mod_lt _ (by decide)), List.getD_eq_getElem?_getD, List.getElem?_append_right (Nat.le_refl _), Nat.sub_self]
    rfl
  · rw [List.getD_eq_getElem?_getD, List.getElem?_set_ne (by omega), ← List.getD_eq_getElem?_getD, h p hp40, flat_end e]
theorem laid_out {bs : List (List Int)} {a cut : Nat} {flat : List (List Int)} {x : List Int} (h : LaidL bs a cut flat) (hc : ¬ flat.length < cut) : LaidL bs a cut (flat ++ [x]) := by
  intro p hp40
  rw [h p hp40]
  by_cases e : p < cut
  · rw [if_pos e, if_pos e, flat_end (by omega)]
  · rw [if_neg e, if_neg e]

/-- What is found of all that was laid. -/
theorem whole_found {Z : List (List Int)} {a cut : Nat} {S fill : Int} {r : List Nat} (hL : LaidL Z a cut (flatW S fill 0 r)) (ht : totN r ≤ 40) (hS : 1 ≤ S ∧ S ≤ 100000) (hr : ∀ n ∈ r, 1 ≤ n ∧ n ≤ 5) (hZ : Z.length = 40) (h64 : ∀ b ∈ Z, b.length = 64) (ha : a < 40) :
    foundErr Z a S = 0 ∧ foundOut Z a S = (gotW cut S fill 0 0 r, ((((a + placeN cut 0 r) % 40 : Nat)) : Int), S + (wholeN cut 0 r : Int)) := by
  have hok : okLog Z a S = true := by
    unfold okLog
    rw [Bool.and_eq_true, decide_eq_true_eq, List.all_eq_true]
    exact ⟨⟨hZ, by omega, by omega, by omega, by omega⟩, fun b hb => decide_eq_true (h64 b hb)⟩
  have hrl := totN_length r
  have h := find_laid hL (by rw [flatW_length]; exact ht) hS.1 hS.2 r 0 0 (1073741824 - S).toNat [] rfl rfl (Nat.zero_le _) hr (by omega) (by omega) (fun h => by omega) (fun _ => rfl)
  rw [Nat.add_zero, Nat.mod_eq_of_lt ha, show S + ((0 : Nat) : Int) = S by omega] at h
  unfold foundErr foundOut
  rw [if_pos hok, if_pos hok, Int.toNat_natCast]
  unfold findF
  rw [h]
  exact ⟨rfl, rfl⟩

theorem txW_at (S fill : Int) (i n k : Nat) (h : k < n + 2) : (txW S fill i n)[k]? = some (if k = 0 then begB (dW S i n) else if k ≤ n then datW fill i else endB (S + i) n) := by
  unfold txW
  cases k with
  | zero => rfl
  | succ k =>
    rw [List.getElem?_cons_succ, if_neg (by omega)]
    by_cases hk : k < n
    · rw [List.getElem?_append_left (by rw [List.length_replicate]; exact hk), List.getElem?_replicate, if_pos hk, if_pos (by omega)]
    · rw [List.getElem?_append_right (by rw [List.length_replicate]; omega), List.length_replicate, if_neg (by omega), show k - n = 0 by omega]
      rfl

/-! ### Lists of blocks of the call's own -/

theorem elemBs : ElemR 38 25 (.slice none 0 0) 1 24 := ⟨Try.underlying38, by kernel_rfl, rfl, by decide, by decide⟩

/-- A list of blocks of 64 bytes, each text apart from the row. -/
def BOwn (base lo : Nat) (w : World) (v : Value) (bs : List (List Int)) : Prop :=
  ∃ xs, w.ownsRow base 25 1 v bs.length xs ∧ ∀ (j : Nat) (zs : List Int), bs[j]? = some zs → ∃ db off cap, xs[j]? = some (.slice (some ⟨db, off, none⟩) 64 cap) ∧ (lo ≤ db ∧ db < w.heap.size) ∧ v.ownBlock ≠ some db ∧ Arg w (some ⟨db, off, none⟩) 64 cap zs

theorem BOwn.later {base lo : Nat} {w w' : World} {v : Value} {bs : List (List Int)} (h : BOwn base lo w v bs) (hb : Below w.heap.size w w') : BOwn base lo w' v bs := by
  obtain ⟨xs, ho, hx⟩ := h
  refine ⟨xs, owns_later_r ho hb, fun j zs hj => ?_⟩
  obtain ⟨d, o, c, c1, c2, c3, c4⟩ := hx j zs hj
  have := hb.size
  exact ⟨d, o, c, c1, ⟨c2.1, by omega⟩, c3, c4.later hb⟩

theorem BOwn.snoc {base lo : Nat} {wr wx w4 : World} {v v' : Value} {bs : List (List Int)} {zs : List Int} {xs : List Value} {db off cap : Nat} {ob : Obj}
    (h1 : wr.ownsRow base 25 1 v bs.length xs) (h2 : ∀ (j : Nat) (zs : List Int), bs[j]? = some zs → ∃ db off cap, xs[j]? = some (.slice (some ⟨db, off, none⟩) 64 cap) ∧ (lo ≤ db ∧ db < wr.heap.size) ∧ v.ownBlock ≠ some db ∧ Arg wr (some ⟨db, off, none⟩) 64 cap zs)
    (hb : Below wr.heap.size wr wx) (hd : lo ≤ db ∧ db < wx.heap.size) (hne : v.ownBlock ≠ some db) (hA : Arg wx (some ⟨db, off, none⟩) 64 cap zs)
    (hown : w4.ownsRow base 25 1 v' (bs.length + 1) (xs ++ [.slice (some ⟨db, off, none⟩) 64 cap])) (hg : (wx.alloc ob).grownBy w4 v.ownBlock) (hv : v'.ownBlock = v.ownBlock ∨ v'.ownBlock = some (wx.alloc ob).heap.size) : BOwn base lo w4 v' (bs ++ [zs]) := by
  have hxl : xs.length = bs.length := by have := h1.1; omega
  have hsz : wr.heap.size ≤ wx.heap.size := hb.size
  have hsz4 : (wx.alloc ob).heap.size ≤ w4.heap.size := hg.size
  rw [World.size_alloc] at hsz4
  have hal : ∀ {d o l c : Nat} {y : List Int}, Arg wx (some ⟨d, o, none⟩) l c y → Arg (wx.alloc ob) (some ⟨d, o, none⟩) l c y := fun h => h.later ((Below.refl _ _).alloc (Nat.le_refl _) _)
  have hnew : ∀ k, k < wx.heap.size → v.ownBlock ≠ some k → v'.ownBlock ≠ some k := fun k hk hn => by
    rcases hv with e | e
    · rw [e]; exact hn
    · rw [e, World.size_alloc]
      intro h
      simp at h
      omega
  refine ⟨_, by rw [List.length_append]; exact hown, fun j ys hj => ?_⟩
  by_cases hjl : j < bs.length
  · rw [List.getElem?_append_left hjl] at hj
    obtain ⟨d, o, c, c1, c2, c3, c4⟩ := h2 j ys hj
    exact ⟨d, o, c, by rw [List.getElem?_append_left (by omega)]; exact c1, ⟨c2.1, by omega⟩, hnew d (by omega) c3, arg_grown (hal (c4.later hb)) hg c3⟩
  · have hj0 : j = bs.length := by
      have := (List.getElem?_eq_some_iff.1 hj).1
      simp at this
      omega
    subst hj0
    rw [List.getElem?_append_right (Nat.le_refl _), Nat.sub_self] at hj
    simp at hj
    subst hj
    exact ⟨db, off, cap, by rw [List.getElem?_append_right (by omega), hxl, Nat.sub_self]; rfl, ⟨hd.1, by omega⟩, hnew db hd.2 hne, arg_grown (hal hA) hg hne⟩

/-- One block, behind a composite literal. -/
theorem BOwn.one {lo : Nat} {w : World} {zs : List Int} {db off cap : Nat} (hd : lo ≤ db ∧ db < w.heap.size) (hA : Arg w (some ⟨db, off, none⟩) 64 cap zs) :
    BOwn w.heap.size lo (w.alloc (.cells #[.slice (some ⟨db, off, none⟩) 64 cap] 25)) (.slice (some ⟨w.heap.size, 0, none⟩) 1 1) [zs] := by
  have ho : (w.alloc (.cells #[.slice (some ⟨db, off, none⟩) 64 cap] 25)).ownsRow w.heap.size 25 1 (.slice (some ⟨w.heap.size, 0, none⟩) 1 1) 1 [.slice (some ⟨db, off, none⟩) 64 cap] :=
    ⟨rfl, Or.inr ⟨w.heap.size, 1, _, rfl, Nat.le_refl _, heap_alloc_new w _, Nat.le_refl _, by decide, rfl, rfl⟩⟩
  refine ⟨_, ho, fun j ys hj => ?_⟩
  match j, hj with
  | 0, hj =>
    cases hj
    refine ⟨db, off, cap, rfl, ⟨hd.1, by simp; omega⟩, ?_, hA.later ((Below.refl _ _).alloc (Nat.le_refl _) _)⟩
    intro h
    simp [Value.ownBlock] at h
    omega
  | j + 1, hj => simp at hj

theorem BOwn.form {base lo : Nat} {w : World} {v : Value} {bs : List (List Int)} (h : BOwn base lo w v bs) (hn : 0 < bs.length) : ∃ g cap, v = .slice (some ⟨g, 0, none⟩) bs.length cap ∧ bs.length ≤ cap ∧ (base ≤ g ∧ g < w.heap.size) ∧ (∀ j, w.frozen? ⟨g, j, none⟩ = false) ∧
    ∀ (j : Nat) (zs : List Int), bs[j]? = some zs → ∃ db off c, w.cell? ⟨g, j, none⟩ = some (.slice (some ⟨db, off, none⟩) 64 c) ∧ (lo ≤ db ∧ db ≠ g) ∧ Arg w (some ⟨db, off, none⟩) 64 c zs := by
  obtain ⟨xs, ho, hx⟩ := h
  rcases ho.2 with ⟨_, h0⟩ | ⟨g, cap, cur, hv, hb, hh, hc, _⟩
  · omega
  · have hlt := ho.lt g (by rw [hv]; rfl)
    rw [hv] at ho
    refine ⟨g, cap, hv, hc, hlt, fun j => ho.frozenAt j, fun j zs hj => ?_⟩
    obtain ⟨d, o, c, c1, c2, c3, c4⟩ := hx j zs hj
    have e := ho.cells (g := g) rfl _ _ c1
    rw [Go.WideShapes.add_plain, Nat.zero_add] at e
    exact ⟨d, o, c, e, ⟨c2.1, fun e => c3 (by rw [hv, e]; rfl)⟩, c4⟩

theorem arg_lt {w : World} {db off cap : Nat} {zs : List Int} (h : Arg w (some ⟨db, off, none⟩) 64 cap zs) : db < w.heap.size := by
  obtain ⟨b', o', he, hc⟩ := h.1.2.2.2.resolve_left (by decide)
  simp only [Option.some.injEq, Addr.mk.injEq, and_true] at he
  obtain ⟨rfl, rfl⟩ := he
  exact World.block_lt_of_cell? _ _ (hc 0 (by decide))

/-- A ring of forty blocks that may be written; no block is the ring's own, nor another one's. -/
def RingW (g he : Nat) (w : World) (bs : List (List Int)) : Prop :=
  bs.length = 40 ∧ g < w.heap.size ∧ (∀ j, w.frozen? ⟨g, j, none⟩ = false) ∧ ∀ (j : Nat) (zs : List Int), bs[j]? = some zs → ∃ db off cap, w.cell? ⟨g, j, none⟩ = some (.slice (some ⟨db, off, none⟩) 64 cap) ∧ (db ≠ g ∧ db ≠ he) ∧ Arg w (some ⟨db, off, none⟩) 64 cap zs

theorem RingW.later {g he : Nat} {w wx : World} {bs : List (List Int)} (h : RingW g he w bs) (hb : Below w.heap.size w wx) : RingW g he wx bs := by
  obtain ⟨h1, h2, h3, h4⟩ := h
  refine ⟨h1, Nat.lt_of_lt_of_le h2 hb.size, fun j => by rw [hb.frozen (p := ⟨g, j, none⟩) h2]; exact h3 j, fun j zs hj => ?_⟩
  obtain ⟨d, o, c, c1, c2, c3⟩ := h4 j zs hj
  exact ⟨d, o, c, cell_later hb c1, c2, c3.later hb⟩
theorem RingW.set {g he : Nat} {w : World} {bs : List (List Int)} {j db off cap : Nat} {zs : List Int} (h : RingW g he w bs) (hj : j < 40) (hne : db ≠ g ∧ db ≠ he) (hA : Arg w (some ⟨db, off, none⟩) 64 cap zs) : RingW g he (w.setCell ⟨g, j, none⟩ (.slice (some ⟨db, off, none⟩) 64 cap)) (bs.set j zs) := by
  obtain ⟨h1, h2, h3, h4⟩ := h
  have hk : Keeps g w (w.setCell ⟨g, j, none⟩ (.slice (some ⟨db, off, none⟩) 64 cap)) := Keeps.set _ ⟨g, j, none⟩ _
  refine ⟨by rw [List.length_set]; exact h1, by rw [hk.1]; exact h2, fun i => by simpa using h3 i, fun i ys hi => ?_⟩
  by_cases e : i = j
  · subst e
    rw [List.getElem?_set_self (by omega)] at hi
    cases hi
    obtain ⟨d, o, c, c1, _⟩ := h4 i (bs[i]'(by omega)) (List.getElem?_eq_getElem (by omega))
    exact ⟨db, off, cap, World.cell?_setCell_same w _ _ c1, hne, arg_keeps hA hk hne.1⟩
  · rw [List.getElem?_set_ne (fun h => e h.symm)] at hi
    obtain ⟨d, o, c, c1, c2, c3⟩ := h4 i ys hi
    exact ⟨d, o, c, by rw [World.cell?_setCell_other (h := by intro h; exact e (congrArg Addr.off h).symm)]; exact c1, c2, arg_keeps c3 hk c2.1⟩
theorem RingW.at {g he : Nat} {w : World} {bs : List (List Int)} (h : RingW g he w bs) {j : Nat} (hj : j < 40) : ∃ v, w.cell? ⟨g, j, none⟩ = some v ∧ w.frozen? ⟨g, j, none⟩ = false ∧ ∃ db off cap, v = .slice (some ⟨db, off, none⟩) 64 cap := by
  obtain ⟨d, o, c, c1, _⟩ := h.2.2.2 j (bs[j]'(by rw [h.1]; exact hj)) (List.getElem?_eq_getElem (by rw [h.1]; exact hj))
  exact ⟨_, c1, h.2.2.1 j, d, o, c, rfl⟩
theorem RingW.kept {g he : Nat} {w w' : World} {bs : List (List Int)} (h : RingW g he w bs) (hk : Keeps he w w') (hne : g ≠ he) : RingW g he w' bs := by
  obtain ⟨h1, h2, h3, h4⟩ := h
  refine ⟨h1, by rw [hk.1]; exact h2, fun j => by rw [World.frozen?_of_block (w := w) (hk.2 (⟨g, j, none⟩ : Addr).block hne)]; exact h3 j, fun j zs hj => ?_⟩
  obtain ⟨d, o, c, c1, c2, c3⟩ := h4 j zs hj
  exact ⟨d, o, c, by rw [hk.cell (p := ⟨g, j, none⟩) hne]; exact c1, c2, arg_keeps c3 hk c2.2⟩
theorem RingW.drew {g he : Nat} {w : World} {bs : List (List Int)} (h : RingW g he w bs) : RingW g he w.drew bs := h.later (Below.refl _ _).drew
theorem RingW.rows {g he : Nat} {w : World} {bs : List (List Int)} (h : RingW g he w bs) {cap : Nat} (hc : 40 ≤ cap) : RowsIn w (some ⟨g, 0, none⟩) 40 cap bs ∧ ∀ b ∈ bs, b.length = 64 := by
  obtain ⟨h1, h2, h3, h4⟩ := h
  refine ⟨⟨h1, hc, Or.inr ⟨g, 0, rfl, fun j hj => ?_⟩⟩, fun b hb => ?_⟩
  · obtain ⟨d, o, c, c1, _, c3⟩ := h4 j (bs[j]'(by omega)) (List.getElem?_eq_getElem (by omega))
    rw [Nat.zero_add]
    refine ⟨_, 64, c, c1, ?_, c3.2.2.1⟩
    have e : bs.getD j [] = bs[j]'(by omega) := by rw [List.getD_eq_getElem?_getD, List.getElem?_eq_getElem (by omega)]; rfl
    rw [e]
    exact c3.1
  · obtain ⟨j, hj, rfl⟩ := List.mem_iff_getElem.1 hb
    obtain ⟨d, o, c, c1, _, c3⟩ := h4 j bs[j] (List.getElem?_eq_getElem hj)
    exact c3.1.1

/-- A list, while the ring is written. -/
theorem BOwn.kept {base lo g : Nat} {w w' : World} {v : Value} {bs : List (List Int)} (h : BOwn base lo w v bs) (hk : Keeps g w w') (hg : g < base) (hg2 : g < lo) : BOwn base lo w' v bs := by
  obtain ⟨xs, ho, hx⟩ := h
  refine ⟨xs, owns_keeps ho hk hg, fun j zs hj => ?_⟩
  obtain ⟨d, o, c, c1, c2, c3, c4⟩ := hx j zs hj
  exact ⟨d, o, c, c1, ⟨c2.1, by rw [hk.1]; exact c2.2⟩, c3, arg_keeps c4 hk (by omega)⟩

theorem dat_own {W wr : World} {g : Nat} {fill : Int} {i : Nat} (hf : 0 ≤ fill ∧ fill ≤ 255) (hi : i ≤ 255) (h : Own wr.heap.size wr g (List.replicate 64 0) W) : Own wr.heap.size wr g (datW fill i) ((W.setCell ⟨g, 0, none⟩ (.int .u8 fill)).setCell ⟨g, 1, none⟩ (.int .u8 (i : Int))) := by
  have h1 := (h.store (k := 0) (y := fill) (by decide) hf).store (k := 1) (y := (i : Int)) (by simp) (by omega)
  exact h1
theorem datW_length (fill : Int) (i : Nat) : (datW fill i).length = 64 := rfl
theorem own_arg {W wr : World} {base g : Nat} {L : List Int} (h : Own base wr g L W) (hl : L.length = 64) : Arg W (some ⟨g, 0, none⟩) 64 64 L := by
  have hb := h.bts (by rw [hl]; decide)
  rw [hl] at hb
  exact ⟨hb, (fun e => by cases e), Nat.le_refl _, by decide⟩

end Go.Proofs.Ytpmggbdmoopkfaa
