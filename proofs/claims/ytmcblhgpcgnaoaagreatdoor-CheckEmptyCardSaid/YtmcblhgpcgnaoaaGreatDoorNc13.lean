/-
  Proved here: extents of pointers, from place to place: where nothing lies, and where a run lies; what is so of runs of sound pointers; a file that extents are laid into. No conditions but those that each theorem names. Nothing of the program is read here. Proved here: lists of extents in memory, of any length up to that of a file; what the document's own SameExtents says of like ones, and of one of another length; a row of extents of the call's own. The conditions stand at each theorem. Proved here: what the landed extent's extents answers of a file that holds sound pointers. The conditions stand at each theorem. Proved here: what the landed extent's From answers of any pointers. The conditions stand at each theorem. Proved here: what slices.Equal answers of two lists of the same extents. The conditions stand at each theorem. Proved here: what the landed extent's read answers of the extents of sound pointers. The conditions stand at each theorem. Proved here: what the landed extent's To, Sound and Find answer of the extents of sound pointers. The conditions stand at each theorem. Proved here: what slices.Clone of extents answers; extents that are appended to a row of the call's own. The conditions stand at each theorem. Proved here: what slices.IndexFunc, ContainsFunc (of elsewhere), Index and Contains say of numbers; what the landed chain's apart says of blocks of its own and pointers. The conditions stand at each theorem. Proved here: what the landed image's Node answers of a node of the new format without blocks. The conditions stand at each theorem.
-/
import Derived.Test.YtmcblhgpcgnaoaaGreatDoorNc12
import Derived.Test.YtmcblhgpcgnaoaaGreatDoorNc3
import Derived.Test.YtmcblhgpcgnaoaaGreatDoorNc0
import Derived.Deep.QuietTactic
import Derived.BigQuiet
import Derived.Test.YtmcblhgpcgnaoaaGreatDoorNc9
import Derived.Test.YtmcblhgpcgnaoaaGreatDoorNc10
import Derived.Laws.StructEq
import Derived.Laws.Tables
import Derived.Laws.Cover2
import Derived.KernelRfl
import Derived.WalkSmall
import Derived.Laws.ResultCell
import Derived.Test.YtmcblhgpcgnaoaaGreatDoorNc2
import Derived.Test.YtmcblhgpcgnaoaaGreatDoorNc1
import Derived.Test.YtmcblhgpcgnaoaaGreatDoorNc8
namespace Go.Proofs.YtmcblhgpcgnaoaaGreatDoor
set_option linter.unusedVariables false
set_option linter.unusedSimpArgs false

theorem drop_cons {F : List Int} {a : Nat} (h : a < F.length) : F.drop a = F.getD a 0 :: F.drop (a + 1) := by
  rw [List.drop_eq_getElem_cons h, List.getD_eq_getElem?_getD, List.getElem?_eq_getElem h]
  rfl

theorem from_cons (i x : Int) (r : List Int) : fromE i (x :: r) = if x = 0 then fromE (i + 1) r else joinE i x (fromE (i + 1) r) := rfl

theorem from_skip (F : List Int) : ∀ (n a : Nat), (∀ k, a ≤ k → k < a + n → F.getD k 0 = 0) → fromE (a : Int) (F.drop a) = fromE ((a + n : Nat) : Int) (F.drop (a + n))
  | 0, a, _ => rfl
  | n + 1, a, h => by
    by_cases ha : a < F.length
    · have ih := from_skip F n (a + 1) (fun k h1 h2 => h k (by omega) (by omega))
      rw [drop_cons ha, h a (Nat.le_refl _) (by omega)]
      rw [from_cons, if_pos rfl, show (a : Int) + 1 = ((a + 1 : Nat) : Int) by omega, show a + (n + 1) = a + 1 + n by omega]
      exact ih
    · rw [List.drop_of_length_le (by omega), List.drop_of_length_le (by omega)]
      rfl

theorem drop_head (F : List Int) (a : Nat) : (F.drop a).headD 0 = F.getD a 0 := by
  by_cases ha : a < F.length
  · rw [drop_cons ha]; rfl
  · rw [List.drop_of_length_le (by omega), List.getD_eq_getElem?_getD, List.getElem?_eq_none (by omega)]; rfl

theorem from_run (F : List Int) : ∀ (n a : Nat) (x : Int), 0 < n → a + n ≤ F.length → 0 < x → (∀ j, j < n → F.getD (a + j) 0 = x + j) → F.getD (a + n) 0 ≠ x + n → fromE (a : Int) (F.drop a) = ⟨a, x, n⟩ :: fromE ((a + n : Nat) : Int) (F.drop (a + n))
  | 0, _, _, h0, _, _, _, _ => absurd h0 (by decide)
  | 1, a, x, _, hl, hx, hr, hs => by
    have h0 : F.getD a 0 = x := by have := hr 0 (by decide); simpa using this
    rw [drop_cons (show a < F.length by omega), h0, from_cons, if_neg (by omega), show (a : Int) + 1 = ((a + 1 : Nat) : Int) by omega]
    have hd := drop_head F (a + 1)
    rcases from_head (F.drop (a + 1)) ((a + 1 : Nat) : Int) with ⟨e, r, hf, h1, h2, h3⟩ | ⟨h1, h2⟩
    · rw [hf, joinE_cc, if_neg (fun h => hs (by have := h.2; rw [h2, hd] at this; rw [this]; rfl))]
      rfl
    · cases hf : fromE ((a + 1 : Nat) : Int) (F.drop (a + 1)) with
      | nil => rfl
      | cons e r =>
        have := h2 e (by rw [hf]; exact List.mem_cons_self ..)
        rw [joinE_cc, if_neg (by omega)]
        rfl
  | n + 2, a, x, _, hl, hx, hr, hs => by
    have h0 : F.getD a 0 = x := by have := hr 0 (by omega); simpa using this
    have ih := from_run F (n + 1) (a + 1) (x + 1) (by omega) (by omega) (by omega) (fun j hj => by
      have := hr (j + 1) (by omega)
      rw [show a + 1 + j = a + (j + 1) by omega, this]; omega) (by
      rw [show a + 1 + (n + 1) = a + (n + 2) by omega]
      intro h
      exact hs (by rw [h]; omega))
    rw [drop_cons (show a < F.length by omega), h0, from_cons, if_neg (by omega), show (a : Int) + 1 = ((a + 1 : Nat) : Int) by omega, ih, joinE_cc, if_pos ⟨by simp only; omega, rfl⟩, show a + (n + 2) = a + 1 + (n + 1) by omega]
    simp only [List.cons.injEq, EX.mk.injEq, true_and, and_true]
    omega

theorem ok_at {F : List Int} (h : apartL F = true) (k : Nat) : F.getD k 0 = 0 ∨ (59 ≤ F.getD k 0 ∧ F.getD k 0 ≤ 479) := by
  by_cases hk : k < F.length
  · unfold apartL at h
    rw [Bool.and_eq_true, List.all_eq_true] at h
    have := h.1 (F.getD k 0) (by rw [List.getD_eq_getElem?_getD, List.getElem?_eq_getElem hk]; exact List.getElem_mem hk)
    unfold okP at this
    simpa using this
  · rw [List.getD_eq_getElem?_getD, List.getElem?_eq_none (by omega)]
    exact Or.inl rfl

/-- A run of a file, as the two walks find it. -/
theorem run_found {F : List Int} (hF : F.length = 96) (h : apartL F = true) {a r : Nat} (ha : a < 96) (hx : liesB F a = true) (hr : a ≤ r ∧ r ≤ 96) (h1 : ∀ k, a ≤ k → k < r → endsB F (F.getD a 0 - a) k = false) (h2 : r < 96 → endsB F (F.getD a 0 - a) r = true) :
    a < r ∧ 59 ≤ F.getD a 0 ∧ F.getD a 0 + ((r : Int) - a) ≤ 480 ∧ fromE (a : Int) (F.drop a) = ⟨a, F.getD a 0, (r : Int) - a⟩ :: fromE (r : Int) (F.drop r) := by
  have hx0 : F.getD a 0 ≠ 0 := by unfold liesB at hx; simpa using hx
  have hx1 := (ok_at h a).resolve_left hx0
  have har : a < r := by
    rcases Nat.lt_or_ge a r with h' | h'
    · exact h'
    · obtain rfl : r = a := by omega
      have := h2 ha
      unfold endsB at this
      simp only [bne_iff_ne, ne_eq] at this
      exact absurd (by omega) this
  have hj : ∀ j, j < r - a → F.getD (a + j) 0 = F.getD a 0 + j := fun j hj => by
    have := h1 (a + j) (by omega) (by omega)
    unfold endsB at this
    simp only [bne_eq_false_iff_eq] at this
    rw [this]
    omega
  have hlast := hj (r - a - 1) (by omega)
  have hl2 := ok_at h (a + (r - a - 1))
  refine ⟨har, hx1.1, by omega, ?_⟩
  have := from_run F (r - a) a (F.getD a 0) (by omega) (by omega) (by omega) hj (by
    rw [show a + (r - a) = r by omega]
    by_cases h96 : r < 96
    · have := h2 h96
      unfold endsB at this
      simp only [bne_iff_ne, ne_eq] at this
      intro e
      exact this (by rw [e]; omega)
    · rw [List.getD_eq_getElem?_getD, List.getElem?_eq_none (by omega)]
      show (0 : Int) ≠ _
      omega)
  rw [show a + (r - a) = r by omega, show ((r - a : Nat) : Int) = (r : Int) - a by omega] at this
  exact this

theorem lies_skip {F : List Int} {a r : Nat} (hr : a ≤ r) (h1 : ∀ k, a ≤ k → k < r → liesB F k = false) : fromE (a : Int) (F.drop a) = fromE (r : Int) (F.drop r) := by
  have := from_skip F (r - a) a (fun k h2 h3 => by have := h1 k h2 (by omega); unfold liesB at this; simpa using this)
  rw [show a + (r - a) = r by omega] at this
  exact this

/-! ### Extents laid into a file -/

/-- So many numbers from one on. -/
def seqI (f : Int) (n : Nat) : List Int := (List.range n).map fun (k : Nat) => f + (k : Int)
theorem seqI_length (f : Int) (n : Nat) : (seqI f n).length = n := by unfold seqI; simp
theorem seqI_succ (f : Int) (n : Nat) : seqI f (n + 1) = seqI f n ++ [f + (n : Int)] := by unfold seqI; rw [List.range_succ, List.map_append]; rfl
theorem seqI_get (f : Int) {n k : Nat} (h : k < n) : (seqI f n).getD k 0 = f + (k : Int) := by
  unfold seqI
  rw [List.getD_eq_getElem?_getD, List.getElem?_map, List.getElem?_range h]
  rfl

theorem allE_length (l : List EX) (n : Nat) : (allE l n).length = n := by unfold allE; simp
theorem allE_get (l : List EX) {n k : Nat} (h : k < n) : (allE l n).getD k 0 = ptrE l (k : Int) := by
  unfold allE
  rw [List.getD_eq_getElem?_getD, List.getElem?_map, List.getElem?_range h]
  rfl
theorem allE_nil (n : Nat) : allE [] n = List.replicate n 0 := by
  unfold allE
  apply List.ext_getElem
  · simp
  · intro i h1 h2
    simp [ptrE]

theorem ptr_snoc : ∀ (l : List EX) (e : EX) (k : Int), (∀ g ∈ l, g.a + g.c ≤ e.a) → ptrE (l ++ [e]) k = if e.a ≤ k ∧ k < e.a + e.c then e.f + (k - e.a) else ptrE l k
  | [], e, k, _ => rfl
  | g :: r, e, k, h => by
    have ih := ptr_snoc r e k (fun x hx => h x (List.mem_cons_of_mem _ hx))
    have hg := h g (List.mem_cons_self ..)
    show (if g.a ≤ k ∧ k < g.a + g.c then g.f + (k - g.a) else ptrE (r ++ [e]) k) = if e.a ≤ k ∧ k < e.a + e.c then e.f + (k - e.a) else (if g.a ≤ k ∧ k < g.a + g.c then g.f + (k - g.a) else ptrE r k)
    rw [ih]
    by_cases h1 : g.a ≤ k ∧ k < g.a + g.c
    · rw [if_pos h1, if_neg (by omega), if_pos h1]
    · rw [if_neg h1, if_neg h1]

theorem list_ext_getD {a b : List Int} (h : a.length = b.length) (hk : ∀ k, k < a.length → a.getD k 0 = b.getD k 0) : a = b := by
  apply List.ext_getElem h
  intro i h1 h2
  have := hk i h1
  rwa [List.getD_eq_getElem?_getD, List.getD_eq_getElem?_getD, List.getElem?_eq_getElem h1, List.getElem?_eq_getElem h2] at this

/-- One more extent laid into a file. -/
theorem lay_extent {l : List EX} {e : EX} {a c : Nat} (ha : e.a = a) (hc : e.c = c) (hfit : a + c ≤ 96) (h : ∀ g ∈ l, g.a + g.c ≤ e.a) : lay (allE l 96) a (seqI e.f c) = allE (l ++ [e]) 96 := by
  apply list_ext_getD
  · rw [lay_length, allE_length, allE_length]
  · intro k hk
    rw [lay_length, allE_length] at hk
    rw [lay_get _ _ _ _ (by rw [seqI_length, allE_length]; exact hfit), seqI_length, allE_get _ hk, allE_get _ hk, ptr_snoc _ _ _ h, ha, hc]
    by_cases h1 : a ≤ k ∧ k < a + c
    · rw [if_pos h1, if_pos (by omega), seqI_get _ (by omega)]
      omega
    · rw [if_neg h1, if_neg (by omega)]

theorem chain_before : ∀ (r : List EX) (e : EX), (∀ g ∈ e :: r, 1 ≤ g.c) → chainE (e :: r) → ∀ g ∈ r, e.a + e.c ≤ g.a
  | [], _, _, _, _, h => by cases h
  | x :: s, e, hc, h, g, hg => by
    obtain ⟨⟨h1, _⟩, h2⟩ := h
    rcases List.mem_cons.1 hg with rfl | hg
    · exact h1
    · have := chain_before s x (fun g hg => hc g (List.mem_cons_of_mem _ hg)) h2 g hg
      have := hc x (by simp)
      omega
theorem chain_tail {e : EX} {r : List EX} (h : chainE (e :: r)) : chainE r := by
  cases r with
  | nil => trivial
  | cons x s => exact h.2
theorem chain_pair : ∀ (l : List EX), (∀ g ∈ l, 1 ≤ g.c) → chainE l → l.Pairwise (fun e g => e.a + e.c ≤ g.a)
  | [], _, _ => List.Pairwise.nil
  | e :: r, hc, h => List.pairwise_cons.2 ⟨chain_before r e hc h, chain_pair r (fun g hg => hc g (List.mem_cons_of_mem _ hg)) (chain_tail h)⟩

/-- All extents ahead of one end where it begins, at most. -/
theorem before_at {l : List EX} (hp : l.Pairwise (fun e g => e.a + e.c ≤ g.a)) {i : Nat} {e : EX} (he : l[i]? = some e) : ∀ g ∈ l.take i, g.a + g.c ≤ e.a := by
  intro g hg
  obtain ⟨j, hj, rfl⟩ := List.mem_iff_getElem.1 hg
  rw [List.length_take] at hj
  rw [List.getElem_take]
  obtain ⟨hi, rfl⟩ := List.getElem?_eq_some_iff.1 he
  exact List.pairwise_iff_getElem.1 hp j i _ hi (by omega)

end Go.Proofs.YtmcblhgpcgnaoaaGreatDoor


namespace Go.Proofs.YtmcblhgpcgnaoaaGreatDoor
open Go.RowKit
set_option linter.unusedVariables false
set_option linter.unusedSimpArgs false

/-- A complex number that stands for a run. -/
def CE (v : Value) (a b : Int) : Prop := ∃ x y, v = .complex .f64 x y ∧ FI x a ∧ FI y b

/-- The cells of extents. -/
def CellsE (vs : List Value) (xs : List EX) : Prop := vs.length = xs.length * 2 ∧ ∀ (i : Nat) (x : EX), xs[i]? = some x → vs[i * 2]? = some (.int .i64 x.a) ∧ ∃ v, vs[i * 2 + 1]? = some v ∧ CE v x.f x.c

/-- A list of extents: two cells each. -/
def EIs (w : World) (ao : Option Addr) (len : Nat) (xs : List EX) : Prop :=
  xs.length = len ∧ len ≤ 1000 ∧ (len = 0 ∨ ∃ b off, ao = some ⟨b, off, none⟩ ∧ ∀ (i : Nat) (x : EX), xs[i]? = some x → w.cell? ⟨b, off + i * 2, none⟩ = some (.int .i64 x.a) ∧ ∃ v, w.cell? ⟨b, off + i * 2 + 1, none⟩ = some v ∧ CE v x.f x.c)

theorem EIs.later {w w' : World} {ao : Option Addr} {len : Nat} {xs : List EX} (h : EIs w ao len xs) (hb : Below w.heap.size w w') : EIs w' ao len xs := by
  obtain ⟨h1, h2, h3⟩ := h
  refine ⟨h1, h2, h3.imp_right ?_⟩
  rintro ⟨b, off, rfl, hc⟩
  refine ⟨b, off, rfl, fun i x hx => ?_⟩
  obtain ⟨c1, v, c2, c3⟩ := hc i x hx
  exact ⟨cell_later hb c1, v, cell_later hb c2, c3⟩

theorem EIs.nil (w : World) : EIs w none 0 [] := ⟨rfl, by decide, Or.inl rfl⟩

theorem EIs.at {w : World} {ao : Option Addr} {len : Nat} {xs : List EX} (h : EIs w ao len xs) {i : Nat} (hi : i < len) :
    ∃ b off x p q, ao = some ⟨b, off, none⟩ ∧ xs[i]? = some x ∧ x ∈ xs ∧ w.cell? ⟨b, off + i * 2, none⟩ = some (.int .i64 x.a) ∧ w.cell? ⟨b, off + i * 2 + 1, none⟩ = some (.complex .f64 p q) ∧ FI p x.f ∧ FI q x.c := by
  obtain ⟨h1, h2, h3⟩ := h
  obtain ⟨b, off, rfl, hc⟩ := h3.resolve_left (by omega)
  obtain ⟨x, hx⟩ : ∃ x, xs[i]? = some x := ⟨_, List.getElem?_eq_getElem (by omega)⟩
  obtain ⟨c1, v, c2, p, q, rfl, f1, f2⟩ := hc i x hx
  exact ⟨b, off, x, p, q, rfl, hx, List.mem_of_getElem? hx, c1, c2, f1, f2⟩

/-- The first extents. -/
theorem EIs.take {w : World} {b off len : Nat} {xs : List EX} (h : EIs w (some ⟨b, off, none⟩) len xs) {k : Nat} (hk : k ≤ len) : EIs w (some ⟨b, off, none⟩) k (xs.take k) := by
  obtain ⟨h1, h2, h3⟩ := h
  refine ⟨by rw [List.length_take]; omega, by omega, ?_⟩
  by_cases h0 : k = 0
  · exact Or.inl h0
  · obtain ⟨b', off', he, hc⟩ := h3.resolve_left (by omega)
    refine Or.inr ⟨b', off', he, fun i x hx => hc i x ?_⟩
    rw [List.getElem?_take] at hx
    split at hx
    · exact hx
    · cases hx

theorem CellsE.nil : CellsE [] [] := ⟨rfl, fun i x h => by simp at h⟩
theorem CellsE.snoc {vs : List Value} {xs : List EX} {x : EX} {p q : Nat} (h : CellsE vs xs) (f1 : FI p x.f) (f2 : FI q x.c) : CellsE (vs ++ [.int .i64 x.a, .complex .f64 p q]) (xs ++ [x]) := by
  refine ⟨by rw [List.length_append, List.length_append, h.1, Nat.add_mul]; rfl, fun i y hy => ?_⟩
  by_cases hi : i < xs.length
  · rw [List.getElem?_append_left hi] at hy
    obtain ⟨c1, v, c2, c3⟩ := h.2 i y hy
    exact ⟨by rw [List.getElem?_append_left (by rw [h.1]; omega)]; exact c1, v, by rw [List.getElem?_append_left (by rw [h.1]; omega)]; exact c2, c3⟩
  · have hi0 : i = xs.length := by
      have := (List.getElem?_eq_some_iff.1 hy).1
      simp at this
      omega
    subst hi0
    rw [List.getElem?_append_right (Nat.le_refl _), Nat.sub_self] at hy
    simp at hy
    subst hy
    exact ⟨by rw [List.getElem?_append_right (by rw [h.1]; exact Nat.le_refl _), h.1, Nat.sub_self]; rfl, _, by rw [List.getElem?_append_right (by rw [h.1]; omega), h.1, show xs.length * 2 + 1 - xs.length * 2 = 1 by omega]; rfl, p, q, rfl, f1, f2⟩

/-- A row of extents of the call's own is a list of extents. -/
theorem CellsE.eis {w : World} {base n cap : Nat} {ao : Option Addr} {vs : List Value} {xs : List EX} (h : CellsE vs xs) (ho : w.ownsRow base 172 2 (.slice ao n cap) n vs) (hn : n ≤ 1000) : EIs w ao n xs := by
  have hl : xs.length = n := by have := ho.1; have := h.1; omega
  rcases ho.2 with ⟨hv, h0⟩ | ⟨g, cap', cur, hv, _⟩
  · exact ⟨hl, hn, Or.inl h0⟩
  · obtain rfl : ao = some ⟨g, 0, none⟩ := by simp only [Value.slice.injEq] at hv; exact hv.1
    refine ⟨hl, hn, Or.inr ⟨g, 0, rfl, fun i x hx => ?_⟩⟩
    obtain ⟨c1, v, c2, c3⟩ := h.2 i x hx
    have e1 := ho.cells (g := g) rfl _ _ c1
    have e2 := ho.cells (g := g) rfl _ _ c2
    rw [Go.WideShapes.add_plain] at e1 e2
    exact ⟨e1, v, by rw [Nat.add_assoc]; exact e2, c3⟩

theorem elemX : ElemR 47 172 (.agg #[.int .i64 0, .complex .f64 0 0]) 2 24 := ⟨Tryz.underlying47, by kernel_rfl, rfl, by decide, by decide⟩

end Go.Proofs.YtmcblhgpcgnaoaaGreatDoor


namespace Go.Proofs.YtmcblhgpcgnaoaaGreatDoor
open Go.RowKit
set_option linter.unusedVariables false
set_option linter.unusedSimpArgs false

/-- The extents that were found so far. -/
def Found (F : List Int) (at_ : Nat) (vs : List Value) (xs : List EX) : Prop := CellsE vs xs ∧ fromE 0 F = xs ++ fromE (at_ : Int) (F.drop at_)

theorem Of_run {a b : Int} (w : World) (h0 : 0 ≤ a) (h1 : 1 ≤ b) (h2 : a + b ≤ 480) (hb : b ≤ 255) :
    Calls Tryz.prog 48 #[.int .i64 a, .int .i64 b] w fun e w' => ∃ p q, e = .returned (.tuple #[.complex .f64 p q, .int .i64 0]) ∧ FI p a ∧ FI q b ∧ w = w' := by
  have hr : runOk a b = true := decide_eq_true ⟨h0, h1, h2⟩
  refine (Of_any a b w ⟨h0, by omega, by omega, hb⟩).mono ?_
  rintro e w' ⟨v, rfl, hv, rfl⟩
  unfold partA partB at hv
  rw [if_pos hr, if_pos hr] at hv
  obtain ⟨p, q, rfl, h3, h4⟩ := hv
  exact ⟨p, q, by rw [if_pos hr], h3, h4, rfl⟩

theorem Found.length {F : List Int} {a n : Nat} {vs : List Value} {xs : List EX} {w : World} {base : Nat} {e : TypeId} {v : Value} (h : Found F a vs xs) (hl : F.length = 96) (ho : w.ownsRow base e 2 v n vs) : n ≤ 96 := by
  have h1 := ho.1
  have h2 := h.1.1
  have h3 := from_le F 0
  rw [h.2, List.length_append] at h3
  omega
theorem Found.next {F : List Int} {a r s : Nat} {vs : List Value} {xs : List EX} {x c : Int} {p q : Nat} (h : Found F a vs xs) (h1 : fromE (a : Int) (F.drop a) = ⟨a, x, c⟩ :: fromE (r : Int) (F.drop r)) (h2 : fromE (r : Int) (F.drop r) = fromE (s : Int) (F.drop s)) (hp : FI p x) (hq : FI q c) :
    Found F s (vs ++ [.int .i64 (a : Int), .complex .f64 p q]) (xs ++ [⟨a, x, c⟩]) := by
  refine ⟨CellsE.snoc (x := ⟨a, x, c⟩) h.1 hp hq, ?_⟩
  rw [h.2, h1, h2, List.append_assoc]
  rfl
theorem ext_one (i p q : Nat) : ∀ u ∈ [Value.int .i64 (i : Int), Value.complex .f64 p q], u.oneCell' = true := by
  intro u hu
  simp only [List.mem_cons, List.not_mem_nil, or_false] at hu
  rcases hu with rfl | rfl <;> rfl

set_option maxRecDepth 100000 in
set_option maxHeartbeats 3200000 in
theorem extents_any {F : List Int} (w : World) (h : F.length = 96) (ha : apartL F = true) :
    Calls Tryz.prog 203 #[fileV F] w fun e w' => ∃ v n vs, e = .returned v ∧ w'.ownsRow w.heap.size 172 2 v n vs ∧ CellsE vs (fromE 0 F) ∧ Below w.heap.size w w' := by
  have HF := Lib.hid (file_new w h 239)
  have HA := Lib.hid ha
  have HL := Lib.hid h
  have HI := Lib.hid (iFile h)
  clear h ha
  unfold fileV
  go_enter Tryz.func203, Tryz.ntmps203
  go_wp2_with (first | (refine wpList_load_mid rfl 239 (.tmp 1) rfl w.heap.size 0 rfl (ints F) _ HF.out.2 uFile rfl HI.out ?_) | (go_at_call 250; refine (seekL_any HF.out HL.out (Nat.zero_le _)).mono ?_; rintro e w2 ⟨r0, rfl, hr0, hz, hy, hb⟩; have HZ := Lib.hid (lies_skip hr0.1 hz); have HY := Lib.hid hy; have HB := Lib.hid hb; clear hz hy hb))
  go_loopw [3, 5] (fun lv iv wr => ∃ (i n : Nat) (vs : List Value) (xs : List EX), iv = .int .i64 (i : Int) ∧ i ≤ 96 ∧ Hid (i < 96 → liesB F i = true) ∧ Hid (wr.ownsRow (w.heap.size + 1) 172 2 lv n vs) ∧ Hid (Found F i vs xs) ∧ Hid (Below (w.heap.size + 1) (w.alloc (.cells (ints F).toArray 239)) wr)) (fun _ iv _ => 96 - (intOf iv).toNat)
  case atStart => exact ⟨r0, 0, [], [], rfl, hr0.2, HY, Lib.hid (owns_nil_r _ _ _ _), Lib.hid ⟨CellsE.nil, HZ.out⟩, Lib.hid (by have := HB.out; rwa [World.size_alloc] at this)⟩
  case round =>
    obtain ⟨i, n, vs, xs, rfl, hi, HYI, HO, HFO, HBR⟩ := hrel
    by_cases hlt : i < 96
    · have HFR : Hid (FileAt wr w.heap.size F) := Lib.hid (HF.out.later (by rw [World.size_alloc]; exact HBR.out))
      have d1 := HFR.out.cell hlt
      have hok := (ok_at HA.out i).resolve_left (by have := HYI.out hlt; unfold liesB at this; simpa using this)
      have HRF := fun (r : Nat) => run_found (r := r) HL.out HA.out hlt (HYI.out hlt)
      obtain ⟨x, hx⟩ : ∃ x, F.getD i 0 = x := ⟨_, rfl⟩
      rw [hx] at d1 hok HRF
      have HRF := Lib.hid HRF
      have i1 : (i : Int) < 96 := by omega
      have HSZ : Hid (w.heap.size + 1 ≤ wr.heap.size) := Lib.hid (by have := HBR.out.size; rwa [World.size_alloc] at this)
      have i2 : wrap64 (x - (i : Int)) = x - i := by unfold wrap64; omega
      have HW6 : Hid (Below wr.heap.size wr (wr.alloc (.cells #[.int .i64 (x - i)] 3))) := Lib.hid ((Below.refl _ _).alloc (Nat.le_refl _) _)
      have HF6 := Lib.hid (HFR.out.later HW6.out)
      clear hx HYI
      go_wp2_with (first | (go_at_call 250; refine (seekL_any HF5.out HL.out hr.2).mono ?_; rintro e w6 ⟨r6, rfl, hr6, hz, hy, hb⟩; have HZ6 := Lib.hid (lies_skip hr6.1 hz); have HY6 := Lib.hid hy; have HB6 := Lib.hid hb; clear hz hy hb) | (refine wpList_load_mid rfl 239 (.tmp 1) rfl w.heap.size 0 rfl (ints F) _ HF5.out.2 uFile rfl HI.out ?_) | (at_builtin; (refine wp_append_r elemX rfl (.tmp 35) (.tmp 39) rfl (w.heap.size + 1) n _ _ rfl ((owns_later_r HO.out HB3.out).alloc _) ⟨w3.heap.size, 0, none⟩ 1 1 [.int .i64 (i : Int), .complex .f64 p q] rfl rfl (news_r w3 [.int .i64 (i : Int), .complex .f64 p q] _) (ext_one i p q) (by have := HFO.out.length HL.out HO.out; omega) (by have h1 := HSZ.out; have h2 := HB3.out.size; rw [World.size_alloc]; omega) ?_; intro v5 w5 hown5 hg5 hb5; have HO5 := Lib.hid hown5; have HB5 := Lib.hid (((HBR.out.trans (HB3.out.mono HSZ.out)).alloc (by have h1 := HSZ.out; have h2 := HB3.out.size; omega) _).trans hb5); have HF5 := Lib.hid (HF.out.later (by rw [World.size_alloc]; exact HB5.out)); clear hown5 hg5 hb5)) | (go_at_call 48; refine (Of_run _ (by omega) (by have := HRD.out.1; omega) HRD.out.2.2.1 (by have := HRD.out.1; omega)).mono ?_; rintro e w4 ⟨p, q, rfl, hp, hq, rfl⟩; have HP := Lib.hid hp; have HQ := Lib.hid hq; clear hp hq) | (go_at_call 250; refine (seekE_any HF6.out HL.out (one_cell_new wr _ 3) (by omega) (by omega)).mono ?_; rintro e w3 ⟨r, rfl, hr, hz, hy, hb⟩; have HRD := Lib.hid (HRF.out r hr hz hy); have HB3 := Lib.hid (HW6.out.trans (hb.mono (by rw [World.size_alloc]; omega))); clear hz hy hb; have d3 := cell_later HB3.out d1; have i3 : wrap64 ((r : Int) - (i : Int)) = (r : Int) - i := (by have := HRD.out.1; unfold wrap64; omega)) | (refine wpList_load_mid rfl 239 (.tmp 1) rfl w.heap.size 0 rfl (ints F) _ HF6.out.2 uFile rfl HI.out ?_))
      go_roundw
      case rel =>
        have hs : w.heap.size + 1 ≤ w5.heap.size := by have := HB5.out.size; rwa [World.size_alloc] at this
        exact ⟨r6, n + 1, _, _, rfl, hr6.2, HY6, Lib.hid (owns_later_r HO5.out HB6.out), Lib.hid (HFO.out.next HRD.out.2.2.2 HZ6.out HP.out HQ.out), Lib.hid (HB5.out.trans (HB6.out.mono hs))⟩
      case measure => have := HRD.out.1; simp [intOf]; omega
    · have hin : i = 96 := by omega
      subst hin
      go_wp2_with fail
      go_ret
      have hx := HFO.out.2
      rw [List.drop_of_length_le (by rw [HL.out]; exact Nat.le_refl _), show fromE ((96 : Nat) : Int) [] = [] from rfl, List.append_nil] at hx
      exact ⟨_, n, vs, rfl, owns_mono_r HO.out (Nat.le_succ _), by rw [hx]; exact HFO.out.1, (((Below.refl w.heap.size w).alloc (Nat.le_refl _) _).trans (HBR.out.mono (Nat.le_succ _)))⟩

end Go.Proofs.YtmcblhgpcgnaoaaGreatDoor


namespace Go.Proofs.YtmcblhgpcgnaoaaGreatDoor
open Go.RowKit
set_option linter.unusedVariables false
set_option linter.unusedSimpArgs false

theorem lay_zerosE {zs : List Int} {n : Nat} (h : zs.length ≤ n) : lay (List.replicate n 0) 0 (zs.take n) = zs ++ List.replicate (n - zs.length) 0 := by
  rw [List.take_of_length_le h, lay_eq _ _ _ (by rw [List.length_replicate]; omega), List.take_zero, List.nil_append, Nat.zero_add, List.drop_replicate]

/-- A list of extents of the call's own: what is handed back of these pointers. -/
def OutE (w : World) (base : Nat) (v : Value) (zs : List Int) : Prop := ∃ n vs, w.ownsRow base 172 2 v n vs ∧ CellsE vs (fromE 0 zs)

set_option maxRecDepth 100000 in
set_option maxHeartbeats 3200000 in
theorem From_any (ao : Option Addr) (len cap : Nat) (zs : List Int) (w : World) (hA : IArg w ao len cap zs) :
    Calls Tryz.prog 147 #[.slice ao len cap] w fun e w' => ∃ v, e = .returned (.tuple #[v, .int .i64 (if ptrsOk zs = true then 0 else 1)]) ∧ OutE w' w.heap.size v (if ptrsOk zs = true then zs else []) ∧ Below w.heap.size w w' := by
  have c := Need_any ao len cap zs w hA
  have HA := Lib.hid hA
  have HN := Lib.hid hA.len
  unfold needOut needErr at c
  by_cases hok : ptrsOk zs = true
  · rw [if_pos hok, if_pos hok]
    rw [hok] at c
    have hl96 : zs.length ≤ 96 := by unfold ptrsOk at hok; rw [Bool.and_eq_true, decide_eq_true_eq] at hok; exact hok.1
    have hap : apartL zs = true := by unfold ptrsOk at hok; rw [Bool.and_eq_true] at hok; exact hok.2
    obtain ⟨F, hF⟩ : ∃ F, zs ++ List.replicate (96 - zs.length) 0 = F := ⟨_, rfl⟩
    have HLAY : Hid (lay (List.replicate 96 0) 0 (zs.take 96) = F) := Lib.hid (by rw [lay_zerosE hl96, hF])
    have HL : Hid (F.length = 96) := Lib.hid (by rw [← hF, List.length_append, List.length_replicate]; omega)
    have HAP : Hid (apartL F = true) := Lib.hid (by rw [← hF, apart_zeros]; exact hap)
    have HFR : Hid (fromE 0 F = fromE 0 zs) := Lib.hid (by rw [← hF, from_append_zeros])
    have HI := Lib.hid (iFile HL.out)
    clear hok hA hl96 hap hF
    go_enter Tryz.func147, Tryz.ntmps147
    go_wp2_with (first | (go_at_call 203; refine (extents_any w5 HL.out HAP.out).mono ?_; rintro e w6 ⟨v, n, vs, rfl, ho, hc, hb⟩; have HO6 := Lib.hid ho; have HC6 := Lib.hid hc; have HB6 := Lib.hid hb; clear ho hc hb) | (refine wpList_load_mid rfl 239 (.tmp 6) rfl w2.heap.size 0 rfl (ints F) _ HF5.out.2 uFile rfl HI.out ?_) | (refine wp_copy rfl (.tmp 14) (.tmp 15) 50 50 rfl _ _ rfl rfl _ HCC.out ?_; rintro v5 w5 ⟨rfl, hO5, hK5⟩; rw [HLAY.out] at hO5; have HB5 := Lib.hid hO5.2.2.2; have HF5 := Lib.hid (file_of_own hO5 HL.out); clear hO5 hK5) | (go_at_call 139; refine c.mono ?_; rintro e w2 ⟨rfl, hb⟩; have HB := Lib.hid hb; clear hb; have HCC := Lib.hid (own_copy_ints (off := 0) (len := 96) (cap := 96) (made_file w2) (by rw [List.length_replicate]; decide) ao len cap zs ((HA.out.later HB.out).later ((Below.refl _ _).alloc (Nat.le_refl _) _)) 3)))
    go_ret2
    have hs2 : w.heap.size ≤ w2.heap.size := HB.out.size
    have hs5 : w2.heap.size ≤ w5.heap.size := HB5.out.size
    exact ⟨v, rfl, ⟨n, vs, owns_mono_r HO6.out (Nat.le_trans hs2 hs5), by rw [← HFR.out]; exact HC6.out⟩, HB.out.trans ((HB5.out.mono hs2).trans (HB6.out.mono (Nat.le_trans hs2 hs5)))⟩
  · rw [if_neg hok, if_neg hok]
    rw [Bool.not_eq_true] at hok
    rw [hok] at c
    clear hok hA
    go_enter Tryz.func147, Tryz.ntmps147
    go_wp2_with (go_at_call 139; refine c.mono ?_; rintro e w2 ⟨rfl, hb⟩; have HB := Lib.hid hb; clear hb)
    go_ret2
    exact ⟨_, rfl, ⟨0, [], owns_nil_r _ _ _ _, CellsE.nil⟩, HB.out⟩

end Go.Proofs.YtmcblhgpcgnaoaaGreatDoor


namespace Go.Proofs.YtmcblhgpcgnaoaaGreatDoor
open Go.RowKit
set_option linter.unusedVariables false
set_option linter.unusedSimpArgs false

theorem eqXE_any : ∀ (a e : Int) (p q r s : Nat) (w : World), (Op.equalIn 10000 172 (.agg #[.int .i64 a, .complex .f64 p q]) (.agg #[.int .i64 e, .complex .f64 r s])).run Tryz.prog w = .ok (a == e && ((FloatKind.f64.format.order p r == some .eq) && (FloatKind.f64.format.order q s == some .eq))) w := by
  intro a e p q r s w
  have u3 := Tryz.underlying3
  have a3 := Tryz.isAgg3
  have z3 := Tryz.sizeOf3
  have u4 := Tryz.underlying93
  have a4 := Tryz.isAgg93
  have z4 := Tryz.sizeOf93
  have hS : Tryz.prog.underlying 172 = some (.struct (Tryz.prog.fieldsOf 172)) := by kernel_rfl
  have hC : ∀ d w, (Op.equalIn (d + 1) 93 (.complex .f64 p q) (.complex .f64 r s)).run Tryz.prog w = .ok ((FloatKind.f64.format.order p r == some .eq) && (FloatKind.f64.format.order q s == some .eq)) w := fun d w => by
    simp [Op.equalIn, run_underlying u4, Op.floatEq]
  rw [show (10000 : Nat) = 9999 + 1 from rfl, run_equalIn_agg w 9999 172 _ _ hS (by kernel_rfl)]
  simp only [Program.fieldsOf, Tryz.underlying172]
  have hC' := hC 9998
  go_simp
  by_cases h1 : a = e <;> by_cases h2 : FloatKind.f64.format.order p r = some .eq <;> by_cases h3 : FloatKind.f64.format.order q s = some .eq <;> simp [h1, h2, h3]

set_option maxRecDepth 100000 in
set_option maxHeartbeats 1600000 in
/-- Two lists of the same extents. -/
theorem equalE_true {w : World} {ao bo : Option Addr} {m c1 c2 : Nat} {xs : List EX} (hX : EIs w ao m xs) (hY : EIs w bo m xs) :
    Calls Tryz.prog 227 #[.slice ao m c1, .slice bo m c2] w fun e w' => e = .returned (.bool true) ∧ Below w.heap.size w w' := by
  have hm := hX.2.1
  have HX := Lib.hid hX
  have HY := Lib.hid hY
  have EX := eqXE_any
  clear hX hY
  go_enter Tryz.func227, Tryz.ntmps227
  go_wp2_with fail
  go_loopw [13] (fun iv wr => ∃ i : Nat, iv = .int .i64 (i : Int) ∧ i ≤ m ∧ Hid (Below w.heap.size w wr)) (fun iv _ => m - (intOf iv).toNat)
  case atStart => exact ⟨0, rfl, Nat.zero_le _, Lib.hid (Below.refl _ _)⟩
  case round =>
    obtain ⟨i, rfl, hi, HB⟩ := hrel
    by_cases hlt : i < m
    · obtain ⟨b, off, x, p, q, rfl, hx, hmem, c1, c2, f1, f2⟩ := HX.out.at hlt
      obtain ⟨b', off', y, p', q', rfl, hy, hmem', e1, e2, g1, g2⟩ := HY.out.at hlt
      rw [hx] at hy
      cases hy
      have d1 : wr.cell? ⟨b, off + i * 2, none⟩ = some (.int .i64 x.a) := cell_later HB.out c1
      have d2 : wr.cell? ⟨b, off + i * 2 + 1, none⟩ = some (.complex .f64 p q) := cell_later HB.out c2
      have d3 : wr.cell? ⟨b', off' + i * 2, none⟩ = some (.int .i64 x.a) := cell_later HB.out e1
      have d4 : wr.cell? ⟨b', off' + i * 2 + 1, none⟩ = some (.complex .f64 p' q') := cell_later HB.out e2
      have o1 := fi_eq f1 g1 rfl
      have o2 := fi_eq f2 g2 rfl
      have i1 : (i : Int) < (m : Int) := by omega
      clear hx hmem c1 c2 f1 f2 hmem' e1 e2 g1 g2
      go_wp2_with fail
      go_quiet (fail)
      go_wp2_with fail
      go_roundw
      case rel => exact ⟨i + 1, by go_num, by omega, Lib.hid (below_drewN HB.out _)⟩
      case measure => simp [intOf]; omega
    · have hin : i = m := by omega
      subst hin
      go_wp2_with fail
      go_ret
      exact ⟨rfl, HB.out⟩

end Go.Proofs.YtmcblhgpcgnaoaaGreatDoor


namespace Go.Proofs.YtmcblhgpcgnaoaaGreatDoor
open Go.RowKit
set_option linter.unusedVariables false
set_option linter.unusedSimpArgs false

/-- All 96 pointers. -/
def padL (l : List Int) : List Int := l ++ List.replicate (96 - l.length) 0
theorem padL_length {l : List Int} (h : ptrsOk l = true) : (padL l).length = 96 := by
  unfold ptrsOk at h
  rw [Bool.and_eq_true, decide_eq_true_eq] at h
  unfold padL
  rw [List.length_append, List.length_replicate]
  omega
theorem padL_from (l : List Int) : fromE 0 (padL l) = fromE 0 l := from_append_zeros _ _ _
theorem padL_ok {l : List Int} (h : ptrsOk l = true) : ptrsOk (padL l) = true := by
  have h' := h
  unfold ptrsOk at h'
  rw [Bool.and_eq_true, decide_eq_true_eq] at h'
  unfold padL
  rw [ptrs_zeros (by omega), h]
theorem padL_all {l : List Int} (h : ptrsOk l = true) : allE (fromE 0 l) 96 = padL l := by
  unfold ptrsOk at h
  rw [Bool.and_eq_true, decide_eq_true_eq] at h
  exact all_from l 96 h.1

theorem OwnV.other {base g f : Nat} {w0 wr wx : World} {xs : List Value} (h : OwnV base w0 g xs wr) (hk : Keeps f wr wx) (hb : Below base w0 wx) (hne : g ≠ f) : OwnV base w0 g xs wx :=
  ⟨fun j x hj => by rw [hk.cell (p := ⟨g, j, none⟩) hne]; exact h.1 j x hj, fun j => by
    have := h.2.1 j
    unfold World.frozen? at this ⊢
    rw [hk.2 g hne]
    exact this, h.2.2.1, hb⟩

theorem made_two (w : World) : OwnV w.heap.size w w.heap.size (ints (List.replicate 96 0)) ((w.alloc (.cells Tryz.zeroCells239 239)).alloc (.cells Tryz.zeroCells239 239)) ∧ OwnV w.heap.size w (w.heap.size + 1) (ints (allE [] 96)) ((w.alloc (.cells Tryz.zeroCells239 239)).alloc (.cells Tryz.zeroCells239 239)) := by
  refine ⟨(made_file w).later ((Below.refl _ _).alloc (Nat.le_refl _) _) (by simp [ints]), ?_⟩
  have h := made_file (w.alloc (.cells Tryz.zeroCells239 239))
  rw [World.size_alloc] at h
  rw [allE_nil]
  exact ⟨h.1, h.2.1, Nat.le_succ _, ((Below.refl w.heap.size w).alloc (Nat.le_refl _) _).trans (h.2.2.2.mono (Nat.le_succ _))⟩

theorem ptr_i64 {l : List Int} (h : ptrsOk l = true) {z : Int} (hz : z ∈ l) : I64 z := by
  unfold ptrsOk apartL at h
  rw [Bool.and_eq_true, Bool.and_eq_true, List.all_eq_true] at h
  have := h.2.1 z hz
  unfold okP at this
  simp only [decide_eq_true_eq] at this
  unfold I64
  omega

/-- What stands while extents are read: the result's cells, and the file's. -/
def ReadingE (w : World) (F : List Int) (wr : World) : Prop :=
  OwnV w.heap.size w w.heap.size (ints (List.replicate 96 0)) wr ∧ OwnV w.heap.size w (w.heap.size + 1) (ints F) wr ∧ F.length = 96

theorem ReadingE.later {w wr wx : World} {F : List Int} (h : ReadingE w F wr) (hb : Below wr.heap.size wr wx) : ReadingE w F wx :=
  ⟨h.1.later hb (by simp [ints]), h.2.1.later hb (fun e => by have := congrArg List.length e; rw [ints_length, h.2.2] at this; cases this), h.2.2⟩
theorem ReadingE.store {w wr : World} {F : List Int} {k : Nat} {x : Int} (h : ReadingE w F wr) (hk : k < 96) : ReadingE w (F.set k x) (wr.setCell ⟨w.heap.size + 1, k, none⟩ (.int .i64 x)) := by
  have h2 := h.2.1.store (k := k) (y := .int .i64 x) (by rw [ints_length, h.2.2]; exact hk)
  refine ⟨h.1.other (Keeps.set wr ⟨w.heap.size + 1, k, none⟩ _) h2.2.2.2 (by show w.heap.size ≠ w.heap.size + 1; omega), ?_, by rw [List.length_set]; exact h.2.2⟩
  rw [ints_set]
  exact h2
theorem ReadingE.size {w wr : World} {F : List Int} (h : ReadingE w F wr) : w.heap.size + 1 < wr.heap.size := by
  have := h.2.1.1 0 (.int .i64 (F.getD 0 0)) (ints_get (by rw [List.getD_eq_getElem?_getD, List.getElem?_eq_getElem (by rw [h.2.2]; decide)]; rfl))
  exact World.block_lt_of_cell? _ _ this

/-- An extent in a variable of its own. -/
def laidX (w : World) (a : Int) (p q : Nat) : World := (w.alloc (.cells #[.int .i64 0, .complex .f64 0 0] 172)).setCells w.heap.size 0 (#[Value.int .i64 a, Value.complex .f64 p q] : Array Value).toList
theorem laidX_there (w : World) : (w.alloc (.cells #[.int .i64 0, .complex .f64 0 0] 172)).there w.heap.size 0 2 := fun j hj => by
  refine ⟨?_, ?_⟩
  · rw [Nat.zero_add, World.cell?_alloc_new]
    match j, hj with
    | 0, _ => rfl
    | 1, _ => rfl
  · rw [World.frozen?_alloc_mark]; simp
theorem laidX_range (w : World) (a : Int) (p q : Nat) : (laidX w a p q).rangeAt w.heap.size 0 [.int .i64 a, .complex .f64 p q] := World.rangeAt_setCells_same _ _ _ _ (laidX_there w)
theorem laidX_at (w : World) (a : Int) (p q : Nat) : (laidX w a p q).cell? ⟨w.heap.size, 0, none⟩ = some (.int .i64 a) := laidX_range w a p q 0 _ rfl
theorem laidX_run (w : World) (a : Int) (p q : Nat) : (laidX w a p q).cell? ⟨w.heap.size, 1, none⟩ = some (.complex .f64 p q) := laidX_range w a p q 1 _ rfl
theorem laidX_below (w : World) (a : Int) (p q : Nat) : Below w.heap.size w (laidX w a p q) := below_cells _ (Nat.le_refl _) _ _ _ ((Below.refl _ _).alloc (Nat.le_refl _) _)
theorem iExt (a : Int) (p q : Nat) : (Tryz.prog.info? 172).map (·.size) = some (#[Value.int .i64 a, Value.complex .f64 p q] : Array Value).size := by
  show _ = some 2
  kernel_rfl
theorem pExt (a : Int) (p q : Nat) : (#[Value.int .i64 a, Value.complex .f64 p q] : Array Value).all (·.oneCell') = true := all_oneCell_toArray (cs := [Value.int .i64 a, Value.complex .f64 p q]) (by simp [Value.oneCell'])

theorem reading_there {w wr : World} {F G : List Int} (h : ReadingE w F wr) (hG : G.length = 96) : wr.there w.heap.size 0 (ints G).toArray.size := fun j hj => by
  rw [List.size_toArray, ints_length, hG] at hj
  have := h.1.1 j (.int .i64 0) (by unfold ints; rw [List.getElem?_map, List.getElem?_replicate, if_pos hj]; rfl)
  rw [Nat.zero_add, this]
  exact ⟨rfl, h.1.2.1 j⟩

set_option maxRecDepth 100000 in
set_option maxHeartbeats 6400000 in
theorem extRead_any {w : World} {ao : Option Addr} {n cap : Nat} {l : List Int} (hE : EIs w ao n (fromE 0 l)) (hok : ptrsOk l = true) :
    Calls Tryz.prog 179 #[.slice ao n cap] w fun e w' => e = .returned (.tuple #[fileV (padL l), .bool true]) ∧ Below w.heap.size w w' := by
  have HE := Lib.hid hE
  have HOK := Lib.hid hok
  have hn : n ≤ 96 := by have h1 := hE.1; have h2 := (from_sound12 hok).1; omega
  have HS := Lib.hid (from_sound12 hok)
  have HPW := Lib.hid (chain_pair (fromE 0 l) (fun g hg => (HS.out.2.1 g hg).1) HS.out.2.2.1)
  have HR0 : Hid (ReadingE w (allE [] 96) ((w.alloc (.cells Tryz.zeroCells239 239)).alloc (.cells Tryz.zeroCells239 239))) := Lib.hid ⟨(made_two w).1, (made_two w).2, allE_length _ _⟩
  have hn1 : (n : Int) ≤ 96 := by omega
  clear hE hok
  go_enter Tryz.func179, Tryz.ntmps179
  go_wp2_with fail
  go_loopw [19] (fun iv wr => ∃ i : Nat, iv = .int .i64 (i : Int) ∧ i ≤ n ∧ Hid (ReadingE w (allE ((fromE 0 l).take i) 96) wr)) (fun iv _ => n - (intOf iv).toNat)
  case atStart => exact ⟨0, rfl, Nat.zero_le _, HR0⟩
  case round =>
    obtain ⟨i, rfl, hi, HR⟩ := hrel
    by_cases hlt : i < n
    · obtain ⟨b, off, x, p, q, rfl, hx, hmem, c1, c2, f1, f2⟩ := HE.out.at hlt
      obtain ⟨o1, o2, o3, o4, o5⟩ := HS.out.2.1 x hmem
      obtain ⟨xa, xf, xc⟩ := x
      dsimp only at *
      obtain ⟨a, rfl⟩ := Int.eq_ofNat_of_zero_le o4
      obtain ⟨c, rfl⟩ := Int.eq_ofNat_of_zero_le (show 0 ≤ xc by omega)
      have d1 : wr.cell? ⟨b, off + i * 2, none⟩ = some (.int .i64 (a : Int)) := cell_later HR.out.1.2.2.2 c1
      have d2 : wr.cell? ⟨b, off + i * 2 + 1, none⟩ = some (.complex .f64 p q) := cell_later HR.out.1.2.2.2 c2
      have cP := fun W => Parts_any p q xf (c : Int) W f1 f2 (by omega) (by omega) (by omega)
      have i1 : (i : Int) < (n : Int) := by omega
      have i2 : wrap64 (96 - (c : Int)) = 96 - c := by unfold wrap64; omega
      have i3 : (a : Int) ≤ 96 - (c : Int) := by omega
      have HLAY := Lib.hid (lay_extent (l := (fromE 0 l).take i) (e := ⟨(a : Int), xf, (c : Int)⟩) (a := a) (c := c) rfl rfl (by omega) (before_at HPW.out hx))
      have HX := Lib.hid hx
      clear c1 c2 f1 f2 hmem hx
      go_wp2_with (first | (go_at_call 99; refine (cP _).mono ?_; rintro e w3 ⟨rfl, rfl⟩) | (refine wpList_store_mid rfl 172 (.tmp 6) (.tmp 22) rfl wr.heap.size 0 #[.int .i64 (a : Int), .complex .f64 p q] rfl rfl (laidX_there wr) (iExt _ _ _) (pExt _ _ _) ?_; have e1 := laidX_at wr (a : Int) p q; have e2 := laidX_run wr (a : Int) p q; have HB5 := Lib.hid (laidX_below wr (a : Int) p q); unfold laidX at e1 e2 HB5; generalize World.setCells _ _ _ _ = w5 at *; have HR5 := Lib.hid (HR.out.later HB5.out)))
      have hne : wr.heap.size ≠ w.heap.size + 1 := by have := HR.out.size; omega
      obtain ⟨g6, hg6⟩ : ∃ g6, wr.heap.size = g6 := ⟨_, rfl⟩
      rw [hg6] at e1 e2 hne ⊢
      go_loopw [46] (fun kv wr => ∃ (k : Nat) (F1 : List Int), kv = .int .i64 (k : Int) ∧ k ≤ c ∧ Hid (F1 = lay (allE ((fromE 0 l).take i) 96) a (seqI xf k)) ∧ Hid (ReadingE w F1 wr) ∧ Hid (wr.cell? ⟨g6, 0, none⟩ = some (.int .i64 (a : Int)))) (fun kv _ => c - (intOf kv).toNat)
      case atStart => exact ⟨0, _, rfl, Nat.zero_le _, Lib.hid rfl, HR5, Lib.hid e1⟩
      case round =>
        obtain ⟨k, F1, rfl, hk, HF1, HRK, HE1⟩ := hrel
        clear d1 d2 cP e1 e2 HB5 HR5 HR0 i2 i3
        by_cases hkc : k < c
        · obtain ⟨m, hm⟩ : ∃ m, a + k = m := ⟨_, rfl⟩
          have hm96 : m < 96 := by omega
          have k1 : (k : Int) < (c : Int) := by omega
          have k4 : (m : Int) < 96 := by omega
          have k2 : (a : Int) + (k : Int) = (m : Int) := by omega
          have k3 : -1000 ≤ xf + (k : Int) ∧ xf + (k : Int) ≤ 1000 := by omega
          have k6 : (k : Int) ≤ 1000 := by omega
          have g1 := HE1.out
          have g2 := (file_of_own HRK.out.2.1 HRK.out.2.2).cell hm96
          have g3 := HRK.out.2.1.2.1 m
          have HK2 := Lib.hid (HRK.out.store (x := xf + k) hm96)
          have HF2 : Hid (F1.set m (xf + k) = lay (allE ((fromE 0 l).take i) 96) a (seqI xf (k + 1))) := Lib.hid (by rw [seqI_succ, lay_snoc, seqI_length, hm, HF1.out])
          have HE2 : Hid ((wr.setCell ⟨w.heap.size + 1, m, none⟩ (.int .i64 (xf + k))).cell? ⟨g6, 0, none⟩ = some (.int .i64 (a : Int))) := Lib.hid (by
            rw [World.cell?_setCell_other (h := by intro e; exact hne (congrArg Addr.block e).symm)]
            exact g1)
          generalize F1.getD m 0 = y at g2
          go_wp2_with fail
          go_roundw
          case rel => exact ⟨k + 1, _, by go_num, by omega, HF2, HK2, HE2⟩
          case measure => simp [intOf]; omega
        · as_aux_lemma =>
          have hkc : k = c := by omega
          subst hkc
          rw [HF1.out, HLAY.out] at HRK
          go_wp2_with fail
          go_roundw
          case rel => exact ⟨i + 1, by go_num, by omega, Lib.hid (by rw [List.take_add_one, HX.out]; exact HRK.out)⟩
          case measure => simp [intOf]; omega
    · as_aux_lemma =>
      have hin : i = n := by omega
      subst hin
      have HT : Hid ((fromE 0 l).take i = fromE 0 l) := Lib.hid (List.take_of_length_le (by rw [HE.out.1]; exact Nat.le_refl _))
      rw [HT.out, padL_all HOK.out] at HR
      have HA := Lib.hid (iarg_of_range (cap := 96) (own_range HR.out.2.1) (fun z hz => ptr_i64 (padL_ok HOK.out) hz) (by rw [padL_length HOK.out]; decide) (by rw [padL_length HOK.out]; exact Nat.le_refl _))
      rw [padL_length HOK.out] at HA
      have HP := Lib.hid (padL_length HOK.out)
      have HI := Lib.hid (iFile HP.out)
      go_wp2_with (first | (refine wpList_store_mid rfl 239 (.tmp 2) (.tmp 73) rfl w.heap.size 0 (ints (padL l)).toArray rfl rfl HTH.out HI.out (all_oneCell_toArray (ints_one _)) ?_) | (refine wpList_load_mid rfl 239 (.tmp 4) rfl (w.heap.size + 1) 0 rfl (ints (padL l)) _ HF4.out.2 uFile rfl HI.out ?_) | (go_at_call 227; refine (equalE_true HE3.out (HE.out.later (HR3.out.1.2.2.2))).mono ?_; rintro e w4 ⟨rfl, hb⟩; have HR4 := Lib.hid (HR3.out.later hb); have HF4 := Lib.hid (file_of_own HR4.out.2.1 HP.out); have HTH := Lib.hid (reading_there HR4.out HP.out); clear hb) | (go_at_call 147; refine (From_any _ _ _ _ _ HA.out).mono ?_; rintro e w3 ⟨v, rfl, ho, hb⟩; rw [if_pos (padL_ok HOK.out)] at ho ⊢; obtain ⟨n3, vs, ho, hc⟩ := ho; rw [padL_from] at hc; obtain ⟨ao3, c3, rfl⟩ := owns_shape_r ho; have he := hc.eis ho (by have h1 := ho.1; have h2 := hc.1; have h3 := HE.out.1; omega); obtain rfl : n3 = i := (by have h1 := ho.1; have h2 := hc.1; have h3 := HE.out.1; omega); have HE3 := Lib.hid he; have HB3 := Lib.hid hb; clear ho hc he hb; have HR3 := Lib.hid (HR.out.later HB3.out)))
      have hT : (w4.setCells w.heap.size 0 (ints (padL l))).rangeAt w.heap.size 0 (ints (padL l)) := World.rangeAt_setCells_same _ _ _ _ (by have := HTH.out; rwa [List.size_toArray] at this)
      have hB : Below w.heap.size w (w4.setCells w.heap.size 0 (ints (padL l))) := below_cells _ (Nat.le_refl _) _ _ _ HR4.out.1.2.2.2
      have HB9 := Lib.hid hB
      generalize w4.setCells w.heap.size 0 (ints (padL l)) = w9 at *
      have hL : (loadVar 239 ⟨w.heap.size, 0, none⟩).run Tryz.prog w9 = .ok (.agg (ints (padL l)).toArray) w9 := run_loadVar_mid w9 w.heap.size 0 239 (ints (padL l)) _ hT uFile rfl HI.out
      clear hB hT
      (try simp only [Exit.inBlock, Exit.then]); refine bodyPost_ret (v := .tuple #[fileV (padL l), .bool true]) (by rw [results_cell_tmp (p := 2) (u := 3) (ty := 239) rfl]; simp [asAddr, hL, fileV]) rfl ?_
      exact ⟨rfl, HB9.out⟩

end Go.Proofs.YtmcblhgpcgnaoaaGreatDoor


namespace Go.Proofs.YtmcblhgpcgnaoaaGreatDoor
open Go.RowKit
set_option linter.unusedVariables false
set_option linter.unusedSimpArgs false

theorem laidF_there (w : World) {G : List Int} (h : G.length = 96) : (w.alloc (.cells Tryz.zeroCells239 239)).there w.heap.size 0 (ints G).toArray.size := fun j hj => by
  rw [List.size_toArray, ints_length, h] at hj
  have := (made_file w).1 j (.int .i64 0) (by unfold ints; rw [List.getElem?_map, List.getElem?_replicate, if_pos hj]; rfl)
  rw [Nat.zero_add, this]
  exact ⟨rfl, (made_file w).2.1 j⟩
theorem laidF_own (w : World) {G : List Int} (h : G.length = 96) : OwnV w.heap.size w w.heap.size (ints G) ((w.alloc (.cells Tryz.zeroCells239 239)).setCells w.heap.size 0 (ints G)) := by
  have hr := World.rangeAt_setCells_same _ w.heap.size 0 (ints G) (by have := laidF_there w h; rwa [List.size_toArray] at this)
  refine ⟨fun j x hj => ?_, fun j => ?_, Nat.le_refl _, below_cells _ (Nat.le_refl _) _ _ _ ((Below.refl _ _).alloc (Nat.le_refl _) _)⟩
  · have := hr j x hj
    rwa [Nat.zero_add] at this
  · rw [World.frozen?_setCells]
    exact (made_file w).2.1 j
theorem trim_pad (l : List Int) : trimL (padL l) = trimL l := trim_append_zeros _ _
theorem trim_mem {l : List Int} {z : Int} (h : z ∈ trimL l) : z ∈ l := by
  obtain ⟨n, hn⟩ := trim_prefix l
  rw [hn]
  exact List.mem_append_left _ h

set_option maxRecDepth 100000 in
set_option maxHeartbeats 3200000 in
theorem To_any {w : World} {ao : Option Addr} {n cap : Nat} {l : List Int} (hE : EIs w ao n (fromE 0 l)) (hok : ptrsOk l = true) :
    Calls Tryz.prog 124 #[.slice ao n cap] w fun e w' => ∃ v, e = .returned (.tuple #[v, .int .i64 0]) ∧ FreshI w' w.heap.size v (trimL l) ∧ Below w.heap.size w w' := by
  have c := extRead_any (cap := cap) hE hok
  have HL := Lib.hid (padL_length hok)
  have HI := Lib.hid (iFile HL.out)
  have HZ : Hid (∀ z ∈ trimL l, I64 z) := Lib.hid (fun z hz => ptr_i64 hok (trim_mem hz))
  have HTP := Lib.hid (trim_pad l)
  unfold fileV at c
  generalize padL l = F at *
  clear hE hok
  go_enter Tryz.func124, Tryz.ntmps124
  go_wp2_with (first | (refine wpList_store_mid rfl 239 (.tmp 4) (.tmp 10) rfl w2.heap.size 0 (ints F).toArray rfl rfl (laidF_there w2 HL.out) HI.out (all_oneCell_toArray (ints_one _)) ?_; have HO := Lib.hid (laidF_own w2 HL.out); generalize World.setCells _ _ _ _ = w3 at *) | (go_at_call 179; refine c.mono ?_; rintro e w2 ⟨rfl, hb⟩; have HB := Lib.hid hb; clear hb))
  go_loopw [6] (fun iv wr => ∃ k : Nat, iv = .int .i64 (k : Int) ∧ k ≤ 96 ∧ Hid (trimL (F.take k) = trimL F) ∧ Hid (w3 = wr)) (fun iv _ => (intOf iv).toNat)
  case atStart => exact ⟨96, rfl, Nat.le_refl _, Lib.hid (by rw [List.take_of_length_le (by rw [HL.out]; exact Nat.le_refl _)]), Lib.hid rfl⟩
  case round =>
    obtain ⟨k, rfl, hk, HT, HW⟩ := hrel
    have HD : Hid (trimL (F.take k) = F.take k → FreshI wr w.heap.size (.slice (some ⟨w2.heap.size, 0, none⟩) k 96) (trimL l)) := Lib.hid (fun h => by
      have h1 : (trimL l).length = k := by rw [← HTP.out, ← HT.out, h, List.length_take, HL.out]; omega
      have h2 : F.take k = trimL l := by rw [← HTP.out, ← HT.out, h]
      refine ⟨some ⟨w2.heap.size, 0, none⟩, 96, by rw [h1], ?_, Or.inr ⟨_, 0, rfl, HB.out.size⟩⟩
      rw [h1]
      have hr : wr.rangeAt w2.heap.size 0 (ints (trimL l)) := by
        have := own_part (HW.out ▸ HO.out) 0 k
        rwa [List.drop_zero, h2] at this
      have := iarg_of_range (cap := 96) hr HZ.out (by omega) (by omega)
      rwa [h1] at this)
    have HBW : Hid (Below w.heap.size w wr) := Lib.hid (by rw [← HW.out]; exact HB.out.trans (HO.out.2.2.2.mono HB.out.size))
    by_cases h0 : k = 0
    · subst h0
      go_wp2_with fail
      go_ret2
      exact ⟨_, rfl, HD.out rfl, HBW.out⟩
    · obtain ⟨q, rfl⟩ : ∃ q, k = q + 1 := ⟨k - 1, by omega⟩
      have d1 : wr.cell? ⟨w2.heap.size, q, none⟩ = some (.int .i64 (F.getD q 0)) := (file_of_own (HW.out ▸ HO.out) HL.out).cell (by omega)
      have hx : F[q]? = some (F.getD q 0) := by rw [List.getD_eq_getElem?_getD, List.getElem?_eq_getElem (by rw [HL.out]; omega)]; rfl
      obtain ⟨x, hx2⟩ : ∃ x, F.getD q 0 = x := ⟨_, rfl⟩
      rw [hx2] at d1 hx
      have HX := Lib.hid hx
      have k1 : (0 : Int) < ((q + 1 : Nat) : Int) := by omega
      have k2 : (q : Int) < 96 := by omega
      have k3 : (q : Int) + 1 ≤ 96 := by omega
      have k4 : 0 ≤ (q : Int) + 1 := by omega
      clear hx hx2
      by_cases hx0 : x = 0
      · subst hx0
        have HT2 : Hid (trimL (F.take q) = trimL F) := Lib.hid (by rw [← trim_take_zero (by rw [HL.out]; omega) HX.out]; exact HT.out)
        go_wp2_with fail
        go_roundw
        case rel => exact ⟨q, by first | rfl | go_num, by omega, HT2, HW⟩
        case measure => simp [intOf]; try omega
      · have HE : Hid (trimL (F.take (q + 1)) = F.take (q + 1)) := Lib.hid (by
          rw [List.take_add_one, HX.out]
          exact trim_last hx0)
        go_wp2_with fail
        go_ret2
        exact ⟨_, rfl, HD.out HE.out, HBW.out⟩

end Go.Proofs.YtmcblhgpcgnaoaaGreatDoor



namespace Go.Proofs.YtmcblhgpcgnaoaaGreatDoor
open Go.RowKit
set_option linter.unusedVariables false
set_option linter.unusedSimpArgs false

/-- The values that extents in memory are. -/
theorem EIs.vals {w : World} {b off n : Nat} {xs : List EX} (h : EIs w (some ⟨b, off, none⟩) n xs) : ∀ k, k ≤ n → ∃ vs, CellsE vs (xs.take k) ∧ (∀ u ∈ vs, u.oneCell' = true) ∧ ∀ j u, vs[j]? = some u → w.cell? ⟨b, off + j, none⟩ = some u
  | 0, _ => ⟨[], by rw [List.take_zero]; exact CellsE.nil, by simp, by simp⟩
  | k + 1, hk => by
    obtain ⟨vs, h1, h2, h3⟩ := EIs.vals h k (by omega)
    obtain ⟨b', off', x, p, q, he, hx, hm, c1, c2, f1, f2⟩ := h.at (i := k) (by omega)
    simp only [Option.some.injEq, Addr.mk.injEq, and_true] at he
    obtain ⟨rfl, rfl⟩ := he
    have hl : (xs.take k).length = k := by rw [List.length_take, h.1]; omega
    have hv : vs.length = k * 2 := by rw [h1.1, hl]
    refine ⟨vs ++ [.int .i64 x.a, .complex .f64 p q], by rw [List.take_add_one, hx]; exact h1.snoc f1 f2, ?_, ?_⟩
    · intro u hu
      rcases List.mem_append.1 hu with hu | hu
      · exact h2 u hu
      · simp only [List.mem_cons, List.mem_nil_iff, or_false] at hu
        rcases hu with rfl | rfl <;> rfl
    · intro j u hj
      by_cases hlt : j < vs.length
      · rw [List.getElem?_append_left hlt] at hj
        exact h3 j u hj
      · rw [List.getElem?_append_right (by omega)] at hj
        obtain ⟨d, hd⟩ : ∃ d, j - vs.length = d := ⟨_, rfl⟩
        rw [hd] at hj
        match d, hj with
        | 0, hj =>
          obtain rfl : j = k * 2 := by omega
          simp at hj
          rw [c1, hj]
        | 1, hj =>
          obtain rfl : j = k * 2 + 1 := by omega
          simp at hj
          rw [← Nat.add_assoc, c2, hj]
        | d + 2, hj => simp at hj

theorem EIs.news {w : World} {ad : Addr} {n : Nat} {xs : List EX} (h : EIs w (some ad) n xs) (h0 : 0 < n) : ∃ vs, CellsE vs xs ∧ vs.length = n * 2 ∧ (∀ u ∈ vs, u.oneCell' = true) ∧ ∀ j u, vs[j]? = some u → w.cell? (ad.add j) = some u := by
  obtain ⟨b, off, he, _⟩ := h.2.2.resolve_left (by omega)
  cases he
  obtain ⟨vs, h1, h2, h3⟩ := h.vals n (Nat.le_refl _)
  rw [List.take_of_length_le (by rw [h.1]; exact Nat.le_refl _)] at h1
  refine ⟨vs, h1, by rw [h1.1, h.1], h2, fun j u hj => ?_⟩
  rw [Go.WideShapes.add_plain]
  exact h3 j u hj

theorem CellsE.append {vs us : List Value} {xs ys : List EX} (h : CellsE vs xs) (k : CellsE us ys) : CellsE (vs ++ us) (xs ++ ys) := by
  refine ⟨by rw [List.length_append, List.length_append, h.1, k.1]; omega, fun i y hy => ?_⟩
  by_cases hi : i < xs.length
  · rw [List.getElem?_append_left hi] at hy
    obtain ⟨c1, v, c2, c3⟩ := h.2 i y hy
    exact ⟨by rw [List.getElem?_append_left (by rw [h.1]; omega)]; exact c1, v, by rw [List.getElem?_append_left (by rw [h.1]; omega)]; exact c2, c3⟩
  · rw [List.getElem?_append_right (by omega)] at hy
    obtain ⟨c1, v, c2, c3⟩ := k.2 _ y hy
    exact ⟨by rw [List.getElem?_append_right (by rw [h.1]; omega), h.1, show i * 2 - xs.length * 2 = (i - xs.length) * 2 by omega]; exact c1, v, by rw [List.getElem?_append_right (by rw [h.1]; omega), h.1, show i * 2 + 1 - xs.length * 2 = (i - xs.length) * 2 + 1 by omega]; exact c2, c3⟩

/-- A row of extents of the call's own. -/
def RowX (base : Nat) (w : World) (v : Value) (xs : List EX) : Prop := ∃ vs, w.ownsRow base 172 2 v xs.length vs ∧ CellsE vs xs
theorem RowX.later {base : Nat} {w w' : World} {v : Value} {xs : List EX} (h : RowX base w v xs) (hb : Below w.heap.size w w') : RowX base w' v xs := by
  obtain ⟨vs, h1, h2⟩ := h
  exact ⟨vs, owns_later_r h1 hb, h2⟩
theorem RowX.mono {base base' : Nat} {w : World} {v : Value} {xs : List EX} (h : RowX base' w v xs) (hb : base ≤ base') : RowX base w v xs := by
  obtain ⟨vs, h1, h2⟩ := h
  exact ⟨vs, owns_mono_r h1 hb, h2⟩
theorem RowX.eis {base : Nat} {w : World} {v : Value} {xs : List EX} (h : RowX base w v xs) (hn : xs.length ≤ 1000) : ∃ ao cap, v = .slice ao xs.length cap ∧ EIs w ao xs.length xs := by
  obtain ⟨vs, h1, h2⟩ := h
  obtain ⟨ao, cap, rfl⟩ := owns_shape_r h1
  exact ⟨ao, cap, rfl, h2.eis h1 hn⟩

set_option maxHeartbeats 800000 in
theorem cloneX_any (ao : Option Addr) (n cap : Nat) (xs : List EX) (w : World) (hA : EIs w ao n xs) (hnil : ao = none → cap = 0) :
    Calls Tryz.prog 210 #[.slice ao n cap] w fun e w' => ∃ v, e = .returned v ∧ RowX w.heap.size w' v xs ∧ Below w.heap.size w w' := by
  have hl := hA.2.1
  cases ao with
  | none =>
    obtain rfl : cap = 0 := hnil rfl
    obtain rfl : n = 0 := hA.2.2.resolve_right (by rintro ⟨b, off, h, _⟩; cases h)
    obtain rfl : xs = [] := List.length_eq_zero_iff.1 hA.1
    clear hA
    have hnil := fun (w : World) => Lib.run_eql_slice_nil (P := Tryz.prog) w 47 172 none 0 0 0 0 Tryz.underlying47
    go_enter Tryz.func210, Tryz.ntmps210
    go_wp2_with fail
    go_ret
    exact ⟨_, rfl, ⟨[], owns_nil_r _ _ _ _, CellsE.nil⟩, Below.refl _ _⟩
  | some ad =>
    have HL := Lib.hid hA.1
    have HA := Lib.hid hA
    have HO : Hid ((w.alloc (.cells #[] 172)).ownsRow w.heap.size 172 2 (.slice (some ⟨w.heap.size, 0, none⟩) 0 0) 0 []) := Lib.hid (World.ownsRow_made (base := w.heap.size) (e := 172) (size := 2) w #[] 0 (Nat.le_refl _) (by decide) rfl)
    have HB : Hid (Below w.heap.size w (w.alloc (.cells #[] 172))) := Lib.hid ((Below.refl _ _).alloc (Nat.le_refl _) _)
    have hnil := fun (w : World) => Lib.run_eql_slice_nil (P := Tryz.prog) w 47 172 (some ad) n cap 0 0 Tryz.underlying47
    have HV : Hid (∃ vs, CellsE vs xs ∧ vs.length = n * 2 ∧ (∀ u ∈ vs, u.oneCell' = true) ∧ ∀ j u, vs[j]? = some u → (w.alloc (.cells #[] 172)).cell? (ad.add j) = some u) := Lib.hid (by
      by_cases h0 : n = 0
      · subst h0
        obtain rfl : xs = [] := List.length_eq_zero_iff.1 hA.1
        exact ⟨[], CellsE.nil, rfl, by simp, by simp⟩
      · exact (hA.later ((Below.refl _ _).alloc (Nat.le_refl _) _)).news (by omega))
    clear hA
    obtain ⟨vs, hv1, hv2, hv3, hv4⟩ := HV.out
    have HV1 := Lib.hid hv1
    have HV2 := Lib.hid hv2
    have HV3 := Lib.hid hv3
    have HV4 := Lib.hid hv4
    clear hv1 hv2 hv3 hv4 HV
    go_enter Tryz.func210, Tryz.ntmps210
    go_wp2_with (refine wp_append_r elemX rfl (.tmp 5) (.tmp 6) rfl w.heap.size 0 _ [] rfl HO.out ad n cap vs HV2.out rfl HV4.out HV3.out (by omega) (by simp) ?_; intro v1 w1 hown1 hg1 hb1; have HO1 := Lib.hid hown1; have HB1 := Lib.hid (HB.out.trans hb1); clear hown1 hg1 hb1)
    go_ret
    exact ⟨v1, rfl, ⟨vs, by have := HO1.out; rw [Nat.zero_add, List.nil_append] at this; rw [HL.out]; exact this, HV1.out⟩, HB1.out⟩

end Go.Proofs.YtmcblhgpcgnaoaaGreatDoor


namespace Go.Proofs.YtmcblhgpcgnaoaaGreatDoor
open Go.RowKit
set_option linter.unusedVariables false
set_option linter.unusedSimpArgs false

/-- An index of what was found, or -1. -/
def FoundI (b : Bool) (k : Int) : Prop := (b = true → 0 ≤ k) ∧ (b = false → k = -1)

set_option maxRecDepth 100000 in
set_option maxHeartbeats 800000 in
theorem indexI_any {w : World} {ao : Option Addr} {len cap : Nat} {zs : List Int} (y : Int) (hA : IArg w ao len cap zs) :
    Calls Tryz.prog 252 #[.slice ao len cap, .int .i64 y] w fun e w' => (∃ k : Int, e = .returned (.int .i64 k) ∧ FoundI (decide (y ∈ zs)) k) ∧ w = w' := by
  have HA := Lib.hid hA
  have hlen := hA.big
  have HN := Lib.hid hA.len
  clear hA
  go_enter Tryz.func252, Tryz.ntmps252
  go_wp2_with fail
  go_loop [8] (fun iv => ∃ i : Nat, iv = .int .i64 (i : Int) ∧ i ≤ len ∧ Hid (¬ y ∈ zs.take i)) (fun iv => len - (intOf iv).toNat)
  case atStart => exact ⟨0, rfl, Nat.zero_le _, Lib.hid (by simp)⟩
  case round =>
    obtain ⟨i, rfl, hi, HP⟩ := hrel
    by_cases hlt : i < len
    · obtain ⟨b, off, x, rfl, hx, d1, _⟩ := HA.out.at hlt
      have i1 : (i : Int) < (len : Int) := by omega
      have HX := Lib.hid hx
      have i0 : (0 : Int) ≤ (i : Int) := by omega
      clear hx
      by_cases hxy : y = x
      · have HP2 : Hid (y ∈ zs) := Lib.hid (by rw [hxy]; exact List.mem_of_getElem? HX.out)
        have b1 : (y == x) = true := by simpa using hxy
        clear hxy
        go_wp2_with fail
        go_ret
        exact ⟨⟨_, rfl, fun _ => i0, fun h => absurd HP2.out (of_decide_eq_false h)⟩, rfl⟩
      · have HP2 : Hid (¬ y ∈ zs.take (i + 1)) := Lib.hid (by
          rw [List.take_add_one, HX.out, List.mem_append]
          rintro (h | h)
          · exact HP.out h
          · simp at h; exact hxy h)
        have b1 : (y == x) = false := by simpa using hxy
        clear hxy
        go_wp2_with fail
        go_round
        case rel => exact ⟨i + 1, by go_num, by omega, HP2⟩
        case measure => simp [intOf]; omega
    · obtain rfl : i = len := by omega
      have HP2 : Hid (¬ y ∈ zs) := Lib.hid (by have := HP.out; rwa [List.take_of_length_le (by rw [HN.out]; exact Nat.le_refl _)] at this)
      go_wp2_with fail
      go_ret
      exact ⟨⟨_, rfl, And.intro (fun h => absurd (of_decide_eq_true h) HP2.out) (fun _ => rfl)⟩, rfl⟩

set_option maxHeartbeats 400000 in
theorem containsI_any {w : World} {ao : Option Addr} {len cap : Nat} {zs : List Int} (y : Int) (hA : IArg w ao len cap zs) :
    Calls Tryz.prog 204 #[.slice ao len cap, .int .i64 y] w fun e w' => e = .returned (.bool (decide (y ∈ zs))) ∧ w = w' := by
  have c := indexI_any y hA
  clear hA
  by_cases hd : y ∈ zs
  · rw [decide_eq_true hd] at c ⊢
    go_enter Tryz.func204, Tryz.ntmps204
    go_wp2_with (go_at_call 252; refine c.mono ?_; rintro e w' ⟨⟨k, rfl, hk⟩, rfl⟩; replace hk := hk.1 rfl)
    go_ret
    exact ⟨rfl, rfl⟩
  · rw [decide_eq_false hd] at c ⊢
    go_enter Tryz.func204, Tryz.ntmps204
    go_wp2_with (go_at_call 252; refine c.mono ?_; rintro e w' ⟨⟨k, rfl, hk⟩, rfl⟩; obtain rfl := hk.2 rfl)
    go_ret
    exact ⟨rfl, rfl⟩

theorem not_mem_take {zs : List Int} (h : zs.Nodup) {i : Nat} {x : Int} (hx : zs[i]? = some x) : ¬ x ∈ zs.take i := by
  intro hm
  obtain ⟨hi, hx⟩ := List.getElem?_eq_some_iff.1 hx
  rw [← List.take_append_drop i zs, List.nodup_append] at h
  exact h.2.2 x hm x (by rw [List.drop_eq_getElem_cons hi, hx]; exact List.mem_cons_self ..) rfl

set_option maxRecDepth 100000 in
set_option maxHeartbeats 1600000 in
theorem chApart_true {w : World} {ao bo : Option Addr} {n cap m c : Nat} {zs ps : List Int} (hA : IArg w ao n cap zs) (hB : IArg w bo m c ps) (hn : zs.Nodup) (hd : ∀ z ∈ zs, ¬ z ∈ ps) :
    Calls Tryz.prog 178 #[.slice ao n cap, .slice bo m c] w fun e w' => e = .returned (.bool true) ∧ w = w' := by
  have HA := Lib.hid hA
  have HB := Lib.hid hB
  have hlen := hA.big
  have hcap := hA.2.2.2
  have HN := Lib.hid hA.len
  have HND := Lib.hid hn
  have HD := Lib.hid hd
  clear hA hB hn hd
  go_enter Tryz.func178, Tryz.ntmps178
  go_wp2_with fail
  go_loop [9] (fun iv => ∃ i : Nat, iv = .int .i64 (i : Int) ∧ i ≤ n) (fun iv => n - (intOf iv).toNat)
  case atStart => exact ⟨0, rfl, Nat.zero_le _⟩
  case round =>
    obtain ⟨i, rfl, hi⟩ := hrel
    by_cases hlt : i < n
    · obtain ⟨b, off, x, rfl, hx, d1, _⟩ := HA.out.at hlt
      have i1 : (i : Int) < (n : Int) := by omega
      have i0 : (0 : Int) ≤ (i : Int) := by omega
      have i2 : (i : Int) ≤ (cap : Int) := by omega
      have c1 := containsI_any x (HA.out.take (k := i) (by omega))
      rw [decide_eq_false (not_mem_take HND.out hx)] at c1
      have c2 := containsI_any x HB.out
      rw [decide_eq_false (HD.out x (List.mem_of_getElem? hx))] at c2
      clear hx
      go_wp2_with (first | (go_at_call 204; refine c1.mono ?_; rintro e w3 ⟨rfl, rfl⟩; clear c1) | (go_at_call 204; refine c2.mono ?_; rintro e w3 ⟨rfl, rfl⟩))
      go_round
      case rel => exact ⟨i + 1, by go_num, by omega⟩
      case measure => simp [intOf]; omega
    · obtain rfl : i = n := by omega
      go_wp2_with fail
      go_ret
      exact ⟨rfl, rfl⟩

end Go.Proofs.YtmcblhgpcgnaoaaGreatDoor


namespace Go.Proofs.YtmcblhgpcgnaoaaGreatDoor
open Go.RowKit
set_option linter.unusedVariables false
set_option linter.unusedSimpArgs false

set_option maxHeartbeats 800000 in
theorem clone_zero (xo : Option Addr) (xc : Nat) (w : World) : Calls Tryz.prog 210 #[.slice xo 0 xc] w fun e w' => ∃ ao cap, e = .returned (.slice ao 0 cap) ∧ Below w.heap.size w w' := by
  cases xo with
  | none =>
    have hnil := fun (w : World) => Lib.run_eql_slice_nil (P := Tryz.prog) w 47 172 none 0 xc 0 0 Tryz.underlying47
    go_enter Tryz.func210, Tryz.ntmps210
    go_wp2_with fail
    go_ret
    exact ⟨_, _, rfl, Below.refl _ _⟩
  | some ad =>
    refine (cloneX_any (some ad) 0 xc [] w ⟨rfl, by decide, Or.inl rfl⟩ (fun e => by cases e)).mono ?_
    rintro e w' ⟨v, rfl, hr, hb⟩
    obtain ⟨ao, cap, rfl, _⟩ := hr.eis (by decide)
    exact ⟨ao, cap, rfl, hb⟩

set_option maxRecDepth 100000 in
set_option maxHeartbeats 1600000 in
theorem follow_zero {w : World} (k l z d0 d1 d2 d3 s t : Int) (xo bo : Option Addr) (xc bn bc : Nat) :
    Calls Tryz.prog 177 #[.agg #[.int .i64 k, .int .i64 2, .int .i64 l, .int .i64 z, .int .i64 d0, .int .i64 d1, .int .i64 d2, .int .i64 d3, .int .i64 s, .int .i64 t, .slice xo 0 xc, .int .i64 0], .slice bo bn bc] w fun e w' => ∃ ao cap, e = .returned (.tuple #[.slice ao 0 cap, .slice none 0 0, .bool true]) ∧ Below w.heap.size w w' := by
  have b1 : Below w.heap.size w (w.alloc (.cells #[.int .i64 k, .int .i64 2, .int .i64 l, .int .i64 z, .int .i64 d0, .int .i64 d1, .int .i64 d2, .int .i64 d3, .int .i64 s, .int .i64 t, .slice xo 0 xc, .int .i64 0] 49)) := (Below.refl _ _).alloc (Nat.le_refl _) _
  have n7 : (w.alloc (.cells #[.int .i64 k, .int .i64 2, .int .i64 l, .int .i64 z, .int .i64 d0, .int .i64 d1, .int .i64 d2, .int .i64 d3, .int .i64 s, .int .i64 t, .slice xo 0 xc, .int .i64 0] 49)).cell? ⟨w.heap.size, 10, none⟩ = some (.slice xo 0 xc) := by rw [World.cell?_alloc_new]; rfl
  have n8 : (w.alloc (.cells #[.int .i64 k, .int .i64 2, .int .i64 l, .int .i64 z, .int .i64 d0, .int .i64 d1, .int .i64 d2, .int .i64 d3, .int .i64 s, .int .i64 t, .slice xo 0 xc, .int .i64 0] 49)).cell? ⟨w.heap.size, 11, none⟩ = some (.int .i64 0) := by rw [World.cell?_alloc_new]; rfl
  have N8 := Lib.hid n8
  have HB1 := Lib.hid b1
  clear b1 n8
  go_enter Tryz.func177, Tryz.ntmps177
  go_wp2_with fail
  refine wp_scope_again 0 (fun a' w' => ∃ (ao : Option Addr) (cap : Nat) (u3 u6 u8 u9 u10 u11 u12 u13 u14 u15 u16 u17 u18 u19 u20 u21 u22 u23 u24 u25 u26 u27 u28 u29 u30 u31 u32 u33 u34 u35 u36 u37 u38 u39 u40 u41 u42 u43 u44 u45 u46 u47 u48 u49 u50 u51 u52 : Value), a' = { tmps := #[.agg #[.int .i64 k, .int .i64 2, .int .i64 l, .int .i64 z, .int .i64 d0, .int .i64 d1, .int .i64 d2, .int .i64 d3, .int .i64 s, .int .i64 t, .slice xo 0 xc, .int .i64 0], .slice bo bn bc, .pointer (some ⟨w.heap.size, 0, none⟩), u3, .slice ao 0 cap, .slice none 0 0, u6, .int .i64 0, u8, u9, u10, u11, u12, u13, u14, u15, u16, u17, u18, u19, u20, u21, u22, u23, u24, u25, u26, u27, u28, u29, u30, u31, u32, u33, u34, u35, u36, u37, u38, u39, u40, u41, u42, u43, u44, u45, u46, u47, u48, u49, u50, u51, u52], defers := [] } ∧ Hid (Below w.heap.size w w')) (fun _ _ => 0) rfl ?_ ?_
  · intro hpass
    go_wp2_with (go_at_call 210; refine (clone_zero xo xc _).mono ?_; rintro e w2 ⟨ao, cap, rfl, hb2⟩; have HB2 := Lib.hid (HB1.out.trans (hb2.mono HB1.out.size)); have n9 := cell_later hb2 N8.out; clear hb2 n7)
    go_step3
    rename_i hK0
    refine hK0 _ _ (hpass _ _ ?_)
    exact ⟨ao, cap, _, _, _, _, _, _, _, _, _, _, _, _, _, _, _, _, _, _, _, _, _, _, _, _, _, _, _, _, _, _, _, _, _, _, _, _, _, _, _, _, _, _, _, _, _, _, _, rfl, HB2⟩
  · rintro a' w' ⟨ao, cap, u3, u6, u8, u9, u10, u11, u12, u13, u14, u15, u16, u17, u18, u19, u20, u21, u22, u23, u24, u25, u26, u27, u28, u29, u30, u31, u32, u33, u34, u35, u36, u37, u38, u39, u40, u41, u42, u43, u44, u45, u46, u47, u48, u49, u50, u51, u52, rfl, HB⟩
    clear n7
    go_wp2_with fail
    simp only [Exit.jump]
    go_ret3
    exact ⟨ao, cap, rfl, HB.out⟩
end Go.Proofs.YtmcblhgpcgnaoaaGreatDoor

