/-
  Proved here: extents of pointers, from place to place: where nothing lies, and where a run lies; what is so of runs of sound pointers; a file that extents are laid into.
  No conditions but those that each theorem names. Nothing of the program is read here.
-/
import Derived.Test.YtmgmlebkmdpddaaExt
import Derived.Test.YtmgmlebkmdpddaaFile
namespace Go.Proofs.Ytmgmlebkmdpddaa
set_option linter.unusedVariables false
set_option linter.unusedSimpArgs false

theorem drop_cons {F : List Int} {a : Nat} (h : a < F.length) : F.drop a = F.getD a 0 :: F.drop (a + 1) := by
  rw [List.drop_eq_getElem_cons h, List.getD_eq_getElem?_getD, List.getElem?_eq_getElem h]
  rfl

theorem from_cons (i x : Int) (r : List Int) : fromE i (x :: r) = if x = 0 then fromE (i + 1) r else joinE i x (fromE (i + 1) r) := rfl

theorem from_skip (F : List Int) : ∀ (n a : Nat), (∀ k, a ≤ k → k < a + n → F.getD k 0 = 0) → fromE (a : Int) (F.drop a) = fromE ((a + n : Nat) : Int) (F.drop (a + n))
  | 0, a, _ => rfl
  | n + 1, a, h => by
    by_cases ha : a < F.length
    · have ih := from_skip F n (a + 1) (fun k h1 h2 => h k (by omega) (by omega))
      rw [drop_cons ha, h a (Nat.le_refl _) (by omega)]
      rw [from_cons, if_pos rfl, show (a : Int) + 1 = ((a + 1 : Nat) : Int) by omega, show a + (n + 1) = a + 1 + n by omega]
      exact ih
    · rw [List.drop_of_length_le (by omega), List.drop_of_length_le (by omega)]
      rfl

theorem drop_head (F : List Int) (a : Nat) : (F.drop a).headD 0 = F.getD a 0 := by
  by_cases ha : a < F.length
  · rw [drop_cons ha]; rfl
  · rw [List.drop_of_length_le (by omega), List.getD_eq_getElem?_getD, List.getElem?_eq_none (by omega)]; rfl

theorem from_run (F : List Int) : ∀ (n a : Nat) (x : Int), 0 < n → a + n ≤ F.length → 0 < x → (∀ j, j < n → F.getD (a + j) 0 = x + j) → F.getD (a + n) 0 ≠ x + n → fromE (a : Int) (F.drop a) = ⟨a, x, n⟩ :: fromE ((a + n : Nat) : Int) (F.drop (a + n))
  | 0, _, _, h0, _, _, _, _ => absurd h0 (by decide)
  | 1, a, x, _, hl, hx, hr, hs => by
    have h0 : F.getD a 0 = x := by have := hr 0 (by decide); simpa using this
    rw [drop_cons (show a < F.length by omega), h0, from_cons, if_neg (by omega), show (a : Int) + 1 = ((a + 1 : Nat) : Int) by omega]
    have hd := drop_head F (a + 1)
    rcases from_head (F.drop (a + 1)) ((a + 1 : Nat) : Int) with ⟨e, r, hf, h1, h2, h3⟩ | ⟨h1, h2⟩
    · rw [hf, joinE_cc, if_neg (fun h => hs (by have := h.2; rw [h2, hd] at this; rw [this]; rfl))]
      rfl
    · cases hf : fromE ((a + 1 : Nat) : Int) (F.drop (a + 1)) with
      | nil => rfl
      | cons e r =>
        have := h2 e (by rw [hf]; exact List.mem_cons_self ..)
        rw [joinE_cc, if_neg (by omega)]
        rfl
  | n + 2, a, x, _, hl, hx, hr, hs => by
    have h0 : F.getD a 0 = x := by have := hr 0 (by omega); simpa using this
    have ih := from_run F (n + 1) (a + 1) (x + 1) (by omega) (by omega) (by omega) (fun j hj => by
      have := hr (j + 1) (by omega)
      rw [show a + 1 + j = a + (j + 1) by omega, this]; omega) (by
      rw [show a + 1 + (n + 1) = a + (n + 2) by omega]
      intro h
      exact hs (by rw [h]; omega))
    rw [drop_cons (show a < F.length by omega), h0, from_cons, if_neg (by omega), show (a : Int) + 1 = ((a + 1 : Nat) : Int) by omega, ih, joinE_cc, if_pos ⟨by simp only; omega, rfl⟩, show a + (n + 2) = a + 1 + (n + 1) by omega]
    simp only [List.cons.injEq, EX.mk.injEq, true_and, and_true]
    omega

theorem ok_at {F : List Int} (h : apartL F = true) (k : Nat) : F.getD k 0 = 0 ∨ (59 ≤ F.getD k 0 ∧ F.getD k 0 ≤ 479) := by
  by_cases hk : k < F.length
  · unfold apartL at h
    rw [Bool.and_eq_true, List.all_eq_true] at h
    have := h.1 (F.getD k 0) (by rw [List.getD_eq_getElem?_getD, List.getElem?_eq_getElem hk]; exact List.getElem_mem hk)
    unfold okP at this
    simpa using this
  · rw [List.getD_eq_getElem?_getD, List.getElem?_eq_none (by omega)]
    exact Or.inl rfl

/-- A run of a file, as the two walks find it. -/
theorem run_found {F : List Int} (hF : F.length = 96) (h : apartL F = true) {a r : Nat} (ha : a < 96) (hx : liesB F a = true) (hr : a ≤ r ∧ r ≤ 96) (h1 : ∀ k, a ≤ k → k < r → endsB F (F.getD a 0 - a) k = false) (h2 : r < 96 → endsB F (F.getD a 0 - a) r = true) :
    a < r ∧ 59 ≤ F.getD a 0 ∧ F.getD a 0 + ((r : Int) - a) ≤ 480 ∧ fromE (a : Int) (F.drop a) = ⟨a, F.getD a 0, (r : Int) - a⟩ :: fromE (r : Int) (F.drop r) := by
  have hx0 : F.getD a 0 ≠ 0 := by unfold liesB at hx; simpa using hx
  have hx1 := (ok_at h a).resolve_left hx0
  have har : a < r := by
    rcases Nat.lt_or_ge a r with h' | h'
    · exact h'
    · obtain rfl : r = a := by omega
      have := h2 ha
      unfold endsB at this
      simp only [bne_iff_ne, ne_eq] at this
      exact absurd (by omega) this
  have hj : ∀ j, j < r - a → F.getD (a + j) 0 = F.getD a 0 + j := fun j hj => by
    have := h1 (a + j) (by omega) (by omega)
    unfold endsB at this
    simp only [bne_eq_false_iff_eq] at this
    rw [this]
    omega
  have hlast := hj (r - a - 1) (by omega)
  have hl2 := ok_at h (a + (r - a - 1))
  refine ⟨har, hx1.1, by omega, ?_⟩
  have := from_run F (r - a) a (F.getD a 0) (by omega) (by omega) (by omega) hj (by
    rw [show a + (r - a) = r by omega]
    by_cases h96 : r < 96
    · have := h2 h96
      unfold endsB at this
      simp only [bne_iff_ne, ne_eq] at this
      intro e
      exact this (by rw [e]; omega)
    · rw [List.getD_eq_getElem?_getD, List.getElem?_eq_none (by omega)]
      show (0 : Int) ≠ _
      omega)
  rw [show a + (r - a) = r by omega, show ((r - a : Nat) : Int) = (r : Int) - a by omega] at this
  exact this

theorem lies_skip {F : List Int} {a r : Nat} (hr : a ≤ r) (h1 : ∀ k, a ≤ k → k < r → liesB F k = false) : fromE (a : Int) (F.drop a) = fromE (r : Int) (F.drop r) := by
  have := from_skip F (r - a) a (fun k h2 h3 => by have := h1 k h2 (by omega); unfold liesB at this; simpa using this)
  rw [show a + (r - a) = r by omega] at this
  exact this

/-! ### Extents laid into a file -/

/-- So many numbers from one on. -/
def seqI (f : Int) (n : Nat) : List Int := (List.range n).map fun (k : Nat) => f + (k : Int)
theorem seqI_length (f : Int) (n : Nat) : (seqI f n).length = n := by unfold seqI; simp
theorem seqI_succ (f : Int) (n : Nat) : seqI f (n + 1) = seqI f n ++ [f + (n : Int)] := by unfold seqI; rw [List.range_succ, List.map_append]; rfl
theorem seqI_get (f : Int) {n k : Nat} (h : k < n) : (seqI f n).getD k 0 = f + (k : Int) := by
  unfold seqI
  rw [List.getD_eq_getElem?_getD, List.getElem?_map, List.getElem?_range h]
  rfl

theorem allE_length (l : List EX) (n : Nat) : (allE l n).length = n := by unfold allE; simp
theorem allE_get (l : List EX) {n k : Nat} (h : k < n) : (allE l n).getD k 0 = ptrE l (k : Int) := by
  unfold allE
  rw [List.getD_eq_getElem?_getD, List.getElem?_map, List.getElem?_range h]
  rfl
theorem allE_nil (n : Nat) : allE [] n = List.replicate n 0 := by
  unfold allE
  apply List.ext_getElem
  · simp
  · intro i h1 h2
    simp [ptrE]

theorem ptr_snoc : ∀ (l : List EX) (e : EX) (k : Int), (∀ g ∈ l, g.a + g.c ≤ e.a) → ptrE (l ++ [e]) k = if e.a ≤ k ∧ k < e.a + e.c then e.f + (k - e.a) else ptrE l k
  | [], e, k, _ => rfl
  | g :: r, e, k, h => by
    have ih := ptr_snoc r e k (fun x hx => h x (List.mem_cons_of_mem _ hx))
    have hg := h g (List.mem_cons_self ..)
    show (if g.a ≤ k ∧ k < g.a + g.c then g.f + (k - g.a) else ptrE (r ++ [e]) k) = if e.a ≤ k ∧ k < e.a + e.c then e.f + (k - e.a) else (if g.a ≤ k ∧ k < g.a + g.c then g.f + (k - g.a) else ptrE r k)
    rw [ih]
    by_cases h1 : g.a ≤ k ∧ k < g.a + g.c
    · rw [if_pos h1, if_neg (by omega), if_pos h1]
    · rw [if_neg h1, if_neg h1]

theorem list_ext_getD {a b : List Int} (h : a.length = b.length) (hk : ∀ k, k < a.length → a.getD k 0 = b.getD k 0) : a = b := by
  apply List.ext_getElem h
  intro i h1 h2
  have := hk i h1
  rwa [List.getD_eq_getElem?_getD, List.getD_eq_getElem?_getD, List.getElem?_eq_getElem h1, List.getElem?_eq_getElem h2] at this

/-- One more extent laid into a file. -/
theorem lay_extent {l : List EX} {e : EX} {a c : Nat} (ha : e.a = a) (hc : e.c = c) (hfit : a + c ≤ 96) (h : ∀ g ∈ l, g.a + g.c ≤ e.a) : lay (allE l 96) a (seqI e.f c) = allE (l ++ [e]) 96 := by
  apply list_ext_getD
  · rw [lay_length, allE_length, allE_length]
  · intro k hk
    rw [lay_length, allE_length] at hk
    rw [lay_get _ _ _ _ (by rw [seqI_length, allE_length]; exact hfit), seqI_length, allE_get _ hk, allE_get _ hk, ptr_snoc _ _ _ h, ha, hc]
    by_cases h1 : a ≤ k ∧ k < a + c
    · rw [if_pos h1, if_pos (by omega), seqI_get _ (by omega)]
      omega
    · rw [if_neg h1, if_neg (by omega)]

theorem chain_before : ∀ (r : List EX) (e : EX), (∀ g ∈ e :: r, 1 ≤ g.c) → chainE (e :: r) → ∀ g ∈ r, e.a + e.c ≤ g.a
  | [], _, _, _, _, h => by cases h
  | x :: s, e, hc, h, g, hg => by
    obtain ⟨⟨h1, _⟩, h2⟩ := h
    rcases List.mem_cons.1 hg with rfl | hg
    · exact h1
    · have := chain_before s x (fun g hg => hc g (List.mem_cons_of_mem _ hg)) h2 g hg
      have := hc x (by simp)
      omega
theorem chain_tail {e : EX} {r : List EX} (h : chainE (e :: r)) : chainE r := by
  cases r with
  | nil => trivial
  | cons x s => exact h.2
theorem chain_pair : ∀ (l : List EX), (∀ g ∈ l, 1 ≤ g.c) → chainE l → l.Pairwise (fun e g => e.a + e.c ≤ g.a)
  | [], _, _ => List.Pairwise.nil
  | e :: r, hc, h => List.pairwise_cons.2 ⟨chain_before r e hc h, chain_pair r (fun g hg => hc g (List.mem_cons_of_mem _ hg)) (chain_tail h)⟩

/-- All extents ahead of one end where it begins, at most. -/
theorem before_at {l : List EX} (hp : l.Pairwise (fun e g => e.a + e.c ≤ g.a)) {i : Nat} {e : EX} (he : l[i]? = some e) : ∀ g ∈ l.take i, g.a + g.c ≤ e.a := by
  intro g hg
  obtain ⟨j, hj, rfl⟩ := List.mem_iff_getElem.1 hg
  rw [List.length_take] at hj
  rw [List.getElem_take]
  obtain ⟨hi, rfl⟩ := List.getElem?_eq_some_iff.1 he
  exact List.pairwise_iff_getElem.1 hp j i _ hi (by omega)

end Go.Proofs.Ytmgmlebkmdpddaa
