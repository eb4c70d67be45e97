/-
  Proved here: plain facts on taking the longest gap left, again and again, and on sorting by exchanging neighbours.
  No conditions but those that each theorem names. Nothing of the program is read here.
-/
import Derived.Test.YtfhfjnfejcggcaaFree
namespace Go.Proofs.Ytfhfjnfejcggcaa

/-- U tells of each gap whether it is among the first t of those in the order in which they are taken. -/
def UsedIs (l : List (Nat × Nat)) (t : Nat) (U : Nat → Bool) : Prop := ∀ (j : Nat) (p : Nat × Nat), l[j]? = some p → (U j = true ↔ p ∈ (byLen l).take t)

/-- The best one that is left of the first i. -/
def BestIs (l : List (Nat × Nat)) (U : Nat → Bool) (i : Nat) : Option Nat → Prop
  | none => ∀ j, j < i → U j = true
  | some b => b < i ∧ U b = false ∧ ∀ (j : Nat) (p q : Nat × Nat), j < i → U j = false → l[j]? = some p → l[b]? = some q → aheadB q p = true

theorem used_start (l : List (Nat × Nat)) : UsedIs l 0 (fun _ => false) := fun j p _ => by simp

theorem best_start (l : List (Nat × Nat)) (U : Nat → Bool) : BestIs l U 0 none := fun j h => by omega

theorem best_used {l : List (Nat × Nat)} {U : Nat → Bool} {i : Nat} {o : Option Nat} (h : BestIs l U i o) (hu : U i = true) : BestIs l U (i + 1) o := by
  cases o with
  | none =>
    intro j hj
    by_cases e : j = i
    · rw [e]; exact hu
    · exact h j (by omega)
  | some b =>
    refine ⟨by have := h.1; omega, h.2.1, fun j p q hj hf hp hq => ?_⟩
    by_cases e : j = i
    · rw [e, hu] at hf; cases hf
    · exact h.2.2 j p q (by omega) hf hp hq

theorem best_first {l : List (Nat × Nat)} {U : Nat → Bool} {i : Nat} (h : BestIs l U i none) (hu : U i = false) : BestIs l U (i + 1) (some i) := by
  refine ⟨by omega, hu, fun j p q hj hf hp hq => ?_⟩
  by_cases e : j = i
  · rw [e, hq] at hp
    cases hp
    unfold aheadB
    rw [decide_eq_true_iff]
    omega
  · have := h j (by omega)
    rw [hf] at this
    cases this

theorem best_longer {l : List (Nat × Nat)} {U : Nat → Bool} {i b : Nat} {p q : Nat × Nat} (h : BestIs l U i (some b)) (hu : U i = false) (hp : l[i]? = some p) (hq : l[b]? = some q) (hlt : q.2 < p.2) : BestIs l U (i + 1) (some i) := by
  refine ⟨by omega, hu, fun j p' q' hj hf hp' hq' => ?_⟩
  rw [hp] at hq'
  cases hq'
  by_cases e : j = i
  · rw [e, hp] at hp'
    cases hp'
    unfold aheadB
    rw [decide_eq_true_iff]
    omega
  · have := h.2.2 j p' q (by omega) hf hp' hq
    unfold aheadB at this ⊢
    rw [decide_eq_true_iff] at this ⊢
    omega

theorem best_keep {l : List (Nat × Nat)} {U : Nat → Bool} {i b : Nat} {p q : Nat × Nat} (hr : l.Pairwise (fun a b => a.1 + a.2 < b.1)) (h : BestIs l U i (some b)) (hp : l[i]? = some p) (hq : l[b]? = some q) (hle : ¬ q.2 < p.2) : BestIs l U (i + 1) (some b) := by
  refine ⟨by have := h.1; omega, h.2.1, fun j p' q' hj hf hp' hq' => ?_⟩
  by_cases e : j = i
  · rw [hq] at hq'
    cases hq'
    rw [e, hp] at hp'
    cases hp'
    obtain ⟨hi', ei⟩ := List.getElem?_eq_some_iff.1 hp
    obtain ⟨hb', eb⟩ := List.getElem?_eq_some_iff.1 hq
    have := List.pairwise_iff_getElem.1 hr b i hb' hi' h.1
    rw [ei, eb] at this
    unfold aheadB
    rw [decide_eq_true_iff]
    omega
  · exact h.2.2 j p' q' (by omega) hf hp' hq'

theorem nodup_of {l : List (Nat × Nat)} (h : l.Pairwise (fun a b => a.1 + a.2 < b.1)) : (byLen l).Pairwise (· ≠ ·) :=
  (h.imp (fun {a b} hab => by intro e; rw [e] at hab; omega) : l.Pairwise (· ≠ ·)).perm (byLen_perm l).symm (fun {x y} hxy => Ne.symm hxy)

theorem not_taken {S : List (Nat × Nat)} (h : S.Pairwise (· ≠ ·)) {t : Nat} {s : Nat × Nat} (hs : S[t]? = some s) : s ∉ S.take t := by
  intro hm
  obtain ⟨k, hk⟩ := List.mem_iff_getElem?.1 hm
  rw [List.getElem?_take] at hk
  by_cases hkt : k < t
  · rw [if_pos hkt] at hk
    obtain ⟨h1, e1⟩ := List.getElem?_eq_some_iff.1 hk
    obtain ⟨h2, e2⟩ := List.getElem?_eq_some_iff.1 hs
    exact List.pairwise_iff_getElem.1 h k t h1 h2 hkt (by rw [e1, e2])
  · rw [if_neg hkt] at hk; cases hk

/-- None is left: all were taken. -/
theorem none_left {l : List (Nat × Nat)} {U : Nat → Bool} {t : Nat} (hr : l.Pairwise (fun a b => a.1 + a.2 < b.1)) (hu : UsedIs l t U) (h : BestIs l U l.length none) : (byLen l).take t = byLen l := by
  refine List.take_of_length_le ?_
  rcases Nat.lt_or_ge t (byLen l).length with hlt | hge
  · exfalso
    have hs : (byLen l)[t]? = some (byLen l)[t] := List.getElem?_eq_getElem hlt
    have hm := (byLen_perm l).mem_iff.1 (List.mem_of_getElem? hs)
    obtain ⟨j, hj⟩ := List.mem_iff_getElem?.1 hm
    have hjl := (List.getElem?_eq_some_iff.1 hj).1
    exact not_taken (nodup_of hr) hs ((hu j _ hj).1 (h j hjl))
  · exact hge

/-- The best that is left is the next one. -/
theorem best_next {l : List (Nat × Nat)} {U : Nat → Bool} {t b : Nat} {q : Nat × Nat} (hr : l.Pairwise (fun a b => a.1 + a.2 < b.1)) (hu : UsedIs l t U) (h : BestIs l U l.length (some b)) (hq : l[b]? = some q) : (byLen l)[t]? = some q := by
  have hql := (byLen_perm l).mem_iff.2 (List.mem_of_getElem? hq)
  have hnt : q ∉ (byLen l).take t := fun hm => by have := (hu b q hq).2 hm; rw [h.2.1] at this; cases this
  have hqd : q ∈ (byLen l).drop t := by
    rw [← List.take_append_drop t (byLen l)] at hql
    rcases List.mem_append.1 hql with h1 | h1
    · exact absurd h1 hnt
    · exact h1
  cases hd : (byLen l).drop t with
  | nil => rw [hd] at hqd; simp at hqd
  | cons s r =>
    have hs : (byLen l)[t]? = some s := by
      have e : ((byLen l).drop t)[0]? = some s := by rw [hd]; rfl
      rw [List.getElem?_drop, Nat.add_zero] at e
      exact e
    rw [hs]
    congr 1
    rw [hd] at hqd
    rcases List.mem_cons.1 hqd with e | hqr
    · exact e.symm
    · have hsorted : ((byLen l).drop t).Pairwise (fun a b => aheadB a b = true) := (byLen_sorted l).sublist (List.drop_sublist _ _)
      rw [hd] at hsorted
      have h1 := (List.pairwise_cons.1 hsorted).1 q hqr
      have hsl := (byLen_perm l).mem_iff.1 (List.mem_of_getElem? hs)
      obtain ⟨j, hj⟩ := List.mem_iff_getElem?.1 hsl
      have hUj : U j = false := by
        cases hU : U j with
        | false => rfl
        | true => exact absurd ((hu j s hj).1 hU) (not_taken (nodup_of hr) hs)
      have h2 := h.2.2 j s q (List.getElem?_eq_some_iff.1 hj).1 hUj hj hq
      exact ahead_anti h1 h2

/-- When it is taken. -/
theorem used_next {l : List (Nat × Nat)} {U : Nat → Bool} {t b : Nat} {q : Nat × Nat} (hr : l.Pairwise (fun a b => a.1 + a.2 < b.1)) (hu : UsedIs l t U) (hq : l[b]? = some q) (hs : (byLen l)[t]? = some q) : UsedIs l (t + 1) (fun k => if k = b then true else U k) := by
  intro j p hj
  rw [List.take_add_one, hs]
  show (if j = b then true else U j) = true ↔ p ∈ (byLen l).take t ++ [q]
  rw [List.mem_append, List.mem_singleton]
  by_cases e : j = b
  · rw [e, hq] at hj
    cases hj
    simp [e]
  · rw [if_neg e]
    have hpq : p ≠ q := by
      intro h
      obtain ⟨h1, e1⟩ := List.getElem?_eq_some_iff.1 hj
      obtain ⟨h2, e2⟩ := List.getElem?_eq_some_iff.1 hq
      rcases Nat.lt_or_gt_of_ne e with h3 | h3
      · have := List.pairwise_iff_getElem.1 hr j b h1 h2 h3
        rw [e1, e2, h] at this
        omega
      · have := List.pairwise_iff_getElem.1 hr b j h2 h1 h3
        rw [e1, e2, h] at this
        omega
    rw [hu j p hj]
    simp [hpq]

/-- One more of those that are taken, whole. -/
theorem cut_whole {S : List (Nat × Nat)} {t r : Nat} {q : Nat × Nat} (hs : S[t]? = some q) (h0 : 0 < r) (h1 : q.2 < r) : cutAt (S.drop t) r = q :: cutAt (S.drop (t + 1)) (r - q.2) := by
  have e : S.drop t = q :: S.drop (t + 1) := by
    obtain ⟨h, e⟩ := List.getElem?_eq_some_iff.1 hs
    rw [List.drop_eq_getElem_cons h, e]
  rw [e]
  show (if r = 0 then [] else if r ≤ q.2 then [(q.1, r)] else q :: cutAt (S.drop (t + 1)) (r - q.2)) = _
  rw [if_neg (by omega), if_neg (by omega)]

/-- The last one: its first blocks. -/
theorem cut_last {S : List (Nat × Nat)} {t r : Nat} {q : Nat × Nat} (hs : S[t]? = some q) (h0 : 0 < r) (h1 : r ≤ q.2) : cutAt (S.drop t) r = [(q.1, r)] := by
  have e : S.drop t = q :: S.drop (t + 1) := by
    obtain ⟨h, e⟩ := List.getElem?_eq_some_iff.1 hs
    rw [List.drop_eq_getElem_cons h, e]
  rw [e]
  show (if r = 0 then [] else if r ≤ q.2 then [(q.1, r)] else q :: cutAt (S.drop (t + 1)) (r - q.2)) = _
  rw [if_neg (by omega), if_pos h1]

/-! Sorting by exchanging neighbours -/

/-- The first i + 1 are in order, but for the one at k, which may lie too far behind. -/
def NearSorted (T : List (Nat × Nat)) (i k : Nat) : Prop := ∀ (a b : Nat) (p q : Nat × Nat), a < b → b ≤ i → b ≠ k → T[a]? = some p → T[b]? = some q → p.1 ≤ q.1
def SortedTo (T : List (Nat × Nat)) (i : Nat) : Prop := ∀ (a b : Nat) (p q : Nat × Nat), a < b → b < i → T[a]? = some p → T[b]? = some q → p.1 ≤ q.1

theorem near_of (T : List (Nat × Nat)) {i : Nat} (h : SortedTo T i) : NearSorted T i i := fun a b p q h1 h2 h3 hp hq => h a b p q h1 (by omega) hp hq

theorem near_done {T : List (Nat × Nat)} {i k : Nat} (h : NearSorted T i k) (hk : k = 0 ∨ ∀ p q, T[k - 1]? = some p → T[k]? = some q → p.1 ≤ q.1) : SortedTo T (i + 1) := by
  intro a b p q h1 h2 hp hq
  by_cases e : b = k
  · subst e
    rcases hk with h0 | hk
    · omega
    · by_cases ea : a = b - 1
      · rw [ea] at hp; exact hk p q hp hq
      · have hlt : b - 1 < T.length := by have := (List.getElem?_eq_some_iff.1 hq).1; omega
        have hm : T[b - 1]? = some T[b - 1] := List.getElem?_eq_getElem hlt
        have h3 := h a (b - 1) p _ (by omega) (by omega) (by omega) hp hm
        have h4 := hk _ q hm hq
        omega
  · exact h a b p q h1 (by omega) e hp hq

def swapAt (T : List (Nat × Nat)) (k : Nat) (p q : Nat × Nat) : List (Nat × Nat) := (T.set k p).set (k - 1) q

theorem swap_get {T : List (Nat × Nat)} {k : Nat} {p q : Nat × Nat} (h0 : 0 < k) (hk : k < T.length) (j : Nat) : (swapAt T k p q)[j]? = if j = k - 1 then some q else if j = k then some p else T[j]? := by
  unfold swapAt
  rw [List.getElem?_set, List.length_set]
  by_cases e : k - 1 = j
  · rw [if_pos e, if_pos (by omega), if_pos e.symm]
  · rw [if_neg e, if_neg (fun h => e h.symm), List.getElem?_set]
    by_cases e2 : k = j
    · rw [if_pos e2, if_pos hk, if_pos e2.symm]
    · rw [if_neg e2, if_neg (fun h => e2 h.symm)]

theorem near_swap {T : List (Nat × Nat)} {i k : Nat} {p q : Nat × Nat} (h0 : 0 < k) (hki : k ≤ i) (h : NearSorted T i k) (hp : T[k - 1]? = some p) (hq : T[k]? = some q) (hlt : q.1 < p.1) : NearSorted (swapAt T k p q) i (k - 1) := by
  have hk := (List.getElem?_eq_some_iff.1 hq).1
  intro a b x y h1 h2 h3 hx hy
  rw [swap_get h0 hk] at hx hy
  by_cases eb : b = k
  · rw [if_neg (by omega), if_pos eb] at hy
    cases hy
    by_cases ea : a = k - 1
    · rw [if_pos ea] at hx
      cases hx
      omega
    · rw [if_neg ea, if_neg (by omega)] at hx
      exact h a (k - 1) x p (by omega) (by omega) (by omega) hx hp
  · rw [if_neg (by omega), if_neg eb] at hy
    by_cases ea : a = k - 1
    · rw [if_pos ea] at hx
      cases hx
      exact h k b q y (by omega) h2 eb hq hy
    · rw [if_neg ea] at hx
      by_cases ea2 : a = k
      · rw [if_pos ea2] at hx
        cases hx
        exact h (k - 1) b p y (by omega) h2 eb hp hy
      · rw [if_neg ea2] at hx
        exact h a b x y h1 h2 eb hx hy

theorem swap_perm {T : List (Nat × Nat)} {k : Nat} {p q : Nat × Nat} (h0 : 0 < k) (hp : T[k - 1]? = some p) (hq : T[k]? = some q) : (swapAt T k p q).Perm T := by
  obtain ⟨h1, e1⟩ := List.getElem?_eq_some_iff.1 hp
  obtain ⟨h2, e2⟩ := List.getElem?_eq_some_iff.1 hq
  have ek : k - 1 + 1 = k := by omega
  have hT : T = T.take (k - 1) ++ (p :: q :: T.drop (k + 1)) := by
    conv => lhs; rw [← List.take_append_drop (k - 1) T]
    rw [List.drop_eq_getElem_cons h1, e1, ek, List.drop_eq_getElem_cons h2, e2]
  have hS : swapAt T k p q = T.take (k - 1) ++ (q :: p :: T.drop (k + 1)) := by
    refine List.ext_getElem? (fun j => ?_)
    rw [swap_get h0 h2]
    have hl : (T.take (k - 1)).length = k - 1 := by rw [List.length_take]; omega
    by_cases ej : j < k - 1
    · rw [if_neg (by omega), if_neg (by omega), List.getElem?_append_left (by omega), List.getElem?_take, if_pos ej]
    · rw [List.getElem?_append_right (by omega), hl]
      by_cases e3 : j = k - 1
      · rw [if_pos e3, e3, Nat.sub_self]; rfl
      · rw [if_neg e3]
        by_cases e4 : j = k
        · rw [if_pos e4, show j - (k - 1) = 1 by omega]; rfl
        · rw [if_neg e4, show j - (k - 1) = (j - (k + 1)) + 2 by omega]
          show _ = (T.drop (k + 1))[j - (k + 1)]?
          rw [List.getElem?_drop, show k + 1 + (j - (k + 1)) = j by omega]
  rw [hS]
  conv => rhs; rw [hT]
  exact (List.Perm.swap p q _).append_left _

/-- In order at last: the list that rises. -/
theorem sorted_some {l : List (Nat × Nat)} {n : Nat} {T : List (Nat × Nat)} (hr : l.Pairwise (fun a b => a.1 + a.2 < b.1)) (hp : T.Perm (cutAt (byLen l) n)) (hs : SortedTo T T.length) : T = someOf l n := by
  have hT : T.Pairwise (fun a b => firstB a b = true) := by
    rw [List.pairwise_iff_getElem]
    intro i j hi hj hij
    unfold firstB
    rw [decide_eq_true_iff]
    exact hs i j _ _ hij hj (List.getElem?_eq_getElem hi) (List.getElem?_eq_getElem hj)
  have hperm : T.Perm (someOf l n) := hp.trans (someOf_perm l n).symm
  refine List.Perm.eq_of_pairwise (le := fun a b => firstB a b = true) ?_ hT (someOf_sorted l n) hperm
  intro a b ha hb h1 h2
  have ha' := hperm.mem_iff.1 ha
  unfold firstB at h1 h2
  rw [decide_eq_true_iff] at h1 h2
  have hf := some_firsts hr n
  obtain ⟨i, hi⟩ := List.mem_iff_getElem?.1 ha'
  obtain ⟨j, hj⟩ := List.mem_iff_getElem?.1 hb
  obtain ⟨hi', ei⟩ := List.getElem?_eq_some_iff.1 hi
  obtain ⟨hj', ej⟩ := List.getElem?_eq_some_iff.1 hj
  rcases Nat.lt_trichotomy i j with h | h | h
  · have := List.pairwise_iff_getElem.1 hf i j hi' hj' h
    rw [ei, ej] at this
    omega
  · subst h
    rw [hi] at hj
    cases hj
    rfl
  · have := List.pairwise_iff_getElem.1 hf j i hj' hi' h
    rw [ei, ej] at this
    omega

end Go.Proofs.Ytfhfjnfejcggcaa
