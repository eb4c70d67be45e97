/-
  Proved here: plain facts on what is chosen: the same errors, parts of gaps, each block once, one run where one will do.
  No conditions but those that each theorem names. Nothing of the program is read here.
-/
import Derived.Test.YtfhfjnfejcggcaaSome
namespace Go.Proofs.Ytfhfjnfejcggcaa

theorem tight_all_small : ∀ (l : List (Nat × Nat)) (n : Nat), (∀ p ∈ l, p.2 < n) → l.foldl (tighter n) none = none
  | [], _, _ => rfl
  | x :: r, n, h => by
    have hx := h x (by simp)
    show r.foldl (tighter n) (if n ≤ x.2 then some x else none) = none
    rw [if_neg (by omega)]
    exact tight_all_small r n (fun p hp => h p (List.mem_cons_of_mem _ hp))

theorem first_small {l : List (Nat × Nat)} {n : Nat} (h : firstGap l n = none) : ∀ p ∈ l, p.2 < n := by
  unfold firstGap at h
  rw [List.find?_eq_none] at h
  intro p hp
  have := h p hp
  simpa using this

theorem pick_same (E : Int) (l : List (Nat × Nat)) (n : Nat) : pickErr E (firstGap l n) = pickErr E (tightGap l n) := by
  unfold pickErr
  by_cases h : firstGap l n = none
  · rw [h, show tightGap l n = none from tight_all_small l n (first_small h)]
  · have h2 : tightGap l n ≠ none := fun ht => h (by
      refine first_none (fun j p hj => tight_none ht p (List.mem_of_getElem? hj)))
    rw [if_neg h, if_neg h2]

theorem mem_le_sum : ∀ {l : List (Nat × Nat)} {p : Nat × Nat}, p ∈ l → p.2 ≤ sumG l
  | [], _, h => by simp at h
  | x :: r, p, h => by
    show p.2 ≤ x.2 + sumG r
    rcases List.mem_cons.1 h with h | h
    · rw [h]; omega
    · have := mem_le_sum h; omega

theorem err_same {E : Int} {l : List (Nat × Nat)} {n : Nat} (h : someErr E l n ≠ 0) : pickErr E (firstGap l n) = someErr E l n := by
  unfold someErr at h ⊢
  unfold pickErr
  by_cases hE : E = 0
  · rw [if_pos hE] at h ⊢
    rw [if_pos hE]
    by_cases hs : sumG l < n
    · rw [if_pos hs, if_pos (first_none (fun j p hj => by have := mem_le_sum (List.mem_of_getElem? hj); omega))]
    · rw [if_neg hs] at h; exact absurd rfl h
  · rw [if_neg hE, if_neg hE]

theorem tight_mem_of : ∀ (l : List (Nat × Nat)) (n : Nat) (o : Option (Nat × Nat)) (p : Nat × Nat), l.foldl (tighter n) o = some p → o = some p ∨ (p ∈ l ∧ n ≤ p.2)
  | [], _, _, _, h => Or.inl h
  | x :: r, n, o, p, h => by
    rcases tight_mem_of r n (tighter n o x) p h with h1 | h1
    · cases o with
      | none =>
        have h2 : (if n ≤ x.2 then some x else none) = some p := h1
        by_cases hc : n ≤ x.2
        · rw [if_pos hc] at h2
          cases h2
          exact Or.inr ⟨by simp, hc⟩
        · rw [if_neg hc] at h2; cases h2
      | some b =>
        have h2 : (if n ≤ x.2 ∧ x.2 < b.2 then some x else some b) = some p := h1
        by_cases hc : n ≤ x.2 ∧ x.2 < b.2
        · rw [if_pos hc] at h2
          cases h2
          exact Or.inr ⟨by simp, hc.1⟩
        · rw [if_neg hc] at h2
          exact Or.inl h2
    · exact Or.inr ⟨List.mem_cons_of_mem _ h1.1, h1.2⟩

theorem tight_mem {l : List (Nat × Nat)} {n : Nat} {p : Nat × Nat} (h : tightGap l n = some p) : p ∈ l ∧ n ≤ p.2 := by
  rcases tight_mem_of l n none p h with h | h
  · cases h
  · exact h

theorem first_ahead : ∀ {l : List (Nat × Nat)} {n : Nat} {p q : Nat × Nat}, l.Pairwise (fun a b => a.1 + a.2 < b.1) → firstGap l n = some p → q ∈ l → n ≤ q.2 → p.1 ≤ q.1
  | [], _, _, _, _, h, _, _ => by simp [firstGap] at h
  | x :: r, n, p, q, hp, h, hq, hn => by
    obtain ⟨hx, hr⟩ := List.pairwise_cons.1 hp
    unfold firstGap at h
    rw [List.find?_cons] at h
    by_cases hc : n ≤ x.2
    · rw [decide_eq_true hc] at h
      cases h
      rcases List.mem_cons.1 hq with hq | hq
      · rw [hq]; exact Nat.le_refl _
      · have := hx q hq; omega
    · rw [decide_eq_false hc] at h
      rcases List.mem_cons.1 hq with hq | hq
      · rw [hq] at hn; exact absurd hn hc
      · exact first_ahead hr h hq hn

theorem some_mem {l : List (Nat × Nat)} {n : Nat} (h1 : ∀ q ∈ l, 1 ≤ q.2) : ∀ p ∈ someOf l n, ∃ q ∈ l, p.1 = q.1 ∧ 1 ≤ p.2 ∧ p.2 ≤ q.2 := by
  intro p hp
  have hp := (someOf_perm l n).mem_iff.1 hp
  obtain ⟨q, hq, h⟩ := cut_mem (byLen l) n (fun q hq => h1 q ((byLen_perm l).mem_iff.1 hq)) p hp
  exact ⟨q, (byLen_perm l).mem_iff.1 hq, h⟩

theorem some_sum {l : List (Nat × Nat)} {n : Nat} (h : n ≤ sumG l) : sumG (someOf l n) = n := by
  rw [sumG_perm (someOf_perm l n)]
  exact cut_sum _ _ (by rw [sumG_perm (byLen_perm l)]; exact h)

theorem cut_firsts : ∀ (l : List (Nat × Nat)) (n : Nat), ((cutAt l n).map (·.1)).Sublist (l.map (·.1))
  | [], _ => List.Sublist.slnil
  | p :: r, n => by
    unfold cutAt
    by_cases h0 : n = 0
    · rw [if_pos h0]; exact List.nil_sublist _
    · rw [if_neg h0]
      by_cases h1 : n ≤ p.2
      · rw [if_pos h1]
        exact List.Sublist.cons_cons _ (List.nil_sublist _)
      · rw [if_neg h1]
        exact List.Sublist.cons_cons _ (cut_firsts r (n - p.2))

theorem some_firsts {l : List (Nat × Nat)} (h : l.Pairwise (fun a b => a.1 + a.2 < b.1)) (n : Nat) : (someOf l n).Pairwise (fun a b => a.1 < b.1) := by
  have h1 : (l.map (·.1)).Pairwise (· ≠ ·) := List.pairwise_map.2 (h.imp (fun {a b} hab => by omega))
  have h2 : ((byLen l).map (·.1)).Pairwise (· ≠ ·) := h1.perm ((byLen_perm l).symm.map _) (fun {x y} hxy => Ne.symm hxy)
  have h3 : ((cutAt (byLen l) n).map (·.1)).Pairwise (· ≠ ·) := h2.sublist (cut_firsts _ _)
  have h4 : ((someOf l n).map (·.1)).Pairwise (· ≠ ·) := h3.perm ((someOf_perm l n).symm.map _) (fun {x y} hxy => Ne.symm hxy)
  have h5 := List.pairwise_map.1 h4
  refine (h5.and (someOf_sorted l n)).imp (fun {a b} hab => ?_)
  have h6 := hab.2
  unfold firstB at h6
  rw [decide_eq_true_iff] at h6
  have := hab.1
  omega

theorem pairs_lt : ∀ {l : List (Nat × Nat)}, l.Pairwise (fun a b => a.1 + a.2 < b.1) → ∀ a b, a ∈ l → b ∈ l → a.1 < b.1 → a.1 + a.2 < b.1
  | [], _, a, b, ha, _, _ => by simp at ha
  | x :: r, h, a, b, ha, hb, hlt => by
    obtain ⟨hx, hr⟩ := List.pairwise_cons.1 h
    rcases List.mem_cons.1 ha with ha | ha
    · rcases List.mem_cons.1 hb with hb | hb
      · rw [ha, hb] at hlt; omega
      · rw [ha]; exact hx b hb
    · rcases List.mem_cons.1 hb with hb | hb
      · have := hx a ha; rw [hb] at hlt ⊢; omega
      · exact pairs_lt hr a b ha hb hlt

/-- What is taken rises, and no block is taken twice. -/
theorem some_apart {l : List (Nat × Nat)} (h : l.Pairwise (fun a b => a.1 + a.2 < b.1)) (h1 : ∀ q ∈ l, 1 ≤ q.2) (n : Nat) : (someOf l n).Pairwise (fun a b => a.1 + a.2 ≤ b.1) := by
  have key : ∀ (m : List (Nat × Nat)), (∀ p ∈ m, ∃ q ∈ l, p.1 = q.1 ∧ 1 ≤ p.2 ∧ p.2 ≤ q.2) → m.Pairwise (fun a b => a.1 < b.1) → m.Pairwise (fun a b => a.1 + a.2 ≤ b.1) := by
    intro m hm hp
    induction hp with
    | nil => exact List.Pairwise.nil
    | @cons x r hx _ ih =>
      refine List.Pairwise.cons (fun b hb => ?_) (ih (fun p hp => hm p (List.mem_cons_of_mem _ hp)))
      obtain ⟨q, hq, e1, _, e3⟩ := hm x (by simp)
      obtain ⟨s, hs, d1, _, _⟩ := hm b (List.mem_cons_of_mem _ hb)
      have hlt := hx b hb
      have := pairs_lt h q s hq hs (by omega)
      omega
  exact key _ (some_mem h1) (some_firsts h n)

theorem byLen_head {l : List (Nat × Nat)} {p : Nat × Nat} (hp : p ∈ l) : ∃ q r, byLen l = q :: r ∧ p.2 ≤ q.2 := by
  have hm := (byLen_perm l).mem_iff.2 hp
  have hs := byLen_sorted l
  cases hb : byLen l with
  | nil => rw [hb] at hm; simp at hm
  | cons q r =>
    rw [hb] at hm hs
    refine ⟨q, r, rfl, ?_⟩
    rcases List.mem_cons.1 hm with h | h
    · rw [h]; exact Nat.le_refl _
    · have := (List.pairwise_cons.1 hs).1 p h
      unfold aheadB at this
      rw [decide_eq_true_iff] at this
      omega

/-- Where one run will do there is one. -/
theorem one_run {l : List (Nat × Nat)} {n : Nat} {p : Nat × Nat} (hn : 1 ≤ n) (hp : p ∈ l) (h : n ≤ p.2) : (someOf l n).length = 1 := by
  obtain ⟨q, r, hb, hq⟩ := byLen_head hp
  unfold someOf
  rw [List.length_mergeSort, hb]
  unfold cutAt
  rw [if_neg (by omega), if_pos (by omega)]
  rfl

end Go.Proofs.Ytfhfjnfejcggcaa
