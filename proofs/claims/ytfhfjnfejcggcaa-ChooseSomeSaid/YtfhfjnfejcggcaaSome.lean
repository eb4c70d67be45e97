/-
  Proved here: plain facts on the gaps that are taken together, the longest first.
  No conditions but those that each theorem names. Nothing of the program is read here.
-/
import Derived.Test.YtfhfjnfejcggcaaPick
namespace Go.Proofs.Ytfhfjnfejcggcaa

/-- Is p taken ahead of q, or is it q? The longer first, of equal ones the first. -/
def aheadB (p q : Nat × Nat) : Bool := decide (q.2 < p.2 ∨ (q.2 = p.2 ∧ p.1 ≤ q.1))
def byLen (l : List (Nat × Nat)) : List (Nat × Nat) := l.mergeSort aheadB
/-- The first of them until there are n blocks. -/
def cutAt : List (Nat × Nat) → Nat → List (Nat × Nat)
  | [], _ => []
  | p :: r, n => if n = 0 then [] else if n ≤ p.2 then [(p.1, n)] else p :: cutAt r (n - p.2)
def firstB (p q : Nat × Nat) : Bool := decide (p.1 ≤ q.1)
def someOf (l : List (Nat × Nat)) (n : Nat) : List (Nat × Nat) := (cutAt (byLen l) n).mergeSort firstB
def someErr (E : Int) (l : List (Nat × Nat)) (n : Nat) : Int := if E = 0 then (if sumG l < n then 6 else 0) else E
def someOut (E : Int) (l : List (Nat × Nat)) (n : Nat) : List (Nat × Nat) := if E = 0 ∧ n ≤ sumG l then someOf l n else []

theorem ahead_trans (a b c : Nat × Nat) (h1 : aheadB a b = true) (h2 : aheadB b c = true) : aheadB a c = true := by
  unfold aheadB at *
  rw [decide_eq_true_iff] at *
  omega
theorem ahead_total (a b : Nat × Nat) : (aheadB a b || aheadB b a) = true := by
  unfold aheadB
  rw [Bool.or_eq_true, decide_eq_true_iff, decide_eq_true_iff]
  omega
theorem ahead_anti {a b : Nat × Nat} (h1 : aheadB a b = true) (h2 : aheadB b a = true) : a = b := by
  unfold aheadB at *
  rw [decide_eq_true_iff] at *
  exact Prod.ext (by omega) (by omega)
theorem first_trans (a b c : Nat × Nat) (h1 : firstB a b = true) (h2 : firstB b c = true) : firstB a c = true := by
  unfold firstB at *
  rw [decide_eq_true_iff] at *
  omega
theorem first_total (a b : Nat × Nat) : (firstB a b || firstB b a) = true := by
  unfold firstB
  rw [Bool.or_eq_true, decide_eq_true_iff, decide_eq_true_iff]
  omega

theorem byLen_perm (l : List (Nat × Nat)) : (byLen l).Perm l := List.mergeSort_perm l _
theorem byLen_sorted (l : List (Nat × Nat)) : (byLen l).Pairwise (fun a b => aheadB a b = true) := List.pairwise_mergeSort ahead_trans ahead_total l
theorem someOf_perm (l : List (Nat × Nat)) (n : Nat) : (someOf l n).Perm (cutAt (byLen l) n) := List.mergeSort_perm _ _
theorem someOf_sorted (l : List (Nat × Nat)) (n : Nat) : (someOf l n).Pairwise (fun a b => firstB a b = true) := List.pairwise_mergeSort first_trans first_total _

theorem sumG_perm {l m : List (Nat × Nat)} (h : l.Perm m) : sumG l = sumG m := by
  induction h with
  | nil => rfl
  | cons x _ ih => show x.2 + _ = x.2 + _; rw [ih]
  | swap x y l => show y.2 + (x.2 + sumG l) = x.2 + (y.2 + sumG l); omega
  | trans _ _ ih1 ih2 => rw [ih1, ih2]

theorem cut_sum : ∀ (l : List (Nat × Nat)) (n : Nat), n ≤ sumG l → sumG (cutAt l n) = n
  | [], n, h => by
    have : n = 0 := by have h' : n ≤ 0 := h; omega
    rw [this]; rfl
  | p :: r, n, h => by
    have h' : n ≤ p.2 + sumG r := h
    unfold cutAt
    by_cases h0 : n = 0
    · rw [if_pos h0, h0]; rfl
    · rw [if_neg h0]
      by_cases h1 : n ≤ p.2
      · rw [if_pos h1]
        show n + 0 = n
        omega
      · rw [if_neg h1]
        show p.2 + sumG (cutAt r (n - p.2)) = n
        rw [cut_sum r (n - p.2) (by omega)]
        omega

/-- Each of those that are taken is the first part of a gap. -/
theorem cut_mem : ∀ (l : List (Nat × Nat)) (n : Nat), (∀ q ∈ l, 1 ≤ q.2) → ∀ p ∈ cutAt l n, ∃ q ∈ l, p.1 = q.1 ∧ 1 ≤ p.2 ∧ p.2 ≤ q.2
  | [], _, _, p, hp => by simp [cutAt] at hp
  | x :: r, n, h1, p, hp => by
    unfold cutAt at hp
    by_cases h0 : n = 0
    · rw [if_pos h0] at hp; simp at hp
    · rw [if_neg h0] at hp
      by_cases hx : n ≤ x.2
      · rw [if_pos hx, List.mem_singleton] at hp
        subst hp
        exact ⟨x, by simp, rfl, by show 1 ≤ n; omega, hx⟩
      · rw [if_neg hx] at hp
        rcases List.mem_cons.1 hp with hp | hp
        · rw [hp]
          exact ⟨x, by simp, rfl, h1 x (by simp), Nat.le_refl _⟩
        · obtain ⟨q, hq, h⟩ := cut_mem r (n - x.2) (fun q hq => h1 q (List.mem_cons_of_mem _ hq)) p hp
          exact ⟨q, List.mem_cons_of_mem _ hq, h⟩

theorem cut_all : ∀ (l : List (Nat × Nat)), (∀ q ∈ l, 1 ≤ q.2) → cutAt l (sumG l) = l
  | [], _ => rfl
  | p :: r, h1 => by
    have hp := h1 p (by simp)
    have e : sumG (p :: r) = p.2 + sumG r := rfl
    unfold cutAt
    rw [e, if_neg (by omega)]
    by_cases h : p.2 + sumG r ≤ p.2
    · rw [if_pos h]
      have hr : sumG r = 0 := by omega
      have hnil : r = [] := by
        cases r with
        | nil => rfl
        | cons q s =>
          have hq := h1 q (by simp)
          have : q.2 + sumG s = 0 := hr
          omega
      rw [hr, hnil]
      rfl
    · rw [if_neg h, show p.2 + sumG r - p.2 = sumG r by omega, cut_all r (fun q hq => h1 q (List.mem_cons_of_mem _ hq))]

theorem Rise.ahead : ∀ {l : List (Nat × Nat)} {lo : Nat}, Rise lo l → ∀ p ∈ l, lo ≤ p.1
  | [], _, _, p, hp => by simp at hp
  | x :: r, lo, h, p, hp => by
    rcases List.mem_cons.1 hp with hp | hp
    · rw [hp]; exact h.1
    · have := Rise.ahead h.2 p hp
      have := h.1
      omega

theorem Rise.pairs : ∀ {l : List (Nat × Nat)} {lo : Nat}, Rise lo l → l.Pairwise (fun a b => a.1 + a.2 < b.1)
  | [], _, _ => List.Pairwise.nil
  | x :: r, lo, h => List.Pairwise.cons (fun b hb => by have := Rise.ahead h.2 b hb; omega) (Rise.pairs h.2)

/-- Those that rise are told by their first blocks. -/
theorem rise_inj {l : List (Nat × Nat)} (h : l.Pairwise (fun a b => a.1 + a.2 < b.1)) : ∀ a b, a ∈ l → b ∈ l → a.1 = b.1 → a = b := by
  induction h with
  | nil => intro a b ha; simp at ha
  | @cons x r hx _ ih =>
    intro a b ha hb e
    rcases List.mem_cons.1 ha with ha | ha
    · rcases List.mem_cons.1 hb with hb | hb
      · rw [ha, hb]
      · have := hx b hb
        rw [ha] at e
        omega
    · rcases List.mem_cons.1 hb with hb | hb
      · have := hx a ha
        rw [hb] at e
        omega
      · exact ih a b ha hb e

theorem someOf_all {l : List (Nat × Nat)} (h : Rise 0 l) (h1 : ∀ q ∈ l, 1 ≤ q.2) : someOf l (sumG l) = l := by
  have hp : (cutAt (byLen l) (sumG l)).Perm l := by
    rw [← sumG_perm (byLen_perm l), cut_all _ (fun q hq => h1 q ((byLen_perm l).mem_iff.1 hq))]
    exact byLen_perm l
  refine List.Perm.eq_of_pairwise (le := fun a b => firstB a b = true) ?_ (someOf_sorted l _) ?_ ((someOf_perm l _).trans hp)
  · intro a b ha hb hab hba
    have ha' := hp.mem_iff.1 ((someOf_perm l _).mem_iff.1 ha)
    unfold firstB at hab hba
    rw [decide_eq_true_iff] at hab hba
    exact rise_inj h.pairs a b ha' hb (by omega)
  · exact h.pairs.imp (fun {a b} hab => by unfold firstB; rw [decide_eq_true_iff]; omega)

theorem tight_none_of : ∀ (l : List (Nat × Nat)) (n : Nat) (o : Option (Nat × Nat)), l.foldl (tighter n) o = none → o = none ∧ ∀ p ∈ l, p.2 < n
  | [], _, o, h => ⟨h, by simp⟩
  | x :: r, n, o, h => by
    have ih := tight_none_of r n (tighter n o x) h
    cases o with
    | none =>
      have h1 := ih.1
      have hx : x.2 < n := by
        show x.2 < n
        have h2 : (if n ≤ x.2 then some x else none) = none := h1
        by_cases hc : n ≤ x.2
        · rw [if_pos hc] at h2; cases h2
        · omega
      exact ⟨rfl, fun p hp => by
        rcases List.mem_cons.1 hp with hp | hp
        · rw [hp]; exact hx
        · exact ih.2 p hp⟩
    | some b =>
      exfalso
      have h2 : (if n ≤ x.2 ∧ x.2 < b.2 then some x else some b) = none := ih.1
      split at h2
      · cases h2
      · cases h2

theorem tight_none {l : List (Nat × Nat)} {n : Nat} (h : tightGap l n = none) : ∀ p ∈ l, p.2 < n := (tight_none_of l n none h).2

/-- Where a number finds room, a smaller one does. -/
theorem less_room {E : Int} {l : List (Nat × Nat)} {n k : Nat} (hk : k ≤ n) (h : pickErr E (firstGap l n) = 0) : pickErr E (tightGap l k) = 0 := by
  unfold pickErr at h ⊢
  by_cases hE : E = 0
  · rw [if_pos hE] at h ⊢
    by_cases hf : firstGap l n = none
    · rw [if_pos hf] at h; exact absurd h (by decide)
    · obtain ⟨p, hp⟩ := Option.ne_none_iff_exists'.1 hf
      have hm := first_mem hp
      rw [if_neg (fun ht => by have := tight_none ht p hm.1; omega)]
  · rw [if_neg hE] at h
    exact absurd h hE

theorem less_some {E : Int} {l : List (Nat × Nat)} {n k : Nat} (hk : k ≤ n) (h : someErr E l n = 0) : someErr E l k = 0 := by
  unfold someErr at h ⊢
  by_cases hE : E = 0
  · rw [if_pos hE] at h ⊢
    by_cases hs : sumG l < n
    · rw [if_pos hs] at h; exact absurd h (by decide)
    · rw [if_neg (by omega)]
  · rw [if_neg hE] at h
    exact absurd h hE

end Go.Proofs.Ytfhfjnfejcggcaa
