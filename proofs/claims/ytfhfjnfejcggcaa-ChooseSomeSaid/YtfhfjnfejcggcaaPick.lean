/-
  Proved here: plain facts on which of the gaps is chosen.
  No conditions but those that each theorem names. Nothing of the program is read here.
-/
import Derived.Test.YtfhfjnfejcggcaaFlag
namespace Go.Proofs.Ytfhfjnfejcggcaa

/-- The first gap of at least n. -/
def firstGap (l : List (Nat × Nat)) (n : Nat) : Option (Nat × Nat) := l.find? fun p => decide (n ≤ p.2)

/-- Of the gaps of at least n the shortest, of equal ones the first: one step. -/
def tighter (n : Nat) (best : Option (Nat × Nat)) (p : Nat × Nat) : Option (Nat × Nat) :=
  match best with
  | none => if n ≤ p.2 then some p else none
  | some b => if n ≤ p.2 ∧ p.2 < b.2 then some p else some b

def tightGap (l : List (Nat × Nat)) (n : Nat) : Option (Nat × Nat) := l.foldl (tighter n) none

/-- The error, behind the gaps' own. -/
def pickErr (E : Int) (o : Option (Nat × Nat)) : Int := if E = 0 then (if o = none then 6 else 0) else E
/-- The run of the first n blocks of what was chosen; none: 0. -/
def pickOut (E : Int) (o : Option (Nat × Nat)) (n : Nat) : Nat × Nat :=
  if E = 0 then (match o with | some p => (p.1, n) | none => (0, 0)) else (0, 0)

theorem first_none {l : List (Nat × Nat)} {n : Nat} (h : ∀ (j : Nat) (p : Nat × Nat), l[j]? = some p → p.2 < n) : firstGap l n = none := by
  unfold firstGap
  rw [List.find?_eq_none]
  intro p hp
  obtain ⟨j, hj⟩ := List.mem_iff_getElem?.1 hp
  have := h j p hj
  simp
  omega

theorem first_some : ∀ {l : List (Nat × Nat)} {n i : Nat} {p : Nat × Nat}, (∀ (j : Nat) (q : Nat × Nat), j < i → l[j]? = some q → q.2 < n) → l[i]? = some p → n ≤ p.2 → firstGap l n = some p
  | [], _, _, _, _, h, _ => by simp at h
  | x :: l, n, 0, p, _, h, hn => by
    simp at h
    subst h
    unfold firstGap
    rw [List.find?_cons]
    simp [hn]
  | x :: l, n, i + 1, p, hb, h, hn => by
    have h0 := hb 0 x (by omega) rfl
    have ih := first_some (l := l) (n := n) (i := i) (p := p) (fun j q hj hq => hb (j + 1) q (by omega) (by simpa using hq)) (by simpa using h) hn
    unfold firstGap at ih ⊢
    rw [List.find?_cons]
    have e : decide (n ≤ x.2) = false := decide_eq_false (by omega)
    rw [e]
    exact ih

theorem first_mem {l : List (Nat × Nat)} {n : Nat} {p : Nat × Nat} (h : firstGap l n = some p) : p ∈ l ∧ n ≤ p.2 := by
  unfold firstGap at h
  exact ⟨List.mem_of_find?_eq_some h, by simpa using List.find?_some h⟩

theorem tight_snoc {l : List (Nat × Nat)} {n i : Nat} {p : Nat × Nat} (h : l[i]? = some p) : tightGap (l.take (i + 1)) n = tighter n (tightGap (l.take i) n) p := by
  unfold tightGap
  rw [List.take_add_one, h]
  show List.foldl _ _ (l.take i ++ [p]) = _
  rw [List.foldl_append]
  rfl

end Go.Proofs.Ytfhfjnfejcggcaa
