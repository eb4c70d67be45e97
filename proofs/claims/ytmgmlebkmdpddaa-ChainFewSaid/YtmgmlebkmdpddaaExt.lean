/-
  Said here: extents in plain words: those of pointers, the pointers of extents, when they are sound; that pointers which were made extents are the pointers again, that the extents are sound and as few as may be, and what their halves are.
  No conditions but those that each theorem names. Nothing of the program is read here.
-/
import Derived.Test.YtmgmlebkmdpddaaTree
namespace Go.Proofs.Ytmgmlebkmdpddaa
set_option linter.unusedVariables false
set_option linter.unusedSimpArgs false

/-- An extent: where in the file, its run's first block, and how many. -/
structure EX where
  a : Int
  f : Int
  c : Int
  deriving DecidableEq

/-- One more pointer ahead of extents: it goes on with the first of them, if it may. -/
def joinE (i x : Int) : List EX → List EX
  | [] => [⟨i, x, 1⟩]
  | e :: r => if e.a = i + 1 ∧ e.f = x + 1 then ⟨i, x, e.c + 1⟩ :: r else ⟨i, x, 1⟩ :: e :: r
/-- The extents of pointers that stand from a place on. -/
def fromE (i : Int) : List Int → List EX
  | [] => []
  | x :: r => if x = 0 then fromE (i + 1) r else joinE i x (fromE (i + 1) r)
/-- Where the block at a place lies; 0: nowhere. -/
def ptrE : List EX → Int → Int
  | [], _ => 0
  | e :: r, k => if e.a ≤ k ∧ k < e.a + e.c then e.f + (k - e.a) else ptrE r k
/-- So many pointers of extents. -/
def allE (l : List EX) (n : Nat) : List Int := (List.range n).map fun (k : Nat) => ptrE l (k : Int)
def inE (e : EX) (b : Int) : Prop := e.f ≤ b ∧ b < e.f + e.c
def okE (e : EX) : Prop := 1 ≤ e.c ∧ 59 ≤ e.f ∧ e.f + e.c ≤ 480 ∧ 0 ≤ e.a ∧ e.a + e.c ≤ 96
/-- May an extent come behind another one? -/
def nextE (e g : EX) : Prop := e.a + e.c ≤ g.a ∧ ¬ (g.a = e.a + e.c ∧ g.f = e.f + e.c)
def chainE : List EX → Prop
  | [] => True
  | [_] => True
  | e :: g :: r => nextE e g ∧ chainE (g :: r)
def farE (e g : EX) : Prop := e.f + e.c ≤ g.f ∨ g.f + g.c ≤ e.f
def soundE12 (l : List EX) : Prop := l.length ≤ 96 ∧ (∀ e ∈ l, okE e) ∧ chainE l ∧ l.Pairwise farE
/-- How many blocks. -/
def sumE (l : List EX) : Int := (l.map (·.c)).sum
/-- At how many places pointers do not go on. -/
def breaksL (p : Int) : List Int → Nat
  | [] => 0
  | x :: r => (if x ≠ 0 ∧ (p = 0 ∨ x ≠ p + 1) then 1 else 0) + breaksL x r

/-! ### What extents of pointers are -/

theorem joinE_cc (i x : Int) (e : EX) (r : List EX) : joinE i x (e :: r) = if e.a = i + 1 ∧ e.f = x + 1 then ⟨i, x, e.c + 1⟩ :: r else ⟨i, x, 1⟩ :: e :: r := rfl
theorem joinE_cons (i x : Int) (l : List EX) : ∃ c r, joinE i x l = ⟨i, x, c⟩ :: r := by
  cases l with
  | nil => exact ⟨1, [], rfl⟩
  | cons e r =>
    rw [joinE_cc]
    split
    · exact ⟨_, _, rfl⟩
    · exact ⟨_, _, rfl⟩

/-- All extents begin from the place on, and have blocks. -/
theorem fromE_low : ∀ (l : List Int) (i : Int), ∀ e ∈ fromE i l, i ≤ e.a ∧ 1 ≤ e.c ∧ e.a + e.c ≤ i + l.length
  | [], _, _, h => by cases h
  | x :: r, i, e, h => by
    have ih := fromE_low r (i + 1)
    rw [List.length_cons]
    unfold fromE at h
    split at h
    · have := ih e h; omega
    · generalize fromE (i + 1) r = l at *
      cases l with
      | nil =>
        simp only [joinE, List.mem_singleton] at h
        subst h
        simp only
        omega
      | cons g s =>
        have hg := ih g (List.mem_cons_self ..)
        rw [joinE_cc] at h
        split at h
        · next hc =>
          rcases List.mem_cons.1 h with rfl | h
          · simp only; omega
          · have := ih e (List.mem_cons_of_mem _ h); omega
        · rcases List.mem_cons.1 h with rfl | h
          · simp only; omega
          · have := ih e h; omega

theorem ptrE_low : ∀ (l : List EX) (i k : Int), (∀ e ∈ l, i ≤ e.a) → k < i → ptrE l k = 0
  | [], _, _, _, _ => rfl
  | e :: r, i, k, h, hk => by
    unfold ptrE
    have := h e (List.mem_cons_self ..)
    rw [if_neg (by omega)]
    exact ptrE_low r i k (fun g hg => h g (List.mem_cons_of_mem _ hg)) hk

theorem ptrE_join {i x : Int} {l : List EX} (hl : ∀ e ∈ l, i + 1 ≤ e.a ∧ 1 ≤ e.c) (k : Int) : ptrE (joinE i x l) k = if k = i then x else ptrE l k := by
  cases l with
  | nil =>
    show (if i ≤ k ∧ k < i + 1 then x + (k - i) else 0) = _
    by_cases h : k = i
    · rw [if_pos (by omega), if_pos h]; omega
    · rw [if_neg (by omega), if_neg h]; rfl
  | cons e r =>
    have he := hl e (List.mem_cons_self ..)
    rw [joinE_cc]
    by_cases hc : e.a = i + 1 ∧ e.f = x + 1
    · rw [if_pos hc]
      show (if i ≤ k ∧ k < i + (e.c + 1) then x + (k - i) else ptrE r k) = if k = i then x else if e.a ≤ k ∧ k < e.a + e.c then e.f + (k - e.a) else ptrE r k
      by_cases h : k = i
      · rw [if_pos (by omega), if_pos h]; omega
      · rw [if_neg h]
        by_cases h2 : e.a ≤ k ∧ k < e.a + e.c
        · rw [if_pos (by omega), if_pos h2]; omega
        · rw [if_neg (by omega), if_neg h2]
    · rw [if_neg hc]
      show (if i ≤ k ∧ k < i + 1 then x + (k - i) else ptrE (e :: r) k) = _
      by_cases h : k = i
      · rw [if_pos (by omega), if_pos h]; omega
      · rw [if_neg (by omega), if_neg h]

/-- Pointers that were made extents are the pointers. -/
theorem ptr_from : ∀ (l : List Int) (i : Int) (j : Nat), ptrE (fromE i l) (i + j) = l.getD j 0
  | [], i, j => by simp [fromE, ptrE]
  | x :: r, i, j => by
    have hlow := fromE_low r (i + 1)
    have h1 : ∀ e ∈ fromE (i + 1) r, i + 1 ≤ e.a ∧ 1 ≤ e.c := fun e he => ⟨(hlow e he).1, (hlow e he).2.1⟩
    unfold fromE
    cases j with
    | zero =>
      split
      · next hx =>
        rw [ptrE_low _ (i + 1) _ (fun e he => (h1 e he).1) (by omega)]
        exact hx.symm
      · rw [ptrE_join h1, if_pos (by omega)]
        rfl
    | succ j =>
      have ih := ptr_from r (i + 1) j
      have e1 : i + ((j + 1 : Nat) : Int) = i + 1 + (j : Int) := by omega
      rw [e1]
      show _ = r.getD j 0
      split
      · exact ih
      · rw [ptrE_join h1, if_neg (by omega)]
        exact ih

theorem all_from (l : List Int) (n : Nat) (h : l.length ≤ n) : allE (fromE 0 l) n = l ++ List.replicate (n - l.length) 0 := by
  rw [← partP_all l n h]
  unfold allE partP
  apply List.map_congr_left
  intro k _
  have := ptr_from l 0 k
  rw [Int.zero_add] at this
  rw [this, Nat.zero_add]

theorem trim_all (l : List Int) (h : l.length ≤ 96) : trimL (allE (fromE 0 l) 96) = trimL l := by rw [all_from l 96 h, trim_append_zeros]

/-- Zeros behind make no other extents. -/
theorem from_zeros : ∀ (n : Nat) (i : Int), fromE i (List.replicate n 0) = []
  | 0, _ => rfl
  | n + 1, i => by rw [List.replicate_succ]; unfold fromE; rw [if_pos rfl]; exact from_zeros n _
theorem from_append_zeros (n : Nat) : ∀ (l : List Int) (i : Int), fromE i (l ++ List.replicate n 0) = fromE i l
  | [], i => by rw [List.nil_append, from_zeros]; rfl
  | x :: r, i => by
    show (if x = 0 then fromE (i + 1) (r ++ List.replicate n 0) else joinE i x (fromE (i + 1) (r ++ List.replicate n 0))) = _
    rw [from_append_zeros n r]
    rfl
theorem from_trim (l : List Int) (i : Int) : fromE i (trimL l) = fromE i l := by
  obtain ⟨n, h⟩ := trim_prefix l
  conv => rhs; rw [h, from_append_zeros]

/-! ### As few as may be -/

theorem joinE_len (i x : Int) (l : List EX) : (joinE i x l).length = l.length + (match l with | [] => 1 | e :: _ => if e.a = i + 1 ∧ e.f = x + 1 then 0 else 1) := by
  cases l with
  | nil => rfl
  | cons e r =>
    rw [joinE_cc]
    split
    · next h => simp [h]
    · next h => simp [h]

/-- Does the first extent begin just there? It does, if the pointer there is one. -/
theorem from_head : ∀ (l : List Int) (i : Int), (∃ e r, fromE i l = e :: r ∧ e.a = i ∧ e.f = l.headD 0 ∧ l.headD 0 ≠ 0) ∨ (l.headD 0 = 0 ∧ ∀ e ∈ fromE i l, i + 1 ≤ e.a)
  | [], i => Or.inr ⟨rfl, fun e h => by cases h⟩
  | x :: r, i => by
    by_cases hx : x = 0
    · refine Or.inr ⟨hx, fun e he => ?_⟩
      unfold fromE at he
      rw [if_pos hx] at he
      exact (fromE_low r (i + 1) e he).1
    · refine Or.inl ?_
      unfold fromE
      rw [if_neg hx]
      obtain ⟨c, s, h⟩ := joinE_cons i x (fromE (i + 1) r)
      exact ⟨_, _, h, rfl, rfl, hx⟩

theorem breaks_from : ∀ (l : List Int) (i p : Int), (fromE i l).length = breaksL p l + (if l.headD 0 ≠ 0 ∧ p ≠ 0 ∧ l.headD 0 = p + 1 then 1 else 0)
  | [], i, p => by simp [fromE, breaksL]
  | x :: r, i, p => by
    have ih := breaks_from r (i + 1) x
    unfold fromE breaksL
    show _ = _ + (if x ≠ 0 ∧ p ≠ 0 ∧ x = p + 1 then 1 else 0)
    by_cases hx : x = 0
    · rw [if_pos hx, if_neg (by simp [hx]), if_neg (by simp [hx]), ih, if_neg (by simp [hx])]
      omega
    · rw [if_neg hx, joinE_len]
      have hp : (if x ≠ 0 ∧ (p = 0 ∨ x ≠ p + 1) then 1 else 0) + (if x ≠ 0 ∧ p ≠ 0 ∧ x = p + 1 then 1 else 0) = 1 := by
        by_cases h1 : p = 0
        · simp [hx, h1]
        · by_cases h2 : x = p + 1
          · rw [if_neg (by simp [h1, h2]), if_pos ⟨hx, h1, h2⟩]
          · rw [if_pos ⟨hx, Or.inr h2⟩, if_neg (by simp [h2])]
      rcases from_head r (i + 1) with ⟨e, s, hr, h1, h2, h3⟩ | ⟨h1, h2⟩
      · rw [hr] at ih ⊢
        simp only
        by_cases hc : r.headD 0 = x + 1
        · rw [if_pos ⟨h3, hx, hc⟩] at ih
          rw [if_pos ⟨h1, by rw [h2, hc]⟩, ih]
          omega
        · rw [if_neg (by simp only [not_and]; intro _ _ h; exact hc h)] at ih
          rw [if_neg (by rw [h2]; intro h; exact hc h.2), ih]
          omega
      · rw [if_neg (fun h => h.1 h1)] at ih
        rw [ih]
        have hm : (match fromE (i + 1) r with | [] => 1 | e :: _ => if e.a = i + 1 ∧ e.f = x + 1 then 0 else 1) = 1 := by
          cases hf : fromE (i + 1) r with
          | nil => rfl
          | cons e s =>
            have := h2 e (by rw [hf]; exact List.mem_cons_self ..)
            simp only
            rw [if_neg (by omega)]
        rw [hm]
        omega

theorem from_breaks (l : List Int) (i : Int) : (fromE i l).length = breaksL 0 l := by
  have := breaks_from l i 0
  rwa [if_neg (by simp), Nat.add_zero] at this

/-! ### Sound -/

/-- The blocks of extents are the pointers that are none of 0. -/
theorem from_blocks : ∀ (l : List Int) (i b : Int), (∃ e ∈ fromE i l, inE e b) ↔ b ∈ nzL l
  | [], i, b => by simp [fromE, nzL]
  | x :: r, i, b => by
    have ih := from_blocks r (i + 1) b
    have hlow := fromE_low r (i + 1)
    unfold fromE
    by_cases hx : x = 0
    · rw [if_pos hx, ih]
      unfold nzL nzB
      simp [hx]
    · rw [if_neg hx]
      have hn : b ∈ nzL (x :: r) ↔ b = x ∨ b ∈ nzL r := by unfold nzL nzB; simp [hx]
      rw [hn, ← ih]
      generalize fromE (i + 1) r = l at *
      cases l with
      | nil =>
        simp only [joinE, List.mem_singleton, exists_eq_left, inE]
        constructor
        · intro h; exact Or.inl (by omega)
        · rintro (h | ⟨e, he, _⟩)
          · omega
          · cases he
      | cons e s =>
        have he := hlow e (List.mem_cons_self ..)
        rw [joinE_cc]
        split
        · next hc =>
          simp only [List.mem_cons, exists_eq_or_imp, inE]
          constructor
          · rintro (h | h)
            · by_cases hb : b = x
              · exact Or.inl hb
              · exact Or.inr (Or.inl (by omega))
            · exact Or.inr (Or.inr h)
          · rintro (h | h | h)
            · exact Or.inl (by omega)
            · exact Or.inl (by omega)
            · exact Or.inr h
        · simp only [List.mem_cons, exists_eq_or_imp, inE]
          constructor
          · rintro (h | h)
            · exact Or.inl (by omega)
            · exact Or.inr h
          · rintro (h | h)
            · exact Or.inl (by omega)
            · exact Or.inr h

theorem inE_far {e g : EX} (he : 1 ≤ e.c) (hg : 1 ≤ g.c) (h : ∀ b, inE e b → ¬ inE g b) : farE e g := by
  unfold farE
  by_cases h1 : e.f + e.c ≤ g.f
  · exact Or.inl h1
  · by_cases h2 : g.f + g.c ≤ e.f
    · exact Or.inr h2
    · exfalso
      by_cases h3 : e.f ≤ g.f
      · exact h g.f ⟨h3, by omega⟩ ⟨Int.le_refl _, by omega⟩
      · exact h e.f ⟨Int.le_refl _, by omega⟩ ⟨by omega, by omega⟩

theorem from_sound : ∀ (l : List Int) (i : Int), 0 ≤ i → i + l.length ≤ 96 → apartL l = true → (∀ e ∈ fromE i l, okE e) ∧ chainE (fromE i l) ∧ (fromE i l).Pairwise farE
  | [], i, _, _, _ => ⟨fun e h => (by cases h), trivial, List.Pairwise.nil⟩
  | x :: r, i, hi, hl, ha => by
    rw [List.length_cons] at hl
    have har : apartL r = true := (apart_append (a := [x]) (b := r) ha).2
    obtain ⟨i1, i2, i3⟩ := from_sound r (i + 1) (by omega) (by omega) har
    have hblk := from_blocks r (i + 1)
    have hlow := fromE_low r (i + 1)
    unfold fromE
    by_cases hx : x = 0
    · rw [if_pos hx]; exact ⟨i1, i2, i3⟩
    · rw [if_neg hx]
      have hxd : 59 ≤ x ∧ x ≤ 479 := by
        unfold apartL at ha
        rw [Bool.and_eq_true, List.all_eq_true] at ha
        have := ha.1 x (List.mem_cons_self ..)
        unfold okP at this
        simp only [decide_eq_true_eq] at this
        omega
      have hxn : x ∉ nzL r := by
        unfold apartL at ha
        rw [Bool.and_eq_true, decide_eq_true_eq] at ha
        have h2 := ha.2
        have e : nzL (x :: r) = x :: nzL r := by unfold nzL nzB; simp [hx]
        rw [e, List.nodup_cons] at h2
        exact h2.1
      have hxf : ∀ e ∈ fromE (i + 1) r, ¬ inE e x := fun e he h => hxn ((hblk x).1 ⟨e, he, h⟩)
      generalize fromE (i + 1) r = l at *
      cases l with
      | nil =>
        refine ⟨fun e he => ?_, trivial, by show [(⟨i, x, 1⟩ : EX)].Pairwise farE; exact List.pairwise_singleton _ _⟩
        simp only [joinE, List.mem_singleton] at he
        subst he
        unfold okE
        simp only
        omega
      | cons g s =>
        have hg := hlow g (List.mem_cons_self ..)
        have gok := i1 g (List.mem_cons_self ..)
        unfold okE at gok
        rw [List.pairwise_cons] at i3
        rw [joinE_cc]
        split
        · next hc =>
          refine ⟨fun e he => ?_, ?_, ?_⟩
          · rcases List.mem_cons.1 he with rfl | he
            · unfold okE; simp only; omega
            · exact i1 e (List.mem_cons_of_mem _ he)
          · cases s with
            | nil => trivial
            | cons k t =>
              obtain ⟨⟨n1, n2⟩, n3⟩ := i2
              refine ⟨⟨by simp only; omega, fun h => n2 ?_⟩, n3⟩
              simp only at h
              omega
          · rw [List.pairwise_cons]
            refine ⟨fun e he => ?_, i3.2⟩
            have h1 := i3.1 e he
            have h2 := hxf e (List.mem_cons_of_mem _ he)
            have h3 := i1 e (List.mem_cons_of_mem _ he)
            unfold farE at h1 ⊢
            unfold inE at h2
            unfold okE at h3
            simp only
            omega
        · next hc =>
          refine ⟨fun e he => ?_, ⟨⟨by simp only; omega, ?_⟩, i2⟩, ?_⟩
          · rcases List.mem_cons.1 he with rfl | he
            · unfold okE; simp only; omega
            · exact i1 e he
          · intro h
            simp only at h
            exact hc (by omega)
          · rw [List.pairwise_cons]
            refine ⟨fun e he => ?_, List.pairwise_cons.2 i3⟩
            have h2 := hxf e he
            have h3 := i1 e he
            unfold farE
            unfold inE at h2
            unfold okE at h3
            simp only
            omega

theorem from_le : ∀ (l : List Int) (i : Int), (fromE i l).length ≤ l.length
  | [], _ => Nat.le_refl _
  | x :: r, i => by
    have := from_le r (i + 1)
    unfold fromE
    rw [List.length_cons]
    split
    · omega
    · rw [joinE_len]
      have h1 : (match fromE (i + 1) r with | [] => 1 | e :: _ => if e.a = i + 1 ∧ e.f = x + 1 then 0 else 1) ≤ 1 := by
        cases fromE (i + 1) r with
        | nil => exact Nat.le_refl _
        | cons e s =>
          show (if e.a = i + 1 ∧ e.f = x + 1 then 0 else 1) ≤ 1
          split <;> decide
      omega

theorem from_sound12 {l : List Int} (h : ptrsOk l = true) : soundE12 (fromE 0 l) := by
  unfold ptrsOk at h
  rw [Bool.and_eq_true, decide_eq_true_eq] at h
  obtain ⟨h1, h2, h3⟩ := from_sound l 0 (by decide) (by omega) h.2
  exact ⟨Nat.le_trans (from_le l 0) h.1, h1, h2, h3⟩

/-! ### How many blocks -/

theorem sum_join (i x : Int) (l : List EX) : sumE (joinE i x l) = sumE l + 1 := by
  cases l with
  | nil => rfl
  | cons e r =>
    rw [joinE_cc]; unfold sumE
    split
    · simp; omega
    · simp; omega

theorem sum_from : ∀ (l : List Int) (i : Int), sumE (fromE i l) = ((nzL l).length : Int)
  | [], _ => rfl
  | x :: r, i => by
    have ih := sum_from r (i + 1)
    unfold fromE
    by_cases hx : x = 0
    · rw [if_pos hx, ih]
      unfold nzL nzB
      simp [hx]
    · rw [if_neg hx, sum_join, ih]
      have e : nzL (x :: r) = x :: nzL r := by unfold nzL nzB; simp [hx]
      rw [e, List.length_cons]
      omega

end Go.Proofs.Ytmgmlebkmdpddaa
