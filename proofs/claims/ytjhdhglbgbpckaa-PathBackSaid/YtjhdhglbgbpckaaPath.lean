/-
  Said here (for layer 14): paths in plain words: the parts between strokes, what they make of a list of names, names joined; that what is joined is split again, that a path's names joined are no longer than the path, that a name and two points behind a path, and strokes and points between names, change nothing.
  No conditions but those that each theorem names. Nothing of the program is read here.
-/
import Derived.Test.YtjhdhglbgbpckaaLists
namespace Go.Proofs.Ytjhdhglbgbpckaa
set_option linter.unusedVariables false
set_option linter.unusedSimpArgs false

/-- Is it a name? -/
def nmL (n : List Int) : Bool := n.all (fun z => decide (z ≠ 47 ∧ z ≠ 0)) && decide (1 ≤ n.length ∧ n.length ≤ 17 ∧ n ≠ [46] ∧ n ≠ [46, 46])
/-- The parts between strokes. -/
def partsW : List Int → List (List Int)
  | [] => [[]]
  | c :: r => if c = 47 then [] :: partsW r else (match partsW r with | [] => [[c]] | p :: q => (c :: p) :: q)
/-- What parts make of a list of names: 0 and the names, or what is wrong. -/
def foldP (out : List (List Int)) : List (List Int) → Int × List (List Int)
  | [] => (0, out)
  | p :: r => if p = [] ∨ p = [46] then foldP out r else if p = [46, 46] then foldP out.dropLast r else if nmL p = false then (9, []) else if out.length = 16 then (11, []) else foldP (out ++ [p]) r
def splitW (s : List Int) : Int × List (List Int) := if 1024 < s.length then (11, []) else match s with | [] => (2, []) | c :: r => if c = 47 then foldP [] (partsW r) else (2, [])
def joinN (ns : List (List Int)) : List Int := ns.flatMap fun n => 47 :: n
def joinW (ns : List (List Int)) : Int × List Int := if 16 < ns.length then (11, []) else if ns.all nmL then (0, if ns = [] then [47] else joinN ns) else (9, [])

theorem parts_ne : ∀ s : List Int, partsW s ≠ []
  | [] => by decide
  | c :: r => by
    unfold partsW
    split
    · simp
    · cases h : partsW r <;> simp
theorem parts_stroke (r : List Int) : partsW (47 :: r) = [] :: partsW r := by
  show (if (47 : Int) = 47 then [] :: partsW r else _) = _
  rw [if_pos rfl]
theorem parts_other {c : Int} (r : List Int) (h : c ≠ 47) {p : List Int} {q : List (List Int)} (hr : partsW r = p :: q) : partsW (c :: r) = (c :: p) :: q := by
  show (if c = 47 then [] :: partsW r else (match partsW r with | [] => [[c]] | p :: q => (c :: p) :: q)) = _
  rw [if_neg h, hr]
theorem parts_append : ∀ (a b : List Int), partsW (a ++ 47 :: b) = partsW a ++ partsW b
  | [], b => parts_stroke b
  | c :: r, b => by
    have ih := parts_append r b
    by_cases h : c = 47
    · subst h
      rw [List.cons_append, parts_stroke, parts_stroke, ih]
      rfl
    · cases hr : partsW r with
      | nil => exact absurd hr (parts_ne r)
      | cons p q =>
        rw [hr] at ih
        rw [List.cons_append, parts_other _ h ih, parts_other _ h hr]
        rfl
theorem parts_plain : ∀ {n : List Int}, (∀ z ∈ n, z ≠ 47) → partsW n = [n]
  | [], _ => rfl
  | c :: r, h => parts_other r (h c (List.mem_cons_self ..)) (parts_plain (n := r) (fun z hz => h z (List.mem_cons_of_mem _ hz)))

theorem nm_facts {n : List Int} (h : nmL n = true) : (∀ z ∈ n, z ≠ 47 ∧ z ≠ 0) ∧ 1 ≤ n.length ∧ n.length ≤ 17 ∧ n ≠ [46] ∧ n ≠ [46, 46] := by
  unfold nmL at h
  rw [Bool.and_eq_true, List.all_eq_true, decide_eq_true_eq] at h
  exact ⟨fun z hz => by have := h.1 z hz; simpa using this, h.2⟩
theorem nm_parts {n : List Int} (h : nmL n = true) : partsW n = [n] := parts_plain (fun z hz => ((nm_facts h).1 z hz).1)
theorem nm_nil {n : List Int} (h : nmL n = true) : n ≠ [] := fun e => by have := (nm_facts h).2.1; rw [e] at this; exact absurd this (by decide)

theorem fold_cons (out : List (List Int)) (p : List Int) (r : List (List Int)) : foldP out (p :: r) = if p = [] ∨ p = [46] then foldP out r else if p = [46, 46] then foldP out.dropLast r else if nmL p = false then (9, []) else if out.length = 16 then (11, []) else foldP (out ++ [p]) r := rfl
theorem fold_name {out r : List (List Int)} {p : List Int} (h : nmL p = true) (hl : out.length ≠ 16) : foldP out (p :: r) = foldP (out ++ [p]) r := by
  have f := nm_facts h
  rw [fold_cons, if_neg (fun e => e.elim (nm_nil h) f.2.2.2.1), if_neg f.2.2.2.2, if_neg (by rw [h]; decide), if_neg hl]
theorem fold_names : ∀ (ns out : List (List Int)), ns.all nmL = true → out.length + ns.length ≤ 16 → foldP out ns = (0, out ++ ns)
  | [], out, _, _ => by rw [List.append_nil]; rfl
  | n :: r, out, h, hl => by
    rw [List.all_cons, Bool.and_eq_true] at h
    rw [List.length_cons] at hl
    rw [fold_name h.1 (by omega), fold_names r (out ++ [n]) h.2 (by rw [List.length_append, List.length_cons, List.length_nil]; omega), List.append_assoc]
    rfl
theorem fold_append : ∀ (a b out : List (List Int)), foldP out (a ++ b) = if (foldP out a).1 = 0 then foldP (foldP out a).2 b else foldP out a
  | [], b, out => by show foldP out b = if (0 : Int) = 0 then foldP out b else _; rw [if_pos rfl]
  | p :: r, b, out => by
    rw [List.cons_append, fold_cons, fold_cons]
    by_cases h1 : p = [] ∨ p = [46]
    · rw [if_pos h1, if_pos h1]; exact fold_append r b out
    · rw [if_neg h1, if_neg h1]
      by_cases h2 : p = [46, 46]
      · rw [if_pos h2, if_pos h2]; exact fold_append r b out.dropLast
      · rw [if_neg h2, if_neg h2]
        by_cases h3 : nmL p = false
        · rw [if_pos h3, if_pos h3, if_neg (by decide)]
        · rw [if_neg h3, if_neg h3]
          by_cases h4 : out.length = 16
          · rw [if_pos h4, if_pos h4, if_neg (by decide)]
          · rw [if_neg h4, if_neg h4]; exact fold_append r b (out ++ [p])

/-! ### Names joined are split again -/

theorem join_cons (n : List Int) (r : List (List Int)) : joinN (n :: r) = 47 :: (n ++ joinN r) := by unfold joinN; rw [List.flatMap_cons]; rfl
theorem join_parts : ∀ (n : List Int) (r : List (List Int)), (n :: r).all nmL = true → partsW (n ++ joinN r) = n :: r
  | n, [], h => by
    rw [List.all_cons, Bool.and_eq_true] at h
    show partsW (n ++ []) = _
    rw [List.append_nil, nm_parts h.1]
  | n, m :: r, h => by
    have h' := h
    rw [List.all_cons, Bool.and_eq_true] at h'
    rw [join_cons, parts_append, nm_parts h'.1, join_parts m r h'.2]
    rfl
/-- How long names joined are. -/
def sizeN (ns : List (List Int)) : Nat := (ns.map fun n => n.length + 1).sum
theorem join_length (ns : List (List Int)) : (joinN ns).length = sizeN ns := by
  induction ns with
  | nil => rfl
  | cons n r ih => rw [join_cons, List.length_cons, List.length_append, ih]; unfold sizeN; rw [List.map_cons, List.sum_cons]; omega
theorem size_le : ∀ (ns : List (List Int)), ns.all nmL = true → sizeN ns ≤ 18 * ns.length
  | [], _ => by decide
  | n :: r, h => by
    rw [List.all_cons, Bool.and_eq_true] at h
    have h1 := (nm_facts h.1).2.2.1
    have h2 := size_le r h.2
    unfold sizeN at h2 ⊢
    rw [List.map_cons, List.sum_cons, List.length_cons]
    omega
theorem split_joinN {ns : List (List Int)} (h : ns.all nmL = true) (hl : ns.length ≤ 16) (hn : ns ≠ []) : splitW (joinN ns) = (0, ns) := by
  cases ns with
  | nil => exact absurd rfl hn
  | cons n r =>
    have h1 := size_le (n :: r) h
    unfold splitW
    rw [join_length, if_neg (by omega), join_cons]
    show (if (47 : Int) = 47 then foldP [] (partsW (n ++ joinN r)) else _) = _
    rw [if_pos rfl, join_parts n r h, fold_names (n :: r) [] h (by rw [List.length_nil]; omega)]
    rfl
theorem split_join {ns : List (List Int)} (h : ns.all nmL = true) (hl : ns.length ≤ 16) : splitW (joinW ns).2 = (0, ns) := by
  unfold joinW
  rw [if_neg (by omega), if_pos h]
  show splitW (if ns = [] then [47] else joinN ns) = _
  by_cases hn : ns = []
  · subst hn; decide
  · rw [if_neg hn]; exact split_joinN h hl hn

/-! ### What a path's names are -/

def sizeP (ps : List (List Int)) : Nat := (ps.map fun n => n.length + 1).sum
theorem parts_size : ∀ s : List Int, sizeN (partsW s) = s.length + 1
  | [] => rfl
  | c :: r => by
    have ih := parts_size r
    by_cases h : c = 47
    · subst h
      rw [parts_stroke]
      unfold sizeN at ih ⊢
      rw [List.map_cons, List.sum_cons, ih, List.length_cons, List.length_nil]
      omega
    · cases hr : partsW r with
      | nil => exact absurd hr (parts_ne r)
      | cons p q =>
        rw [hr] at ih
        rw [parts_other r h hr]
        unfold sizeN at ih ⊢
        rw [List.map_cons, List.sum_cons] at ih ⊢
        rw [List.length_cons, List.length_cons]
        omega
theorem size_append (a b : List (List Int)) : sizeN (a ++ b) = sizeN a + sizeN b := by unfold sizeN; rw [List.map_append, List.sum_append]
theorem size_dropLast (a : List (List Int)) : sizeN a.dropLast ≤ sizeN a := by
  rcases List.eq_nil_or_concat a with rfl | ⟨b, x, rfl⟩
  · decide
  · rw [List.concat_eq_append, List.dropLast_concat, size_append]; omega
theorem fold_ok : ∀ (ps out l : List (List Int)), foldP out ps = (0, l) → out.all nmL = true → out.length ≤ 16 → l.all nmL = true ∧ l.length ≤ 16 ∧ sizeN l ≤ sizeN out + sizeN ps
  | [], out, l, h, ho, hl => by
    have e : out = l := (Prod.mk.inj h).2
    subst e
    exact ⟨ho, hl, Nat.le_add_right _ _⟩
  | p :: r, out, l, h, ho, hl => by
    have hsz : sizeN (p :: r) = p.length + 1 + sizeN r := by unfold sizeN; rw [List.map_cons, List.sum_cons]
    rw [fold_cons] at h
    by_cases h1 : p = [] ∨ p = [46]
    · rw [if_pos h1] at h
      obtain ⟨i1, i2, i3⟩ := fold_ok r out l h ho hl
      exact ⟨i1, i2, by omega⟩
    · rw [if_neg h1] at h
      by_cases h2 : p = [46, 46]
      · rw [if_pos h2] at h
        have hd : out.dropLast.all nmL = true := by
          rw [List.all_eq_true] at ho ⊢
          exact fun x hx => ho x ((List.dropLast_sublist out).mem hx)
        obtain ⟨i1, i2, i3⟩ := fold_ok r out.dropLast l h hd (by rw [List.length_dropLast]; omega)
        have := size_dropLast out
        exact ⟨i1, i2, by omega⟩
      · rw [if_neg h2] at h
        by_cases h3 : nmL p = false
        · rw [if_pos h3] at h; exact absurd (Prod.mk.inj h).1 (by decide)
        · rw [if_neg h3] at h
          by_cases h4 : out.length = 16
          · rw [if_pos h4] at h; exact absurd (Prod.mk.inj h).1 (by decide)
          · rw [if_neg h4] at h
            rw [Bool.not_eq_false] at h3
            obtain ⟨i1, i2, i3⟩ := fold_ok r (out ++ [p]) l h (by rw [List.all_append, ho]; simp [h3]) (by rw [List.length_append, List.length_cons, List.length_nil]; omega)
            rw [size_append] at i3
            have : sizeN [p] = p.length + 1 := by simp [sizeN]
            exact ⟨i1, i2, by omega⟩
theorem split_facts {s : List Int} {l : List (List Int)} (h : splitW s = (0, l)) : l.all nmL = true ∧ l.length ≤ 16 ∧ sizeN l ≤ s.length ∧ s.length ≤ 1024 ∧ ∃ r, s = 47 :: r ∧ foldP [] (partsW r) = (0, l) := by
  unfold splitW at h
  by_cases h1 : 1024 < s.length
  · rw [if_pos h1] at h; exact absurd (Prod.mk.inj h).1 (by decide)
  · rw [if_neg h1] at h
    cases s with
    | nil => exact absurd (Prod.mk.inj h).1 (by decide)
    | cons c r =>
      have h2 : (if c = 47 then foldP [] (partsW r) else (2, [])) = (0, l) := h
      by_cases hc : c = 47
      · subst hc
        rw [if_pos rfl] at h2
        obtain ⟨i1, i2, i3⟩ := fold_ok _ _ _ h2 rfl (by decide)
        rw [parts_size] at i3
        exact ⟨i1, i2, by rw [List.length_cons]; simpa [sizeN] using i3, by omega, r, rfl, h2⟩
      · rw [if_neg hc] at h2; exact absurd (Prod.mk.inj h2).1 (by decide)

/-! ### A name and two points behind a path -/

theorem split_up {s n : List Int} {l : List (List Int)} (h : splitW s = (0, l)) (hl : l.length < 16) (hn : nmL n = true) (hs : s.length + n.length ≤ 1000) : splitW (s ++ 47 :: (n ++ [47, 46, 46])) = (0, l) := by
  obtain ⟨h1, h2, h3, h4, r, rfl, hf⟩ := split_facts h
  unfold splitW
  rw [if_neg (by simp only [List.length_append, List.length_cons, List.length_nil] at hs ⊢; omega), List.cons_append]
  show (if (47 : Int) = 47 then foldP [] (partsW (r ++ 47 :: (n ++ [47, 46, 46]))) else _) = _
  rw [if_pos rfl, parts_append, show n ++ [47, 46, 46] = n ++ 47 :: [46, 46] from rfl, parts_append, nm_parts hn, show partsW [46, 46] = [[46, 46]] from by decide, fold_append, hf, if_pos rfl]
  show foldP l (n :: [[46, 46]]) = _
  rw [fold_name hn (by omega), fold_cons, if_neg (by decide), if_pos rfl, List.dropLast_concat]
  rfl

/-! ### Strokes and points between names -/

/-- What may stand ahead of a name. -/
def sepL : Nat → List Int
  | 0 => [47]
  | 1 => [47, 47]
  | 2 => [47, 46, 47]
  | _ => [47, 120, 47, 46, 46, 47]
def dotsS (ks : List (Nat × List Int)) : List Int := ks.flatMap fun p => sepL p.1 ++ p.2
theorem dots_cons (p : Nat × List Int) (r : List (Nat × List Int)) : dotsS (p :: r) = sepL p.1 ++ (p.2 ++ dotsS r) := by unfold dotsS; rw [List.flatMap_cons, List.append_assoc]
/-- The parts of what stands ahead of a name, but for the first. -/
def sepP : Nat → List (List Int)
  | 0 => []
  | 1 => [[]]
  | 2 => [[46]]
  | _ => [[120], [46, 46]]
theorem sep_parts (k : Nat) (r : List Int) : partsW (sepL k ++ r) = [] :: (sepP k ++ partsW r) := by
  match k with
  | 0 => exact parts_stroke r
  | 1 => show partsW (47 :: 47 :: r) = _; rw [parts_stroke, parts_stroke]; rfl
  | 2 => show partsW (47 :: ([46] ++ 47 :: r)) = _; rw [parts_stroke, parts_append, show partsW [46] = [[46]] from by decide]; rfl
  | k + 3 => show partsW (47 :: ([120] ++ 47 :: ([46, 46] ++ 47 :: r))) = _; rw [parts_stroke, parts_append, parts_append, show partsW [120] = [[120]] from by decide, show partsW [46, 46] = [[46, 46]] from by decide]; rfl
theorem sep_tail (k : Nat) (r : List Int) : ∃ t, sepL k ++ r = 47 :: t ∧ partsW t = sepP k ++ partsW r := by
  have h := sep_parts k r
  match k with
  | 0 => exact ⟨r, rfl, rfl⟩
  | 1 => refine ⟨47 :: r, rfl, ?_⟩; rw [parts_stroke]; rfl
  | 2 => refine ⟨[46] ++ 47 :: r, rfl, ?_⟩; rw [parts_append, show partsW [46] = [[46]] from by decide]; rfl
  | k + 3 => refine ⟨[120] ++ 47 :: ([46, 46] ++ 47 :: r), rfl, ?_⟩; rw [parts_append, parts_append, show partsW [120] = [[120]] from by decide, show partsW [46, 46] = [[46, 46]] from by decide]; rfl
theorem fold_sep (k : Nat) (out r : List (List Int)) (h : out.length < 16) : foldP out (sepP k ++ r) = foldP out r := by
  match k with
  | 0 => rfl
  | 1 => show foldP out ([] :: r) = _; rw [fold_cons, if_pos (Or.inl rfl)]
  | 2 => show foldP out ([46] :: r) = _; rw [fold_cons, if_pos (Or.inr rfl)]
  | k + 3 =>
    show foldP out ([120] :: [46, 46] :: r) = _
    rw [fold_name (by decide) (by omega), fold_cons, if_neg (by decide), if_pos rfl, List.dropLast_concat]
/-- The parts of names with strokes and points ahead of them, from within the first stroke on. -/
def dotsP (ks : List (Nat × List Int)) : List (List Int) := ks.flatMap fun p => sepP p.1 ++ [p.2]
theorem dots_parts : ∀ (p : Nat × List Int) (r : List (Nat × List Int)), (p :: r).all (fun q => nmL q.2) = true → ∃ t, dotsS (p :: r) = 47 :: t ∧ partsW t = dotsP (p :: r)
  | p, [], h => by
    rw [List.all_cons, Bool.and_eq_true] at h
    obtain ⟨t, h1, h2⟩ := sep_tail p.1 (p.2 ++ [])
    refine ⟨t, by rw [dots_cons]; exact h1, ?_⟩
    rw [h2, List.append_nil, nm_parts h.1]
    unfold dotsP
    simp
  | p, q :: r, h => by
    have h' := h
    rw [List.all_cons, Bool.and_eq_true] at h'
    obtain ⟨u, g1, g2⟩ := dots_parts q r h'.2
    obtain ⟨t, h1, h2⟩ := sep_tail p.1 (p.2 ++ dotsS (q :: r))
    refine ⟨t, by rw [dots_cons]; exact h1, ?_⟩
    rw [h2, g1, parts_append, nm_parts h'.1, g2]
    show _ = (sepP p.1 ++ [p.2]) ++ dotsP (q :: r)
    rw [List.append_assoc]
theorem fold_dots : ∀ (ks : List (Nat × List Int)) (out : List (List Int)), ks.all (fun q => nmL q.2) = true → out.length + ks.length ≤ 16 → foldP out (dotsP ks) = (0, out ++ ks.map (·.2))
  | [], out, _, _ => by rw [List.map_nil, List.append_nil]; rfl
  | p :: r, out, h, hl => by
    rw [List.all_cons, Bool.and_eq_true] at h
    rw [List.length_cons] at hl
    unfold dotsP
    rw [List.flatMap_cons, List.append_assoc, fold_sep _ _ _ (by omega)]
    show foldP out (p.2 :: dotsP r) = _
    rw [fold_name h.1 (by omega), fold_dots r (out ++ [p.2]) h.2 (by rw [List.length_append, List.length_cons, List.length_nil]; omega), List.append_assoc]
    rfl
theorem dots_length : ∀ (ks : List (Nat × List Int)), ks.all (fun q => nmL q.2) = true → (dotsS ks).length ≤ 23 * ks.length
  | [], _ => by decide
  | p :: r, h => by
    rw [List.all_cons, Bool.and_eq_true] at h
    have h1 := (nm_facts h.1).2.2.1
    have h2 := dots_length r h.2
    have h3 : (sepL p.1).length ≤ 6 := by
      match p.1 with
      | 0 => decide
      | 1 => decide
      | 2 => decide
      | k + 3 => exact Nat.le_refl 6
    rw [dots_cons, List.length_append, List.length_append, List.length_cons]
    omega
theorem split_dots {ks : List (Nat × List Int)} (h : ks.all (fun q => nmL q.2) = true) (hl : ks.length ≤ 16) (hn : ks ≠ []) : splitW (dotsS ks) = (0, ks.map (·.2)) := by
  cases ks with
  | nil => exact absurd rfl hn
  | cons p r =>
    have h1 := dots_length (p :: r) h
    obtain ⟨t, h2, h3⟩ := dots_parts p r h
    unfold splitW
    rw [if_neg (by omega), h2]
    show (if (47 : Int) = 47 then foldP [] (partsW t) else _) = _
    rw [if_pos rfl, h3, fold_dots (p :: r) [] h (by rw [List.length_nil]; omega)]
    rfl

end Go.Proofs.Ytjhdhglbgbpckaa
