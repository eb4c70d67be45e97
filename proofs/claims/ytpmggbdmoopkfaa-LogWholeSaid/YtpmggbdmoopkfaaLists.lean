/-
  Proved here: plain facts on lists of whole numbers (a part that is set, two that are swapped) and on exclusive-or.
  No conditions but those that each theorem names. Nothing of the program is read here.
-/
namespace Go.Proofs.Ytpmggbdmoopkfaa

theorem take_snoc (l : List Int) (k : Nat) (h : k < l.length) : l.take (k + 1) = l.take k ++ [l.getD k 0] := by
  rw [List.take_succ_eq_append_getElem h]
  simp [List.getD, h]

theorem getD_mem {l : List Int} {k : Nat} (h : k < l.length) : l.getD k 0 ∈ l := by
  simp [List.getD, h]

theorem split_at (l : List Int) (k : Nat) (h : k < l.length) : l = l.take k ++ [l[k]?.getD 0] ++ l.drop (k + 1) := by
  simp [h]

theorem set_at (l : List Int) (k : Nat) (y : Int) (h : k < l.length) : l.set k y = l.take k ++ [y] ++ l.drop (k + 1) := by
  rw [List.set_eq_take_append_cons_drop, if_pos h]; simp

theorem xor_nat (a b : Nat) : a ^^^ b = a ↔ b = 0 := by
  constructor
  · intro h
    have := congrArg (a ^^^ ·) h
    simpa [← Nat.xor_assoc] using this
  · intro h; simp [h]

theorem getD_set (zs : List Int) (k j : Nat) (y : Int) (hk : k < zs.length) : (zs.set k y).getD j 0 = if j = k then y else zs.getD j 0 := by
  by_cases h : j = k
  · subst h; simp [List.getD, hk]
  · have h' : ¬ k = j := fun e => h e.symm
    simp [List.getD, h, List.getElem?_set_ne h']

theorem mem_set {zs : List Int} {k : Nat} {y : Int} (hz : ∀ z ∈ zs, 0 ≤ z ∧ z ≤ 255) (hy : 0 ≤ y ∧ y ≤ 255) : ∀ z ∈ zs.set k y, 0 ≤ z ∧ z ≤ 255 := by
  intro z h
  rcases List.mem_or_eq_of_mem_set h with h | h
  · exact hz z h
  · rw [h]; exact hy

theorem split_two (l : List Int) (k : Nat) (h : k + 1 < l.length) : l = l.take k ++ [l.getD k 0, l.getD (k + 1) 0] ++ l.drop (k + 2) := by
  have h1 : k < l.length := by omega
  have e1 : l.drop k = l[k] :: l.drop (k + 1) := List.drop_eq_getElem_cons h1
  have e2 : l.drop (k + 1) = l[k + 1] :: l.drop (k + 2) := List.drop_eq_getElem_cons h
  have e3 := List.take_append_drop k l
  rw [e1, e2] at e3
  have g1 : l.getD k 0 = l[k] := by simp [List.getD, h1]
  have g2 : l.getD (k + 1) 0 = l[k + 1] := by simp [List.getD, h]
  rw [g1, g2, List.append_assoc]
  exact e3.symm

theorem set_two (l : List Int) (k : Nat) (x y : Int) (h : k + 1 < l.length) : (l.set k y).set (k + 1) x = l.take k ++ [y, x] ++ l.drop (k + 2) := by
  have hl : (l.take k).length = k := by rw [List.length_take]; omega
  have e := split_two l k h
  generalize l.take k = A at *
  generalize l.drop (k + 2) = B at *
  rw [e, List.append_assoc, List.append_assoc, List.set_append_right _ _ (by omega), hl, Nat.sub_self, List.set_append_right _ _ (by omega), hl]
  have e1 : k + 1 - k = 1 := by omega
  rw [e1]
  rfl

theorem take_getD (l : List Int) (n j : Nat) (h : j < n) : (l.take n).getD j 0 = l.getD j 0 := by
  simp [h]

end Go.Proofs.Ytpmggbdmoopkfaa
