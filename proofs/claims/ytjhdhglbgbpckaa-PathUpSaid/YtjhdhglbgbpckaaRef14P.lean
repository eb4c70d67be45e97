/-
  Proved here: what the document's own Split (drydockref14) answers.
  The conditions stand at each theorem.
-/
import Derived.Test.YtjhdhglbgbpckaaRef14J
namespace Go.Proofs.Ytjhdhglbgbpckaa
open Go.RowKit
set_option linter.unusedVariables false
set_option linter.unusedSimpArgs false

/-- What is still to come, with a part begun. -/
def contP (out : List (List Int)) (pt rest : List Int) : Int × List (List Int) := foldP out (match partsW rest with | [] => [pt] | p :: q => (pt ++ p) :: q)
theorem cont_begin (out : List (List Int)) (r : List Int) : contP out [] r = foldP out (partsW r) := by
  unfold contP
  cases h : partsW r with
  | nil => exact absurd h (parts_ne r)
  | cons p q => rfl
theorem cont_char {c : Int} (hc : c ≠ 47) (out : List (List Int)) (pt r : List Int) : contP out pt (c :: r) = contP out (pt ++ [c]) r := by
  unfold contP
  cases h : partsW r with
  | nil => exact absurd h (parts_ne r)
  | cons p q => rw [parts_other r hc h]; simp
theorem cont_stroke (out : List (List Int)) (pt r : List Int) : contP out pt (47 :: r) = foldP out (pt :: partsW r) := by
  unfold contP
  rw [parts_stroke]
  simp
theorem cont_end (out : List (List Int)) (pt : List Int) : contP out pt [] = foldP out [pt] := by
  unfold contP
  simp [partsW]

theorem drop_byte {s : ByteArray} {i : Nat} (h : i < s.size) : (bytesOf s).drop i = (s[i].toNat : Int) :: (bytesOf s).drop (i + 1) := by
  have hl : i < (bytesOf s).length := by rw [bytesOf_length]; exact h
  have hg := bytesOf_get h
  rw [List.getElem?_eq_getElem hl] at hg
  rw [List.drop_eq_getElem_cons hl, Option.some.inj hg]
theorem bytesOf_extract {s : ByteArray} {i : Nat} (h : i < s.size) : bytesOf (s.extract i (i + 1)) = [(s[i].toNat : Int)] := by
  unfold bytesOf
  rw [ByteArray.data_extract]
  have hs : i < s.data.size := h
  have : (s.data.extract i (i + 1)).toList = [s.data[i]] := by
    apply List.ext_getElem
    · simp; omega
    · intro j h1 h2
      have : j = 0 := by simp at h2; omega
      subst this
      simp
  rw [this]
  rfl

/-- What stands while a path is split. -/
def Splitting (s : ByteArray) (i : Nat) (part : ByteArray) (ns : List ByteArray) : Prop :=
  (i ≤ s.size → splitW (bytesOf s) = contP (ns.map bytesOf) (bytesOf part) ((bytesOf s).drop i)) ∧ (i = s.size + 1 → splitW (bytesOf s) = (0, ns.map bytesOf))
/-- A part ends. -/
def Ending14 (s : ByteArray) (i : Nat) (part : ByteArray) (ns : List ByteArray) (Q : List (List Int)) : Prop :=
  splitW (bytesOf s) = foldP (ns.map bytesOf) (bytesOf part :: Q) ∧ (i < s.size → Q = partsW ((bytesOf s).drop (i + 1))) ∧ (i = s.size → Q = [])
theorem Splitting.char {s part : ByteArray} {i : Nat} {ns : List ByteArray} (h : Splitting s i part ns) (hi : i < s.size) (hc : (s[i].toNat : Int) ≠ 47) : Splitting s (i + 1) (part ++ s.extract i (i + 1)) ns :=
  ⟨fun _ => by rw [h.1 (by omega), drop_byte hi, cont_char hc, bytesOf_append, bytesOf_extract hi], fun e => by omega⟩
theorem Splitting.stroke {s part : ByteArray} {i : Nat} {ns : List ByteArray} (h : Splitting s i part ns) (hi : i < s.size) (hc : (s[i].toNat : Int) = 47) : ∃ Q, Ending14 s i part ns Q :=
  ⟨_, by rw [h.1 (by omega), drop_byte hi, hc, cont_stroke], fun _ => rfl, fun e => by omega⟩
theorem Splitting.last {s part : ByteArray} {ns : List ByteArray} (h : Splitting s s.size part ns) : ∃ Q, Ending14 s s.size part ns Q :=
  ⟨[], by rw [h.1 (Nat.le_refl _), List.drop_of_length_le (by rw [bytesOf_length]; exact Nat.le_refl _), cont_end], fun e => by omega, fun _ => rfl⟩
theorem Ending14.on {s part : ByteArray} {i : Nat} {ns ns' : List ByteArray} {Q : List (List Int)} (h : Ending14 s i part ns Q) (hi : i ≤ s.size) (hf : foldP (ns.map bytesOf) (bytesOf part :: Q) = foldP (ns'.map bytesOf) Q) : Splitting s (i + 1) ByteArray.empty ns' := by
  refine ⟨fun hl => ?_, fun e => ?_⟩
  · rw [h.1, hf, show bytesOf ByteArray.empty = [] from rfl, cont_begin, h.2.1 (by omega)]
  · rw [h.1, hf, h.2.2 (by omega)]
    rfl

/-- The five ends of a part. -/
theorem end_none {ns : List ByteArray} {part : ByteArray} {Q : List (List Int)} (h : part = ByteArray.empty ∨ part = dot1) : foldP (ns.map bytesOf) (bytesOf part :: Q) = foldP (ns.map bytesOf) Q := by
  rw [fold_cons, if_pos]
  rcases h with rfl | rfl
  · exact Or.inl rfl
  · exact Or.inr rfl
theorem end_up {ns : List ByteArray} {Q : List (List Int)} : foldP (ns.map bytesOf) (bytesOf dot2 :: Q) = foldP (ns.dropLast.map bytesOf) Q := by
  rw [fold_cons, if_neg (by decide), if_pos (by rfl), List.map_dropLast]
theorem not_point {part : ByteArray} (h0 : part ≠ ByteArray.empty) (h1 : part ≠ dot1) : ¬ (bytesOf part = [] ∨ bytesOf part = [46]) := by
  rintro (h | h)
  · exact h0 (bytesOf_inj (by rw [h]; rfl))
  · exact h1 (bytesOf_inj (by rw [h]; rfl))
theorem not_two {part : ByteArray} (h2 : part ≠ dot2) : ¬ bytesOf part = [46, 46] := fun h => h2 (bytesOf_inj (by rw [h]; rfl))
theorem end_bad {ns : List ByteArray} {part : ByteArray} {Q : List (List Int)} (h0 : part ≠ ByteArray.empty) (h1 : part ≠ dot1) (h2 : part ≠ dot2) (hn : named part = false) : foldP (ns.map bytesOf) (bytesOf part :: Q) = (9, []) := by
  rw [fold_cons, if_neg (not_point h0 h1), if_neg (not_two h2), if_pos (by rw [← named_nm]; exact hn)]
theorem end_full {ns : List ByteArray} {part : ByteArray} {Q : List (List Int)} (h0 : part ≠ ByteArray.empty) (h1 : part ≠ dot1) (h2 : part ≠ dot2) (hn : named part = true) (hl : ns.length = 16) : foldP (ns.map bytesOf) (bytesOf part :: Q) = (11, []) := by
  rw [fold_cons, if_neg (not_point h0 h1), if_neg (not_two h2), if_neg (by rw [← named_nm, hn]; decide), if_pos (by rw [List.length_map]; exact hl)]
theorem end_name {ns : List ByteArray} {part : ByteArray} {Q : List (List Int)} (hn : named part = true) (hl : ns.length ≠ 16) : foldP (ns.map bytesOf) (bytesOf part :: Q) = foldP ((ns ++ [part]).map bytesOf) Q := by
  rw [fold_name (by rw [← named_nm]; exact hn) (by rw [List.length_map]; exact hl), List.map_append]
  rfl

end Go.Proofs.Ytjhdhglbgbpckaa
