/-
  Proved here: plain facts on an entry that is taken away: the ways of the call.
  The conditions stand at each theorem.
-/
import Derived.Test.YtkpgefjbhimmgaaEntAdd2
namespace Go.Proofs.Ytkpgefjbhimmgaa
open Go.RowKit
set_option linter.unusedVariables false
set_option linter.unusedSimpArgs false

theorem remove_ways (bs : List (List PEnt)) (n : ByteArray) : ((findRes bs n).2.2 ≠ 0 ∧ removeRes bs n = ([], 0, (findRes bs n).2.2)) ∨
    (∃ i k : Nat, findRes bs n = ((i : Int), (k : Int), 0) ∧ findIn bs n = some (i, k) ∧ bs.length ≤ 96 ∧ (∀ b ∈ bs, b.length ≤ 3) ∧ removeRes bs n = (removeAt bs i k, (i : Int), 0)) := by
  have hr : removeRes bs n = if checkE bs ⟨0, n⟩ ≠ 0 then ([], 0, checkE bs ⟨0, n⟩) else match findIn bs n with
    | some p => (removeAt bs p.1 p.2, (p.1 : Int), (0 : Int))
    | none => ([], (0 : Int), (4 : Int)) := rfl
  have hf : findRes bs n = if checkE bs ⟨0, n⟩ ≠ 0 then (0, 0, checkE bs ⟨0, n⟩) else match findIn bs n with
    | some p => ((p.1 : Int), (p.2 : Int), (0 : Int))
    | none => ((0 : Int), (0 : Int), (4 : Int)) := rfl
  by_cases hz : checkE bs ⟨0, n⟩ = 0
  · obtain ⟨_, hl, hs⟩ := checkE_ok.1 hz
    rw [if_neg (by rw [hz]; decide)] at hr hf
    cases hi : findIn bs n with
    | none =>
      rw [hi] at hr hf
      left
      rw [hr, hf]
      exact ⟨by decide, rfl⟩
    | some p =>
      rw [hi] at hr hf
      right
      exact ⟨p.1, p.2, hf, rfl, hl, (sound_parts.1 hs).1, hr⟩
  · rw [if_pos hz] at hr hf
    left
    rw [hr, hf]
    exact ⟨hz, rfl⟩

theorem removeAt_set {bs : List (List PEnt)} {i k : Nat} {es : List PEnt} (h : bs[i]? = some es) : removeAt bs i k = bs.set i (es.eraseIdx k) := by
  unfold removeAt
  obtain ⟨hl, rfl⟩ := List.getElem?_eq_some_iff.1 h
  refine List.ext_getElem? (fun j => ?_)
  rw [List.getElem?_modify, List.getElem?_set]
  by_cases e : i = j
  · subst e
    simp [hl]
  · simp [e]

theorem small_erase {es : List PEnt} (k : Nat) (h : smallE es) : smallE (es.eraseIdx k) := fun x hx => h x (List.mem_of_mem_eraseIdx hx)

/-- What Remove answers. -/
def RemDone (w0 : World) (bs : List (List PEnt)) (n : ByteArray) (e : Ending) (w : World) : Prop := AddGives w0 (removeRes bs n) e w

end Go.Proofs.Ytkpgefjbhimmgaa
