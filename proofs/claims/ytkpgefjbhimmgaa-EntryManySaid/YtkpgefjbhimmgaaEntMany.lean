/-
  Said here: a hundred names of three letters, three in a block, in plain words; plain facts on these.
  The conditions stand at each theorem. Nothing of the program is read here.
-/
import Derived.Test.YtkpgefjbhimmgaaEnt
namespace Go.Proofs.Ytkpgefjbhimmgaa
open Go.RowKit
set_option linter.unusedVariables false
set_option linter.unusedSimpArgs false

def nameOf (i : Nat) : ByteArray := ⟨#[110, UInt8.ofNat (97 + i % 26), UInt8.ofNat (97 + i / 26)]⟩
def entOf (i : Nat) : PEnt := ⟨((i % 32 : Nat) : Int), nameOf i⟩
def rowOf (n j : Nat) : List PEnt := (List.range (min 3 (n - 3 * j))).map fun k => entOf (3 * j + k)
def manyB (n : Nat) : List (List PEnt) := (List.range ((n + 2) / 3)).map (rowOf n)

theorem nameOf_inj {i j : Nat} (hi : i < 100) (hj : j < 100) (h : nameOf i = nameOf j) : i = j := by
  unfold nameOf at h
  simp only [ByteArray.mk.injEq, Array.mk.injEq, List.cons.injEq, and_true, true_and] at h
  obtain ⟨h1, h2⟩ := h
  have e1 := congrArg UInt8.toNat h1
  have e2 := congrArg UInt8.toNat h2
  rw [UInt8.toNat_ofNat', UInt8.toNat_ofNat'] at e1 e2
  omega

theorem entOf_right {i : Nat} (h : i < 100) : (entOf i).right = true := by
  have h1 : ∀ i < 100, (entOf i).right = true := by decide +kernel
  exact h1 i h

theorem len_many (n : Nat) : (manyB n).length = (n + 2) / 3 := by unfold manyB; simp

theorem many_at {n i : Nat} (h : 3 * i < n) : (manyB n)[i]? = some (rowOf n i) := by
  unfold manyB
  rw [List.getElem?_map, List.getElem?_range (by omega)]
  rfl
theorem many_out {n i : Nat} (h : n ≤ 3 * i) : (manyB n)[i]? = none := List.getElem?_eq_none (by rw [len_many]; omega)

theorem len_row (n j : Nat) : (rowOf n j).length = min 3 (n - 3 * j) := by unfold rowOf; simp
theorem row_at {n j k : Nat} (h3 : k < 3) (h : 3 * j + k < n) : (rowOf n j)[k]? = some (entOf (3 * j + k)) := by
  unfold rowOf
  rw [List.getElem?_map, List.getElem?_range (by omega)]
  rfl

theorem row_succ_other {n j : Nat} (h : n / 3 ≠ j) : rowOf (n + 1) j = rowOf n j := by
  unfold rowOf
  rw [show min 3 (n + 1 - 3 * j) = min 3 (n - 3 * j) by omega]
theorem row_succ {n : Nat} : rowOf (n + 1) (n / 3) = rowOf n (n / 3) ++ [entOf n] := by
  unfold rowOf
  rw [show min 3 (n + 1 - 3 * (n / 3)) = min 3 (n - 3 * (n / 3)) + 1 by omega, List.range_succ, List.map_append, List.map_cons, List.map_nil, show 3 * (n / 3) + min 3 (n - 3 * (n / 3)) = n by omega]

/-- One more goes behind all. -/
theorem many_succ_in {n : Nat} (h : n % 3 ≠ 0) : manyB (n + 1) = (manyB n).set (n / 3) (rowOf n (n / 3) ++ [entOf n]) := by
  refine List.ext_getElem? (fun j => ?_)
  rw [List.getElem?_set, len_many]
  rcases Nat.lt_or_ge (3 * j) n with hj | hj
  · rw [many_at (by omega : 3 * j < n + 1)]
    by_cases e : n / 3 = j
    · subst e
      rw [if_pos rfl, if_pos (by omega), row_succ]
    · rw [if_neg e, many_at hj, row_succ_other e]
  · rw [many_out (by omega), if_neg (by omega), many_out hj]
theorem many_succ_new {n : Nat} (h : n % 3 = 0) : manyB (n + 1) = manyB n ++ [[entOf n]] := by
  have hl := len_many n
  refine List.ext_getElem? (fun j => ?_)
  rcases Nat.lt_or_ge (3 * j) n with hj | hj
  · rw [many_at (by omega : 3 * j < n + 1), List.getElem?_append_left (by omega), many_at hj, row_succ_other (by omega)]
  · rw [List.getElem?_append_right (by omega), hl]
    by_cases e : n = 3 * j
    · rw [many_at (by omega : 3 * j < n + 1), show j - (n + 2) / 3 = 0 by omega]
      obtain rfl : j = n / 3 := by omega
      rw [row_succ, List.eq_nil_of_length_eq_zero (show (rowOf n (n / 3)).length = 0 by rw [len_row]; omega)]
      rfl
    · rw [many_out (by omega)]
      exact (List.getElem?_eq_none (by simp; omega)).symm

theorem flat_many : ∀ n, (manyB n).flatten = (List.range n).map entOf
  | 0 => rfl
  | n + 1 => by
    rw [List.range_succ, List.map_append, ← flat_many n]
    by_cases h : n % 3 = 0
    · rw [many_succ_new h, List.flatten_append]
      rfl
    · have hl := len_many n
      rw [many_succ_in h]
      have hi : n / 3 < (manyB n).length := by omega
      have hd : (manyB n) = (manyB n).take (n / 3) ++ [rowOf n (n / 3)] := by
        have e1 : (manyB n)[n / 3]'hi = rowOf n (n / 3) := by
          have := many_at (n := n) (i := n / 3) (by omega)
          rw [List.getElem?_eq_getElem hi] at this
          simpa using this
        have e2 : (manyB n).drop (n / 3) = [rowOf n (n / 3)] := by
          rw [List.drop_eq_getElem_cons hi, e1, List.drop_eq_nil_of_le (by omega)]
        rw [← e2, List.take_append_drop]
      rw [List.set_eq_take_append_cons_drop, if_pos hi, List.drop_eq_nil_of_le (show (manyB n).length ≤ n / 3 + 1 by omega)]
      conv => rhs; rw [hd]
      simp

theorem names_many (n : Nat) : namesOf (manyB n) = (List.range n).map nameOf := by
  unfold namesOf
  rw [flat_many, List.map_map]
  rfl

theorem mem_many {n k : Nat} (hn : n ≤ 100) (hk : k < 100) : nameOf k ∈ namesOf (manyB n) ↔ k < n := by
  rw [names_many, List.mem_map]
  constructor
  · rintro ⟨j, hj, e⟩
    rw [List.mem_range] at hj
    have := nameOf_inj (by omega) hk e
    omega
  · exact fun h => ⟨k, List.mem_range.2 h, rfl⟩

theorem three_many {n : Nat} : ∀ b ∈ manyB n, b.length ≤ 3 := fun b hb => by
  obtain ⟨j, _, rfl⟩ := List.mem_map.1 hb
  rw [len_row]
  omega

theorem sound_many {n : Nat} (hn : n ≤ 100) : soundE (manyB n) = true := by
  refine sound_parts.2 ⟨three_many, fun x hx => ?_, ?_⟩
  · rw [flat_many] at hx
    obtain ⟨j, hj, rfl⟩ := List.mem_map.1 hx
    exact entOf_right (by rw [List.mem_range] at hj; omega)
  · rw [names_many]
    unfold List.Nodup
    rw [List.pairwise_map]
    refine List.Pairwise.imp_of_mem ?_ (List.nodup_range (n := n))
    intro i j hi hj hne e
    rw [List.mem_range] at hi hj
    exact hne (nameOf_inj (by omega) (by omega) e)

theorem addIn_at {x : PEnt} : ∀ {bs : List (List PEnt)} {i : Nat} {b : List PEnt}, (∀ j, j < i → ∀ c, bs[j]? = some c → ¬ c.length < 3) → bs[i]? = some b → b.length < 3 → addIn bs x = some (bs.set i (b ++ [x]), i)
  | [], i, b, _, h, _ => by simp at h
  | c :: r, 0, b, _, h, h3 => by
    simp only [List.getElem?_cons_zero, Option.some.injEq] at h
    subst h
    unfold addIn
    rw [if_pos h3]
    rfl
  | c :: r, i + 1, b, hj, h, h3 => by
    simp only [List.getElem?_cons_succ] at h
    unfold addIn
    rw [if_neg (hj 0 (by omega) c rfl), addIn_at (bs := r) (i := i) (fun j hji d hd => hj (j + 1) (by omega) d (by simpa using hd)) h h3]
    rfl
theorem addIn_none {x : PEnt} : ∀ {bs : List (List PEnt)}, (∀ c ∈ bs, ¬ c.length < 3) → addIn bs x = none
  | [], _ => rfl
  | c :: r, h => by
    unfold addIn
    rw [if_neg (h c (List.mem_cons_self ..)), addIn_none (fun d hd => h d (List.mem_cons_of_mem _ hd))]
    rfl

theorem addRes_in {bs a : List (List PEnt)} {x : PEnt} {i : Nat} (hr : x.right = true) (hl : bs.length ≤ 96) (hs : soundE bs = true) (hn : x.name ∉ namesOf bs) (ha : addIn bs x = some (a, i)) : addRes bs x = (a, (i : Int), 0) := by
  unfold addRes
  rw [checkE_ok.2 ⟨hr, hl, hs⟩, findIn_none.2 hn, ha]
  simp
theorem addRes_new {bs : List (List PEnt)} {x : PEnt} (hr : x.right = true) (hl : bs.length < 96) (hs : soundE bs = true) (hn : x.name ∉ namesOf bs) (ha : addIn bs x = none) : addRes bs x = (bs ++ [[x]], (bs.length : Int), 0) := by
  unfold addRes
  rw [checkE_ok.2 ⟨hr, by omega, hs⟩, findIn_none.2 hn, ha]
  simp
  omega

/-- The n-th name is added as the n-th. -/
theorem add_many {n : Nat} (hn : n < 100) : addRes (manyB n) (entOf n) = (manyB (n + 1), ((n / 3 : Nat) : Int), 0) := by
  have hl := len_many n
  have hnot : (entOf n).name ∉ namesOf (manyB n) := fun h => by
    have := (mem_many (by omega) hn).1 h
    omega
  by_cases h : n % 3 = 0
  · rw [addRes_new (entOf_right hn) (by omega) (sound_many (by omega)) hnot (addIn_none (fun c hc => ?_)), many_succ_new h, hl, show (n + 2) / 3 = n / 3 by omega]
    obtain ⟨j, hj, rfl⟩ := List.mem_map.1 hc
    rw [List.mem_range] at hj
    rw [len_row]
    omega
  · rw [addRes_in (entOf_right hn) (by omega) (sound_many (by omega)) hnot (addIn_at (i := n / 3) (fun j hj c hc => ?_) (many_at (by omega)) (by rw [len_row]; omega)), many_succ_in h]
    rw [many_at (by omega)] at hc
    simp only [Option.some.injEq] at hc
    rw [← hc, len_row]
    omega

theorem name_right {k : Nat} (hk : k < 100) : (⟨0, nameOf k⟩ : PEnt).right = true := by
  rw [right_zero]
  exact right_name (x := entOf k) (entOf_right hk)
theorem one_right {k : Nat} (hk : k < 100) : (⟨1, nameOf k⟩ : PEnt).right = true := by
  have h := right_name (x := entOf k) (entOf_right hk)
  unfold PEnt.right
  rw [decide_eq_true (show (0 : Int) ≤ 1 ∧ (1 : Int) < 32 by decide), Bool.true_and]
  exact h

theorem findIn_many {n k : Nat} (hn : n ≤ 100) (hk : k < n) : findIn (manyB n) (nameOf k) = some (k / 3, k % 3) := by
  cases hf : findIn (manyB n) (nameOf k) with
  | none => exact absurd ((mem_many hn (by omega)).2 hk) (findIn_none.1 hf)
  | some p =>
    obtain ⟨i, j⟩ := p
    obtain ⟨x, h1, h2, h3, _⟩ := findIn_some hf
    rw [len_many] at h3
    have hi : 3 * i < n := by omega
    rw [List.getD_eq_getElem?_getD, many_at hi] at h1
    simp only [Option.getD_some] at h1
    have hj : j < (rowOf n i).length := (List.getElem?_eq_some_iff.1 h1).1
    rw [len_row] at hj
    rw [row_at (by omega) (by omega)] at h1
    simp only [Option.some.injEq] at h1
    subst h1
    have := nameOf_inj (by omega) (by omega) h2
    rw [show i = k / 3 by omega, show j = k % 3 by omega]

/-- Each is found in its place, removed, and added again to its block, as the last. -/
theorem find_many {n k : Nat} (hn : n ≤ 100) (hk : k < n) : findRes (manyB n) (nameOf k) = (((k / 3 : Nat) : Int), ((k % 3 : Nat) : Int), 0) := by
  unfold findRes
  rw [checkE_ok.2 ⟨name_right (by omega), by rw [len_many]; omega, sound_many hn⟩, findIn_many hn hk]
  simp
theorem remove_many {n k : Nat} (hn : n ≤ 100) (hk : k < n) : removeRes (manyB n) (nameOf k) = (removeAt (manyB n) (k / 3) (k % 3), ((k / 3 : Nat) : Int), 0) := by
  unfold removeRes
  rw [checkE_ok.2 ⟨name_right (by omega), by rw [len_many]; omega, sound_many hn⟩, findIn_many hn hk]
  simp
theorem again_many {n k : Nat} (hn : n ≤ 100) (hk : k < n) : ∃ (C : List (List PEnt)) (es : List PEnt), addRes (removeAt (manyB n) (k / 3) (k % 3)) ⟨1, nameOf k⟩ = (C, ((k / 3 : Nat) : Int), 0) ∧ C.length = (n + 2) / 3 ∧ C[k / 3]? = some (es ++ [⟨1, nameOf k⟩]) ∧ es.length ≤ 2 := by
  obtain ⟨x, _, _, h3, _, h5, _⟩ := findIn_some (findIn_many hn hk)
  obtain ⟨s1, s2⟩ := sound_removed (sound_many hn) (findIn_many hn hk)
  have hl := len_many n
  have hat : (removeAt (manyB n) (k / 3) (k % 3))[k / 3]? = some ((rowOf n (k / 3)).eraseIdx (k % 3)) := by
    unfold removeAt
    rw [List.getElem?_modify, many_at (by omega)]
    simp
  have hlen : ((rowOf n (k / 3)).eraseIdx (k % 3)).length = min 3 (n - 3 * (k / 3)) - 1 := by
    rw [List.length_eraseIdx, len_row, if_pos (by omega)]
  refine ⟨_, (rowOf n (k / 3)).eraseIdx (k % 3), addRes_in (one_right (by omega)) (by omega) s1 (fun h => ((s2 _).1 h).2 rfl) (addIn_at (i := k / 3) (fun j hj c hc => ?_) hat (by omega)), by rw [List.length_set]; omega, ?_, by omega⟩
  · unfold removeAt at hc
    rw [List.getElem?_modify, many_at (by omega)] at hc
    simp only [show ¬ k / 3 = j by omega, if_false, Option.map_some, Option.some.injEq] at hc
    have hc : rowOf n j = c := by simpa using hc
    rw [← hc, len_row]
    omega
  · rw [List.getElem?_set, if_pos rfl, if_pos (by omega)]

end Go.Proofs.Ytkpgefjbhimmgaa
