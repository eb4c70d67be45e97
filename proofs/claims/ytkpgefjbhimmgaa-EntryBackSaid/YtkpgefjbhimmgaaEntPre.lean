/-
  Proved here: plain facts on blocks of entries that are read one entry after the other: what is sound so far, and where each name is so far.
  No conditions but those that each theorem names. Nothing of the program is read here.
-/
import Derived.Test.YtkpgefjbhimmgaaEnt
namespace Go.Proofs.Ytkpgefjbhimmgaa
open Go.RowKit

/-- What has been read: the first i blocks, and of the next one the first k entries. -/
def pre (bs : List (List PEnt)) (i k : Nat) : List (List PEnt) := bs.take i ++ [(bs.getD i []).take k]

theorem namesOf_append (a b : List (List PEnt)) : namesOf (a ++ b) = namesOf a ++ namesOf b := by
  unfold namesOf
  rw [List.flatten_append, List.map_append]

theorem findIn_cons (c : List PEnt) (r : List (List PEnt)) (n : ByteArray) : findIn (c :: r) n = match c.findIdx? (fun x => decide (x.name = n)) with
    | some k => some (0, k)
    | none => (findIn r n).map fun p => (p.1 + 1, p.2) := rfl

theorem findIn_append (n : ByteArray) : ∀ (a b : List (List PEnt)), findIn (a ++ b) n = match findIn a n with
    | some p => some p
    | none => (findIn b n).map (fun p => (p.1 + a.length, p.2))
  | [], b => by
    show findIn b n = (findIn b n).map (fun p => (p.1 + 0, p.2))
    simp
  | c :: a, b => by
    rw [List.cons_append, findIn_cons, findIn_cons]
    cases hc : c.findIdx? (fun x => decide (x.name = n)) with
    | some k => rfl
    | none =>
      simp only
      rw [findIn_append n a b]
      cases ha : findIn a n with
      | some p => rfl
      | none =>
        simp only [Option.map_none, Option.map_map, List.length_cons]
        cases findIn b n <;> simp [Nat.add_assoc]

theorem findIn_empty (n : ByteArray) : findIn [[]] n = none := rfl

theorem findIn_snoc (b : List PEnt) (x : PEnt) (n : ByteArray) : findIn [b ++ [x]] n = match findIn [b] n with
    | some p => some p
    | none => if x.name = n then some (0, b.length) else none := by
  unfold findIn
  rw [List.findIdx?_append]
  cases hb : b.findIdx? (fun y => decide (y.name = n)) with
  | some k => rfl
  | none =>
    by_cases h : x.name = n
    · simp [h, findIn]
    · simp [h, findIn]

theorem pre_zero (bs : List (List PEnt)) (n : ByteArray) : findIn (pre bs 0 0) n = none := by
  unfold pre
  simp [findIn]

theorem pre_take {bs : List (List PEnt)} {i : Nat} (hi : i < bs.length) : pre bs i (bs.getD i []).length = bs.take (i + 1) := by
  unfold pre
  rw [List.take_length, List.take_succ_eq_append_getElem hi]
  simp [List.getD, hi]

theorem find_block_end (a : List (List PEnt)) (n : ByteArray) : findIn (a ++ [[]]) n = findIn a n := by
  rw [findIn_append, findIn_empty]
  cases findIn a n <;> rfl

theorem sound_block_end (a : List (List PEnt)) : soundE (a ++ [[]]) = soundE a := by
  unfold soundE namesOf
  simp

theorem pre_begin (bs : List (List PEnt)) (i : Nat) : pre bs i 0 = bs.take i ++ [[]] := by
  unfold pre
  rw [List.take_zero]

theorem pre_next {bs : List (List PEnt)} {i : Nat} (hi : i < bs.length) : (∀ n, findIn (pre bs (i + 1) 0) n = findIn (pre bs i (bs.getD i []).length) n) ∧ soundE (pre bs (i + 1) 0) = soundE (pre bs i (bs.getD i []).length) := by
  rw [pre_take hi, pre_begin]
  exact ⟨fun n => find_block_end _ n, sound_block_end _⟩

theorem pre_end {bs : List (List PEnt)} {m : Nat} (hm : bs.length = m) : (∀ n, findIn (pre bs m 0) n = findIn bs n) ∧ soundE (pre bs m 0) = soundE bs := by
  subst hm
  rw [pre_begin, List.take_length]
  exact ⟨fun n => find_block_end _ n, sound_block_end _⟩

theorem getD_of {bs : List (List PEnt)} {i : Nat} {es : List PEnt} (h : bs[i]? = some es) : bs.getD i [] = es ∧ i < bs.length := by
  refine ⟨by simp [List.getD, h], ?_⟩
  exact (List.getElem?_eq_some_iff.1 h).1

theorem pre_succ {bs : List (List PEnt)} {i k : Nat} {es : List PEnt} {x : PEnt} (h : bs[i]? = some es) (hx : es[k]? = some x) : pre bs i (k + 1) = bs.take i ++ [es.take k ++ [x]] := by
  obtain ⟨h1, h2⟩ := getD_of h
  unfold pre
  rw [h1, List.take_add_one, hx]
  rfl

theorem pre_at {bs : List (List PEnt)} {i k : Nat} {es : List PEnt} (h : bs[i]? = some es) : pre bs i k = bs.take i ++ [es.take k] := by
  unfold pre
  rw [(getD_of h).1]

/-- One more entry: where each name is. -/
theorem find_step {bs : List (List PEnt)} {i k : Nat} {es : List PEnt} {x : PEnt} (h : bs[i]? = some es) (hx : es[k]? = some x) (hn : findIn (pre bs i k) x.name = none) (n : ByteArray) :
    findIn (pre bs i (k + 1)) n = if x.name = n then some (i, k) else findIn (pre bs i k) n := by
  have hil := (getD_of h).2
  have hkl := (List.getElem?_eq_some_iff.1 hx).1
  rw [pre_at h] at hn
  rw [pre_succ h hx, pre_at h]
  rw [findIn_append] at hn ⊢
  rw [findIn_snoc]
  by_cases e : x.name = n
  · subst e
    rw [if_pos rfl]
    cases h1 : findIn (bs.take i) x.name with
    | some p => rw [h1] at hn; cases hn
    | none =>
      rw [h1] at hn
      simp only [Option.map_eq_none_iff] at hn
      simp only [hn, if_pos]
      simp [List.length_take, Nat.min_eq_left (Nat.le_of_lt hil), Nat.min_eq_left (Nat.le_of_lt hkl)]
  · simp only [if_neg e]
    rw [findIn_append]
    cases h1 : findIn (bs.take i) n with
    | some p => rfl
    | none =>
      cases h2 : findIn [es.take k] n <;> rfl

/-- One more entry: is it sound so far? -/
theorem sound_step {bs : List (List PEnt)} {i k : Nat} {es : List PEnt} {x : PEnt} (h : bs[i]? = some es) (hx : es[k]? = some x) (h3 : es.length ≤ 3) (hs : soundE (pre bs i k) = true) :
    soundE (pre bs i (k + 1)) = true ↔ x.right = true ∧ findIn (pre bs i k) x.name = none := by
  rw [findIn_none, pre_succ h hx]
  rw [pre_at h] at hs ⊢
  rw [sound_parts] at hs ⊢
  obtain ⟨h1, h2, h4⟩ := hs
  have hp : (bs.take i ++ [es.take k ++ [x]]).flatten = (bs.take i ++ [es.take k]).flatten ++ [x] := by simp
  have hkl := (List.getElem?_eq_some_iff.1 hx).1
  constructor
  · rintro ⟨s1, s2, s3⟩
    rw [hp] at s2
    unfold namesOf at s3
    rw [hp, List.map_append, List.nodup_append] at s3
    refine ⟨s2 x (by simp), fun hm => ?_⟩
    exact s3.2.2 x.name hm x.name (by simp) rfl
  · rintro ⟨s1, s2⟩
    refine ⟨fun b hb => ?_, fun y hy => ?_, ?_⟩
    · rcases List.mem_append.1 hb with hb | hb
      · exact h1 b (List.mem_append_left _ hb)
      · rw [List.mem_singleton.1 hb]
        simp
        omega
    · rw [hp] at hy
      rcases List.mem_append.1 hy with hy | hy
      · exact h2 y hy
      · rw [List.mem_singleton.1 hy]; exact s1
    · unfold namesOf
      rw [hp, List.map_append, List.nodup_append]
      refine ⟨h4, by simp, fun a ha b hb e => ?_⟩
      simp at hb
      subst hb
      subst e
      exact s2 ha

/-- What is sound whole is sound so far. -/
theorem sound_pre {bs : List (List PEnt)} {i k : Nat} (hi : i < bs.length) (h : soundE bs = true) : soundE (pre bs i k) = true ∧ (bs.getD i []).length ≤ 3 := by
  have hg : bs.getD i [] = bs[i] := by simp [List.getD, hi]
  rw [sound_parts] at h
  obtain ⟨h1, h2, h4⟩ := h
  have hsub : (pre bs i k).flatten.Sublist bs.flatten := by
    unfold pre
    rw [hg]
    have e : bs = bs.take i ++ bs[i] :: bs.drop (i + 1) := by simp
    have e2 : bs.flatten = (bs.take i).flatten ++ (bs[i] ++ (bs.drop (i + 1)).flatten) := by
      conv => lhs; rw [e]
      rw [List.flatten_append, List.flatten_cons]
    rw [e2, List.flatten_append]
    refine List.Sublist.append (List.Sublist.refl _) ?_
    rw [List.flatten_cons, List.flatten_nil, List.append_nil]
    exact (List.take_sublist _ _).trans (List.sublist_append_left _ _)
  refine ⟨sound_parts.2 ⟨fun b hb => ?_, fun x hx => h2 x (hsub.subset hx), ?_⟩, ?_⟩
  · unfold pre at hb
    rcases List.mem_append.1 hb with hb | hb
    · exact h1 b (List.mem_of_mem_take hb)
    · rw [List.mem_singleton.1 hb, hg, List.length_take]
      have := h1 bs[i] (List.getElem_mem hi)
      omega
  · unfold namesOf
    exact (hsub.map _).nodup h4
  · rw [hg]
    exact h1 _ (List.getElem_mem hi)

theorem sound_begin (bs : List (List PEnt)) : soundE (pre bs 0 0) = true := by
  unfold pre soundE namesOf
  simp

theorem sound_pre_false {bs : List (List PEnt)} {i k : Nat} (hi : i < bs.length) (h : soundE (pre bs i k) = false) : soundE bs = false := by
  cases hs : soundE bs
  · rfl
  · rw [(sound_pre hi hs).1] at h; cases h
theorem sound_long {bs : List (List PEnt)} {i : Nat} (hi : i < bs.length) (h : 3 < (bs.getD i []).length) : soundE bs = false := by
  cases hs : soundE bs
  · rfl
  · have := (sound_pre (k := 0) hi hs).2
    omega

end Go.Proofs.Ytkpgefjbhimmgaa
