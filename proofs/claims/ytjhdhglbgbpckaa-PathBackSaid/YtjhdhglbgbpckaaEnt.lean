/-
  Said here: entries of directories in plain words: names, blocks of entries as bytes, finding, adding, removing; plain facts on these.
  No conditions but those that each theorem names. Nothing of the program is read here.
-/
import Derived.Test.YtjhdhglbgbpckaaFieldNum
import Derived.Test.YtjhdhglbgbpckaaNum
import Derived.Test.YtjhdhglbgbpckaaStep
import Derived.Test.YtjhdhglbgbpckaaSealShort
namespace Go.Proofs.Ytjhdhglbgbpckaa
open Go.RowKit

structure PEnt where
  node : Int
  name : ByteArray
  deriving DecidableEq

def dot1 : ByteArray := ⟨#[46]⟩
def dot2 : ByteArray := ⟨#[46, 46]⟩
def named (s : ByteArray) : Bool := (bytesOf s).all (fun z => decide (z ≠ 47 ∧ z ≠ 0)) && decide (1 ≤ s.size ∧ s.size ≤ 17 ∧ s ≠ dot1 ∧ s ≠ dot2)
def PEnt.right (x : PEnt) : Bool := decide (0 ≤ x.node ∧ x.node < 32) && named x.name
def namesOf (bs : List (List PEnt)) : List ByteArray := bs.flatten.map (·.name)
def soundE (bs : List (List PEnt)) : Bool := bs.all (fun b => decide (b.length ≤ 3)) && (bs.flatten.all PEnt.right && decide (namesOf bs).Nodup)

/-- An entry's 19 bytes. -/
def entBytes (x : PEnt) : List Int := [x.node, (x.name.size : Int)] ++ bytesOf x.name ++ List.replicate (17 - x.name.size) 0
def entB (es : List PEnt) : List Int := [(es.length : Int), 0] ++ es.flatMap entBytes
def entBlock (es : List PEnt) : List Int := sealOf sumS (entB es)
def entErr (es : List PEnt) : Int := if soundE [es] = true then 0 else 2
def entOut (es : List PEnt) : List Int := if soundE [es] = true then entBlock es else []
def readAt (zs : List Int) (i : Nat) : PEnt := ⟨zs.getD (2 + 19 * i) 0, str ((zs.drop (4 + 19 * i)).take (zs.getD (3 + 19 * i) 0).toNat)⟩
def readEnt (zs : List Int) : List PEnt := (List.range (zs.getD 0 0).toNat).map (readAt zs)
def isEnt (zs : List Int) : Bool := decide (zs.length = 64 ∧ zs.getD 0 0 ≤ 3) && (soundE [readEnt zs] && decide (entBlock (readEnt zs) = zs))
def getEnt (zs : List Int) : List PEnt := if isEnt zs = true then readEnt zs else []
def getEntErr (zs : List Int) : Int := if isEnt zs = true then 0 else 2

/-- Where a name is: the block's number, and the entry's in it. -/
def findIn : List (List PEnt) → ByteArray → Option (Nat × Nat)
  | [], _ => none
  | b :: r, n => match b.findIdx? (fun x => decide (x.name = n)) with
    | some k => some (0, k)
    | none => (findIn r n).map fun p => (p.1 + 1, p.2)

/-- May a call go on? -/
def checkE (bs : List (List PEnt)) (x : PEnt) : Int := if x.right = false then 1 else if 96 < bs.length ∨ soundE bs = false then 2 else 0

/-- Behind the last one of the first block of fewer than three. -/
def addIn : List (List PEnt) → PEnt → Option (List (List PEnt) × Nat)
  | [], _ => none
  | b :: r, x => if b.length < 3 then some ((b ++ [x]) :: r, 0) else (addIn r x).map fun p => (b :: p.1, p.2 + 1)

theorem bytesOf_inj {a b : ByteArray} (h : bytesOf a = bytesOf b) : a = b := by
  cases a with | mk a => cases b with | mk b =>
  congr 1
  apply Array.ext'
  unfold bytesOf at h
  simp only at h
  have hinj : Function.Injective (fun b : UInt8 => (b.toNat : Int)) := fun x y e => UInt8.toNat_inj.1 (Int.ofNat_inj.1 e)
  exact (List.map_inj_right (fun x y e => hinj e)).1 h

theorem findIn_none {bs : List (List PEnt)} {n : ByteArray} : findIn bs n = none ↔ n ∉ namesOf bs := by
  induction bs with
  | nil => simp [findIn, namesOf]
  | cons b r ih =>
    unfold findIn namesOf
    rw [List.flatten_cons, List.map_append, List.mem_append]
    cases hb : b.findIdx? (fun x => decide (x.name = n)) with
    | some k =>
      simp only [reduceCtorEq, false_iff]
      intro hnot
      apply hnot
      left
      obtain ⟨hk, hp, _⟩ := List.findIdx?_eq_some_iff_getElem.1 hb
      simp only [decide_eq_true_eq] at hp
      exact List.mem_map.2 ⟨b[k], List.getElem_mem hk, hp⟩
    | none =>
      simp only [Option.map_eq_none_iff]
      rw [ih]
      have hn : n ∉ b.map (·.name) := by
        intro hm
        obtain ⟨x, hx, hxn⟩ := List.mem_map.1 hm
        have := List.findIdx?_eq_none_iff.1 hb x hx
        simp [hxn] at this
      unfold namesOf
      constructor
      · intro h h2
        rcases h2 with h2 | h2
        · exact hn h2
        · exact h h2
      · intro h h2
        exact h (Or.inr h2)

/-- Where a name was added it is found, as the last one of its block. -/
theorem find_addIn {x : PEnt} : ∀ {bs : List (List PEnt)} {a : List (List PEnt)} {n : Nat}, x.name ∉ namesOf bs → addIn bs x = some (a, n) →
    ∃ k, findIn a x.name = some (n, k) ∧ k + 1 = (a.getD n []).length ∧ (a.getD n []).getD k x = x ∧ n < bs.length ∧ a.length = bs.length
  | [], a, n, _, h => by simp [addIn] at h
  | b :: r, a, n, hn, h => by
    have hb : b.findIdx? (fun y => decide (y.name = x.name)) = none := by
      rw [List.findIdx?_eq_none_iff]
      intro y hy
      simp only [decide_eq_false_iff_not]
      intro e
      apply hn
      unfold namesOf
      rw [List.flatten_cons, List.map_append, List.mem_append]
      exact Or.inl (List.mem_map.2 ⟨y, hy, e⟩)
    unfold addIn at h
    by_cases h3 : b.length < 3
    · rw [if_pos h3] at h
      simp only [Option.some.injEq, Prod.mk.injEq] at h
      obtain ⟨rfl, rfl⟩ := h
      refine ⟨b.length, ?_, by simp, by simp, by simp, by simp⟩
      unfold findIn
      rw [List.findIdx?_append, hb]
      simp
    · rw [if_neg h3] at h
      obtain ⟨p, hp, he⟩ := Option.map_eq_some_iff.1 h
      simp only [Prod.mk.injEq] at he
      obtain ⟨rfl, rfl⟩ := he
      have hn' : x.name ∉ namesOf r := fun hm => hn (by
        unfold namesOf at hm ⊢
        rw [List.flatten_cons, List.map_append, List.mem_append]
        exact Or.inr hm)
      obtain ⟨k, i1, i2, i3, i4, i5⟩ := find_addIn hn' (a := p.1) (n := p.2) hp
      refine ⟨k, ?_, by simpa using i2, by simpa using i3, by simp; omega, by simp; omega⟩
      unfold findIn
      rw [hb, i1]
      rfl

/-- What was added: the names are those that were, and the new one, in some order. -/
theorem addIn_perm {x : PEnt} : ∀ {bs : List (List PEnt)} {a : List (List PEnt)} {n : Nat}, addIn bs x = some (a, n) → a.flatten.Perm (x :: bs.flatten)
  | [], a, n, h => by simp [addIn] at h
  | b :: r, a, n, h => by
    unfold addIn at h
    by_cases h3 : b.length < 3
    · rw [if_pos h3] at h
      simp only [Option.some.injEq, Prod.mk.injEq] at h
      obtain ⟨rfl, rfl⟩ := h
      simp only [List.flatten_cons, List.append_assoc, List.cons_append, List.nil_append]
      exact List.perm_middle
    · rw [if_neg h3] at h
      obtain ⟨p, hp, he⟩ := Option.map_eq_some_iff.1 h
      simp only [Prod.mk.injEq] at he
      obtain ⟨rfl, rfl⟩ := he
      simp only [List.flatten_cons]
      exact ((addIn_perm (a := p.1) (n := p.2) hp).append_left b).trans List.perm_middle

theorem addIn_three {x : PEnt} : ∀ {bs : List (List PEnt)} {a : List (List PEnt)} {n : Nat}, addIn bs x = some (a, n) → (∀ b ∈ bs, b.length ≤ 3) → ∀ b ∈ a, b.length ≤ 3
  | [], a, n, h => by simp [addIn] at h
  | b :: r, a, n, h => by
    intro hb c hc
    unfold addIn at h
    by_cases h3 : b.length < 3
    · rw [if_pos h3] at h
      simp only [Option.some.injEq, Prod.mk.injEq] at h
      obtain ⟨rfl, rfl⟩ := h
      rcases List.mem_cons.1 hc with rfl | hc
      · simp; omega
      · exact hb c (List.mem_cons_of_mem _ hc)
    · rw [if_neg h3] at h
      obtain ⟨p, hp, he⟩ := Option.map_eq_some_iff.1 h
      simp only [Prod.mk.injEq] at he
      obtain ⟨rfl, rfl⟩ := he
      rcases List.mem_cons.1 hc with rfl | hc
      · exact hb _ (List.mem_cons_self ..)
      · exact addIn_three (a := p.1) (n := p.2) hp (fun c hc => hb c (List.mem_cons_of_mem _ hc)) c hc

theorem sound_parts {bs : List (List PEnt)} : soundE bs = true ↔ (∀ b ∈ bs, b.length ≤ 3) ∧ (∀ x ∈ bs.flatten, x.right = true) ∧ (namesOf bs).Nodup := by
  unfold soundE
  simp only [Bool.and_eq_true, List.all_eq_true, decide_eq_true_eq]

theorem sound_perm {bs a : List (List PEnt)} {x : PEnt} (h : soundE bs = true) (hx : x.right = true) (hn : x.name ∉ namesOf bs) (h3 : ∀ b ∈ a, b.length ≤ 3) (hp : a.flatten.Perm (x :: bs.flatten)) : soundE a = true := by
  obtain ⟨h1, h2, h4⟩ := sound_parts.1 h
  refine sound_parts.2 ⟨h3, fun y hy => ?_, ?_⟩
  · rcases List.mem_cons.1 (hp.mem_iff.1 hy) with rfl | hy
    · exact hx
    · exact h2 y hy
  · unfold namesOf at *
    rw [(hp.map (·.name)).nodup_iff, List.map_cons, List.nodup_cons]
    exact ⟨hn, h4⟩

/-- What was added is sound. -/
theorem sound_addIn {bs a : List (List PEnt)} {x : PEnt} {n : Nat} (h : soundE bs = true) (hx : x.right = true) (hn : x.name ∉ namesOf bs) (ha : addIn bs x = some (a, n)) : soundE a = true :=
  sound_perm h hx hn (addIn_three ha (sound_parts.1 h).1) (addIn_perm ha)
theorem sound_behind {bs : List (List PEnt)} {x : PEnt} (h : soundE bs = true) (hx : x.right = true) (hn : x.name ∉ namesOf bs) : soundE (bs ++ [[x]]) = true :=
  sound_perm h hx hn (fun b hb => by
    rcases List.mem_append.1 hb with hb | hb
    · exact (sound_parts.1 h).1 b hb
    · rw [List.mem_singleton.1 hb]; simp) (by
    rw [List.flatten_append]
    exact List.perm_append_comm)

/-- The blocks without the k-th entry of the i-th one. -/
def removeAt (bs : List (List PEnt)) (i k : Nat) : List (List PEnt) := bs.modify i (fun b => b.eraseIdx k)

theorem perm_eraseIdx {α : Type} : ∀ {l : List α} {k : Nat} {x : α}, l[k]? = some x → l.Perm (x :: l.eraseIdx k)
  | [], k, x, h => by simp at h
  | y :: r, 0, x, h => by
    simp only [List.getElem?_cons_zero, Option.some.injEq] at h
    subst h
    exact List.Perm.refl _
  | y :: r, k + 1, x, h => by
    simp only [List.getElem?_cons_succ] at h
    rw [List.eraseIdx_cons_succ]
    exact ((perm_eraseIdx h).cons y).trans (List.Perm.swap _ _ _)

/-- What is found, and what is left without it. -/
theorem findIn_some {n : ByteArray} : ∀ {bs : List (List PEnt)} {i k : Nat}, findIn bs n = some (i, k) →
    ∃ x, (bs.getD i [])[k]? = some x ∧ x.name = n ∧ i < bs.length ∧ bs.flatten.Perm (x :: (removeAt bs i k).flatten) ∧ (removeAt bs i k).length = bs.length ∧ ((∀ b ∈ bs, b.length ≤ 3) → ∀ b ∈ removeAt bs i k, b.length ≤ 3)
  | [], i, k, h => by simp [findIn] at h
  | b :: r, i, k, h => by
    unfold findIn at h
    cases hb : b.findIdx? (fun x => decide (x.name = n)) with
    | some j =>
      rw [hb] at h
      simp only [Option.some.injEq, Prod.mk.injEq] at h
      obtain ⟨rfl, rfl⟩ := h
      obtain ⟨hj, hp, _⟩ := List.findIdx?_eq_some_iff_getElem.1 hb
      simp only [decide_eq_true_eq] at hp
      have hx : b[j]? = some b[j] := List.getElem?_eq_getElem hj
      refine ⟨b[j], hx, hp, by simp, ?_, by simp [removeAt], fun h3 c hc => ?_⟩
      · show (b ++ r.flatten).Perm (b[j] :: (b.eraseIdx j ++ r.flatten))
        exact (perm_eraseIdx hx).append_right r.flatten
      · have hc : c ∈ b.eraseIdx j :: r := hc
        rcases List.mem_cons.1 hc with rfl | hc
        · have h1 := h3 b (List.mem_cons_self ..)
          have h2 := (List.eraseIdx_sublist b j).length_le
          omega
        · exact h3 c (List.mem_cons_of_mem _ hc)
    | none =>
      rw [hb] at h
      obtain ⟨p, hp, he⟩ := Option.map_eq_some_iff.1 h
      simp only [Prod.mk.injEq] at he
      obtain ⟨rfl, rfl⟩ := he
      obtain ⟨x, i1, i2, i3, i4, i5, i6⟩ := findIn_some (bs := r) (i := p.1) (k := p.2) hp
      refine ⟨x, by simpa using i1, i2, by simp; omega, ?_, by simp [removeAt], fun h3 c hc => ?_⟩
      · show (b ++ r.flatten).Perm (x :: (b ++ (removeAt r p.1 p.2).flatten))
        exact (i4.append_left b).trans List.perm_middle
      · have hc : c ∈ b :: removeAt r p.1 p.2 := hc
        rcases List.mem_cons.1 hc with rfl | hc
        · exact h3 _ (List.mem_cons_self ..)
        · exact i6 (fun c hc => h3 c (List.mem_cons_of_mem _ hc)) c hc

/-- Behind a removal: sound, and the names are those that were but for the one. -/
theorem sound_removed {bs : List (List PEnt)} {n : ByteArray} {i k : Nat} (h : soundE bs = true) (hf : findIn bs n = some (i, k)) : soundE (removeAt bs i k) = true ∧ ∀ m, m ∈ namesOf (removeAt bs i k) ↔ m ∈ namesOf bs ∧ m ≠ n := by
  obtain ⟨x, h1, rfl, h3, h4, h5, h6⟩ := findIn_some hf
  obtain ⟨s1, s2, s3⟩ := sound_parts.1 h
  have hp := h4.map (·.name)
  have hnd := hp.nodup_iff.1 s3
  rw [List.map_cons, List.nodup_cons] at hnd
  refine ⟨sound_parts.2 ⟨h6 s1, fun y hy => s2 y (h4.mem_iff.2 (List.mem_cons_of_mem _ hy)), hnd.2⟩, fun m => ?_⟩
  unfold namesOf at *
  rw [hp.mem_iff, List.map_cons, List.mem_cons]
  constructor
  · intro hm
    exact ⟨Or.inr hm, fun e => hnd.1 (e ▸ hm)⟩
  · rintro ⟨hm | hm, hne⟩
    · exact absurd hm hne
    · exact hm

/-! ### What the calls are to answer, in plain words (errors: 1 argument, 2 form, 4 none, 5 there, 11 full) -/

def findRes (bs : List (List PEnt)) (n : ByteArray) : Int × Int × Int :=
  if checkE bs ⟨0, n⟩ ≠ 0 then (0, 0, checkE bs ⟨0, n⟩) else match findIn bs n with
    | some p => (p.1, p.2, 0)
    | none => (0, 0, 4)
def addRes (bs : List (List PEnt)) (x : PEnt) : List (List PEnt) × Int × Int :=
  if checkE bs x ≠ 0 then ([], 0, checkE bs x) else if (findIn bs x.name).isSome = true then ([], 0, 5) else match addIn bs x with
    | some p => (p.1, p.2, 0)
    | none => if bs.length = 96 then ([], 0, 11) else (bs ++ [[x]], bs.length, 0)
def removeRes (bs : List (List PEnt)) (n : ByteArray) : List (List PEnt) × Int × Int :=
  if checkE bs ⟨0, n⟩ ≠ 0 then ([], 0, checkE bs ⟨0, n⟩) else match findIn bs n with
    | some p => (removeAt bs p.1 p.2, p.1, 0)
    | none => ([], 0, 4)

theorem checkE_ok {bs : List (List PEnt)} {x : PEnt} : checkE bs x = 0 ↔ x.right = true ∧ bs.length ≤ 96 ∧ soundE bs = true := by
  unfold checkE
  by_cases h1 : x.right = false
  · rw [if_pos h1]
    simp [h1]
  · rw [if_neg h1]
    rw [Bool.not_eq_false] at h1
    by_cases h2 : 96 < bs.length ∨ soundE bs = false
    · rw [if_pos h2]
      simp only [show ¬ (2 : Int) = 0 by decide, false_iff]
      rintro ⟨_, h3, h4⟩
      rcases h2 with h2 | h2
      · omega
      · rw [h4] at h2; cases h2
    · rw [if_neg h2]
      simp only [true_iff]
      refine ⟨h1, by omega, ?_⟩
      rw [← Bool.not_eq_false]
      exact fun e => h2 (Or.inr e)

theorem right_name {x : PEnt} (h : x.right = true) : named x.name = true := by
  unfold PEnt.right at h
  rw [Bool.and_eq_true] at h
  exact h.2
theorem right_zero {n : ByteArray} : (⟨0, n⟩ : PEnt).right = named n := by
  unfold PEnt.right
  rw [decide_eq_true (show (0 : Int) ≤ 0 ∧ (0 : Int) < 32 by decide), Bool.true_and]

/-- What an addition that went through says. -/
theorem add_ok {bs a : List (List PEnt)} {x : PEnt} {n : Int} (h : addRes bs x = (a, n, 0)) :
    x.right = true ∧ soundE bs = true ∧ bs.length ≤ 96 ∧ x.name ∉ namesOf bs ∧ soundE a = true ∧ a.length ≤ 96 ∧ (∀ m, m ∈ namesOf a ↔ m ∈ namesOf bs ∨ m = x.name) ∧
      ∃ i k : Nat, n = i ∧ findIn a x.name = some (i, k) ∧ k + 1 = (a.getD i []).length ∧ (a.getD i [])[k]? = some x ∧ i < a.length := by
  unfold addRes at h
  by_cases hc : checkE bs x ≠ 0
  · rw [if_pos hc] at h
    simp only [Prod.mk.injEq] at h
    exact absurd h.2.2 hc
  · rw [if_neg hc] at h
    obtain ⟨hr, hl, hs⟩ := checkE_ok.1 (Decidable.not_not.1 hc)
    by_cases hf : (findIn bs x.name).isSome = true
    · rw [if_pos hf] at h
      simp only [Prod.mk.injEq] at h
      exact absurd h.2.2 (by decide)
    · rw [if_neg hf] at h
      have hn : x.name ∉ namesOf bs := findIn_none.1 (by simpa using hf)
      have names : ∀ {a : List (List PEnt)}, a.flatten.Perm (x :: bs.flatten) → ∀ m, m ∈ namesOf a ↔ m ∈ namesOf bs ∨ m = x.name := fun hp m => by
        unfold namesOf
        rw [(hp.map (·.name)).mem_iff, List.map_cons, List.mem_cons]
        exact Or.comm
      cases ha : addIn bs x with
      | some p =>
        rw [ha] at h
        simp only [Prod.mk.injEq] at h
        obtain ⟨rfl, rfl, _⟩ := h
        have ha' : addIn bs x = some (p.1, p.2) := ha
        obtain ⟨k, i1, i2, i3, i4, i5⟩ := find_addIn hn ha'
        refine ⟨hr, hs, hl, hn, sound_addIn hs hr hn ha', by omega, names (addIn_perm ha'), p.2, k, rfl, i1, i2, ?_, by omega⟩
        have hk : k < (p.1.getD p.2 []).length := by omega
        rw [List.getElem?_eq_getElem hk, Option.some.injEq]
        rw [List.getD_eq_getElem?_getD, List.getElem?_eq_getElem hk, Option.getD_some] at i3
        exact i3
      | none =>
        rw [ha] at h
        by_cases h96 : bs.length = 96
        · simp only [if_pos h96, Prod.mk.injEq] at h
          exact absurd h.2.2 (by decide)
        · simp only [if_neg h96, Prod.mk.injEq] at h
          obtain ⟨rfl, rfl, _⟩ := h
          have hp : (bs ++ [[x]]).flatten.Perm (x :: bs.flatten) := by
            rw [List.flatten_append]
            exact List.perm_append_comm
          have hg : (bs ++ [[x]]).getD bs.length [] = [x] := by simp
          refine ⟨hr, hs, hl, hn, sound_behind hs hr hn, by simp; omega, names hp, bs.length, 0, rfl, ?_, by rw [hg]; rfl, by rw [hg]; rfl, by simp⟩
          have hfi : findIn bs x.name = none := findIn_none.2 hn
          clear hp hg names h96 ha hf hc hr hl hs hn
          induction bs with
          | nil =>
            show (match [x].findIdx? (fun y => decide (y.name = x.name)) with
              | some k => some (0, k)
              | none => _) = _
            simp
          | cons b r ih =>
            unfold findIn at hfi
            cases hb : b.findIdx? (fun y => decide (y.name = x.name)) with
            | some j => rw [hb] at hfi; cases hfi
            | none =>
              rw [hb] at hfi
              have hfi : (findIn r x.name).map (fun p => (p.1 + 1, p.2)) = none := hfi
              rw [Option.map_eq_none_iff] at hfi
              show findIn (b :: (r ++ [[x]])) x.name = _
              unfold findIn
              rw [hb, ih hfi]
              rfl

/-- What was added is found, taken away, and then not found; all others are where they were. -/
theorem add_back {bs a : List (List PEnt)} {x : PEnt} {n : Int} (h : addRes bs x = (a, n, 0)) (o : ByteArray) :
    ∃ i k : Nat, n = i ∧ i < a.length ∧ k + 1 = (a.getD i []).length ∧ (a.getD i [])[k]? = some x ∧ findRes a x.name = (n, (k : Int), 0) ∧ removeRes a x.name = (removeAt a i k, n, 0) ∧ (findRes (removeAt a i k) x.name).2.2 = 4 ∧ ((findRes bs o).2.2 = (findRes (removeAt a i k) o).2.2 ∨ o = x.name) := by
  obtain ⟨hr, hs, hl, hn, hsa, hla, hna, i, k, rfl, hf, h1, h2, h3⟩ := add_ok h
  have hnm := right_name hr
  have hrem := sound_removed hsa hf
  have hlen : (removeAt a i k).length = a.length := by simp [removeAt]
  have c1 : checkE a ⟨0, x.name⟩ = 0 := checkE_ok.2 ⟨by rw [right_zero]; exact hnm, hla, hsa⟩
  have c2 : checkE (removeAt a i k) ⟨0, x.name⟩ = 0 := checkE_ok.2 ⟨by rw [right_zero]; exact hnm, by omega, hrem.1⟩
  refine ⟨i, k, rfl, h3, h1, h2, ?_, ?_, ?_, ?_⟩
  · unfold findRes
    rw [c1, if_neg (by decide), hf]
  · unfold removeRes
    rw [c1, if_neg (by decide), hf]
  · unfold findRes
    have hno : findIn (removeAt a i k) x.name = none := findIn_none.2 (fun hm => ((hrem.2 _).1 hm).2 rfl)
    rw [c2, if_neg (by decide), hno]
  · by_cases ho : o = x.name
    · exact Or.inr ho
    · left
      unfold findRes
      have e : checkE bs ⟨0, o⟩ = checkE (removeAt a i k) ⟨0, o⟩ := by
        unfold checkE
        rw [hs, hrem.1, if_neg (c := 96 < bs.length ∨ _) (by simp; omega), if_neg (c := 96 < (removeAt a i k).length ∨ _) (by simp; omega)]
      rw [e]
      by_cases hc : checkE (removeAt a i k) ⟨0, o⟩ ≠ 0
      · rw [if_pos hc, if_pos hc]
      · rw [if_neg hc, if_neg hc]
        have hiff : o ∈ namesOf bs ↔ o ∈ namesOf (removeAt a i k) := by
          rw [hrem.2, hna]
          exact ⟨fun h => ⟨Or.inl h, ho⟩, fun h => h.1.resolve_right ho⟩
        cases e1 : findIn bs o with
        | none =>
          rw [findIn_none.2 (fun hm => findIn_none.1 e1 (hiff.2 hm))]
        | some p =>
          cases e2 : findIn (removeAt a i k) o with
          | none => exact absurd (findIn_none.2 (fun hm => findIn_none.1 e2 (hiff.1 hm))) (by rw [e1]; simp)
          | some q => rfl

/-! ### Entries as bytes, and back -/

theorem str_bytesOf (s : ByteArray) : str (bytesOf s) = s := by
  apply bytesOf_inj
  unfold bytesOf
  rw [str_data, List.map_map]
  have e : ((fun b : UInt8 => (b.toNat : Int)) ∘ (fun n : Int => UInt8.ofNat n.toNat)) ∘ (fun b : UInt8 => (b.toNat : Int)) = fun b : UInt8 => (b.toNat : Int) := by
    funext b
    simp
  rw [List.map_map, e]

theorem named_size {s : ByteArray} (h : named s = true) : 1 ≤ s.size ∧ s.size ≤ 17 := by
  unfold named at h
  rw [Bool.and_eq_true, decide_eq_true_eq] at h
  exact ⟨h.2.1, h.2.2.1⟩

theorem entBytes_length {x : PEnt} (h : x.name.size ≤ 17) : (entBytes x).length = 19 := by
  unfold entBytes
  simp only [List.length_append, bytesOf_length, List.length_replicate, List.length_cons, List.length_nil]
  omega

theorem flat_length : ∀ {es : List PEnt}, (∀ x ∈ es, x.name.size ≤ 17) → (es.flatMap entBytes).length = 19 * es.length
  | [], _ => rfl
  | x :: r, h => by
    rw [List.flatMap_cons, List.length_append, entBytes_length (h x (List.mem_cons_self ..)), flat_length (fun y hy => h y (List.mem_cons_of_mem _ hy)), List.length_cons]
    omega

theorem drop_len (l r : List Int) (n : Nat) : (l ++ r).drop (l.length + n) = r.drop n := by
  rw [← List.drop_drop, List.drop_left]

theorem flat_drop : ∀ {es : List PEnt} {i : Nat} {x : PEnt} (rest : List Int), (∀ x ∈ es, x.name.size ≤ 17) → es[i]? = some x → ∃ r, (es.flatMap entBytes ++ rest).drop (19 * i) = x.node :: (x.name.size : Int) :: (bytesOf x.name ++ r)
  | [], i, x, rest, _, h => by simp at h
  | y :: es, 0, x, rest, _, h => by
    simp only [List.getElem?_cons_zero, Option.some.injEq] at h
    subst h
    exact ⟨List.replicate (17 - y.name.size) 0 ++ (es.flatMap entBytes ++ rest), by simp [entBytes]⟩
  | y :: es, i + 1, x, rest, hr, h => by
    simp only [List.getElem?_cons_succ] at h
    obtain ⟨r, e⟩ := flat_drop rest (fun z hz => hr z (List.mem_cons_of_mem _ hz)) h
    refine ⟨r, ?_⟩
    rw [← e, List.flatMap_cons, List.append_assoc, show 19 * (i + 1) = (entBytes y).length + 19 * i by rw [entBytes_length (hr y (List.mem_cons_self ..))]; omega]
    exact drop_len _ _ _

theorem sound_one {es : List PEnt} (h : soundE [es] = true) : es.length ≤ 3 ∧ (∀ x ∈ es, 0 ≤ x.node ∧ x.node < 32 ∧ named x.name = true) := by
  obtain ⟨h1, h2, _⟩ := sound_parts.1 h
  refine ⟨h1 es (List.mem_singleton.2 rfl), fun x hx => ?_⟩
  have hr := h2 x (by simpa using hx)
  unfold PEnt.right at hr
  rw [Bool.and_eq_true, decide_eq_true_eq] at hr
  exact ⟨hr.1.1, hr.1.2, hr.2⟩

theorem entB_bytes {es : List PEnt} (h : soundE [es] = true) : (∀ z ∈ entB es, 0 ≤ z ∧ z ≤ 255) ∧ (entB es).length = 2 + 19 * es.length ∧ (entB es).length ≤ 60 := by
  obtain ⟨h1, h2⟩ := sound_one h
  have hs : ∀ x ∈ es, x.name.size ≤ 17 := fun x hx => (named_size (h2 x hx).2.2).2
  have hl : (entB es).length = 2 + 19 * es.length := by
    unfold entB
    rw [List.length_append, flat_length hs]
    rfl
  refine ⟨fun z hz => ?_, hl, by omega⟩
  unfold entB at hz
  rcases List.mem_append.1 hz with hz | hz
  · simp at hz; omega
  · obtain ⟨x, hx, hz⟩ := List.mem_flatMap.1 hz
    have hx2 := h2 x hx
    have hx3 := hs x hx
    unfold entBytes at hz
    rcases List.mem_append.1 hz with hz | hz
    · rcases List.mem_append.1 hz with hz | hz
      · simp at hz; omega
      · exact bytesOf_bytes _ z hz
    · rw [List.eq_of_mem_replicate hz]; decide

theorem entBlock_length {es : List PEnt} (h : soundE [es] = true) : (entBlock es).length = 64 := seal_short_length (entB_bytes h).2.2

/-- What was written is read as it was. -/
theorem read_ent {es : List PEnt} (h : soundE [es] = true) : readEnt (entBlock es) = es := by
  obtain ⟨h1, h2⟩ := sound_one h
  have hs : ∀ x ∈ es, x.name.size ≤ 17 := fun x hx => (named_size (h2 x hx).2.2).2
  obtain ⟨b1, b2, b3⟩ := entB_bytes h
  have hb : ∃ rest, entBlock es = [(es.length : Int), 0] ++ (es.flatMap entBytes ++ rest) := by
    unfold entBlock
    rw [seal_short b3, List.append_assoc]
    generalize List.replicate (60 - (entB es).length) 0 ++ leB (sumS (entB es ++ List.replicate (60 - (entB es).length) 0)) 4 = R
    exact ⟨R, by unfold entB; exact List.append_assoc _ _ _⟩
  obtain ⟨rest, hb⟩ := hb
  have h0 : (entBlock es).getD 0 0 = es.length := by rw [hb]; rfl
  unfold readEnt
  rw [h0, Int.toNat_natCast]
  refine List.ext_getElem (by rw [List.length_map, List.length_range]) (fun i hi hi2 => ?_)
  rw [List.getElem_map, List.getElem_range]
  have hx : es[i]? = some es[i] := List.getElem?_eq_getElem hi2
  obtain ⟨r, e⟩ := flat_drop rest hs hx
  have hd : (entBlock es).drop (2 + 19 * i) = es[i].node :: (es[i].name.size : Int) :: (bytesOf es[i].name ++ r) := by
    rw [hb, ← e]
    exact drop_len [(es.length : Int), 0] _ _
  have g : ∀ j, (entBlock es).getD (2 + 19 * i + j) 0 = (es[i].node :: (es[i].name.size : Int) :: (bytesOf es[i].name ++ r)).getD j 0 := fun j => by
    rw [← hd, List.getD_eq_getElem?_getD, List.getD_eq_getElem?_getD, List.getElem?_drop]
  have g0 := g 0
  have g1 := g 1
  have d2 : (entBlock es).drop (4 + 19 * i) = bytesOf es[i].name ++ r := by
    rw [show 4 + 19 * i = 2 + 19 * i + 2 by omega, ← List.drop_drop, hd]
    rfl
  unfold readAt
  rw [show 2 + 19 * i = 2 + 19 * i + 0 by omega, g0, show 3 + 19 * i = 2 + 19 * i + 1 by omega, g1, d2]
  show (⟨es[i].node, str ((bytesOf es[i].name ++ r).take (es[i].name.size : Int).toNat)⟩ : PEnt) = es[i]
  rw [Int.toNat_natCast, ← bytesOf_length es[i].name, List.take_left, str_bytesOf]

theorem is_ent {es : List PEnt} (h : soundE [es] = true) : isEnt (entBlock es) = true := by
  have h0 : (entBlock es).getD 0 0 = es.length := by
    unfold entBlock
    rw [seal_short_at (entB_bytes h).2.2 (by rw [(entB_bytes h).2.1]; omega)]
    rfl
  have h3 := (sound_one h).1
  unfold isEnt
  rw [read_ent h, h, h0, entBlock_length h, decide_eq_true (show (64 : Nat) = 64 ∧ ((es.length : Nat) : Int) ≤ 3 from ⟨rfl, by omega⟩)]
  simp
theorem getEnt_block {es : List PEnt} (h : soundE [es] = true) : getEnt (entBlock es) = es ∧ getEntErr (entBlock es) = 0 := by
  unfold getEnt getEntErr
  rw [if_pos (is_ent h), if_pos (is_ent h), read_ent h]
  exact ⟨rfl, rfl⟩
theorem isEnt_block {zs : List Int} (h : isEnt zs = true) : soundE [readEnt zs] = true ∧ entBlock (readEnt zs) = zs := by
  unfold isEnt at h
  simp only [Bool.and_eq_true, decide_eq_true_eq] at h
  exact h.2

end Go.Proofs.Ytjhdhglbgbpckaa
