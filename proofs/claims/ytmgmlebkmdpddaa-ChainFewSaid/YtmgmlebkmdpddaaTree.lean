/-
  Said here: maps of pointers in plain words: when pointers are sound, how many blocks their map needs, the map, and what blocks are as a map; that what was planned is read as it was.
  No conditions but those that each theorem names. Nothing of the program is read here.
-/
import Derived.Test.YtmgmlebkmdpddaaFieldNum
import Derived.Test.YtmgmlebkmdpddaaNum
import Derived.Test.YtmgmlebkmdpddaaSealShort
namespace Go.Proofs.Ytmgmlebkmdpddaa
set_option linter.unusedVariables false
set_option linter.unusedSimpArgs false

def okP (p : Int) : Bool := decide (p = 0 ∨ 59 ≤ p ∧ p ≤ 479)
def nzB (p : Int) : Bool := decide (p ≠ 0)
def nzL (l : List Int) : List Int := l.filter nzB
/-- Each is 0 or a data block, and no two of these are the same. -/
def apartL (l : List Int) : Bool := l.all okP && decide (nzL l).Nodup
def ptrsOk (l : List Int) : Bool := decide (l.length ≤ 96) && apartL l
/-- So many pointers from one on; 0 behind the end. -/
def partP (l : List Int) (s n : Nat) : List Int := (List.range n).map fun i => l.getD (s + i) 0
def someP (l : List Int) (s n : Nat) : Bool := (partP l s n).any nzB
def underN (l : List Int) : Nat := (someP l 34 30).toNat + ((someP l 64 30).toNat + (someP l 94 30).toNat)
def needP (l : List Int) : Nat := (someP l 4 30).toNat + (if underN l = 0 then 0 else underN l + 1)
/-- A block of pointers. -/
def pageB (l : List Int) : List Int := sealOf sumS (l.flatMap fun p => leB p 2)
def needErr (l : List Int) : Int := if ptrsOk l = true then 0 else 1
def needOut (l : List Int) : Int := if ptrsOk l = true then (needP l : Int) else 0
def dataP (p : Int) : Bool := decide (59 ≤ p ∧ p ≤ 479)
def freshErr (fresh : List Int) (need : Nat) (others : List Int) : Int :=
  if fresh.length < need then 6 else if (fresh.take need).all dataP && apartL (others ++ fresh.take need) then 0 else 1
def planErr (l fresh : List Int) : Int := if ptrsOk l = true then freshErr fresh (needP l) l else 1

def whenB (b : Bool) (p : Int) : Int := if b = true then p else 0
def whenW (b : Bool) (p : Int) (xs : List Int) : List (Int × List Int) := if b = true then [(p, pageB xs)] else []

/-- The map: Single, Double, and the blocks of pointers. -/
def singleP (l fresh : List Int) : Int := whenB (someP l 4 30) (fresh.getD 0 0)
def doubleB (l : List Int) : Bool := decide (underN l ≠ 0)
def doubleP (l fresh : List Int) : Int := whenB (doubleB l) (fresh.getD (someP l 4 30).toNat 0)
def under0 (l fresh : List Int) : Int := whenB (someP l 34 30) (fresh.getD ((someP l 4 30).toNat + 1) 0)
def under1 (l fresh : List Int) : Int := whenB (someP l 64 30) (fresh.getD ((someP l 4 30).toNat + 1 + (someP l 34 30).toNat) 0)
def under2 (l fresh : List Int) : Int := whenB (someP l 94 30) (fresh.getD ((someP l 4 30).toNat + 1 + (someP l 34 30).toNat + (someP l 64 30).toNat) 0)
def writesP (l fresh : List Int) : List (Int × List Int) :=
  whenW (someP l 4 30) (singleP l fresh) (partP l 4 30) ++ (whenW (doubleB l) (doubleP l fresh) [under0 l fresh, under1 l fresh, under2 l fresh] ++
    (whenW (someP l 34 30) (under0 l fresh) (partP l 34 30) ++ (whenW (someP l 64 30) (under1 l fresh) (partP l 64 30) ++ whenW (someP l 94 30) (under2 l fresh) (partP l 94 30))))

/-! ### Reading -/

def words (b : List Int) : List Int := (List.range 30).map fun i => leN b (2 * i) 2
/-- What a block is as a block of pointers. -/
def pageOf (b : List Int) : Option (List Int) :=
  if (decide (b.length = 64 ∧ sealOf sumS b = b) && ((words b).any nzB && apartL (words b))) = true then some (words b) else none
def findW (bs : List (Int × List Int)) (p : Int) : Option (List Int) := (bs.find? fun w => decide (w.1 = p)).map (·.2)
def pageAt (bs : List (Int × List Int)) (p : Int) : Option (List Int) := if p = 0 then some (List.replicate 30 0) else (findW bs p).bind pageOf
/-- Without zeros at the end. -/
def trimL : List Int → List Int
  | [] => []
  | x :: r => if x = 0 ∧ trimL r = [] then [] else x :: trimL r

/-- The pointers of many blocks, one behind the other. -/
def allOf (f : Int → Option (List Int)) : List Int → Option (List Int)
  | [] => some []
  | x :: r => match f x, allOf f r with
    | some a, some b => some (a ++ b)
    | _, _ => none

/-- What a map is read as: its pointers, and its own blocks. -/
def mapOf (d : List Int) (s t : Int) (bs : List (Int × List Int)) : Option (List Int × List Int) :=
  match pageAt bs s, pageAt bs t with
  | some sg, some db => match allOf (pageAt bs) db with
    | some us => if (db.drop 3).any nzB = false ∧ ptrsOk (trimL (d ++ (sg ++ us))) = true ∧ apartL (trimL (d ++ (sg ++ us)) ++ nzL (s :: t :: db)) = true
        then some (trimL (d ++ (sg ++ us)), nzL (s :: t :: db)) else none
    | none => none
  | _, _ => none

/-! ### Plain facts -/

theorem trim_zeros (n : Nat) : trimL (List.replicate n 0) = [] := by
  induction n with
  | zero => rfl
  | succ n ih => show (if (0 : Int) = 0 ∧ trimL (List.replicate n 0) = [] then [] else _) = []; rw [if_pos ⟨rfl, ih⟩]

theorem trim_append_zeros (l : List Int) (n : Nat) : trimL (l ++ List.replicate n 0) = trimL l := by
  induction l with
  | nil => exact trim_zeros n
  | cons x r ih => show (if x = 0 ∧ trimL (r ++ List.replicate n 0) = [] then [] else x :: trimL (r ++ List.replicate n 0)) = _; rw [ih]; rfl

theorem trim_prefix (l : List Int) : ∃ n, l = trimL l ++ List.replicate n 0 := by
  induction l with
  | nil => exact ⟨0, rfl⟩
  | cons x r ih =>
    obtain ⟨n, h⟩ := ih
    by_cases hx : x = 0 ∧ trimL r = []
    · refine ⟨n + 1, ?_⟩
      have e : trimL (x :: r) = [] := if_pos hx
      rw [hx.2, List.nil_append] at h
      rw [e, hx.1, List.replicate_succ, List.nil_append, ← h]
    · refine ⟨n, ?_⟩
      have e : trimL (x :: r) = x :: trimL r := if_neg hx
      rw [e, List.cons_append, ← h]

theorem nz_zeros (n : Nat) : nzL (List.replicate n 0) = [] := by
  unfold nzL
  rw [List.filter_eq_nil_iff]
  intro a ha
  rw [List.eq_of_mem_replicate ha]
  decide

theorem nz_append (a b : List Int) : nzL (a ++ b) = nzL a ++ nzL b := List.filter_append ..

theorem nz_trim (l : List Int) : nzL (trimL l) = nzL l := by
  obtain ⟨n, h⟩ := trim_prefix l
  conv => rhs; rw [h, nz_append, nz_zeros, List.append_nil]

theorem apart_trim {l r : List Int} : apartL (trimL l ++ r) = apartL (l ++ r) := by
  obtain ⟨n, h⟩ := trim_prefix l
  unfold apartL
  rw [nz_append, nz_append, nz_trim, List.all_append, List.all_append]
  conv => rhs; rw [h]
  rw [List.all_append, nz_append, nz_zeros, List.append_nil, nz_trim]
  have : (List.replicate n (0 : Int)).all okP = true := by
    rw [List.all_eq_true]
    intro x hx
    rw [List.eq_of_mem_replicate hx]
    decide
  rw [this, Bool.and_true]

theorem partP_length (l : List Int) (s n : Nat) : (partP l s n).length = n := by unfold partP; simp
theorem partP_get (l : List Int) (s n i : Nat) (h : i < n) : (partP l s n)[i]? = some (l.getD (s + i) 0) := by
  unfold partP
  rw [List.getElem?_map, List.getElem?_range h]
  rfl
theorem partP_append (l : List Int) (s n m : Nat) : partP l s n ++ partP l (s + n) m = partP l s (n + m) := by
  unfold partP
  rw [List.range_add, List.map_append, List.map_map]
  congr 1
  apply List.map_congr_left
  intro i hi
  show l.getD (s + n + i) 0 = l.getD (s + (n + i)) 0
  rw [Nat.add_assoc]
theorem partP_behind (l : List Int) (s n : Nat) (h : l.length ≤ s) : partP l s n = List.replicate n 0 := by
  unfold partP
  rw [List.eq_replicate_iff]
  refine ⟨by simp, fun x hx => ?_⟩
  obtain ⟨i, hi, rfl⟩ := List.mem_map.1 hx
  rw [List.getD_eq_getElem?_getD, List.getElem?_eq_none (by omega)]
  rfl
theorem partP_all (l : List Int) (n : Nat) (h : l.length ≤ n) : partP l 0 n = l ++ List.replicate (n - l.length) 0 := by
  apply List.ext_getElem?
  intro i
  by_cases hi : i < n
  · rw [partP_get l 0 n i hi, Nat.zero_add]
    by_cases hl : i < l.length
    · rw [List.getElem?_append_left hl, List.getD_eq_getElem?_getD, List.getElem?_eq_getElem hl]
      rfl
    · rw [List.getElem?_append_right (by omega), List.getElem?_replicate, if_pos (by omega), List.getD_eq_getElem?_getD, List.getElem?_eq_none (by omega)]
      rfl
  · rw [List.getElem?_eq_none (by rw [partP_length]; omega), List.getElem?_eq_none (by rw [List.length_append, List.length_replicate]; omega)]

theorem some_false {l : List Int} {s n : Nat} (h : someP l s n = false) : partP l s n = List.replicate n 0 := by
  unfold someP at h
  rw [List.any_eq_false] at h
  rw [List.eq_replicate_iff]
  exact ⟨partP_length l s n, fun x hx => by have := h x hx; simpa [nzB] using this⟩

theorem some_true {l : List Int} {s n : Nat} (h : someP l s n = true) : (partP l s n).any nzB = true := h

theorem all_zeros (n : Nat) : (List.replicate n (0 : Int)).all okP = true := by
  rw [List.all_eq_true]
  intro x hx
  rw [List.eq_of_mem_replicate hx]
  decide

theorem apart_append {a b : List Int} (h : apartL (a ++ b) = true) : apartL a = true ∧ apartL b = true := by
  unfold apartL at h ⊢
  rw [nz_append, List.all_append] at h
  simp only [Bool.and_eq_true, decide_eq_true_eq] at h ⊢
  have := List.nodup_append.1 h.2
  exact ⟨⟨h.1.1, this.1⟩, h.1.2, this.2.1⟩

theorem apart_zeros {a : List Int} (n : Nat) : apartL (a ++ List.replicate n 0) = apartL a := by
  unfold apartL
  rw [nz_append, nz_zeros, List.append_nil, List.all_append, all_zeros, Bool.and_true]

theorem part_apart {l : List Int} (h : apartL l = true) (hl : l.length ≤ 96) (s n : Nat) (hs : 96 ≤ s + n + 96) : apartL (partP l s n) = true := by
  have e := partP_all l (s + n + 96) (by omega)
  rw [← partP_append l 0 (s + n) 96, ← partP_append l 0 s n, Nat.zero_add] at e
  have h2 : apartL (partP l 0 s ++ partP l s n ++ partP l (0 + (s + n)) 96) = true := by rw [e, apart_zeros]; exact h
  exact (apart_append (apart_append h2).1).2

theorem seal_short_get {sum : List Int → Int} {l : List Int} (h : l.length ≤ 60) {k : Nat} (hk : k < 60) : (sealOf sum l).getD k 0 = l.getD k 0 := by
  rw [seal_short h, List.getD_eq_getElem?_getD, List.getElem?_append_left (by rw [List.length_append, List.length_replicate]; omega)]
  by_cases hl : k < l.length
  · rw [List.getElem?_append_left hl, ← List.getD_eq_getElem?_getD]
  · rw [List.getElem?_append_right (by omega), List.getElem?_replicate, if_pos (by omega), List.getD_eq_getElem?_getD, List.getElem?_eq_none (by omega)]
    rfl

theorem flat_len : ∀ xs : List Int, (xs.flatMap fun p => leB p 2).length = 2 * xs.length
  | [] => rfl
  | x :: r => by
    rw [List.flatMap_cons, List.length_append, leB_length, flat_len r, List.length_cons]
    omega

theorem flat_get : ∀ (xs : List Int) (i : Nat), (xs.flatMap fun p => leB p 2).getD (2 * i) 0 = xs.getD i 0 % 256 ∧ (xs.flatMap fun p => leB p 2).getD (2 * i + 1) 0 = xs.getD i 0 / 256 % 256
  | [], i => by simp
  | x :: r, 0 => by
    rw [List.flatMap_cons]
    have e : leB x 2 = [x % 256, x / 256 % 256] := by
      show [] ++ [x / 256 ^ 0 % 256] ++ [x / 256 ^ 1 % 256] = _
      rw [Int.pow_zero, Int.ediv_one, Int.pow_succ, Int.pow_zero, Int.one_mul]
      rfl
    rw [e]
    exact ⟨rfl, rfl⟩
  | x :: r, i + 1 => by
    have h := flat_get r i
    rw [List.flatMap_cons]
    have e : leB x 2 = [x % 256, x / 256 % 256] := by
      show [] ++ [x / 256 ^ 0 % 256] ++ [x / 256 ^ 1 % 256] = _
      rw [Int.pow_zero, Int.ediv_one, Int.pow_succ, Int.pow_zero, Int.one_mul]
      rfl
    rw [e]
    exact h

/-- A block of pointers is read as it was. -/
theorem words_page {xs : List Int} (hl : xs.length ≤ 30) (h : xs.all okP = true) : words (pageB xs) = xs ++ List.replicate (30 - xs.length) 0 := by
  rw [← partP_all xs 30 hl]
  unfold words partP
  apply List.map_congr_left
  intro i hi
  have hi' : i < 30 := List.mem_range.1 hi
  have hb : (xs.flatMap fun p => leB p 2).length ≤ 60 := by rw [flat_len]; omega
  show 0 + (pageB xs).getD (2 * i + 0) 0 * 256 ^ 0 + (pageB xs).getD (2 * i + 1) 0 * 256 ^ 1 = _
  unfold pageB
  rw [seal_short_get hb (by omega), seal_short_get hb (by omega), Nat.add_zero, (flat_get xs i).1, (flat_get xs i).2, Nat.zero_add]
  have hx : okP (xs.getD i 0) = true := by
    by_cases hlt : i < xs.length
    · have : xs.getD i 0 ∈ xs := by rw [List.getD_eq_getElem?_getD, List.getElem?_eq_getElem hlt]; exact List.getElem_mem hlt
      exact List.all_eq_true.1 h _ this
    · rw [List.getD_eq_getElem?_getD, List.getElem?_eq_none (by omega)]
      decide
  generalize xs.getD i 0 = x at *
  unfold okP at hx
  simp only [decide_eq_true_eq] at hx
  omega

theorem page_sealed {xs : List Int} (hl : xs.length ≤ 30) : (pageB xs).length = 64 ∧ sealOf sumS (pageB xs) = pageB xs := by
  have hb : (xs.flatMap fun p => leB p 2).length ≤ 60 := by rw [flat_len]; omega
  have h64 : (pageB xs).length = 64 := seal_short_length hb
  refine ⟨h64, ?_⟩
  rw [sealOf_take h64]
  unfold pageB
  rw [seal_short hb, List.take_append_of_le_length (by rw [List.length_append, List.length_replicate]; omega), List.take_of_length_le (by rw [List.length_append, List.length_replicate]; omega)]

theorem pageOf_page {xs : List Int} (hl : xs.length ≤ 30) (ha : apartL xs = true) (hn : xs.any nzB = true) : pageOf (pageB xs) = some (xs ++ List.replicate (30 - xs.length) 0) := by
  have hall : xs.all okP = true := by
    unfold apartL at ha
    exact (Bool.and_eq_true _ _ ▸ ha).1
  have hw := words_page hl hall
  have hs := page_sealed hl
  unfold pageOf
  rw [hw, if_pos]
  rw [apart_zeros, ha, List.any_append, hn]
  simp [hs.1, hs.2]

theorem find_key {ws : List (Int × List Int)} (hn : (ws.map (·.1)).Nodup) {p : Int} {b : List Int} (h : (p, b) ∈ ws) (others : List (Int × List Int)) : findW (ws ++ others) p = some b := by
  unfold findW
  induction ws with
  | nil => cases h
  | cons w r ih =>
    rw [List.map_cons, List.nodup_cons] at hn
    rw [List.cons_append, List.find?_cons]
    by_cases hw : w.1 = p
    · rw [decide_eq_true hw]
      rcases List.mem_cons.1 h with h | h
      · rw [← h]; rfl
      · exact absurd (by rw [hw]; exact List.mem_map.2 ⟨_, h, rfl⟩) hn.1
    · rw [decide_eq_false hw]
      rcases List.mem_cons.1 h with h | h
      · exact absurd (by rw [← h]) hw
      · exact ih hn.2 h

theorem take_range (l : List Int) (n : Nat) (h : n ≤ l.length) : l.take n = (List.range n).map fun i => l.getD i 0 := by
  apply List.ext_getElem?
  intro i
  by_cases hi : i < n
  · rw [List.getElem?_take, if_pos hi, List.getElem?_map, List.getElem?_range hi, List.getElem?_eq_getElem (by omega)]
    simp [List.getD_eq_getElem?_getD, List.getElem?_eq_getElem (show i < l.length by omega)]
  · rw [List.getElem?_eq_none (by rw [List.length_take]; omega), List.getElem?_eq_none (by simp; omega)]

/-- The blocks of a map are the fresh ones, in order. -/
theorem keys_plan {l fresh : List Int} (h : needP l ≤ fresh.length) : (writesP l fresh).map (·.1) = fresh.take (needP l) := by
  rw [take_range fresh (needP l) h]
  unfold writesP singleP doubleP under0 under1 under2 needP doubleB underN
  generalize someP l 4 30 = a
  generalize someP l 34 30 = b
  generalize someP l 64 30 = c
  generalize someP l 94 30 = d
  cases a <;> cases b <;> cases c <;> cases d <;> rfl

theorem numbers_plan {l fresh : List Int} (hz : ∀ i, i < needP l → nzB (fresh.getD i 0) = true) :
    nzL [singleP l fresh, doubleP l fresh, under0 l fresh, under1 l fresh, under2 l fresh] = (writesP l fresh).map (·.1) := by
  unfold writesP singleP doubleP under0 under1 under2 doubleB underN
  unfold needP underN at hz
  generalize someP l 4 30 = a at *
  generalize someP l 34 30 = b at *
  generalize someP l 64 30 = c at *
  generalize someP l 94 30 = d at *
  have h0 := hz 0
  have h1 := hz 1
  have h2 := hz 2
  have h3 := hz 3
  have h4 := hz 4
  clear hz
  have n0 : nzB 0 = false := rfl
  cases a <;> cases b <;> cases c <;> cases d <;> simp_all [whenB, whenW, nzL, Bool.toNat]

theorem all_append (f : Int → Option (List Int)) : ∀ {a b x y : List Int}, allOf f a = some x → allOf f b = some y → allOf f (a ++ b) = some (x ++ y)
  | [], b, x, y, h1, h2 => by
    cases h1
    exact h2
  | q :: r, b, x, y, h1, h2 => by
    unfold allOf at h1
    show (match f q, allOf f (r ++ b) with
      | some a, some b => some (a ++ b)
      | _, _ => none) = _
    cases hq : f q with
    | none => rw [hq] at h1; cases h1
    | some u =>
      cases hr : allOf f r with
      | none => rw [hq, hr] at h1; cases h1
      | some v =>
        rw [hq, hr] at h1
        cases h1
        rw [all_append f hr h2]
        show some (u ++ (v ++ y)) = _
        rw [List.append_assoc]

theorem all_zero_pages (bs : List (Int × List Int)) (n : Nat) : allOf (pageAt bs) (List.replicate n 0) = some (List.replicate (30 * n) 0) := by
  induction n with
  | zero => rfl
  | succ n ih =>
    rw [List.replicate_succ]
    show (match pageAt bs 0, allOf (pageAt bs) (List.replicate n 0) with
      | some a, some b => some (a ++ b)
      | _, _ => none) = _
    rw [ih]
    show some (List.replicate 30 0 ++ List.replicate (30 * n) 0) = _
    rw [List.replicate_append_replicate]
    congr 2
    omega

theorem page_when {bs : List (Int × List Int)} {b : Bool} {q : Int} {xs : List Int} (hl : xs.length ≤ 30) (ha : apartL xs = true) (hb : b = xs.any nzB) (h0 : b = false → q = 0) (h : b = true → q ≠ 0 ∧ findW bs q = some (pageB xs)) :
    pageAt bs q = some (xs ++ List.replicate (30 - xs.length) 0) := by
  cases b with
  | false =>
    rw [h0 rfl]
    have hx : xs = List.replicate xs.length 0 := by
      rw [List.eq_replicate_iff]
      refine ⟨rfl, fun x hx => ?_⟩
      have := List.any_eq_false.1 hb.symm x hx
      simpa [nzB] using this
    show some (List.replicate 30 0) = _
    conv => rhs; rw [hx]
    rw [List.length_replicate, List.replicate_append_replicate]
    congr 2
    omega
  | true =>
    obtain ⟨h1, h2⟩ := h rfl
    unfold pageAt
    rw [if_neg h1, h2]
    exact pageOf_page hl ha hb.symm

theorem under_some {l fresh : List Int} (hz : ∀ i, i < needP l → nzB (fresh.getD i 0) = true) : doubleB l = [under0 l fresh, under1 l fresh, under2 l fresh].any nzB := by
  unfold under0 under1 under2 doubleB underN
  unfold needP underN at hz
  generalize someP l 4 30 = a at *
  generalize someP l 34 30 = b at *
  generalize someP l 64 30 = c at *
  generalize someP l 94 30 = d at *
  have h0 := hz 0
  have h1 := hz 1
  have h2 := hz 2
  have h3 := hz 3
  have h4 := hz 4
  clear hz
  have n0 : nzB 0 = false := rfl
  cases a <;> cases b <;> cases c <;> cases d <;> simp_all [whenB, Bool.toNat]

theorem when_false {b : Bool} {p : Int} (h : b = false) : whenB b p = 0 := by rw [h]; rfl

theorem fresh_ok {fresh others : List Int} {n : Nat} (h : freshErr fresh n others = 0) : n ≤ fresh.length ∧ (∀ x ∈ fresh.take n, dataP x = true) ∧ apartL (others ++ fresh.take n) = true := by
  unfold freshErr at h
  split at h
  · exact absurd h (by decide)
  · split at h
    · next h1 h2 =>
      rw [Bool.and_eq_true, List.all_eq_true] at h2
      exact ⟨by omega, h2⟩
    · exact absurd h (by decide)

/-- What was planned is read as it was, whatever other blocks there are. -/
theorem plan_back {l fresh : List Int} (h : planErr l fresh = 0) (others : List (Int × List Int)) :
    mapOf (partP l 0 4) (singleP l fresh) (doubleP l fresh) (writesP l fresh ++ others) = some (trimL l, fresh.take (needP l)) ∧ (writesP l fresh).length = needP l ∧ ptrsOk l = true := by
  unfold planErr at h
  split at h
  case isFalse => exact absurd h (by decide)
  next hp =>
  obtain ⟨hn, hd, ha⟩ := fresh_ok h
  have hp' := hp
  unfold ptrsOk at hp'
  rw [Bool.and_eq_true, decide_eq_true_eq] at hp'
  obtain ⟨hl, hal⟩ := hp'
  have hz : ∀ i, i < needP l → nzB (fresh.getD i 0) = true := fun i hi => by
    have hm : fresh.getD i 0 ∈ fresh.take (needP l) := by
      rw [List.getD_eq_getElem?_getD, List.getElem?_eq_getElem (show i < fresh.length by omega)]
      exact List.mem_of_getElem? (i := i) (by rw [List.getElem?_take, if_pos hi, List.getElem?_eq_getElem]; rfl)
    have := hd _ hm
    unfold dataP at this
    unfold nzB
    simp only [decide_eq_true_eq] at this ⊢
    omega
  have hk := keys_plan hn
  have hnum := numbers_plan hz
  have hus := under_some hz
  have hnz : nzL (fresh.take (needP l)) = fresh.take (needP l) := by
    unfold nzL
    rw [List.filter_eq_self]
    intro x hx
    have := hd x hx
    unfold dataP at this
    unfold nzB
    simp only [decide_eq_true_eq] at this ⊢
    omega
  have hnd : (fresh.take (needP l)).Nodup := by
    have := (apart_append ha).2
    unfold apartL at this
    rw [hnz, Bool.and_eq_true, decide_eq_true_eq] at this
    exact this.2
  have hin : ∀ q B, (q, B) ∈ writesP l fresh → q ≠ 0 ∧ findW (writesP l fresh ++ others) q = some B := fun q B hq => by
    refine ⟨?_, find_key (by rw [hk]; exact hnd) hq others⟩
    have hm : q ∈ fresh.take (needP l) := by rw [← hk]; exact List.mem_map.2 ⟨_, hq, rfl⟩
    have := hd q hm
    unfold dataP at this
    simp only [decide_eq_true_eq] at this
    omega
  have hu : apartL [under0 l fresh, under1 l fresh, under2 l fresh] = true := by
    have e : nzL [singleP l fresh, doubleP l fresh, under0 l fresh, under1 l fresh, under2 l fresh] = nzL [singleP l fresh, doubleP l fresh] ++ nzL [under0 l fresh, under1 l fresh, under2 l fresh] := nz_append [_, _] [_, _, _]
    rw [hnum, hk] at e
    unfold apartL
    rw [Bool.and_eq_true, List.all_eq_true, decide_eq_true_eq]
    refine ⟨fun x hx => ?_, ?_⟩
    · by_cases hx0 : x = 0
      · rw [hx0]; decide
      · have : x ∈ fresh.take (needP l) := by
          rw [e]
          exact List.mem_append_right _ (List.mem_filter.2 ⟨hx, by simpa [nzB] using hx0⟩)
        have := hd x this
        unfold dataP at this
        unfold okP
        simp only [decide_eq_true_eq] at this ⊢
        omega
    · rw [e] at hnd
      exact (List.nodup_append.1 hnd).2.1
  have p1 : pageAt (writesP l fresh ++ others) (singleP l fresh) = some (partP l 4 30) := by
    have := page_when (bs := writesP l fresh ++ others) (b := someP l 4 30) (q := singleP l fresh) (xs := partP l 4 30) (by rw [partP_length]; omega) (part_apart hal hl 4 30 (by omega)) rfl (fun e => when_false e) (fun e => hin _ _ (by unfold writesP whenW; simp [e]))
    rwa [partP_length, Nat.sub_self, List.replicate_zero, List.append_nil] at this
  have p2 : pageAt (writesP l fresh ++ others) (doubleP l fresh) = some ([under0 l fresh, under1 l fresh, under2 l fresh] ++ List.replicate 27 0) :=
    page_when (bs := writesP l fresh ++ others) (b := doubleB l) (q := doubleP l fresh) (xs := [under0 l fresh, under1 l fresh, under2 l fresh]) (by simp) hu hus (fun e => when_false e) (fun e => hin _ _ (by unfold writesP whenW; simp [e]))
  have p3 : pageAt (writesP l fresh ++ others) (under0 l fresh) = some (partP l 34 30) := by
    have := page_when (bs := writesP l fresh ++ others) (b := someP l 34 30) (q := under0 l fresh) (xs := partP l 34 30) (by rw [partP_length]; omega) (part_apart hal hl 34 30 (by omega)) rfl (fun e => when_false e) (fun e => hin _ _ (by unfold writesP whenW; simp [e]))
    rwa [partP_length, Nat.sub_self, List.replicate_zero, List.append_nil] at this
  have p4 : pageAt (writesP l fresh ++ others) (under1 l fresh) = some (partP l 64 30) := by
    have := page_when (bs := writesP l fresh ++ others) (b := someP l 64 30) (q := under1 l fresh) (xs := partP l 64 30) (by rw [partP_length]; omega) (part_apart hal hl 64 30 (by omega)) rfl (fun e => when_false e) (fun e => hin _ _ (by unfold writesP whenW; simp [e]))
    rwa [partP_length, Nat.sub_self, List.replicate_zero, List.append_nil] at this
  have p5 : pageAt (writesP l fresh ++ others) (under2 l fresh) = some (partP l 94 30) := by
    have := page_when (bs := writesP l fresh ++ others) (b := someP l 94 30) (q := under2 l fresh) (xs := partP l 94 30) (by rw [partP_length]; omega) (part_apart hal hl 94 30 (by omega)) rfl (fun e => when_false e) (fun e => hin _ _ (by unfold writesP whenW; simp [e]))
    rwa [partP_length, Nat.sub_self, List.replicate_zero, List.append_nil] at this
  have hall : allOf (pageAt (writesP l fresh ++ others)) ([under0 l fresh, under1 l fresh, under2 l fresh] ++ List.replicate 27 0) = some ((partP l 34 30 ++ (partP l 64 30 ++ (partP l 94 30 ++ []))) ++ List.replicate 810 0) := by
    refine all_append _ ?_ (all_zero_pages _ 27)
    show (match pageAt _ (under0 l fresh), (match pageAt _ (under1 l fresh), (match pageAt _ (under2 l fresh), some [] with
      | some a, some b => some (a ++ b)
      | _, _ => none) with
      | some a, some b => some (a ++ b)
      | _, _ => none) with
      | some a, some b => some (a ++ b)
      | _, _ => none) = _
    rw [p3, p4, p5]
  have hlist : partP l 0 4 ++ (partP l 4 30 ++ ((partP l 34 30 ++ (partP l 64 30 ++ (partP l 94 30 ++ []))) ++ List.replicate 810 0)) = l ++ List.replicate (124 - l.length + 810) 0 := by
    have e := partP_all l 124 (by omega)
    rw [show 124 = 4 + (30 + (30 + (30 + 30))) from rfl, ← partP_append l 0 4, ← partP_append l (0 + 4) 30, ← partP_append l (0 + 4 + 30) 30, ← partP_append l (0 + 4 + 30 + 30) 30] at e
    simp only [Nat.zero_add, Nat.reduceAdd] at e
    rw [← List.replicate_append_replicate, ← List.append_assoc l, ← e]
    simp only [List.append_assoc, List.append_nil]
  have hown : nzL (singleP l fresh :: doubleP l fresh :: ([under0 l fresh, under1 l fresh, under2 l fresh] ++ List.replicate 27 0)) = fresh.take (needP l) := by
    have := nz_append [singleP l fresh, doubleP l fresh, under0 l fresh, under1 l fresh, under2 l fresh] (List.replicate 27 0)
    rw [nz_zeros, List.append_nil, hnum, hk] at this
    exact this
  refine ⟨?_, ?_, hp⟩
  · unfold mapOf
    rw [p1, p2]
    dsimp only
    rw [hall]
    dsimp only
    rw [hlist, trim_append_zeros, hown, apart_trim, if_pos]
    refine ⟨?_, ?_, ha⟩
    · have e : (([under0 l fresh, under1 l fresh, under2 l fresh] ++ List.replicate 27 0 : List Int).drop 3) = List.replicate 27 0 := rfl
      rw [e, List.any_eq_false]
      intro x hx
      rw [List.eq_of_mem_replicate hx]
      decide
    · unfold ptrsOk
      have e := apart_trim (l := l) (r := [])
      rw [List.append_nil, List.append_nil] at e
      obtain ⟨n, he⟩ := trim_prefix l
      have hle := congrArg List.length he
      rw [List.length_append] at hle
      rw [e, hal, Bool.and_true, decide_eq_true_eq]
      omega
  · have := congrArg List.length hk
    rwa [List.length_map, List.length_take, Nat.min_eq_left hn] at this

/-! ### Zeros behind pointers -/

theorem getD_zeros (l : List Int) (n i : Nat) : (l ++ List.replicate n 0).getD i 0 = l.getD i 0 := by
  rw [List.getD_eq_getElem?_getD, List.getD_eq_getElem?_getD]
  by_cases h : i < l.length
  · rw [List.getElem?_append_left h]
  · rw [List.getElem?_append_right (by omega), List.getElem?_replicate, List.getElem?_eq_none (l := l) (by omega)]
    split <;> rfl

theorem partP_zeros (l : List Int) (n s m : Nat) : partP (l ++ List.replicate n 0) s m = partP l s m := by
  unfold partP
  apply List.map_congr_left
  intro i _
  exact getD_zeros l n (s + i)

theorem need_zeros (l : List Int) (n : Nat) : needP (l ++ List.replicate n 0) = needP l := by
  unfold needP underN someP
  simp only [partP_zeros]

theorem writes_zeros (l fresh : List Int) (n : Nat) : writesP (l ++ List.replicate n 0) fresh = writesP l fresh ∧ singleP (l ++ List.replicate n 0) fresh = singleP l fresh ∧ doubleP (l ++ List.replicate n 0) fresh = doubleP l fresh := by
  unfold writesP under0 under1 under2 singleP doubleP doubleB underN someP
  simp only [partP_zeros]
  exact ⟨trivial, trivial, trivial⟩

theorem ptrs_zeros {l : List Int} {n : Nat} (h : l.length + n ≤ 96) : ptrsOk (l ++ List.replicate n 0) = ptrsOk l := by
  unfold ptrsOk
  rw [apart_zeros, List.length_append, List.length_replicate, decide_eq_true h, decide_eq_true (show l.length ≤ 96 by omega)]

theorem apart_mid {l r : List Int} (n : Nat) : apartL (l ++ List.replicate n 0 ++ r) = apartL (l ++ r) := by
  unfold apartL
  rw [nz_append, nz_append, nz_append, nz_zeros, List.append_nil, List.all_append, List.all_append, List.all_append, all_zeros, Bool.and_true]

theorem plan_zeros {l : List Int} (fresh : List Int) {n : Nat} (h : l.length + n ≤ 96) : planErr (l ++ List.replicate n 0) fresh = planErr l fresh := by
  unfold planErr freshErr
  rw [ptrs_zeros h, need_zeros, apart_mid]

/-- One pointer, behind so many zeros. -/
theorem need_one : ∀ m, m < 96 → needP (List.replicate m 0 ++ [100]) = (if 34 ≤ m then 2 else if 4 ≤ m then 1 else 0) ∧ ptrsOk (List.replicate m 0 ++ [100]) = true := by
  decide +kernel

end Go.Proofs.Ytmgmlebkmdpddaa
