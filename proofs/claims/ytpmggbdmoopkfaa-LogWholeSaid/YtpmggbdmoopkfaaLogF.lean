/-
  Said here: what is found in a log, in plain words: whole transactions, from a place on, of numbers that go up by one; that elder ones are not found; that of transactions which were laid behind one another, up to a cut, the whole ones are found.
  No conditions but those that each theorem names. Nothing of the program is read here.
-/
import Derived.Test.YtpmggbdmoopkfaaLog
namespace Go.Proofs.Ytpmggbdmoopkfaa
set_option linter.unusedVariables false
set_option linter.unusedSimpArgs false

/-- The transaction of a number that stands whole at a place of the ring. -/
def txAt (bs : List (List Int)) (a : Nat) (seq : Int) : Option (List (Int × List Int)) :=
  if isBeg (bs.getD a []) = true ∧ (readD (bs.getD a [])).seq = seq ∧ isEnd (bs.getD ((a + ((readD (bs.getD a [])).to.length + 1)) % 40) []) = true ∧
      leN (bs.getD ((a + ((readD (bs.getD a [])).to.length + 1)) % 40) []) 4 4 = seq ∧ (bs.getD ((a + ((readD (bs.getD a [])).to.length + 1)) % 40) []).getD 8 0 = ((readD (bs.getD a [])).to.length : Int)
  then some ((List.range (readD (bs.getD a [])).to.length).map fun i => ((readD (bs.getD a [])).to.getD i 0, bs.getD ((a + 1 + i) % 40) [])) else none

/-- The transactions from a place and a number on, so many at most; and where the next one would begin. -/
def findL (bs : List (List Int)) : Nat → Nat → Int → List (List (Int × List Int)) × Nat × Int
  | 0, a, s => ([], a, s)
  | k + 1, a, s => match txAt bs a s with
    | none => ([], a, s)
    | some l => (l :: (findL bs k ((a + (l.length + 2)) % 40) (s + 1)).1, (findL bs k ((a + (l.length + 2)) % 40) (s + 1)).2)
def findF (bs : List (List Int)) (a : Nat) (s : Int) : List (List (Int × List Int)) × Nat × Int := findL bs (1073741824 - s).toNat a s
/-- Is it a log, and a head? -/
def okLog (bs : List (List Int)) (a s : Int) : Bool := decide (bs.length = 40 ∧ 0 ≤ a ∧ a ≤ 39 ∧ 1 ≤ s ∧ s ≤ 1073741824) && bs.all fun b => decide (b.length = 64)

theorem tx_some {bs : List (List Int)} {a : Nat} {s : Int} {l : List (Int × List Int)} (h : txAt bs a s = some l) : isBeg (bs.getD a []) = true ∧ (readD (bs.getD a [])).seq = s ∧ l.length = (readD (bs.getD a [])).to.length ∧ 1 ≤ l.length ∧ l.length ≤ 20 := by
  unfold txAt at h
  split at h
  · next hc =>
    have := (soundD_parts (isBeg_block hc.1).2.1).1
    simp only [Option.some.injEq] at h
    subst h
    rw [List.length_map, List.length_range]
    exact ⟨hc.1, hc.2.1, rfl, this.1, this.2.1⟩
  · cases h
theorem tx_other {bs : List (List Int)} {a : Nat} {s s' : Int} {l : List (Int × List Int)} (h : txAt bs a s = some l) (hne : s' ≠ s) : txAt bs a s' = none := by
  have h2 := (tx_some h).2.1
  unfold txAt
  rw [if_neg]
  rintro ⟨_, h3, _⟩
  exact hne (h3.symm.trans h2)

def sumT (l : List (List (Int × List Int))) : Nat := (l.map fun t => t.length + 2).sum
theorem find_sums (bs : List (List Int)) : ∀ (k a : Nat) (s : Int), a < 40 → (findL bs k a s).2.2 = s + ((findL bs k a s).1.length : Int) ∧ (findL bs k a s).2.1 = (a + sumT (findL bs k a s).1) % 40
  | 0, a, s, h => ⟨by simp [findL], by simp [findL, sumT, Nat.mod_eq_of_lt h]⟩
  | k + 1, a, s, h => by
    unfold findL
    cases hx : txAt bs a s with
    | none => exact ⟨by simp, by simp [sumT, Nat.mod_eq_of_lt h]⟩
    | some l =>
      obtain ⟨h1, h2⟩ := find_sums bs k ((a + (l.length + 2)) % 40) (s + 1) (Nat.mod_lt _ (by decide))
      simp only
      refine ⟨by rw [h1, List.length_cons]; omega, ?_⟩
      rw [h2]
      show ((a + (l.length + 2)) % 40 + sumT _) % 40 = (a + ((l.length + 2) + sumT _)) % 40
      rw [Nat.mod_add_mod, Nat.add_assoc]
theorem find_elder {bs : List (List Int)} {k k' a : Nat} {s : Int} (h : (findL bs k a s).1 ≠ []) : findL bs k' a (s + 1) = ([], a, s + 1) := by
  have hx : ∃ l, txAt bs a s = some l := by
    cases k with
    | zero => exact absurd rfl h
    | succ k =>
      unfold findL at h
      cases hx : txAt bs a s with
      | none => rw [hx] at h; exact absurd rfl h
      | some l => exact ⟨l, rfl⟩
  obtain ⟨l, hl⟩ := hx
  cases k' with
  | zero => rfl
  | succ k' =>
    unfold findL
    rw [tx_other hl (show s + 1 ≠ s by omega)]

/-! ### Transactions that are laid behind one another -/

def zero64 : List Int := List.replicate 64 0
theorem zero64_first : zero64.getD 0 0 = 0 := rfl
def dW (seq : Int) (i n : Nat) : PDesc := ⟨seq + i, (List.range n).map fun (k : Nat) => 60 + 7 * (i : Int) + (k : Int)⟩
def datW (fill : Int) (i : Nat) : List Int := fill :: (i : Int) :: List.replicate 62 0
def txW (seq fill : Int) (i n : Nat) : List (List Int) := begB (dW seq i n) :: (List.replicate n (datW fill i) ++ [endB (seq + i) n])
def flatW (seq fill : Int) : Nat → List Nat → List (List Int)
  | _, [] => []
  | i, n :: r => txW seq fill i n ++ flatW seq fill (i + 1) r
/-- How many are whole ahead of the cut, and how many blocks these are. -/
def wholeN (cut : Nat) : Nat → List Nat → Nat
  | _, [] => 0
  | p, n :: r => if p + (n + 2) ≤ cut then wholeN cut (p + (n + 2)) r + 1 else 0
def placeN (cut : Nat) : Nat → List Nat → Nat
  | p, [] => p
  | p, n :: r => if p + (n + 2) ≤ cut then placeN cut (p + (n + 2)) r else p
/-- What is found of them. -/
def gotW (cut : Nat) (seq fill : Int) : Nat → Nat → List Nat → List (List (Int × List Int))
  | _, _, [] => []
  | p, i, n :: r => if p + (n + 2) ≤ cut then ((List.range n).map fun (k : Nat) => (60 + 7 * (i : Int) + (k : Int), datW fill i)) :: gotW cut seq fill (p + (n + 2)) (i + 1) r else []

theorem wholeN_cons (cut p n : Nat) (r : List Nat) : wholeN cut p (n :: r) = if p + (n + 2) ≤ cut then wholeN cut (p + (n + 2)) r + 1 else 0 := rfl
theorem placeN_cons (cut p n : Nat) (r : List Nat) : placeN cut p (n :: r) = if p + (n + 2) ≤ cut then placeN cut (p + (n + 2)) r else p := rfl
theorem gotW_cons (cut : Nat) (seq fill : Int) (p i n : Nat) (r : List Nat) : gotW cut seq fill p i (n :: r) = if p + (n + 2) ≤ cut then ((List.range n).map fun (k : Nat) => (60 + 7 * (i : Int) + (k : Int), datW fill i)) :: gotW cut seq fill (p + (n + 2)) (i + 1) r else [] := rfl

theorem dW_sound {seq : Int} {i n : Nat} (h0 : 1 ≤ seq) (h1 : seq + i ≤ 1073741824) (hi : i ≤ 40) (hn : 1 ≤ n ∧ n ≤ 5) : soundD (dW seq i n) = true := by
  unfold soundD dW
  rw [Bool.and_eq_true, Bool.and_eq_true, decide_eq_true_eq, decide_eq_true_eq, List.length_map, List.length_range]
  refine ⟨⟨hn.1, by omega, by show 1 ≤ seq + (i : Int); omega, h1⟩, ?_, ?_⟩
  · rw [List.all_eq_true]
    intro x hx
    obtain ⟨k, hk, rfl⟩ := List.mem_map.1 hx
    have := List.mem_range.1 hk
    unfold homeB
    rw [decide_eq_true_eq]
    omega
  · unfold List.Nodup
    rw [List.pairwise_map]
    exact List.Pairwise.imp (fun {x y} h e => h (by omega)) List.nodup_range

theorem txW_length (seq fill : Int) (i n : Nat) : (txW seq fill i n).length = n + 2 := by
  unfold txW
  rw [List.length_cons, List.length_append, List.length_replicate]
  rfl

/-- The ring holds these blocks from a place on, up to the cut; zeros else. -/
def LaidL (bs : List (List Int)) (a cut : Nat) (flat : List (List Int)) : Prop := ∀ p, p < 40 → bs.getD ((a + p) % 40) [] = if p < cut then flat.getD p zero64 else zero64

theorem find_laid {bs : List (List Int)} {a cut : Nat} {seq fill : Int} {flat : List (List Int)} (hL : LaidL bs a cut flat) (hl : flat.length ≤ 40) (h1 : 1 ≤ seq) (hseq : seq ≤ 100000) :
    ∀ (r : List Nat) (p i k : Nat) (pre : List (List Int)), flat = pre ++ flatW seq fill i r → pre.length = p → p ≤ cut → (∀ n ∈ r, 1 ≤ n ∧ n ≤ 5) → i + r.length ≤ 40 → r.length < k → (0 < i → (readD (flat.getD 0 zero64)).seq = seq) → (i = 0 → p = 0) →
      findL bs k ((a + p) % 40) (seq + i) = (gotW cut seq fill p i r, (a + placeN cut p r) % 40, seq + i + wholeN cut p r)
  | [], p, i, k, pre, hf, hp, hc, hn, hi, hk, h0, hi0 => by
    obtain ⟨k, rfl⟩ : ∃ m, k = m + 1 := ⟨k - 1, by simp at hk; omega⟩
    have hfl : flat = pre := by rw [hf]; show pre ++ [] = pre; exact List.append_nil _
    have hnone : txAt bs ((a + p) % 40) (seq + i) = none := by
      unfold txAt
      rw [if_neg]
      rintro ⟨hb, hs, _⟩
      by_cases hp40 : p < 40
      · have hz : bs.getD ((a + p) % 40) [] = zero64 := by
          rw [hL p hp40]
          split
          · rw [List.getD_eq_getElem?_getD, List.getElem?_eq_none (by rw [hfl]; omega)]; rfl
          · rfl
        rw [hz] at hb
        rw [(zero_not zero64_first).1] at hb
        cases hb
      · have hpe : p = 40 := by rw [hfl] at hl; omega
        subst hpe
        have e : (a + 40) % 40 = (a + 0) % 40 := by omega
        rw [e, hL 0 (by decide), if_pos (by omega)] at hs
        by_cases hi2 : i = 0
        · exact absurd (hi0 hi2) (by decide)
        · rw [h0 (by omega)] at hs
          omega
    unfold findL
    rw [hnone]
    show _ = ([], (a + p) % 40, seq + i + 0)
    rw [Int.add_zero]
  | n :: r, p, i, k, pre, hf, hp, hc, hn, hi, hk, h0, hi0 => by
    obtain ⟨k, rfl⟩ : ∃ m, k = m + 1 := ⟨k - 1, by simp at hk; omega⟩
    have hnb := hn n (List.mem_cons_self ..)
    have hi' : i + (r.length + 1) ≤ 40 := hi
    have hsd : soundD (dW seq i n) = true := dW_sound h1 (by omega) (by omega) hnb
    have hfl : flat.length = p + ((n + 2) + (flatW seq fill (i + 1) r).length) := by
      rw [hf, List.length_append, hp]
      show p + (txW seq fill i n ++ flatW seq fill (i + 1) r).length = _
      rw [List.length_append, txW_length]
    have hat : ∀ j, j < n + 2 → flat.getD (p + j) zero64 = (txW seq fill i n).getD j zero64 := fun j hj => by
      rw [hf, List.getD_eq_getElem?_getD, List.getElem?_append_right (by omega), hp, Nat.add_sub_cancel_left]
      show ((txW seq fill i n ++ flatW seq fill (i + 1) r)[j]?).getD zero64 = _
      rw [List.getElem?_append_left (by rw [txW_length]; exact hj), ← List.getD_eq_getElem?_getD]
    have hto : (dW seq i n).to.length = n := by unfold dW; rw [List.length_map, List.length_range]
    have g0 : (txW seq fill i n).getD 0 zero64 = begB (dW seq i n) := rfl
    have gd : ∀ j, j < n → (txW seq fill i n).getD (j + 1) zero64 = datW fill i := fun j hj => by
      show ((List.replicate n (datW fill i) ++ [endB (seq + i) n])[j]?).getD zero64 = _
      rw [List.getElem?_append_left (by rw [List.length_replicate]; exact hj), List.getElem?_replicate, if_pos hj]
      rfl
    have ge : (txW seq fill i n).getD (n + 1) zero64 = endB (seq + i) n := by
      show ((List.replicate n (datW fill i) ++ [endB (seq + i) n])[n]?).getD zero64 = _
      rw [List.getElem?_append_right (by rw [List.length_replicate]; exact Nat.le_refl _), List.length_replicate, Nat.sub_self]
      rfl
    by_cases hw : p + (n + 2) ≤ cut
    · have hb0 : bs.getD ((a + p) % 40) [] = begB (dW seq i n) := by rw [hL p (by omega), if_pos (by omega)]; have := hat 0 (by omega); rw [Nat.add_zero] at this; rw [this, g0]
      have hbe : bs.getD (((a + p) % 40 + (n + 1)) % 40) [] = endB (seq + i) n := by
        rw [Nat.mod_add_mod, Nat.add_assoc, hL (p + (n + 1)) (by omega), if_pos (by omega), hat (n + 1) (by omega), ge]
      have hok : okEnd (seq + i) n = true := by unfold okEnd; rw [decide_eq_true_eq]; omega
      obtain ⟨r1, r2⟩ := read_end hok
      have htx : txAt bs ((a + p) % 40) (seq + i) = some ((List.range n).map fun (k : Nat) => (60 + 7 * (i : Int) + (k : Int), datW fill i)) := by
        unfold txAt
        rw [hb0, read_beg hsd, hto, hbe, r1, r2, if_pos ⟨is_beg hsd, rfl, is_end hok, rfl, rfl⟩]
        congr 1
        apply List.map_congr_left
        intro j hj
        have hj' := List.mem_range.1 hj
        have hd : bs.getD (((a + p) % 40 + 1 + j) % 40) [] = datW fill i := by
          rw [show (a + p) % 40 + 1 + j = (a + p) % 40 + (1 + j) by omega, Nat.mod_add_mod, Nat.add_assoc, hL (p + (1 + j)) (by omega), if_pos (by omega), Nat.add_comm 1 j, hat (j + 1) (by omega), gd j hj']
        have ht : (dW seq i n).to.getD j 0 = 60 + 7 * (i : Int) + (j : Int) := by
          unfold dW
          rw [List.getD_eq_getElem?_getD, List.getElem?_map, List.getElem?_range hj']
          rfl
        rw [hd, ht]
      have ih := find_laid hL hl h1 hseq r (p + (n + 2)) (i + 1) k (pre ++ txW seq fill i n) (by rw [hf, List.append_assoc]; rfl) (by rw [List.length_append, txW_length, hp]) hw (fun x hx => hn x (List.mem_cons_of_mem _ hx)) (by omega) (by simp at hk; omega) (fun _ => by
        by_cases hi2 : i = 0
        · have hp0 := hi0 hi2
          have := hat 0 (by omega)
          rw [hp0] at this
          rw [this, g0, read_beg hsd, hi2]
          show seq + ((0 : Nat) : Int) = seq
          omega
        · exact h0 (by omega)) (fun h => by omega)
      unfold findL
      rw [htx]
      simp only [List.length_map, List.length_range]
      have e1 : ((a + p) % 40 + (n + 2)) % 40 = (a + (p + (n + 2))) % 40 := by rw [Nat.mod_add_mod, Nat.add_assoc]
      have e2 : seq + (i : Int) + 1 = seq + ((i + 1 : Nat) : Int) := by omega
      rw [e1, e2, ih]
      rw [gotW_cons, placeN_cons, wholeN_cons, if_pos hw, if_pos hw, if_pos hw]
      refine Prod.ext rfl (Prod.ext rfl ?_)
      show seq + ((i + 1 : Nat) : Int) + (wholeN cut (p + (n + 2)) r : Int) = seq + (i : Int) + ((wholeN cut (p + (n + 2)) r + 1 : Nat) : Int)
      omega
    · have hnone : txAt bs ((a + p) % 40) (seq + i) = none := by
        unfold txAt
        rw [if_neg]
        rintro ⟨hb, hs, he, _⟩
        have hp40 : p < 40 := by omega
        by_cases hpc : p < cut
        · have hb0 : bs.getD ((a + p) % 40) [] = begB (dW seq i n) := by rw [hL p hp40, if_pos hpc]; have := hat 0 (by omega); rw [Nat.add_zero] at this; rw [this, g0]
          rw [hb0, read_beg hsd, hto, Nat.mod_add_mod, Nat.add_assoc, hL (p + (n + 1)) (by omega), if_neg (by omega), (zero_not zero64_first).2] at he
          cases he
        · rw [hL p hp40, if_neg hpc, (zero_not zero64_first).1] at hb
          cases hb
      unfold findL
      rw [hnone]
      rw [gotW_cons, placeN_cons, wholeN_cons, if_neg hw, if_neg hw, if_neg hw]
      show _ = ([], (a + p) % 40, seq + i + 0)
      rw [Int.add_zero]

end Go.Proofs.Ytpmggbdmoopkfaa
