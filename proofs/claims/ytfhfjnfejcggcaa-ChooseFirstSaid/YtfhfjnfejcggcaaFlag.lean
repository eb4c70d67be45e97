/-
  Proved here: plain facts on flags in bytes, on how many are up, and on the fewest runs of those that are down.
  No conditions but those that each theorem names. Nothing of the program is read here.
-/
import Derived.Test.YtfhfjnfejcggcaaLists
namespace Go.Proofs.Ytfhfjnfejcggcaa

/-- Flag n of bytes. -/
def flag (zs : List Int) (n : Nat) : Bool := decide (zs.getD (n / 8) 0 / 2 ^ (n % 8) % 2 = 1)

/-- How many below n. -/
def cnt (f : Nat → Bool) : Nat → Nat
  | 0 => 0
  | n + 1 => cnt f n + (if f n then 1 else 0)

/-- The fewest runs of the k from n on, and of those from first on that lie ahead of n. -/
def gaps (has : Nat → Bool) (first n : Nat) : Nat → List (Nat × Nat)
  | 0 => if first < n then [(first, n - first)] else []
  | k + 1 => if has n then gaps has first (n + 1) k else if first < n then (first, n - first) :: gaps has (n + 1) (n + 1) k else gaps has (n + 1) (n + 1) k

def downs (zs : List Int) (n : Nat) : Bool := !flag zs n

def upErr (len : Nat) (block : Int) : Int := if len = 60 then (if block < 0 ∨ 480 ≤ block then 1 else 0) else 2
def upOut (zs : List Int) (block : Int) : Bool := decide (upErr zs.length block = 0) && flag zs block.toNat
def cntErr (len : Nat) (to : Int) : Int := if len = 60 then (if to < 0 ∨ 480 < to then 1 else 0) else 2
def cntOut (zs : List Int) (to : Int) : Int := if cntErr zs.length to = 0 then (cnt (flag zs) to.toNat : Int) else 0
def downErr (len : Nat) (lo hi : Int) : Int := if len = 60 then (if lo < 0 ∨ hi < lo ∨ 480 < hi then 1 else 0) else 2
def downOut (zs : List Int) (lo hi : Int) : List (Nat × Nat) := if downErr zs.length lo hi = 0 then gaps (downs zs) lo.toNat lo.toNat (hi.toNat - lo.toNat) else []

/-- The bytes of a map of which the flags from a on, b of them, are all up, or down. -/
def Marked (zs : List Int) (up : Bool) (a b : Nat) (L : List Int) : Prop :=
  L.length = 60 ∧ (∀ z ∈ L, 0 ≤ z ∧ z ≤ 255) ∧ ∀ n, n < 480 → flag L n = if a ≤ n ∧ n < a + b then up else flag zs n

theorem cnt_le (f : Nat → Bool) (n : Nat) : cnt f n ≤ n := by
  induction n with
  | zero => exact Nat.le_refl _
  | succ n ih =>
    show cnt f n + (if f n then 1 else 0) ≤ n + 1
    split <;> omega

theorem cnt_congr {f g : Nat → Bool} {n : Nat} (h : ∀ i, i < n → f i = g i) : cnt f n = cnt g n := by
  induction n with
  | zero => rfl
  | succ n ih =>
    show cnt f n + (if f n then 1 else 0) = cnt g n + (if g n then 1 else 0)
    rw [ih (fun i hi => h i (by omega)), h n (by omega)]

theorem cnt_not (f : Nat → Bool) (n : Nat) : cnt f n + cnt (fun i => !f i) n = n := by
  induction n with
  | zero => rfl
  | succ n ih =>
    show cnt f n + (if f n then 1 else 0) + (cnt (fun i => !f i) n + (if !f n then 1 else 0)) = n + 1
    cases f n <;> simp <;> omega

theorem gaps_congr {f g : Nat → Bool} (k : Nat) : ∀ first n, (∀ i, n ≤ i → i < n + k → f i = g i) → gaps f first n k = gaps g first n k := by
  induction k with
  | zero => intro first n _; rfl
  | succ k ih =>
    intro first n h
    have e := h n (Nat.le_refl _) (by omega)
    have e1 := ih first (n + 1) (fun i h1 h2 => h i (by omega) (by omega))
    have e2 := ih (n + 1) (n + 1) (fun i h1 h2 => h i (by omega) (by omega))
    unfold gaps
    rw [e, e1, e2]

theorem gaps_length (f : Nat → Bool) (k : Nat) : ∀ first n, (gaps f first n k).length ≤ k + 1 := by
  induction k with
  | zero => intro first n; unfold gaps; split <;> simp
  | succ k ih =>
    intro first n
    have e1 := ih first (n + 1)
    have e2 := ih (n + 1) (n + 1)
    unfold gaps
    split
    · omega
    · split
      · rw [List.length_cons]; omega
      · omega

theorem gaps_mem (f : Nat → Bool) (k : Nat) : ∀ first n, first ≤ n → (∀ i, first ≤ i → i < n → f i = true) → ∀ p ∈ gaps f first n k, first ≤ p.1 ∧ 1 ≤ p.2 ∧ p.1 + p.2 ≤ n + k ∧ ∀ i, p.1 ≤ i → i < p.1 + p.2 → f i = true := by
  induction k with
  | zero =>
    intro first n hle hf p hp
    unfold gaps at hp
    split at hp
    · rw [List.mem_singleton.1 hp]
      exact ⟨Nat.le_refl _, by show 1 ≤ n - first; omega, by show first + (n - first) ≤ n + 0; omega, fun i h1 h2 => hf i h1 (by have : i < first + (n - first) := h2; omega)⟩
    · simp at hp
  | succ k ih =>
    intro first n hle hf p hp
    unfold gaps at hp
    by_cases hn : f n = true
    · rw [if_pos hn] at hp
      have h := ih first (n + 1) (by omega) (fun i h1 h2 => by
        by_cases e : i = n
        · rw [e]; exact hn
        · exact hf i h1 (by omega)) p hp
      exact ⟨h.1, h.2.1, by have := h.2.2.1; omega, h.2.2.2⟩
    · rw [if_neg hn] at hp
      have ih2 : p ∈ gaps f (n + 1) (n + 1) k → first ≤ p.1 ∧ 1 ≤ p.2 ∧ p.1 + p.2 ≤ n + (k + 1) ∧ ∀ i, p.1 ≤ i → i < p.1 + p.2 → f i = true := fun hp => by
        have h := ih (n + 1) (n + 1) (Nat.le_refl _) (fun i h1 h2 => by omega) p hp
        exact ⟨by have := h.1; omega, h.2.1, by have := h.2.2.1; omega, h.2.2.2⟩
      split at hp
      · rcases List.mem_cons.1 hp with hp | hp
        · rw [hp]
          exact ⟨Nat.le_refl _, by show 1 ≤ n - first; omega, by show first + (n - first) ≤ n + (k + 1); omega, fun i h1 h2 => hf i h1 (by have : i < first + (n - first) := h2; omega)⟩
        · exact ih2 hp
      · exact ih2 hp

/-- One behind the other, and none beside the next. -/
def Rise : Nat → List (Nat × Nat) → Prop
  | _, [] => True
  | lo, p :: r => lo ≤ p.1 ∧ Rise (p.1 + p.2 + 1) r

theorem Rise.mono {lo hi : Nat} {l : List (Nat × Nat)} (h : Rise hi l) (hle : lo ≤ hi) : Rise lo l := by
  cases l with
  | nil => trivial
  | cons p r => exact ⟨Nat.le_trans hle h.1, h.2⟩

theorem gaps_rise (f : Nat → Bool) (k : Nat) : ∀ first n, first ≤ n → Rise first (gaps f first n k) := by
  induction k with
  | zero =>
    intro first n hle
    unfold gaps
    split
    · exact ⟨Nat.le_refl _, trivial⟩
    · trivial
  | succ k ih =>
    intro first n hle
    unfold gaps
    split
    · exact ih first (n + 1) (by omega)
    · split
      · refine ⟨Nat.le_refl _, ?_⟩
        show Rise (first + (n - first) + 1) _
        have e : first + (n - first) + 1 = n + 1 := by omega
        rw [e]
        exact ih (n + 1) (n + 1) (Nat.le_refl _)
      · exact (ih (n + 1) (n + 1) (Nat.le_refl _)).mono (by omega)

theorem Rise.next : ∀ {l : List (Nat × Nat)} {lo : Nat}, Rise lo l → ∀ {i : Nat} {p q : Nat × Nat}, l[i]? = some p → l[i + 1]? = some q → p.1 + p.2 < q.1
  | [], _, _, i, p, q, h, _ => by simp at h
  | [x], _, _, i, p, q, _, h => by simp at h
  | x :: y :: r, lo, hr, 0, p, q, h1, h2 => by
    simp at h1 h2
    subst h1
    subst h2
    have := hr.2.1
    omega
  | x :: y :: r, lo, hr, i + 1, p, q, h1, h2 => by
    simp at h1 h2
    exact Rise.next (l := y :: r) hr.2 (i := i) (by simpa using h1) (by simpa using h2)

def sumG : List (Nat × Nat) → Nat
  | [] => 0
  | p :: r => p.2 + sumG r

theorem sumG_snoc (l : List (Nat × Nat)) (p : Nat × Nat) : sumG (l ++ [p]) = sumG l + p.2 := by
  induction l with
  | nil => show p.2 + 0 = 0 + p.2; omega
  | cons x l ih => show x.2 + sumG (l ++ [p]) = x.2 + sumG l + p.2; omega

theorem sumG_take {l : List (Nat × Nat)} {i : Nat} {p : Nat × Nat} (h : l[i]? = some p) : sumG (l.take (i + 1)) = sumG (l.take i) + p.2 := by
  rw [List.take_add_one, h]
  exact sumG_snoc _ _

theorem sumG_take_le (l : List (Nat × Nat)) (i : Nat) : sumG (l.take i) ≤ sumG l := by
  induction l generalizing i with
  | nil => simp
  | cons x l ih =>
    cases i with
    | zero => exact Nat.zero_le _
    | succ i => show x.2 + sumG (l.take i) ≤ x.2 + sumG l; have := ih i; omega

theorem gaps_sum (f : Nat → Bool) (k : Nat) : ∀ first n, first ≤ n → sumG (gaps f first n k) + cnt f n = (n - first) + cnt f (n + k) := by
  induction k with
  | zero =>
    intro first n hle
    unfold gaps
    split
    · show (n - first) + 0 + cnt f n = _
      rw [Nat.add_zero, Nat.add_zero]
    · show 0 + cnt f n = _
      rw [Nat.add_zero n]
      omega
  | succ k ih =>
    intro first n hle
    have e1 := ih first (n + 1) (by omega)
    have e2 := ih (n + 1) (n + 1) (Nat.le_refl _)
    have e3 : cnt f (n + 1) = cnt f n + (if f n then 1 else 0) := rfl
    have e4 : n + (k + 1) = n + 1 + k := by omega
    unfold gaps
    rw [e4]
    by_cases hn : f n = true
    · rw [if_pos hn]
      rw [if_pos hn] at e3
      omega
    · rw [if_neg hn]
      rw [if_neg hn] at e3
      split
      · show (n - first) + sumG (gaps f (n + 1) (n + 1) k) + cnt f n = _; omega
      · omega

theorem byte_ext {x y : Int} (hx : 0 ≤ x ∧ x ≤ 255) (hy : 0 ≤ y ∧ y ≤ 255) (h : ∀ k, k < 8 → (x / 2 ^ k % 2 = 1 ↔ y / 2 ^ k % 2 = 1)) : x = y := by
  have e : ∀ k, k < 8 → x / 2 ^ k % 2 = y / 2 ^ k % 2 := fun k hk => by have := h k hk; omega
  have h0 := e 0 (by decide)
  have h1 := e 1 (by decide)
  have h2 := e 2 (by decide)
  have h3 := e 3 (by decide)
  have h4 := e 4 (by decide)
  have h5 := e 5 (by decide)
  have h6 := e 6 (by decide)
  have h7 := e 7 (by decide)
  clear e h
  simp only [show (2 : Int) ^ 0 = 1 from rfl, show (2 : Int) ^ 1 = 2 from rfl, show (2 : Int) ^ 2 = 4 from rfl, show (2 : Int) ^ 3 = 8 from rfl, show (2 : Int) ^ 4 = 16 from rfl, show (2 : Int) ^ 5 = 32 from rfl, show (2 : Int) ^ 6 = 64 from rfl, show (2 : Int) ^ 7 = 128 from rfl] at h0 h1 h2 h3 h4 h5 h6 h7
  omega

theorem flags_ext {l m : List Int} (hl : l.length = 60) (hm : m.length = 60) (bl : ∀ z ∈ l, 0 ≤ z ∧ z ≤ 255) (bm : ∀ z ∈ m, 0 ≤ z ∧ z ≤ 255) (h : ∀ n, n < 480 → flag l n = flag m n) : l = m := by
  refine List.ext_getElem (by rw [hl, hm]) (fun i h1 h2 => ?_)
  have e : l.getD i 0 = m.getD i 0 := by
    refine byte_ext (bl _ (getD_mem (by omega))) (bm _ (getD_mem (by omega))) (fun k hk => ?_)
    have hn := h (8 * i + k) (by omega)
    unfold flag at hn
    have e1 : (8 * i + k) / 8 = i := by omega
    have e2 : (8 * i + k) % 8 = k := by omega
    rw [e1, e2] at hn
    exact decide_eq_decide.1 hn
  simpa [List.getD, h1, h2] using e

theorem marked_back {zs L M : List Int} {a b : Nat} (hl : zs.length = 60) (hz : ∀ z ∈ zs, 0 ≤ z ∧ z ≤ 255) (hd : ∀ i, a ≤ i → i < a + b → downs zs i = true) (h1 : Marked zs true a b L) (h2 : Marked L false a b M) : M = zs := by
  refine flags_ext h2.1 hl h2.2.1 hz (fun n hn => ?_)
  rw [h2.2.2 n hn, h1.2.2 n hn]
  by_cases h : a ≤ n ∧ n < a + b
  · rw [if_pos h]
    have := hd n h.1 h.2
    unfold downs at this
    simp at this
    exact this.symm
  · rw [if_neg h, if_neg h]

theorem cnt_range {f g : Nat → Bool} {a b : Nat} (hf : ∀ i, a ≤ i → i < a + b → f i = false) (N : Nat) (hg : ∀ n, n < N → g n = if a ≤ n ∧ n < a + b then true else f n) : cnt g N = cnt f N + (min N (a + b) - min N a) := by
  induction N with
  | zero => show 0 = 0 + _; simp
  | succ N ih =>
    have ih := ih (fun n hn => hg n (by omega))
    have e := hg N (by omega)
    show cnt g N + (if g N then 1 else 0) = cnt f N + (if f N then 1 else 0) + _
    by_cases h : a ≤ N ∧ N < a + b
    · rw [if_pos h] at e
      rw [e, hf N h.1 h.2, ih]
      simp only [if_true, Bool.false_eq_true, if_false]
      omega
    · rw [if_neg h] at e
      rw [e, ih]
      split <;> omega

theorem marked_cnt {zs L : List Int} {a b : Nat} (hd : ∀ i, a ≤ i → i < a + b → downs zs i = true) (h : Marked zs true a b L) (hab : a + b ≤ 480) : cnt (flag L) 480 = cnt (flag zs) 480 + b := by
  rw [cnt_range (f := flag zs) (g := flag L) (a := a) (b := b) (fun i h1 h2 => by have := hd i h1 h2; unfold downs at this; simpa using this) 480 (fun n hn => h.2.2 n hn)]
  omega

/-- A byte of which one bit was set, in its list. -/
theorem flag_set {zs : List Int} {n : Nat} {y : Int} {up : Bool} (hn : n / 8 < zs.length) (hy : ∀ i, i < 8 → y / 2 ^ i % 2 = if i = n % 8 then (if up then 1 else 0) else zs.getD (n / 8) 0 / 2 ^ i % 2) (m : Nat) :
    flag (zs.set (n / 8) y) m = if m = n then up else flag zs m := by
  unfold flag
  rw [getD_set _ _ _ _ hn]
  by_cases h : m / 8 = n / 8
  · rw [if_pos h, hy (m % 8) (by omega)]
    by_cases h2 : m % 8 = n % 8
    · rw [if_pos h2, if_pos (show m = n by omega)]
      cases up <;> rfl
    · rw [if_neg h2, if_neg (show ¬ m = n by intro e; exact h2 (by rw [e])), h]
  · rw [if_neg h, if_neg (show ¬ m = n by intro e; exact h (by rw [e]))]

theorem flag_zeros (n : Nat) : flag (List.replicate 60 0) n = false := by
  unfold flag
  have e : (List.replicate 60 (0 : Int)).getD (n / 8) 0 = 0 := by
    rcases Nat.lt_or_ge (n / 8) 60 with h | h
    · exact List.eq_of_mem_replicate (getD_mem (l := List.replicate 60 (0 : Int)) (by rw [List.length_replicate]; exact h))
    · rw [List.getD_eq_getElem?_getD, List.getElem?_eq_none (by rw [List.length_replicate]; exact h)]
      rfl
  rw [e]
  simp

def four (n : Nat) : Bool := decide (3 ≤ n ∧ n < 7)

theorem marked_four {L : List Int} (h : Marked (List.replicate 60 0) true 3 4 L) : ∀ n, n < 480 → flag L n = four n := by
  intro n hn
  rw [h.2.2 n hn, flag_zeros]
  unfold four
  by_cases e : 3 ≤ n ∧ n < 3 + 4
  · rw [if_pos e, decide_eq_true (show 3 ≤ n ∧ n < 7 by omega)]
  · rw [if_neg e, decide_eq_false (show ¬ (3 ≤ n ∧ n < 7) by omega)]

theorem four_cnt {L : List Int} (h : Marked (List.replicate 60 0) true 3 4 L) : cntErr L.length 5 = 0 ∧ cntOut L 5 = 2 := by
  have e : cntErr L.length 5 = 0 := by rw [h.1]; rfl
  refine ⟨e, ?_⟩
  unfold cntOut
  rw [if_pos e, show Int.toNat 5 = 5 from rfl, cnt_congr (f := flag L) (g := four) (fun i hi => marked_four h i (by omega))]
  rfl

theorem four_down {L : List Int} (h : Marked (List.replicate 60 0) true 3 4 L) : downErr L.length 0 10 = 0 ∧ downOut L 0 10 = [(0, 3), (7, 3)] := by
  have e : downErr L.length 0 10 = 0 := by rw [h.1]; rfl
  refine ⟨e, ?_⟩
  unfold downOut
  rw [if_pos e, show Int.toNat 10 = 10 from rfl, show Int.toNat 0 = 0 from rfl, gaps_congr (f := downs L) (g := fun n => !four n) 10 0 0 (fun i _ hi => by unfold downs; rw [marked_four h i (by omega)])]
  rfl

theorem down_rise (zs : List Int) (lo hi : Int) : Rise 0 (downOut zs lo hi) := by
  unfold downOut
  split
  · exact (gaps_rise (downs zs) _ lo.toNat lo.toNat (Nat.le_refl _)).mono (Nat.zero_le _)
  · trivial

/-- Those that are up below hi, but not below lo, and those that are down, are all. -/
theorem all_sum {zs : List Int} {lo hi : Int} (h : downErr zs.length lo hi = 0) : cntErr zs.length lo = 0 ∧ cntErr zs.length hi = 0 ∧ (sumG (downOut zs lo hi) : Int) + cntOut zs hi - cntOut zs lo = hi - lo ∧ 0 ≤ lo ∧ lo ≤ hi ∧ hi ≤ 480 := by
  have ho : zs.length = 60 ∧ 0 ≤ lo ∧ lo ≤ hi ∧ hi ≤ 480 := by
    unfold downErr at h
    by_cases hl : zs.length = 60
    · rw [if_pos hl] at h
      by_cases hc : lo < 0 ∨ hi < lo ∨ 480 < hi
      · rw [if_pos hc] at h; exact absurd h (by decide)
      · omega
    · rw [if_neg hl] at h; exact absurd h (by decide)
  obtain ⟨hl, h0, h1, h2⟩ := ho
  have c1 : cntErr zs.length lo = 0 := by unfold cntErr; rw [if_pos hl, if_neg (by omega)]
  have c2 : cntErr zs.length hi = 0 := by unfold cntErr; rw [if_pos hl, if_neg (by omega)]
  refine ⟨c1, c2, ?_, h0, h1, h2⟩
  unfold cntOut downOut
  rw [if_pos h, if_pos c1, if_pos c2]
  have e := gaps_sum (downs zs) (hi.toNat - lo.toNat) lo.toNat lo.toNat (Nat.le_refl _)
  rw [show lo.toNat + (hi.toNat - lo.toNat) = hi.toNat by omega] at e
  have n1 := cnt_not (flag zs) lo.toNat
  have n2 := cnt_not (flag zs) hi.toNat
  rw [show (fun i => !flag zs i) = downs zs from rfl] at n1 n2
  omega

end Go.Proofs.Ytfhfjnfejcggcaa
