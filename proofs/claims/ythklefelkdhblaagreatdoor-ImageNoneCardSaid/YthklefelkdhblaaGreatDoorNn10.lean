/-
  Proved here: plain facts on flags in bytes, on how many are up, and on the fewest runs of those that are down. No conditions but those that each theorem names. Nothing of the program is read here. Proved here: plain facts on maps of flags: bytes are what their flags are; flags of many runs, and of blocks, turned. No conditions but those that each theorem names. Nothing of the program is read here. Proved here: what the document's own reckoning of flags (drydockref05: power, Up, Down) and of runs (drydockref02: Run, Runs, Same) answers. The conditions stand at each theorem. Proved here: what the landed code of package flags answers of one flag (isUp) and of a part of a map (part). The conditions stand at each theorem. Proved here: what the landed code of package flags answers: New, Up, Count, Mark of one sound run, Down. The conditions stand at each theorem. Proved here: what the landed code of package flags answers: Down. The conditions stand at the theorem. Proved here: what slices.Grow of nothing and slices.Concat of lists of numbers answer. The conditions stand at each theorem.
-/
import Derived.Test.YthklefelkdhblaaGreatDoorNn0
import Derived.Test.YthklefelkdhblaaGreatDoorNn3
import Derived.Deep.RegionWith
import Derived.Deep.QuietTactic
import Derived.BigQuiet
import Derived.Test.YthklefelkdhblaaGreatDoorNn1
import Derived.WalkMore
import Derived.ScopeJumps
import Derived.Lib.AppendZeros
namespace Go.Proofs.YthklefelkdhblaaGreatDoor

/-- Flag n of bytes. -/
def flag (zs : List Int) (n : Nat) : Bool := decide (zs.getD (n / 8) 0 / 2 ^ (n % 8) % 2 = 1)

/-- How many below n. -/
def cnt (f : Nat → Bool) : Nat → Nat
  | 0 => 0
  | n + 1 => cnt f n + (if f n then 1 else 0)

/-- The fewest runs of the k from n on, and of those from first on that lie ahead of n. -/
def gaps (has : Nat → Bool) (first n : Nat) : Nat → List (Nat × Nat)
  | 0 => if first < n then [(first, n - first)] else []
  | k + 1 => if has n then gaps has first (n + 1) k else if first < n then (first, n - first) :: gaps has (n + 1) (n + 1) k else gaps has (n + 1) (n + 1) k

def downs (zs : List Int) (n : Nat) : Bool := !flag zs n

def cntErr (len : Nat) (to : Int) : Int := if len = 60 then (if to < 0 ∨ 480 < to then 1 else 0) else 2
def cntOut (zs : List Int) (to : Int) : Int := if cntErr zs.length to = 0 then (cnt (flag zs) to.toNat : Int) else 0
def downErr (len : Nat) (lo hi : Int) : Int := if len = 60 then (if lo < 0 ∨ hi < lo ∨ 480 < hi then 1 else 0) else 2
def downOut (zs : List Int) (lo hi : Int) : List (Nat × Nat) := if downErr zs.length lo hi = 0 then gaps (downs zs) lo.toNat lo.toNat (hi.toNat - lo.toNat) else []

theorem cnt_le (f : Nat → Bool) (n : Nat) : cnt f n ≤ n := by
  induction n with
  | zero => exact Nat.le_refl _
  | succ n ih =>
    show cnt f n + (if f n then 1 else 0) ≤ n + 1
    split <;> omega

theorem cnt_not (f : Nat → Bool) (n : Nat) : cnt f n + cnt (fun i => !f i) n = n := by
  induction n with
  | zero => rfl
  | succ n ih =>
    show cnt f n + (if f n then 1 else 0) + (cnt (fun i => !f i) n + (if !f n then 1 else 0)) = n + 1
    cases f n <;> simp <;> omega

theorem gaps_length (f : Nat → Bool) (k : Nat) : ∀ first n, (gaps f first n k).length ≤ k + 1 := by
  induction k with
  | zero => intro first n; unfold gaps; split <;> simp
  | succ k ih =>
    intro first n
    have e1 := ih first (n + 1)
    have e2 := ih (n + 1) (n + 1)
    unfold gaps
    split
    · omega
    · split
      · rw [List.length_cons]; omega
      · omega

theorem gaps_mem (f : Nat → Bool) (k : Nat) : ∀ first n, first ≤ n → (∀ i, first ≤ i → i < n → f i = true) → ∀ p ∈ gaps f first n k, first ≤ p.1 ∧ 1 ≤ p.2 ∧ p.1 + p.2 ≤ n + k ∧ ∀ i, p.1 ≤ i → i < p.1 + p.2 → f i = true := by
  induction k with
  | zero =>
    intro first n hle hf p hp
    unfold gaps at hp
    split at hp
    · rw [List.mem_singleton.1 hp]
      exact ⟨Nat.le_refl _, by show 1 ≤ n - first; omega, by show first + (n - first) ≤ n + 0; omega, fun i h1 h2 => hf i h1 (by have : i < first + (n - first) := h2; omega)⟩
    · simp at hp
  | succ k ih =>
    intro first n hle hf p hp
    unfold gaps at hp
    by_cases hn : f n = true
    · rw [if_pos hn] at hp
      have h := ih first (n + 1) (by omega) (fun i h1 h2 => by
        by_cases e : i = n
        · rw [e]; exact hn
        · exact hf i h1 (by omega)) p hp
      exact ⟨h.1, h.2.1, by have := h.2.2.1; omega, h.2.2.2⟩
    · rw [if_neg hn] at hp
      have ih2 : p ∈ gaps f (n + 1) (n + 1) k → first ≤ p.1 ∧ 1 ≤ p.2 ∧ p.1 + p.2 ≤ n + (k + 1) ∧ ∀ i, p.1 ≤ i → i < p.1 + p.2 → f i = true := fun hp => by
        have h := ih (n + 1) (n + 1) (Nat.le_refl _) (fun i h1 h2 => by omega) p hp
        exact ⟨by have := h.1; omega, h.2.1, by have := h.2.2.1; omega, h.2.2.2⟩
      split at hp
      · rcases List.mem_cons.1 hp with hp | hp
        · rw [hp]
          exact ⟨Nat.le_refl _, by show 1 ≤ n - first; omega, by show first + (n - first) ≤ n + (k + 1); omega, fun i h1 h2 => hf i h1 (by have : i < first + (n - first) := h2; omega)⟩
        · exact ih2 hp
      · exact ih2 hp

/-- One behind the other, and none beside the next. -/
def Rise : Nat → List (Nat × Nat) → Prop
  | _, [] => True
  | lo, p :: r => lo ≤ p.1 ∧ Rise (p.1 + p.2 + 1) r

theorem Rise.mono {lo hi : Nat} {l : List (Nat × Nat)} (h : Rise hi l) (hle : lo ≤ hi) : Rise lo l := by
  cases l with
  | nil => trivial
  | cons p r => exact ⟨Nat.le_trans hle h.1, h.2⟩

theorem gaps_rise (f : Nat → Bool) (k : Nat) : ∀ first n, first ≤ n → Rise first (gaps f first n k) := by
  induction k with
  | zero =>
    intro first n hle
    unfold gaps
    split
    · exact ⟨Nat.le_refl _, trivial⟩
    · trivial
  | succ k ih =>
    intro first n hle
    unfold gaps
    split
    · exact ih first (n + 1) (by omega)
    · split
      · refine ⟨Nat.le_refl _, ?_⟩
        show Rise (first + (n - first) + 1) _
        have e : first + (n - first) + 1 = n + 1 := by omega
        rw [e]
        exact ih (n + 1) (n + 1) (Nat.le_refl _)
      · exact (ih (n + 1) (n + 1) (Nat.le_refl _)).mono (by omega)

theorem Rise.next : ∀ {l : List (Nat × Nat)} {lo : Nat}, Rise lo l → ∀ {i : Nat} {p q : Nat × Nat}, l[i]? = some p → l[i + 1]? = some q → p.1 + p.2 < q.1
  | [], _, _, i, p, q, h, _ => by simp at h
  | [x], _, _, i, p, q, _, h => by simp at h
  | x :: y :: r, lo, hr, 0, p, q, h1, h2 => by
    simp at h1 h2
    subst h1
    subst h2
    have := hr.2.1
    omega
  | x :: y :: r, lo, hr, i + 1, p, q, h1, h2 => by
    simp at h1 h2
    exact Rise.next (l := y :: r) hr.2 (i := i) (by simpa using h1) (by simpa using h2)

def sumG : List (Nat × Nat) → Nat
  | [] => 0
  | p :: r => p.2 + sumG r

theorem sumG_snoc (l : List (Nat × Nat)) (p : Nat × Nat) : sumG (l ++ [p]) = sumG l + p.2 := by
  induction l with
  | nil => show p.2 + 0 = 0 + p.2; omega
  | cons x l ih => show x.2 + sumG (l ++ [p]) = x.2 + sumG l + p.2; omega

theorem sumG_take {l : List (Nat × Nat)} {i : Nat} {p : Nat × Nat} (h : l[i]? = some p) : sumG (l.take (i + 1)) = sumG (l.take i) + p.2 := by
  rw [List.take_add_one, h]
  exact sumG_snoc _ _

theorem sumG_take_le (l : List (Nat × Nat)) (i : Nat) : sumG (l.take i) ≤ sumG l := by
  induction l generalizing i with
  | nil => simp
  | cons x l ih =>
    cases i with
    | zero => exact Nat.zero_le _
    | succ i => show x.2 + sumG (l.take i) ≤ x.2 + sumG l; have := ih i; omega

theorem gaps_sum (f : Nat → Bool) (k : Nat) : ∀ first n, first ≤ n → sumG (gaps f first n k) + cnt f n = (n - first) + cnt f (n + k) := by
  induction k with
  | zero =>
    intro first n hle
    unfold gaps
    split
    · show (n - first) + 0 + cnt f n = _
      rw [Nat.add_zero, Nat.add_zero]
    · show 0 + cnt f n = _
      rw [Nat.add_zero n]
      omega
  | succ k ih =>
    intro first n hle
    have e1 := ih first (n + 1) (by omega)
    have e2 := ih (n + 1) (n + 1) (Nat.le_refl _)
    have e3 : cnt f (n + 1) = cnt f n + (if f n then 1 else 0) := rfl
    have e4 : n + (k + 1) = n + 1 + k := by omega
    unfold gaps
    rw [e4]
    by_cases hn : f n = true
    · rw [if_pos hn]
      rw [if_pos hn] at e3
      omega
    · rw [if_neg hn]
      rw [if_neg hn] at e3
      split
      · show (n - first) + sumG (gaps f (n + 1) (n + 1) k) + cnt f n = _; omega
      · omega

/-- A byte of which one bit was set, in its list. -/
theorem flag_set {zs : List Int} {n : Nat} {y : Int} {up : Bool} (hn : n / 8 < zs.length) (hy : ∀ i, i < 8 → y / 2 ^ i % 2 = if i = n % 8 then (if up then 1 else 0) else zs.getD (n / 8) 0 / 2 ^ i % 2) (m : Nat) :
    flag (zs.set (n / 8) y) m = if m = n then up else flag zs m := by
  unfold flag
  rw [getD_set _ _ _ _ hn]
  by_cases h : m / 8 = n / 8
  · rw [if_pos h, hy (m % 8) (by omega)]
    by_cases h2 : m % 8 = n % 8
    · rw [if_pos h2, if_pos (show m = n by omega)]
      cases up <;> rfl
    · rw [if_neg h2, if_neg (show ¬ m = n by intro e; exact h2 (by rw [e])), h]
  · rw [if_neg h, if_neg (show ¬ m = n by intro e; exact h (by rw [e]))]

theorem down_rise (zs : List Int) (lo hi : Int) : Rise 0 (downOut zs lo hi) := by
  unfold downOut
  split
  · exact (gaps_rise (downs zs) _ lo.toNat lo.toNat (Nat.le_refl _)).mono (Nat.zero_le _)
  · trivial

/-- Those that are up below hi, but not below lo, and those that are down, are all. -/
theorem all_sum {zs : List Int} {lo hi : Int} (h : downErr zs.length lo hi = 0) : cntErr zs.length lo = 0 ∧ cntErr zs.length hi = 0 ∧ (sumG (downOut zs lo hi) : Int) + cntOut zs hi - cntOut zs lo = hi - lo ∧ 0 ≤ lo ∧ lo ≤ hi ∧ hi ≤ 480 := by
  have ho : zs.length = 60 ∧ 0 ≤ lo ∧ lo ≤ hi ∧ hi ≤ 480 := by
    unfold downErr at h
    by_cases hl : zs.length = 60
    · rw [if_pos hl] at h
      by_cases hc : lo < 0 ∨ hi < lo ∨ 480 < hi
      · rw [if_pos hc] at h; exact absurd h (by decide)
      · omega
    · rw [if_neg hl] at h; exact absurd h (by decide)
  obtain ⟨hl, h0, h1, h2⟩ := ho
  have c1 : cntErr zs.length lo = 0 := by unfold cntErr; rw [if_pos hl, if_neg (by omega)]
  have c2 : cntErr zs.length hi = 0 := by unfold cntErr; rw [if_pos hl, if_neg (by omega)]
  refine ⟨c1, c2, ?_, h0, h1, h2⟩
  unfold cntOut downOut
  rw [if_pos h, if_pos c1, if_pos c2]
  have e := gaps_sum (downs zs) (hi.toNat - lo.toNat) lo.toNat lo.toNat (Nat.le_refl _)
  rw [show lo.toNat + (hi.toNat - lo.toNat) = hi.toNat by omega] at e
  have n1 := cnt_not (flag zs) lo.toNat
  have n2 := cnt_not (flag zs) hi.toNat
  rw [show (fun i => !flag zs i) = downs zs from rfl] at n1 n2
  omega

end Go.Proofs.YthklefelkdhblaaGreatDoor


namespace Go.Proofs.YthklefelkdhblaaGreatDoor

def bitV (b : Bool) (k : Nat) : Int := if b = true then 2 ^ k else 0
/-- The byte of eight flags. -/
def byteOf (f : Nat → Bool) (i : Nat) : Int := bitV (f (8 * i)) 0 + bitV (f (8 * i + 1)) 1 + bitV (f (8 * i + 2)) 2 + bitV (f (8 * i + 3)) 3 + bitV (f (8 * i + 4)) 4 + bitV (f (8 * i + 5)) 5 + bitV (f (8 * i + 6)) 6 + bitV (f (8 * i + 7)) 7
/-- The map of these flags. -/
def ofFlags (f : Nat → Bool) : List Int := (List.range 60).map (byteOf f)

theorem eight (b0 b1 b2 b3 b4 b5 b6 b7 : Bool) : let x := bitV b0 0 + bitV b1 1 + bitV b2 2 + bitV b3 3 + bitV b4 4 + bitV b5 5 + bitV b6 6 + bitV b7 7
    (0 ≤ x ∧ x ≤ 255) ∧ decide (x / 2 ^ 0 % 2 = 1) = b0 ∧ decide (x / 2 ^ 1 % 2 = 1) = b1 ∧ decide (x / 2 ^ 2 % 2 = 1) = b2 ∧ decide (x / 2 ^ 3 % 2 = 1) = b3 ∧ decide (x / 2 ^ 4 % 2 = 1) = b4 ∧ decide (x / 2 ^ 5 % 2 = 1) = b5 ∧ decide (x / 2 ^ 6 % 2 = 1) = b6 ∧ decide (x / 2 ^ 7 % 2 = 1) = b7 := by
  revert b0 b1 b2 b3 b4 b5 b6 b7
  decide +kernel

theorem byte_back : ∀ x : Fin 256, bitV (decide ((x.val : Int) / 2 ^ 0 % 2 = 1)) 0 + bitV (decide ((x.val : Int) / 2 ^ 1 % 2 = 1)) 1 + bitV (decide ((x.val : Int) / 2 ^ 2 % 2 = 1)) 2 + bitV (decide ((x.val : Int) / 2 ^ 3 % 2 = 1)) 3 + bitV (decide ((x.val : Int) / 2 ^ 4 % 2 = 1)) 4 + bitV (decide ((x.val : Int) / 2 ^ 5 % 2 = 1)) 5 + bitV (decide ((x.val : Int) / 2 ^ 6 % 2 = 1)) 6 + bitV (decide ((x.val : Int) / 2 ^ 7 % 2 = 1)) 7 = (x.val : Int) := by
  decide +kernel

theorem ofFlags_length (f : Nat → Bool) : (ofFlags f).length = 60 := by unfold ofFlags; simp
theorem ofFlags_get (f : Nat → Bool) {i : Nat} (h : i < 60) : (ofFlags f).getD i 0 = byteOf f i := by
  unfold ofFlags
  simp [List.getD, h]
theorem flag_ofFlags (f : Nat → Bool) {n : Nat} (h : n < 480) : flag (ofFlags f) n = f n := by
  obtain ⟨i, k, hk, rfl⟩ : ∃ i k, k < 8 ∧ n = 8 * i + k := ⟨n / 8, n % 8, by omega, by omega⟩
  unfold flag
  rw [show (8 * i + k) / 8 = i by omega, show (8 * i + k) % 8 = k by omega, ofFlags_get f (by omega)]
  unfold byteOf
  obtain ⟨_, h0, h1, h2, h3, h4, h5, h6, h7⟩ := eight (f (8 * i)) (f (8 * i + 1)) (f (8 * i + 2)) (f (8 * i + 3)) (f (8 * i + 4)) (f (8 * i + 5)) (f (8 * i + 6)) (f (8 * i + 7))
  match k, hk with
  | 0, _ => exact h0
  | 1, _ => exact h1
  | 2, _ => exact h2
  | 3, _ => exact h3
  | 4, _ => exact h4
  | 5, _ => exact h5
  | 6, _ => exact h6
  | 7, _ => exact h7
theorem ofFlags_congr {f g : Nat → Bool} (h : ∀ n, n < 480 → f n = g n) : ofFlags f = ofFlags g := by
  unfold ofFlags
  refine List.map_congr_left (fun i hi => ?_)
  have hi : i < 60 := List.mem_range.1 hi
  unfold byteOf
  rw [h (8 * i) (by omega), h (8 * i + 1) (by omega), h (8 * i + 2) (by omega), h (8 * i + 3) (by omega), h (8 * i + 4) (by omega), h (8 * i + 5) (by omega), h (8 * i + 6) (by omega), h (8 * i + 7) (by omega)]
theorem ofFlags_back {L : List Int} (hl : L.length = 60) (hz : ∀ z ∈ L, 0 ≤ z ∧ z ≤ 255) : ofFlags (flag L) = L := by
  refine List.ext_getElem (by rw [ofFlags_length, hl]) (fun i h1 h2 => ?_)
  have hb := hz _ (List.getElem_mem h2)
  obtain ⟨y, hy⟩ : ∃ y : Fin 256, L[i] = (y.val : Int) := ⟨⟨L[i].toNat, by omega⟩, by show L[i] = (L[i].toNat : Int); omega⟩
  have hg : L.getD i 0 = L[i] := by simp [List.getD, h2]
  have e : (ofFlags (flag L))[i] = byteOf (flag L) i := by
    have h := ofFlags_get (flag L) (i := i) (by omega)
    simpa [List.getD, h1] using h
  rw [e]
  unfold byteOf flag
  rw [show (8 * i) / 8 = i by omega, show (8 * i) % 8 = 0 by omega, show (8 * i + 1) / 8 = i by omega, show (8 * i + 1) % 8 = 1 by omega, show (8 * i + 2) / 8 = i by omega, show (8 * i + 2) % 8 = 2 by omega, show (8 * i + 3) / 8 = i by omega, show (8 * i + 3) % 8 = 3 by omega, show (8 * i + 4) / 8 = i by omega, show (8 * i + 4) % 8 = 4 by omega, show (8 * i + 5) / 8 = i by omega, show (8 * i + 5) % 8 = 5 by omega, show (8 * i + 6) / 8 = i by omega, show (8 * i + 6) % 8 = 6 by omega, show (8 * i + 7) / 8 = i by omega, show (8 * i + 7) % 8 = 7 by omega, hg, hy]
  exact byte_back y

/-- Is it in one of the runs? -/
def inRuns (rs : List (Nat × Nat)) (n : Nat) : Bool := rs.any fun r => decide (r.1 ≤ n ∧ n < r.1 + r.2)
/-- The flags with those of the runs up, or down. -/
def markF (f : Nat → Bool) (up : Bool) (rs : List (Nat × Nat)) (n : Nat) : Bool := if inRuns rs n = true then up else f n
def markP (zs : List Int) (up : Bool) (rs : List (Nat × Nat)) : List Int := ofFlags (markF (flag zs) up rs)

theorem inRuns_snoc (rs : List (Nat × Nat)) (r : Nat × Nat) (n : Nat) : inRuns (rs ++ [r]) n = (inRuns rs n || decide (r.1 ≤ n ∧ n < r.1 + r.2)) := by
  unfold inRuns
  rw [List.any_append]
  simp
theorem markP_length (zs : List Int) (up : Bool) (rs : List (Nat × Nat)) : (markP zs up rs).length = 60 := ofFlags_length _
theorem flag_markP (zs : List Int) (up : Bool) (rs : List (Nat × Nat)) {n : Nat} (h : n < 480) : flag (markP zs up rs) n = markF (flag zs) up rs n := flag_ofFlags _ h
theorem markP_nil {zs : List Int} (up : Bool) (hl : zs.length = 60) (hz : ∀ z ∈ zs, 0 ≤ z ∧ z ≤ 255) : markP zs up [] = zs := by
  unfold markP
  rw [show markF (flag zs) up [] = flag zs from funext fun n => by simp [markF, inRuns], ofFlags_back hl hz]
/-- One run more, so far as its first j blocks. -/
theorem markP_step {zs L : List Int} {up : Bool} {rs : List (Nat × Nat)} {a j : Nat} (hl : L.length = 60) (hz : ∀ z ∈ L, 0 ≤ z ∧ z ≤ 255) (hf : ∀ m, flag L m = if m = a + j then up else flag (markP zs up (rs ++ [(a, j)])) m) : L = markP zs up (rs ++ [(a, j + 1)]) := by
  rw [← ofFlags_back hl hz]
  refine ofFlags_congr (fun n hn => ?_)
  rw [hf n, flag_markP zs up _ hn]
  unfold markF
  rw [inRuns_snoc, inRuns_snoc]
  by_cases e : n = a + j
  · subst e
    rw [if_pos rfl, if_pos (by simp)]
  · rw [if_neg e]
    have h2 : decide (a ≤ n ∧ n < a + j) = decide (a ≤ n ∧ n < a + (j + 1)) := by
      rw [decide_eq_decide]; omega
    show (if (inRuns rs n || decide (a ≤ n ∧ n < a + j)) = true then up else flag zs n) = _
    rw [h2]
theorem markP_zero (zs : List Int) (up : Bool) (rs : List (Nat × Nat)) (a : Nat) : markP zs up (rs ++ [(a, 0)]) = markP zs up rs := by
  unfold markP
  refine ofFlags_congr (fun n _ => ?_)
  unfold markF
  rw [inRuns_snoc]
  have : decide (a ≤ n ∧ n < a + 0) = false := decide_eq_false (by omega)
  show (if (inRuns rs n || decide (a ≤ n ∧ n < a + 0)) = true then _ else _) = _
  rw [this, Bool.or_false]

/-- The runs of blocks, one each; 0 is no block. -/
def runsOf (l : List Int) : List (Nat × Nat) := (l.filter fun n => !decide (n = 0)).map fun n => (n.toNat, 1)
def markL (zs : List Int) (up : Bool) (l : List Int) : List Int := markP zs up (runsOf l)
theorem runsOf_snoc (l : List Int) (x : Int) : runsOf (l ++ [x]) = if x = 0 then runsOf l else runsOf l ++ [(x.toNat, 1)] := by
  unfold runsOf
  rw [List.filter_append, List.map_append]
  by_cases h : x = 0
  · rw [if_pos h]; simp [h]
  · rw [if_neg h]; simp [h]
end Go.Proofs.YthklefelkdhblaaGreatDoor


namespace Go.Proofs.YthklefelkdhblaaGreatDoor
open Go.RowKit

theorem pow_small {j : Nat} (h : j ≤ 6) : (1 : Int) ≤ 2 ^ j ∧ (2 : Int) ^ j ≤ 64 := by
  rcases j with _ | _ | _ | _ | _ | _ | _ | j
  · decide
  · decide
  · decide
  · decide
  · decide
  · decide
  · decide
  · omega

theorem elemComplex : Elem 101 88 (.complex .f64 0 0) 16 := ⟨Tryz.underlying101, by kernel_rfl, rfl, by decide⟩

/-- A run as the document's own reckoning makes it. -/
def cV (p : Nat × Nat) : Value := .complex .f64 (floatOfInt .f64 (p.1 : Int)) (floatOfInt .f64 (p.2 : Int))

/-- A call that answers v and makes new memory alone. -/
def Tells (base : Nat) (w0 : World) (v : Value) (e : Ending) (w' : World) : Prop := e = .returned v ∧ Below base w0 w'

/-- The values are complex numbers that stand for these runs. -/
def Stands (xs : List Value) (l : List (Nat × Nat)) : Prop :=
  xs.length = l.length ∧ ∀ (j : Nat) (x : Value) (p : Nat × Nat), xs[j]? = some x → l[j]? = some p → ∃ a b, x = .complex .f64 a b ∧ FI a (p.1 : Int) ∧ FI b (p.2 : Int)

/-- A call that hands back runs, in new memory, and an error's number. -/
def HandedRuns (base : Nat) (w0 : World) (l : List (Nat × Nat)) (err : Int) (e : Ending) (w' : World) : Prop :=
  ∃ v xs, e = .returned (.tuple #[v, .int .i64 err]) ∧ FreshV w' base v xs ∧ Stands xs l ∧ Below base w0 w'

theorem stands_cV {l : List (Nat × Nat)} (h : ∀ p ∈ l, p.1 + p.2 ≤ 480) : Stands (l.map cV) l := by
  refine ⟨List.length_map _, fun j x p hx hp => ?_⟩
  rw [List.getElem?_map, hp] at hx
  cases hx
  have hm := h p (List.mem_of_getElem? hp)
  exact ⟨_, _, rfl, fi_ofInt _ (by omega), fi_ofInt _ (by omega)⟩

theorem stands_nil : Stands [] [] := ⟨rfl, fun j x p hx _ => by simp at hx⟩

theorem down_bound {zs : List Int} {lo hi : Int} : ∀ p ∈ downOut zs lo hi, p.1 + p.2 ≤ 480 ∧ 1 ≤ p.2 ∧ ∀ i, p.1 ≤ i → i < p.1 + p.2 → downs zs i = true := by
  intro p hp
  unfold downOut at hp
  by_cases h : downErr zs.length lo hi = 0
  · rw [if_pos h] at hp
    have hb := (all_sum h).2.2.2
    have hm := gaps_mem (downs zs) (hi.toNat - lo.toNat) lo.toNat lo.toNat (Nat.le_refl _) (fun i h1 h2 => by omega) p hp
    exact ⟨by have := hm.2.2.1; omega, hm.2.1, hm.2.2.2⟩
  · rw [if_neg h] at hp
    simp at hp

theorem down_length (zs : List Int) (lo hi : Int) : (downOut zs lo hi).length ≤ 481 := by
  unfold downOut
  by_cases h : downErr zs.length lo hi = 0
  · rw [if_pos h]
    have hb := (all_sum h).2.2.2
    have := gaps_length (downs zs) (hi.toNat - lo.toNat) lo.toNat lo.toNat
    omega
  · rw [if_neg h]
    exact Nat.zero_le _

end Go.Proofs.YthklefelkdhblaaGreatDoor



namespace Go.Proofs.YthklefelkdhblaaGreatDoor
open Go.RowKit

theorem flag_eq (zs : List Int) (n : Nat) : flag zs n = decide (zs.getD (n / 8) 0 / 2 ^ (n % 8) % 2 = 1) := rfl

set_option maxHeartbeats 400000 in
theorem isUp_any (ao : Option Addr) (cap : Nat) (zs : List Int) (n : Nat) (w : World) (hB : Bts w ao 60 zs) (hn : n < 480) :
    Calls Tryz.prog 158 #[.slice ao 60 cap, .int .i64 n] w fun e w' => e = .returned (.bool (flag zs n)) ∧ w = w' := by
  obtain ⟨b, off, rfl, hc⟩ := hB.2.2.2.resolve_left (by decide)
  have hx := hB.2.2.1 _ (getD_mem (l := zs) (k := n / 8) (by rw [hB.1]; omega))
  have hcell := hc (n / 8) (by omega)
  have HF := Lib.hid (flag_eq zs n)
  obtain ⟨x, HX⟩ : ∃ x, Hid (x = zs.getD (n / 8) 0) := ⟨_, Lib.hid rfl⟩
  rw [← HX.out] at hx hcell HF
  have ha := and_one (k := n % 8) hx (by omega)
  obtain ⟨hx0, hx1⟩ := hx
  clear hB hc
  go_enter Tryz.func158, Tryz.ntmps158
  go_wp2_with fail
  go_ret
  exact ⟨by rw [HF.out]; rfl, rfl⟩

set_option maxHeartbeats 800000 in
theorem part_any (ao : Option Addr) (len cap : Nat) (zs : List Int) (p q : Int) (w : World) (hA : Arg w ao len cap zs) (hp : -9223372036854775808 ≤ p ∧ p ≤ 9223372036854775807) (hq : -9223372036854775808 ≤ q ∧ q ≤ 9223372036854775807) :
    Calls Tryz.prog 157 #[.slice ao len cap, .int .i64 p, .int .i64 q] w fun e w' => e = .returned (.int .i64 (downErr len p q)) ∧ w = w' := by
  obtain ⟨hB, _, _, hlen⟩ := hA
  clear hB
  by_cases h60 : len = 60
  · subst h60
    by_cases h1 : p < 0
    · have HE : Hid (downErr 60 p q = 1) := Lib.hid (by unfold downErr; rw [if_pos rfl, if_pos (Or.inl h1)])
      go_enter Tryz.func157, Tryz.ntmps157
      go_wp2_with fail
      go_ret
      exact ⟨by rw [HE.out]; rfl, rfl⟩
    · by_cases h2 : q < p
      · have HE : Hid (downErr 60 p q = 1) := Lib.hid (by unfold downErr; rw [if_pos rfl, if_pos (Or.inr (Or.inl h2))])
        go_enter Tryz.func157, Tryz.ntmps157
        go_wp2_with fail
        go_ret
        exact ⟨by rw [HE.out]; rfl, rfl⟩
      · by_cases h3 : 480 < q
        · have HE : Hid (downErr 60 p q = 1) := Lib.hid (by unfold downErr; rw [if_pos rfl, if_pos (Or.inr (Or.inr h3))])
          go_enter Tryz.func157, Tryz.ntmps157
          go_wp2_with fail
          go_ret
          exact ⟨by rw [HE.out]; rfl, rfl⟩
        · have HE : Hid (downErr 60 p q = 0) := Lib.hid (by unfold downErr; rw [if_pos rfl, if_neg (by omega)])
          go_enter Tryz.func157, Tryz.ntmps157
          go_wp2_with fail
          go_ret
          exact ⟨by rw [HE.out]; rfl, rfl⟩
  · have HE : Hid (downErr len p q = 2) := Lib.hid (by unfold downErr; rw [if_neg h60])
    have hne : ((len : Int) != 60) = true := by simp; omega
    clear hp hq
    go_enter Tryz.func157, Tryz.ntmps157
    go_wp2_with fail
    go_ret
    exact ⟨by rw [HE.out]; rfl, rfl⟩

theorem down_errs (len : Nat) (p q : Int) (h : ¬ (len = 60 ∧ 0 ≤ p ∧ p ≤ q ∧ q ≤ 480)) : downErr len p q = 1 ∨ downErr len p q = 2 := by
  unfold downErr
  by_cases h60 : len = 60
  · rw [if_pos h60, if_pos (by omega)]; exact Or.inl rfl
  · rw [if_neg h60]; exact Or.inr rfl

end Go.Proofs.YthklefelkdhblaaGreatDoor


namespace Go.Proofs.YthklefelkdhblaaGreatDoor
open Go.RowKit

set_option maxHeartbeats 400000 in
theorem New_own (w : World) :
    Calls Tryz.prog 41 #[] w fun e w' => e = .returned (.slice (some ⟨w.heap.size, 0, none⟩) 60 60) ∧ Own w.heap.size w w.heap.size (List.replicate 60 0) w' := by
  have hmk := run_make_bytes w 60 (by decide)
  rw [show ((60 : Nat) : Int) = 60 from rfl] at hmk
  have HO := Lib.hid (made_own w 60)
  generalize hw1 : w.alloc (.cells (madeCells #[.int .u8 0] 60) 5) = w1 at *
  have HW1 := Lib.hid hw1
  clear hw1
  go_enter Tryz.func41, Tryz.ntmps41
  go_wp2_with fail
  go_ret
  exact ⟨rfl, HO.out⟩

theorem xNew_any (w : World) :
    Calls Tryz.prog 41 #[] w (Gives w.heap.size w (List.replicate 60 0)) := by
  refine (New_own w).mono ?_
  rintro e w' ⟨rfl, hO⟩
  have hf := hO.fresh (cap := 60) (by rw [List.length_replicate]; decide) (by rw [List.length_replicate]; decide)
  rw [List.length_replicate] at hf
  exact ⟨_, rfl, hf, hO.2.2.2.2⟩

/-- A call that turns flag n of the own block g alone. -/
def Turned (base : Nat) (w0 : World) (g : Nat) (L : List Int) (n : Nat) (up : Bool) (e : Ending) (w' : World) : Prop :=
  ∃ M, e = .returned (.tuple #[]) ∧ Own base w0 g M w' ∧ M.length = 60 ∧ ∀ m, flag M m = if m = n then up else flag L m

set_option maxHeartbeats 400000 in
theorem set_any (base : Nat) (w0 : World) (g : Nat) (L : List Int) (n : Nat) (up : Bool) (w : World) (hO : Own base w0 g L w) (hL : L.length = 60) (hn : n < 480) :
    Calls Tryz.prog 93 #[.slice (some ⟨g, 0, none⟩) 60 60, .int .i64 n, .bool up] w (Turned base w0 g L n up) := by
  have hx := hO.1 _ (getD_mem (l := L) (k := n / 8) (by omega))
  have hcell := hO.2.1 (n / 8) (by omega)
  have hfr := hO.2.2.1 (n / 8)
  have HO := Lib.hid hO
  have HL := Lib.hid hL
  obtain ⟨x, HX⟩ : ∃ x, Hid (x = L.getD (n / 8) 0) := ⟨_, Lib.hid rfl⟩
  rw [← HX.out] at hx hcell
  have ho := or_bit (k := n % 8) hx (by omega)
  have ha := andNot_bit (k := n % 8) hx (by omega)
  have hp : (1 : Int) ≤ 2 ^ (n % 8) ∧ (2 : Int) ^ (n % 8) ≤ 128 := by
    by_cases h7 : n % 8 = 7
    · rw [h7]; decide
    · have := pow_small (j := n % 8) (by omega); omega
  obtain ⟨hx0, hx1⟩ := hx
  obtain ⟨hp0, hp1⟩ := hp
  clear hO hL
  cases up
  · obtain ⟨y, hy⟩ : ∃ y, bits .andNot .u8 x (2 ^ (n % 8)) = y := ⟨_, rfl⟩
    rw [hy] at ha
    have HA := Lib.hid ha
    clear ho ha
    go_enter Tryz.func93, Tryz.ntmps93
    go_wp2_with fail
    go_end0
    exact ⟨L.set (n / 8) y, rfl, HO.out.store (k := n / 8) (by rw [HL.out]; omega) HA.out.1, by rw [List.length_set, HL.out], fun m => flag_set (up := false) (by rw [HL.out]; omega) (by rw [← HX.out]; exact HA.out.2) m⟩
  · obtain ⟨y, hy⟩ : ∃ y, bits .or .u8 x (2 ^ (n % 8)) = y := ⟨_, rfl⟩
    rw [hy] at ho
    have HA := Lib.hid ho
    clear ho ha
    go_enter Tryz.func93, Tryz.ntmps93
    go_wp2_with fail
    go_end0
    exact ⟨L.set (n / 8) y, rfl, HO.out.store (k := n / 8) (by rw [HL.out]; omega) HA.out.1, by rw [List.length_set, HL.out], fun m => flag_set (up := true) (by rw [HL.out]; omega) (by rw [← HX.out]; exact HA.out.2) m⟩

theorem cnt_down (len : Nat) (n : Int) : downErr len 0 n = cntErr len n := by
  unfold downErr cntErr
  by_cases h1 : n < 0 ∨ 480 < n
  · rw [if_pos h1, if_pos (show (0 : Int) < 0 ∨ n < 0 ∨ 480 < n from Or.inr h1)]
  · rw [if_neg h1, if_neg (show ¬ ((0 : Int) < 0 ∨ n < 0 ∨ 480 < n) by omega)]

theorem cnt_errs (len : Nat) (n : Int) (h : ¬ (len = 60 ∧ 0 ≤ n ∧ n ≤ 480)) : cntErr len n = 1 ∨ cntErr len n = 2 := by
  unfold cntErr
  by_cases h60 : len = 60
  · rw [if_pos h60, if_pos (by omega)]; exact Or.inl rfl
  · rw [if_neg h60]; exact Or.inr rfl

set_option maxRecDepth 100000 in
set_option maxHeartbeats 800000 in
theorem xCount_any (ao : Option Addr) (len cap : Nat) (zs : List Int) (n : Int) (w : World) (hA : Arg w ao len cap zs) (hn : -9223372036854775808 ≤ n ∧ n ≤ 9223372036854775807) :
    Calls Tryz.prog 105 #[.slice ao len cap, .int .i64 n] w (Tells w.heap.size w (.tuple #[.int .i64 (cntOut zs n), .int .i64 (cntErr len n)])) := by
  have cP := part_any ao len cap zs 0 n w hA (by decide) hn
  rw [cnt_down] at cP
  obtain ⟨hB, _, _, hlen⟩ := hA
  have hl := hB.1
  by_cases hok : len = 60 ∧ 0 ≤ n ∧ n ≤ 480
  · obtain ⟨rfl, h0, h1⟩ := hok
    have HE : Hid (cntErr 60 n = 0) := Lib.hid (by unfold cntErr; rw [if_pos rfl, if_neg (by omega)])
    rw [HE.out] at cP
    obtain ⟨to, hto⟩ : ∃ to : Nat, n = to := ⟨n.toNat, by omega⟩
    subst hto
    have HV : Hid (cntOut zs to = cnt (flag zs) to) := Lib.hid (by unfold cntOut; rw [hl, HE.out, if_pos rfl]; rfl)
    have h480 : to ≤ 480 := by omega
    have HB := Lib.hid hB
    clear hB hl hlen h0 h1 hn
    go_enter Tryz.func105, Tryz.ntmps105
    go_wp2_with (go_at_call 157; refine cP.mono ?_; rintro e w' ⟨rfl, rfl⟩)
    clear cP
    go_loop [7, 16] (fun kv nv => ∃ i : Nat, i ≤ to ∧ nv = .int .i64 i ∧ kv = .int .i64 (cnt (flag zs) i : Nat)) (fun _ nv => to - (intOf nv).toNat)
    case atStart => exact ⟨0, Nat.zero_le _, rfl, rfl⟩
    case round =>
      obtain ⟨i, hi, rfl, rfl⟩ := hrel
      by_cases hlt : i < to
      · have cU := isUp_any ao cap zs i w HB.out (by omega)
        have hle := cnt_le (flag zs) i
        have HN : Hid (cnt (flag zs) (i + 1) = cnt (flag zs) i + (if flag zs i then 1 else 0)) := Lib.hid rfl
        obtain ⟨k, HK⟩ : ∃ k, Hid (k = cnt (flag zs) i) := ⟨_, Lib.hid rfl⟩
        rw [← HK.out] at hle HN ⊢
        cases hf : flag zs i
        · rw [hf] at cU HN
          clear hf
          go_wp2_with (go_at_call 158; refine cU.mono ?_; rintro e w' ⟨rfl, rfl⟩)
          go_round
          case rel => exact ⟨i + 1, by omega, by go_num, by rw [HN.out]; rfl⟩
          case measure => simp [intOf]; omega
        · rw [hf] at cU HN
          clear hf
          go_wp2_with (go_at_call 158; refine cU.mono ?_; rintro e w' ⟨rfl, rfl⟩)
          go_round
          case rel => exact ⟨i + 1, by omega, by go_num, by rw [HN.out]; go_num⟩
          case measure => simp [intOf]; omega
      · have hit : i = to := by omega
        subst hit
        go_wp2_with fail
        go_ret2
        exact ⟨by rw [HE.out, HV.out]; rfl, Below.refl _ _⟩
  · have hE := cnt_errs len n hok
    have HV : Hid (cntOut zs n = 0) := Lib.hid (by unfold cntOut; rw [hl, if_neg (by omega)])
    clear hB hl hn hok hlen
    rcases hE with hE | hE
    all_goals
      rw [hE] at cP ⊢
      clear hE
      go_enter Tryz.func105, Tryz.ntmps105
      go_wp2_with (go_at_call 157; refine cP.mono ?_; rintro e w' ⟨rfl, rfl⟩)
      go_ret2
      exact ⟨by rw [HV.out]; rfl, Below.refl _ _⟩

end Go.Proofs.YthklefelkdhblaaGreatDoor


namespace Go.Proofs.YthklefelkdhblaaGreatDoor
open Go.RowKit

section
variable {P : Program} {a : Act} {w : World} {Q : Exit → Act → World → Prop}
/-- A scope in which the run comes to a label and jumps back to it: its rest is walked once. -/
theorem wp_scope_again {c rest : Code} (l : Nat) (J : Act → World → Prop) (μ : Act → World → Nat) (hf : findLabel c l = some (Code.skip.seq rest))
    (first : (∀ a w, J a w → rest.wp P (Exit.jump l J Q) a w) → c.wp P (Exit.jump l J Q) a w)
    (pass : ∀ a w, J a w → rest.wp P (Exit.jump l (fun a' w' => J a' w' ∧ μ a' w' < μ a w) Q) a w) : (Code.scope c).wp P Q a w := by
  refine wp_scope_jumps l J μ hf (first (fun a w h => wp_mono (pass a w h) (fun e a' w' hq => ?_))) (fun a w h => wp_seq (wp_skip (pass a w h)))
  cases e with
  | goto l' => exact ⟨hq.1, hq.2.1⟩
  | _ => exact hq
end

theorem gaps_skip {f : Nat → Bool} {n hi : Nat} (h : n < hi) (hf : f n = false) : gaps f n n (hi - n) = gaps f (n + 1) (n + 1) (hi - (n + 1)) := by
  obtain ⟨k, hk⟩ : ∃ k, hi - n = k + 1 := ⟨hi - n - 1, by omega⟩
  rw [hk, show hi - (n + 1) = k by omega]
  conv => lhs; unfold gaps
  rw [if_neg (show ¬ f n = true by rw [hf]; decide), if_neg (Nat.lt_irrefl n)]

theorem gaps_grow {f : Nat → Bool} {first n hi : Nat} (h : n < hi) (hf : f n = true) : gaps f first n (hi - n) = gaps f first (n + 1) (hi - (n + 1)) := by
  obtain ⟨k, hk⟩ : ∃ k, hi - n = k + 1 := ⟨hi - n - 1, by omega⟩
  rw [hk, show hi - (n + 1) = k by omega]
  conv => lhs; unfold gaps
  rw [if_pos hf]

theorem gaps_cut {f : Nat → Bool} {first n hi : Nat} (h : n ≤ hi) (hf : n < hi → f n = false) (hlt : first < n) : gaps f first n (hi - n) = (first, n - first) :: gaps f n n (hi - n) := by
  by_cases he : n = hi
  · rw [he, Nat.sub_self]
    unfold gaps
    rw [if_pos (by omega), if_neg (Nat.lt_irrefl hi)]
  · rw [gaps_skip (by omega) (hf (by omega))]
    obtain ⟨k, hk⟩ : ∃ k, hi - n = k + 1 := ⟨hi - n - 1, by omega⟩
    rw [hk, show hi - (n + 1) = k by omega]
    conv => lhs; unfold gaps
    rw [if_neg (show ¬ f n = true by rw [hf (by omega)]; decide), if_pos hlt]

/-- What holds at the label. -/
def AtNext (zs : List Int) (lo hi : Nat) (base : Nat) (w0 : World) (n : Nat) (vv : Value) (wr : World) : Prop :=
  ∃ acc : List (Nat × Nat), lo ≤ n ∧ n ≤ hi ∧ acc.length ≤ n ∧ acc ++ gaps (downs zs) n n (hi - n) = gaps (downs zs) lo lo (hi - lo) ∧
    wr.ownsRow base 88 1 vv acc.length (acc.map cV) ∧ Below base w0 wr

theorem gaps_skips {f : Nat → Bool} {n hi : Nat} : ∀ d : Nat, n + d ≤ hi → (∀ i, n ≤ i → i < n + d → f i = false) → gaps f n n (hi - n) = gaps f (n + d) (n + d) (hi - (n + d))
  | 0, _, _ => rfl
  | d + 1, h, hf => by
    rw [gaps_skips d (by omega) (fun i h1 h2 => hf i h1 (by omega)), gaps_skip (by omega) (hf (n + d) (by omega) (by omega))]
    rfl

theorem gaps_grows {f : Nat → Bool} {n hi : Nat} : ∀ d : Nat, n + d ≤ hi → (∀ i, n ≤ i → i < n + d → f i = true) → gaps f n n (hi - n) = gaps f n (n + d) (hi - (n + d))
  | 0, _, _ => rfl
  | d + 1, h, hf => by
    rw [gaps_grows d (by omega) (fun i h1 h2 => hf i h1 (by omega)), gaps_grow (by omega) (hf (n + d) (by omega) (by omega))]
    rfl

/-- The first block from n on, below hi, whose flag is so, or hi. -/
def Sought (zs : List Int) (up : Bool) (n hi : Nat) (w : World) (e : Ending) (w' : World) : Prop :=
  (∃ m : Nat, n ≤ m ∧ m ≤ hi ∧ e = .returned (.int .i64 m) ∧ (∀ i, n ≤ i → i < m → flag zs i = !up) ∧ (m < hi → flag zs m = up)) ∧ w = w'

set_option maxRecDepth 100000 in
set_option maxHeartbeats 800000 in
theorem seek_any (ao : Option Addr) (cap : Nat) (zs : List Int) (up : Bool) (n hi : Nat) (w : World) (hB : Bts w ao 60 zs) (h1 : n ≤ hi) (h2 : hi ≤ 480) :
    Calls Tryz.prog 251 #[.slice ao 60 cap, .bool up, .int .i64 n, .int .i64 hi] w (Sought zs up n hi w) := by
  have HU : Hid (∀ k : Nat, k < 480 → Calls Tryz.prog 158 #[.slice ao 60 cap, .int .i64 k] w fun e w'' => e = .returned (.bool (flag zs k)) ∧ w = w'') := Lib.hid (fun k hk => isUp_any ao cap zs k w hB hk)
  obtain ⟨c, HC⟩ : ∃ c, Hid (c = !up) := ⟨_, Lib.hid rfl⟩
  clear hB
  cases up
  all_goals
    go_enter Tryz.func251, Tryz.ntmps251
    go_wp2_with fail
    go_loop [2] (fun mv => ∃ m : Nat, n ≤ m ∧ m ≤ hi ∧ mv = .int .i64 m ∧ Hid (∀ i, n ≤ i → i < m → flag zs i = c)) (fun mv => hi - (intOf mv).toNat)
    case atStart => exact ⟨n, Nat.le_refl _, h1, rfl, Lib.hid (fun i h1 h2 => absurd h1 (by omega))⟩
    case round =>
      obtain ⟨m, hm1, hm2, rfl, HM⟩ := hrel
      by_cases hlt : m < hi
      · have cU := HU.out m (by omega)
        cases hf : flag zs m
        all_goals
          rw [hf] at cU
          have HF := Lib.hid hf
          clear hf
          go_wp2_with (go_at_call 158; refine cU.mono ?_; rintro e w' ⟨rfl, rfl⟩)
          first
          | (go_ret
             exact ⟨⟨m, hm1, hm2, rfl, fun i h1 h2 => by rw [HM.out i h1 h2, HC.out], fun _ => HF.out⟩, rfl⟩)
          | (go_round
             case rel => exact ⟨m + 1, by omega, by omega, by go_num, Lib.hid (fun i h1 h2 => by
               by_cases e : i = m
               · rw [e, HF.out, HC.out]; rfl
               · exact HM.out i h1 (by omega))⟩
             case measure => simp [intOf]; omega)
      · go_wp2_with fail
        go_ret
        exact ⟨⟨m, hm1, hm2, rfl, fun i h1 h2 => by rw [HM.out i h1 h2, HC.out], fun h => absurd h hlt⟩, rfl⟩

set_option maxHeartbeats 400000 in
theorem ofF_any (a b : Nat) (w : World) (hb : 1 ≤ b) :
    Calls Tryz.prog 94 #[.int .i64 a, .int .i64 b] w fun e w' => e = .returned (.complex .f64 (floatOfInt .f64 (a : Int)) (floatOfInt .f64 (b : Int))) ∧ w = w' := by
  have h1 : ¬ (b : Int) < 1 := by omega
  go_enter Tryz.func94, Tryz.ntmps94
  go_wp2
  go_ret
  exact ⟨rfl, rfl⟩

set_option maxHeartbeats 400000 in
theorem OfF_any (a b : Nat) (w : World) (hb : 1 ≤ b) (hab : a + b ≤ 480) :
    Calls Tryz.prog 43 #[.int .i64 a, .int .i64 b] w fun e w' => e = .returned (.tuple #[.complex .f64 (floatOfInt .f64 (a : Int)) (floatOfInt .f64 (b : Int)), .int .i64 0]) ∧ w = w' := by
  have c := ofF_any a b w hb
  have h1 : ¬ (b : Int) < 1 := by omega
  have h2 : ¬ (480 - (b : Int)) < a := by omega
  go_enter Tryz.func43, Tryz.ntmps43
  go_wp2_with (go_at_call 94; refine c.mono ?_; rintro e w' ⟨rfl, rfl⟩)
  go_ret2
  exact ⟨rfl, rfl⟩

set_option maxRecDepth 100000 in
set_option maxHeartbeats 1600000 in
theorem xDown_any (ao : Option Addr) (len cap : Nat) (zs : List Int) (p q : Int) (w : World) (hA : Arg w ao len cap zs) (hp : -9223372036854775808 ≤ p ∧ p ≤ 9223372036854775807) (hq : -9223372036854775808 ≤ q ∧ q ≤ 9223372036854775807) :
    Calls Tryz.prog 219 #[.slice ao len cap, .int .i64 p, .int .i64 q] w (HandedRuns w.heap.size w (downOut zs p q) (downErr len p q)) := by
  have cP := part_any ao len cap zs p q w hA hp hq
  obtain ⟨hB, _, _, hlen⟩ := hA
  have hl := hB.1
  by_cases hok : len = 60 ∧ 0 ≤ p ∧ p ≤ q ∧ q ≤ 480
  · obtain ⟨rfl, h0, h1, h2⟩ := hok
    have HE : Hid (downErr 60 p q = 0) := Lib.hid (by unfold downErr; rw [if_pos rfl, if_neg (by omega)])
    rw [HE.out] at cP
    obtain ⟨lo, hlo⟩ : ∃ lo : Nat, p = lo := ⟨p.toNat, by omega⟩
    obtain ⟨hi, hhi⟩ : ∃ hi : Nat, q = hi := ⟨q.toNat, by omega⟩
    subst hlo
    subst hhi
    have HV : Hid (downOut zs lo hi = gaps (downs zs) lo lo (hi - lo)) := Lib.hid (by unfold downOut; rw [hl, HE.out, if_pos rfl]; rfl)
    have h480 : hi ≤ 480 := by omega
    have hle : lo ≤ hi := by omega
    have HB := Lib.hid hB
    clear hB hl hlen h0 h1 h2 hp hq
    have HJ0 : Hid (AtNext zs lo hi w.heap.size w lo (.slice none 0 0) w) := Lib.hid ⟨[], Nat.le_refl _, hle, Nat.zero_le _, rfl, World.ownsRow_nil w w.heap.size 88 1, Below.refl _ _⟩
    go_enter Tryz.func219, Tryz.ntmps219
    go_wp2_with fail
    refine wp_scope_again 0 (fun a' w' => ∃ (vv : Value) (n : Nat) (u3 u4 u5 u8 u11 u12 u13 u14 u15 u16 u17 u18 u19 u20 u21 u22 u23 u24 u25 u26 u27 u28 u29 u30 u31 u32 u33 u34 u35 u36 u37 u38 u39 u40 u41 u42 u43 u44 u45 : Value), a' = { tmps := #[.slice ao 60 cap, .int .i64 lo, .int .i64 hi, u3, u4, u5, .slice none 0 0, .int .i64 0, u8, vv, .int .i64 n, u11, u12, u13, u14, u15, u16, u17, u18, u19, u20, u21, u22, u23, u24, u25, u26, u27, u28, u29, u30, u31, u32, u33, u34, u35, u36, u37, u38, u39, u40, u41, u42, u43, u44, u45], defers := [] } ∧ Hid (AtNext zs lo hi w.heap.size w n vv w')) (fun a' _ => hi - (intOf (a'.tmps.getD 10 undef)).toNat) rfl ?_ ?_
    · intro hpass
      go_wp2_with (go_at_call 157; refine cP.mono ?_; rintro e w' ⟨rfl, rfl⟩)
      go_step3
      rename_i hK0
      refine hK0 _ _ (hpass _ _ ?_)
      exact ⟨_, lo, _, _, _, _, _, _, _, _, _, _, _, _, _, _, _, _, _, _, _, _, _, _, _, _, _, _, _, _, _, _, _, _, _, _, _, _, _, _, _, rfl, HJ0⟩
    · rintro a' w' ⟨vv, n, u3, u4, u5, u8, u11, u12, u13, u14, u15, u16, u17, u18, u19, u20, u21, u22, u23, u24, u25, u26, u27, u28, u29, u30, u31, u32, u33, u34, u35, u36, u37, u38, u39, u40, u41, u42, u43, u44, u45, rfl, HJ⟩
      clear HJ0 cP
      obtain ⟨acc, j1, j2, j3, j4, j5, j6⟩ := HJ.out
      have HBw := Lib.hid (HB.out.later j6)
      have HG := Lib.hid j4
      have HO := Lib.hid j5
      have HW := Lib.hid j6
      have HS : Hid (w.heap.size ≤ w'.heap.size + 1) := Lib.hid (by have := j6.size; omega)
      clear HJ j4 j5 j6
      go_wp2_with fail
      refine (seek_any ao cap zs false n hi w' HBw.out j2 h480).mono ?_
      rintro e w'' ⟨⟨m, m1, m2, rfl, m3, m4⟩, rfl⟩
      have HM3 := Lib.hid m3
      have HM4 := Lib.hid m4
      clear m3 m4
      have HGM : Hid (acc ++ gaps (downs zs) m m (hi - m) = gaps (downs zs) lo lo (hi - lo)) := Lib.hid (by
        have h := HG.out
        rw [gaps_skips (m - n) (by omega) (fun i h1 h2 => by unfold downs; rw [HM3.out i h1 (by omega)]; rfl)] at h
        rwa [show n + (m - n) = m by omega] at h)
      by_cases heq : m = hi
      · have HF : Hid (acc.map cV = (downOut zs lo hi).map cV) := Lib.hid (by
          rw [HV.out, ← HGM.out, heq, Nat.sub_self]
          unfold gaps
          rw [if_neg (Nat.lt_irrefl hi), List.append_nil])
        have hq : ((m : Int) == (hi : Int)) = true := by simp [heq]
        clear heq
        go_wp2_with fail
        simp only [Exit.jump]
        go_ret2
        exact ⟨_, (downOut zs lo hi).map cV, by rw [HE.out]; rfl, by rw [← HF.out]; exact owns_vals HO.out (by omega), stands_cV (fun p h => (down_bound p h).1), HW.out⟩
      · have hq : ((m : Int) == (hi : Int)) = false := by simp; omega
        have hlt : m < hi := by omega
        clear heq
        go_wp2_with fail
        refine (seek_any ao cap zs true m hi w' HBw.out m2 h480).mono ?_
        rintro e w'' ⟨⟨k, k1, k2, rfl, k3, k4⟩, rfl⟩
        have HK3 := Lib.hid k3
        have HK4 := Lib.hid k4
        have hgt : m < k := by
          rcases Nat.lt_or_ge m k with h | h
          · exact h
          · have e : k = m := by omega
            subst e
            have h1 := HM4.out hlt
            rw [k4 hlt] at h1
            exact absurd h1 (by decide)
        clear k3 k4
        have HG2 : Hid (acc ++ [(m, k - m)] ++ gaps (downs zs) k k (hi - k) = gaps (downs zs) lo lo (hi - lo)) := Lib.hid (by
          have h := HGM.out
          rw [gaps_grows (k - m) (by omega) (fun i h1 h2 => by unfold downs; rw [HK3.out i h1 (by omega)]; rfl), show m + (k - m) = k by omega, gaps_cut k2 (fun h => by unfold downs; rw [HK4.out h]; rfl) hgt] at h
          rw [List.append_assoc]
          exact h)
        have HE1 : Hid (((k - m : Nat) : Int) = (k : Int) - (m : Int)) := Lib.hid (by omega)
        have cO := OfF_any m (k - m) w' (by omega) (by omega)
        rw [HE1.out] at cO
        clear hq
        go_wp2_with (first | (go_at_call 43; refine cO.mono ?_; rintro e w'' ⟨rfl, rfl⟩) | (at_builtin; refine wp_append_one elemComplex rfl (.tmp 42) (.tmp 44) rfl w.heap.size acc.length _ _ rfl (HO.out.alloc _) ⟨w'.heap.size, 0, none⟩ 1 _ rfl (one_cell_new _ _ _) rfl rfl (by omega) (by simpa using HS.out) ?_; intro v1 w1 hown1 hb1; have HO1 := Lib.hid hown1; have HB1 := Lib.hid hb1; clear hown1 hb1))
        go_step3
        refine ⟨rfl, ⟨⟨v1, k, _, _, _, _, _, _, _, _, _, _, _, _, _, _, _, _, _, _, _, _, _, _, _, _, _, _, _, _, _, _, _, _, _, _, _, _, _, _, _, rfl, Lib.hid ⟨acc ++ [(m, k - m)], by omega, k2, by rw [List.length_append]; simp; omega, HG2.out, ?_, (HW.out.alloc (by have := HW.out.size; exact this) _).trans HB1.out⟩⟩, by simp [intOf]; omega⟩⟩
        rw [List.length_append, List.map_append]
        have h := HO1.out
        rw [← HE1.out] at h
        exact h
  · have hE := down_errs len p q hok
    have HV : Hid (downOut zs p q = []) := Lib.hid (by unfold downOut; rw [hl, if_neg (by omega)])
    clear hB hl hok hlen
    rcases hE with hE | hE
    all_goals
      rw [hE] at cP
      have HE := Lib.hid hE
      clear hE
      go_enter Tryz.func219, Tryz.ntmps219
      go_wp2_with fail
      go_step3
      go_wp2_with (go_at_call 157; refine cP.mono ?_; rintro e w' ⟨rfl, rfl⟩)
      rw [Exit.noGoto_ret]
      go_ret2
      exact ⟨_, [], by rw [HE.out]; rfl, FreshV.nil _ _, by rw [HV.out]; exact stands_nil, Below.refl _ _⟩

end Go.Proofs.YthklefelkdhblaaGreatDoor


namespace Go.Proofs.YthklefelkdhblaaGreatDoor
open Go.RowKit
set_option linter.unusedVariables false
set_option linter.unusedSimpArgs false

theorem grown_row (w : World) (n : Nat) (h0 : 0 < n) (hn : n ≤ 100000) : (w.drew.alloc (.cells (Builtin.zeroCells (Value.int .i64 0).cells n ++ Builtin.zeroCells (Value.int .i64 0).cells (grownCap w n 0 3 - n)) 3)).ownsRow w.heap.size 3 1 (.slice (some ⟨w.heap.size, 0, none⟩) 0 (grownCap w n 0 3)) 0 [] := by
  have hge := grownCap_ge w n 0 3
  have hcm : grownCap w n 0 3 ≤ maxLen := grownCap_le_maxLen w n 0 _ (by unfold maxLen; omega)
  refine ⟨rfl, .inr ⟨w.heap.size, _, _, rfl, Nat.le_refl _, heap_alloc_new w.drew _, Nat.zero_le _, hcm, ?_, by simp⟩⟩
  rw [Array.size_append, size_zeroCells, size_zeroCells]
  show n * 1 + _ * 1 = _
  omega

set_option maxRecDepth 100000 in
set_option maxHeartbeats 1600000 in
theorem Grow_any (n : Nat) (w : World) (hn : n ≤ 100000) : Calls Tryz.prog 180 #[.slice none 0 0, .int .i64 n] w fun e w' => ∃ v, e = .returned v ∧ w'.ownsRow w.heap.size 3 1 v 0 [] ∧ Below w.heap.size w w' := by
  by_cases h0 : n = 0
  · subst h0
    go_enter Tryz.func180, Tryz.ntmps180
    go_wp2_with fail
    go_ret
    exact ⟨_, rfl, owns_nil_r _ _ _ _, Below.refl _ _⟩
  · obtain ⟨i0, hi0, hz0, hz1, hz2⟩ := info_parts elemI.2.1
    have hr := fun ty => Lib.run_append_nil_zeros (P := Tryz.prog) w 50 3 ty 3 i0 (.int .i64 0) .i64 .i64 Tryz.underlying50 Tryz.underlying3 hi0 hz0 n (by omega) (by rw [hz1]; decide) (by omega) (by rw [hz2]; omega)
    have HO := Lib.hid (grown_row w n (by omega) hn)
    have HG : Hid (0 ≤ grownCap w n 0 3) := Lib.hid (Nat.zero_le _)
    have HR := Lib.hid hr
    have n1 : ¬ ((n : Int) < 0) := by omega
    have n2 : wrap64 (0 - 0) = 0 := by unfold wrap64; omega
    have n3 : wrap64 ((n : Int) - 0) = (n : Int) := by unfold wrap64; omega
    have n4 : (0 : Int) < (n : Int) := by omega
    clear hr hi0 hz0 hz1 hz2 h0
    go_enter Tryz.func180, Tryz.ntmps180
    go_wp2_with (at_builtin; refine Lib.wpList_append_run _ rfl (.tmp 20) (.tmp 21) _ _ rfl _ _ rfl rfl _ _ (HR.out _) ?_)
    go_ret
    exact ⟨_, rfl, HO.out, (((Below.refl _ _).drew).alloc (Nat.le_refl _) _)⟩

/-- A row of lists of numbers. -/
def ListsIn (w : World) (b off : Nat) (ls : List (List Int)) : Prop :=
  ∀ j zs, ls[j]? = some zs → ∃ a l c, w.cell? ⟨b, off + j, none⟩ = some (.slice a l c) ∧ IArg w a l c zs

theorem ListsIn.later {w wx : World} {b off : Nat} {ls : List (List Int)} (h : ListsIn w b off ls) (hb : Below w.heap.size w wx) : ListsIn wx b off ls := fun j zs hj => by
  obtain ⟨a, l, c, h1, h2⟩ := h j zs hj
  exact ⟨a, l, c, cell_later hb h1, h2.later hb⟩

def lenL (ls : List (List Int)) : Nat := (ls.map List.length).sum
theorem len_take {ls : List (List Int)} {i : Nat} {zs : List Int} (h : ls[i]? = some zs) : lenL (ls.take (i + 1)) = lenL (ls.take i) + zs.length := by
  unfold lenL
  rw [List.take_add_one, h]
  simp
theorem len_le (ls : List (List Int)) (i : Nat) : lenL (ls.take i) ≤ lenL ls := by
  conv => rhs; rw [← List.take_append_drop i ls]
  unfold lenL
  rw [List.map_append, List.sum_append]
  omega

set_option maxRecDepth 100000 in
set_option maxHeartbeats 3200000 in
theorem Concat_any (b off n cap : Nat) (ls : List (List Int)) (w : World) (hn : ls.length = n) (hL : ListsIn w b off ls) (h100 : lenL ls ≤ 10000) (hn100 : n ≤ 100) : Calls Tryz.prog 129 #[.slice (some ⟨b, off, none⟩) n cap] w fun e w' => ∃ v, e = .returned v ∧ w'.ownsRow w.heap.size 3 1 v (lenL ls) (ints ls.flatten) ∧ Below w.heap.size w w' := by
  have HL := Lib.hid hL
  have HN := Lib.hid hn
  have H100 := Lib.hid h100
  clear hL h100
  go_enter Tryz.func129, Tryz.ntmps129
  go_wp2_with fail
  go_loopw [3, 11] (fun sv iv wr => ∃ i : Nat, iv = .int .i64 (i : Int) ∧ sv = .int .i64 ((lenL (ls.take i) : Nat) : Int) ∧ i ≤ n ∧ Hid (w = wr)) (fun _ iv _ => n - (intOf iv).toNat)
  case atStart => exact ⟨0, rfl, rfl, Nat.zero_le _, Lib.hid rfl⟩
  case round =>
    obtain ⟨i, rfl, rfl, hi, HW⟩ := hrel
    by_cases hlt : i < n
    · obtain ⟨zs, hzs⟩ : ∃ zs, ls[i]? = some zs := ⟨_, List.getElem?_eq_getElem (by rw [hn]; exact hlt)⟩
      obtain ⟨a, l, c, d1, d2⟩ := HL.out i zs hzs
      have d1 : wr.cell? ⟨b, off + i, none⟩ = some (.slice a l c) := by rw [← HW.out]; exact d1
      have hs := len_take hzs
      have hle := len_le ls (i + 1)
      have h100 := H100.out
      rw [d2.len] at hs
      have HS := Lib.hid hs
      have i1 : (i : Int) < (n : Int) := by omega
      have s1 : wrap64 (((lenL (ls.take i) : Nat) : Int) + (l : Int)) = ((lenL (ls.take (i + 1)) : Nat) : Int) := by unfold wrap64; omega
      have s2 : ¬ (((lenL (ls.take (i + 1)) : Nat) : Int) < 0) := by omega
      clear d2 hs hle h100 hzs
      go_wp2_with fail
      go_roundw
      case rel => exact ⟨i + 1, by go_num, by rw [s1], by omega, HW⟩
      case measure => simp [intOf]; omega
    · obtain rfl : i = n := by omega
      have HT : Hid (lenL (ls.take i) = lenL ls) := Lib.hid (by rw [← hn, List.take_length])
      have HT2 : Hid ((ints (ls.take i).flatten) = ints ls.flatten) := Lib.hid (by rw [← hn, List.take_length])
      have cG := Grow_any (lenL ls) wr (by have := H100.out; omega)
      rw [← HW.out] at cG
      have HW2 := HW.out
      subst HW2
      rw [HT.out]
      go_wp2_with (go_at_call 180; refine cG.mono ?_; rintro e w2 ⟨v, rfl, ho, hb⟩; have HO := Lib.hid ho; have HB := Lib.hid hb; clear ho hb)
      go_loopw [6, 27] (fun sv iv wr => ∃ k : Nat, iv = .int .i64 (k : Int) ∧ k ≤ i ∧ Hid (wr.ownsRow w.heap.size 3 1 sv (lenL (ls.take k)) (ints (ls.take k).flatten)) ∧ Hid (Below w.heap.size w wr)) (fun _ iv _ => i - (intOf iv).toNat)
      case atStart => exact ⟨0, rfl, Nat.zero_le _, HO, HB⟩
      case round =>
        obtain ⟨k, rfl, hk, HR, HBR⟩ := hrel
        by_cases hlt : k < i
        · obtain ⟨zs, hzs⟩ : ∃ zs, ls[k]? = some zs := ⟨_, List.getElem?_eq_getElem (by rw [hn]; exact hlt)⟩
          obtain ⟨a, l, c, d1, d2⟩ := (HL.out.later HBR.out) k zs hzs
          have hs := len_take hzs
          have hle := len_le ls (k + 1)
          have h100 := H100.out
          have hlen := d2.len
          rw [hlen] at hs
          have HS := Lib.hid hs
          have HF : Hid (ints (ls.take (k + 1)).flatten = ints (ls.take k).flatten ++ ints zs) := Lib.hid (by rw [List.take_add_one, hzs, List.flatten_append, ints_append]; simp)
          have k1 : (k : Int) < (i : Int) := by omega
          have HNum : Hid (lenL (ls.take k) + l ≤ 100000) := Lib.hid (by omega)
          have HSZ := Lib.hid HBR.out.size
          have HLn := Lib.hid hlen
          cases a with
          | none =>
            obtain ⟨rfl, rfl⟩ := d2.2.2.1 rfl
            have HZ : Hid (zs = []) := Lib.hid (List.length_eq_zero_iff.1 hlen)
            clear d2 hs hle h100 hzs hlen
            go_wp2_with (at_builtin; refine wp_append_nothing elemIR rfl (.tmp 31) (.tmp 32) rfl w.heap.size (lenL (ls.take k)) _ _ rfl HR.out rfl ?_)
            go_roundw
            case rel => exact ⟨k + 1, by go_num, by omega, Lib.hid (by rw [HF.out, HS.out, HZ.out]; simpa [ints] using HR.out), HBR⟩
            case measure => simp [intOf]; omega
          | some ad =>
            have HNW := Lib.hid d2.news
            clear d2 hs hle h100 hzs hlen
            go_wp2_with (at_builtin; refine wp_append_r elemIR rfl (.tmp 31) (.tmp 32) rfl w.heap.size (lenL (ls.take k)) _ _ rfl HR.out ad l c (ints zs) (by rw [ints_length, HLn.out, Nat.mul_one]) rfl HNW.out (ints_one zs) HNum.out HSZ.out ?_; intro v1 w1 hown1 hg1 hb1; have HO1 := Lib.hid hown1; have HB1 := Lib.hid (HBR.out.trans hb1); clear hown1 hg1 hb1)
            go_roundw
            case rel => exact ⟨k + 1, by go_num, by omega, Lib.hid (by rw [HF.out, HS.out]; exact HO1.out), HB1⟩
            case measure => simp [intOf]; omega
        · obtain rfl : k = i := by omega
          have HR2 : Hid (wr.ownsRow w.heap.size 3 1 u6 (lenL ls) (ints ls.flatten)) := Lib.hid (by rw [← HT.out, ← HT2.out]; exact HR.out)
          go_wp2_with fail
          go_ret
          exact ⟨_, rfl, HR2.out, HBR.out⟩

end Go.Proofs.YthklefelkdhblaaGreatDoor

