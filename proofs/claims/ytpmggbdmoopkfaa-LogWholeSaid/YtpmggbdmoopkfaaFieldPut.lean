/-
  Proved here: a number that was put in a block is read from it, all other bytes are as they were, and two numbers at places that do not meet may be put in either order.
  The conditions stand at each theorem. Nothing of the program is read here.
-/
import Derived.Test.YtpmggbdmoopkfaaFieldNum
namespace Go.Proofs.Ytpmggbdmoopkfaa

theorem getD_put (zs : List Int) (p : Nat) (n : Int) (k : Nat) (h : p + k ≤ zs.length) (i : Nat) :
    (putK zs p n k).1.getD i 0 = if p ≤ i ∧ i < p + k then (putK [] 0 n (i - p)).2 % 256 else zs.getD i 0 := by
  induction k with
  | zero => rw [if_neg (by omega)]; rfl
  | succ k ih =>
    have ih := ih (by omega)
    show ((putK zs p n k).1.set (p + k) ((putK zs p n k).2 % 256)).getD i 0 = _
    rw [getD_set _ _ _ _ (by rw [putK_length]; omega)]
    by_cases h1 : i = p + k
    · subst h1
      rw [if_pos rfl, if_pos (by omega), putK_rest zs [] p 0 n k]
      have e : p + k - p = k := by omega
      rw [e]
    · rw [if_neg h1, ih]
      by_cases h2 : p ≤ i ∧ i < p + k
      · rw [if_pos h2, if_pos (by omega)]
      · rw [if_neg h2, if_neg (by omega)]

theorem ext_getD {l m : List Int} (hl : l.length = m.length) (h : ∀ i, i < l.length → l.getD i 0 = m.getD i 0) : l = m := by
  refine List.ext_getElem hl (fun i h1 h2 => ?_)
  have := h i h1
  simpa [List.getD, h1, h2] using this

theorem put_apart (zs : List Int) {p q k : Nat} (n m : Int) (hp : p + k ≤ zs.length) (hq : q + k ≤ zs.length) (h : ¬ (p < q + k ∧ q < p + k)) :
    (putK (putK zs p n k).1 q m k).1 = (putK (putK zs q m k).1 p n k).1 := by
  refine ext_getD (by rw [putK_length, putK_length, putK_length, putK_length]) (fun i _ => ?_)
  rw [getD_put (putK zs p n k).1 q m k (by rw [putK_length]; exact hq) i, getD_put zs p n k hp i, getD_put (putK zs q m k).1 p n k (by rw [putK_length]; exact hp) i, getD_put zs q m k hq i]
  by_cases h1 : p ≤ i ∧ i < p + k
  · rw [if_neg (by omega), if_pos h1, if_pos h1]
  · rw [if_neg h1, if_neg h1]

theorem leN_set (L : List Int) (p j k : Nat) (y : Int) (hj : p + k ≤ j) (hl : j < L.length) : leN (L.set j y) p k = leN L p k := by
  induction k with
  | zero => rfl
  | succ k ih =>
    show leN (L.set j y) p k + (L.set j y).getD (p + k) 0 * 256 ^ k = leN L p k + L.getD (p + k) 0 * 256 ^ k
    rw [ih (by omega), getD_set _ _ _ _ hl, if_neg (by omega)]

theorem le_put (zs : List Int) (p : Nat) (n : Int) (k : Nat) (h : p + k ≤ zs.length) : leN (putK zs p n k).1 p k + 256 ^ k * (putK zs p n k).2 = n := by
  induction k with
  | zero => show 0 + 1 * n = n; omega
  | succ k ih =>
    have ih := ih (by omega)
    show leN ((putK zs p n k).1.set (p + k) ((putK zs p n k).2 % 256)) p k + ((putK zs p n k).1.set (p + k) ((putK zs p n k).2 % 256)).getD (p + k) 0 * 256 ^ k + 256 ^ (k + 1) * ((putK zs p n k).2 / 256) = n
    rw [leN_set _ _ _ _ _ (by omega) (by rw [putK_length]; omega), getD_set _ _ _ _ (by rw [putK_length]; omega), if_pos rfl, Int.pow_succ]
    have e := Int.emod_add_mul_ediv (putK zs p n k).2 256
    generalize (putK zs p n k).2 = R at *
    generalize leN (putK zs p n k).1 p k = A at *
    rw [← ih]
    have e2 : R % 256 * 256 ^ k + 256 ^ k * 256 * (R / 256) = 256 ^ k * (R % 256 + 256 * (R / 256)) := by grind
    rw [Int.add_assoc, e2, e]

theorem setErr_ok {len : Nat} {p size n : Int} (h : setErr len p size n = 0) : fErr len p size = 0 ∧ 0 ≤ n ∧ (putK [] 0 n size.toNat).2 = 0 := by
  unfold setErr at h
  by_cases h1 : fErr len p size = 0
  · rw [if_neg (by simp [h1])] at h
    by_cases h2 : n < 0 ∨ 0 < (putK [] 0 n size.toNat).2
    · rw [if_pos h2] at h; exact absurd h (by decide)
    · have h3 : 0 ≤ n := by omega
      have h4 := (putK_nonneg [] 0 h3 size.toNat).1
      exact ⟨h1, h3, by omega⟩
  · rw [if_pos h1] at h; exact absurd h h1

theorem setOut_length {zs : List Int} {p size n : Int} (h : setErr zs.length p size n = 0) : (setOut zs p size n).length = 64 := by
  rw [setOut_ok h, putK_length]
  exact (fErr_ok (setErr_ok h).1).1

theorem get_set {zs : List Int} {p size n : Int} (h : setErr zs.length p size n = 0) : getOut (setOut zs p size n) p size = n := by
  obtain ⟨h1, h2, h3⟩ := setErr_ok h
  have ho := fErr_ok h1
  unfold getOut
  rw [setOut_length h, show fErr 64 p size = 0 from by rw [← ho.1]; exact h1, if_pos rfl, setOut_ok h]
  have e := le_put zs p.toNat n size.toNat (by omega)
  rw [putK_rest zs [] p.toNat 0 n size.toNat, h3] at e
  omega

theorem set_other {zs : List Int} {p size n : Int} (h : setErr zs.length p size n = 0) {i : Nat} (hi : ¬ (p ≤ i ∧ (i : Int) < p + size)) : (setOut zs p size n).getD i 0 = zs.getD i 0 := by
  have ho := fErr_ok (setErr_ok h).1
  rw [setOut_ok h, getD_put _ _ _ _ (by omega), if_neg (by omega)]

theorem get_other {zs : List Int} {p size n q : Int} (h : setErr zs.length p size n = 0) (hq : ¬ (p ≤ q ∧ q < p + size)) : getOut (setOut zs p size n) q 1 = getOut zs q 1 := by
  have ho := fErr_ok (setErr_ok h).1
  unfold getOut
  rw [setOut_length h, ho.1]
  by_cases hE : fErr 64 q 1 = 0
  · rw [if_pos hE, if_pos hE]
    have hq2 := fErr_ok hE
    show 0 + (setOut zs p size n).getD (q.toNat + 0) 0 * 1 = 0 + zs.getD (q.toNat + 0) 0 * 1
    rw [set_other h (by omega)]
  · rw [if_neg hE, if_neg hE]

theorem set_apart {zs : List Int} {p q size n m : Int} (h1 : setErr zs.length p size n = 0) (h2 : setErr zs.length q size m = 0) (h : ¬ (p < q + size ∧ q < p + size)) :
    setErr 64 q size m = 0 ∧ setErr 64 p size n = 0 ∧ setOut (setOut zs p size n) q size m = setOut (setOut zs q size m) p size n := by
  have o1 := fErr_ok (setErr_ok h1).1
  have o2 := fErr_ok (setErr_ok h2).1
  have e1 := h1
  have e2 := h2
  rw [o1.1] at e1 e2
  refine ⟨e2, e1, ?_⟩
  rw [setOut_ok (zs := setOut zs p size n) (by rw [setOut_length h1]; exact e2), setOut_ok (zs := setOut zs q size m) (by rw [setOut_length h2]; exact e1), setOut_ok h1, setOut_ok h2]
  exact put_apart zs n m (by omega) (by omega) (by omega)

end Go.Proofs.Ytpmggbdmoopkfaa
