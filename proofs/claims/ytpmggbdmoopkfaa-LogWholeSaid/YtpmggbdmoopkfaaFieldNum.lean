/-
  Proved here: plain facts on a number's bytes, the least one first, in a list of bytes: what is put, what is read, when it fits.
  No conditions but those that each theorem names. Nothing of the program is read here.
-/
import Derived.Test.YtpmggbdmoopkfaaLists
namespace Go.Proofs.Ytpmggbdmoopkfaa

/-- The error of a place: 2: no block; 1: no place for so many bytes; 0: none. -/
def fErr (len : Nat) (p size : Int) : Int :=
  if len = 64 then (if size < 1 ∨ 4 < size ∨ p < 0 ∨ 60 < p ∨ 60 < p + size then 1 else 0) else 2

/-- Behind k bytes: the list, and what is left of the number. -/
def putK (zs : List Int) (p : Nat) (n : Int) : Nat → List Int × Int
  | 0 => (zs, n)
  | k + 1 => ((putK zs p n k).1.set (p + k) ((putK zs p n k).2 % 256), (putK zs p n k).2 / 256)

/-- The number in k bytes. -/
def leN (zs : List Int) (p : Nat) : Nat → Int
  | 0 => 0
  | k + 1 => leN zs p k + zs.getD (p + k) 0 * 256 ^ k

def setErr (len : Nat) (p size n : Int) : Int :=
  if fErr len p size ≠ 0 then fErr len p size else if n < 0 ∨ 0 < (putK [] 0 n size.toNat).2 then 7 else 0

def setOut (zs : List Int) (p size n : Int) : List Int :=
  if setErr zs.length p size n = 0 then (putK zs p.toNat n size.toNat).1 else []

theorem putK_rest (zs ys : List Int) (p q : Nat) (n : Int) (k : Nat) : (putK zs p n k).2 = (putK ys q n k).2 := by
  induction k with
  | zero => rfl
  | succ k ih => show _ / 256 = _ / 256; rw [ih]

theorem putK_length (zs : List Int) (p : Nat) (n : Int) (k : Nat) : (putK zs p n k).1.length = zs.length := by
  induction k with
  | zero => rfl
  | succ k ih => show ((putK zs p n k).1.set _ _).length = _; rw [List.length_set, ih]

theorem putK_bytes {zs : List Int} (hz : ∀ z ∈ zs, 0 ≤ z ∧ z ≤ 255) (p : Nat) (n : Int) (k : Nat) : ∀ z ∈ (putK zs p n k).1, 0 ≤ z ∧ z ≤ 255 := by
  induction k with
  | zero => exact hz
  | succ k ih => exact mem_set ih (by omega)

theorem putK_nonneg (zs : List Int) (p : Nat) {n : Int} (h : 0 ≤ n) (k : Nat) : 0 ≤ (putK zs p n k).2 ∧ (putK zs p n k).2 ≤ n := by
  induction k with
  | zero => exact ⟨h, Int.le_refl _⟩
  | succ k ih =>
    show 0 ≤ (putK zs p n k).2 / 256 ∧ (putK zs p n k).2 / 256 ≤ n
    omega

theorem pow256_pos (k : Nat) : (1 : Int) ≤ 256 ^ k := by
  have := Int.pow_pos (n := 256) (m := k) (by decide)
  omega

theorem leN_bounds {zs : List Int} (hz : ∀ z ∈ zs, 0 ≤ z ∧ z ≤ 255) (p k : Nat) (h : p + k ≤ zs.length) : 0 ≤ leN zs p k ∧ leN zs p k < 256 ^ k := by
  induction k with
  | zero => exact ⟨Int.le_refl _, by show (0 : Int) < 1; decide⟩
  | succ k ih =>
    have h1 := ih (by omega)
    have h2 := hz _ (getD_mem (l := zs) (k := p + k) (by omega))
    have h3 := pow256_pos k
    have h4 : zs.getD (p + k) 0 * 256 ^ k ≤ 255 * 256 ^ k := Int.mul_le_mul_of_nonneg_right h2.2 (by omega)
    have h5 : 0 ≤ zs.getD (p + k) 0 * 256 ^ k := Int.mul_nonneg h2.1 (by omega)
    rw [Int.pow_succ]
    show 0 ≤ leN zs p k + zs.getD (p + k) 0 * 256 ^ k ∧ leN zs p k + zs.getD (p + k) 0 * 256 ^ k < 256 ^ k * 256
    omega

theorem pow256_four {k : Nat} (h : k ≤ 4) : (256 : Int) ^ k ≤ 4294967296 := by
  rcases k with _ | _ | _ | _ | _ | k
  · decide
  · decide
  · decide
  · decide
  · decide
  · omega

theorem leN_four {zs : List Int} (hz : ∀ z ∈ zs, 0 ≤ z ∧ z ≤ 255) (p k : Nat) (h : p + k ≤ zs.length) (hk : k ≤ 4) : 0 ≤ leN zs p k ∧ leN zs p k < 4294967296 := by
  have h1 := leN_bounds hz p k h
  have h2 := pow256_four hk
  omega

/-- A step of reading, from the highest byte down. -/
theorem le_step {zs : List Int} {p k : Nat} {n t : Int} (h : n * 256 ^ (k + 1) + leN zs p (k + 1) = t) : (n * 256 + zs.getD (p + k) 0) * 256 ^ k + leN zs p k = t := by
  rw [← h, Int.pow_succ]
  show _ = n * (256 ^ k * 256) + (leN zs p k + zs.getD (p + k) 0 * 256 ^ k)
  grind

theorem le_part {zs : List Int} (hz : ∀ z ∈ zs, 0 ≤ z ∧ z ≤ 255) {p k : Nat} {n t : Int} (hn : 0 ≤ n) (hk : p + k ≤ zs.length) (h : n * 256 ^ k + leN zs p k = t) : n ≤ t := by
  have h1 := (leN_bounds hz p k hk).1
  have h2 := pow256_pos k
  have h3 : n * 1 ≤ n * 256 ^ k := Int.mul_le_mul_of_nonneg_left h2 hn
  omega

def getOut (zs : List Int) (p size : Int) : Int := if fErr zs.length p size = 0 then leN zs p.toNat size.toNat else 0

theorem fErr_ok {len : Nat} {p size : Int} (h : fErr len p size = 0) : len = 64 ∧ 1 ≤ size ∧ size ≤ 4 ∧ 0 ≤ p ∧ p + size ≤ 60 := by
  unfold fErr at h
  split at h
  · split at h
    · omega
    · omega
  · omega

theorem setOut_bytes {zs : List Int} (hz : ∀ z ∈ zs, 0 ≤ z ∧ z ≤ 255) (p size n : Int) : ∀ z ∈ setOut zs p size n, 0 ≤ z ∧ z ≤ 255 := by
  unfold setOut
  split
  · exact putK_bytes hz _ _ _
  · simp

theorem setOut_err {zs : List Int} {p size n : Int} (h : setErr zs.length p size n ≠ 0) : setOut zs p size n = [] := by
  unfold setOut; rw [if_neg h]

theorem setOut_ok {zs : List Int} {p size n : Int} (h : setErr zs.length p size n = 0) : setOut zs p size n = (putK zs p.toNat n size.toNat).1 := by
  unfold setOut; rw [if_pos h]

/-- A number's first k bytes. -/
def leB (n : Int) : Nat → List Int
  | 0 => []
  | k + 1 => leB n k ++ [n / 256 ^ k % 256]

theorem leB_length (n : Int) (k : Nat) : (leB n k).length = k := by
  induction k with
  | zero => rfl
  | succ k ih => show (leB n k ++ _).length = _; rw [List.length_append, ih]; rfl

theorem leB_bytes (n : Int) (k : Nat) : ∀ z ∈ leB n k, 0 ≤ z ∧ z ≤ 255 := by
  induction k with
  | zero => simp [leB]
  | succ k ih =>
    intro z hz
    rcases List.mem_append.1 hz with h | h
    · exact ih z h
    · rw [List.mem_singleton.1 h]; omega

theorem pow_two_bytes (k : Nat) : (2 : Int) ^ (8 * k) = 256 ^ k := by
  rw [Int.pow_mul]; rfl

/-- A block with its check sum behind its first 60 bytes; the sum is the given function's. -/
def sealOf (sum : List Int → Int) (zs : List Int) : List Int :=
  let l := (zs ++ List.replicate (60 - zs.length) 0).take 60
  l ++ leB (sum l) 4

def textErr (len : Nat) (p : Int) (n : Nat) : Int := if len = 64 then (if p < 0 ∨ 60 < p ∨ 60 - p < n then 1 else 0) else 2

def textOut (zs : List Int) (p : Int) (ss : List Int) : List Int :=
  if textErr zs.length p ss.length = 0 then zs.take p.toNat ++ ss ++ zs.drop (p.toNat + ss.length) else []

def sealErr (len : Nat) : Int := if len = 64 then 0 else 2
def sealOut (sum : List Int → Int) (zs : List Int) : List Int := if zs.length = 64 then sealOf sum zs else []

theorem sealOf_take {sum : List Int → Int} {zs : List Int} (h : zs.length = 64) : sealOf sum zs = zs.take 60 ++ leB (sum (zs.take 60)) 4 := by
  have e : (zs ++ List.replicate (60 - zs.length) 0).take 60 = zs.take 60 := by
    rw [h]; simp
  unfold sealOf
  rw [e]

theorem sealOf_length {sum : List Int → Int} {zs : List Int} (h : zs.length = 64) : (sealOf sum zs).length = 64 := by
  rw [sealOf_take h, List.length_append, leB_length, List.length_take, h]
  rfl

theorem sealOf_again {sum : List Int → Int} {zs : List Int} (h : zs.length = 64) : sealOf sum (sealOf sum zs) = sealOf sum zs := by
  rw [sealOf_take (sealOf_length h)]
  have e : (sealOf sum zs).take 60 = zs.take 60 := by
    rw [sealOf_take h, List.take_append_of_le_length (by rw [List.length_take]; omega), List.take_take]
    simp
  rw [e, sealOf_take h]

end Go.Proofs.Ytpmggbdmoopkfaa
