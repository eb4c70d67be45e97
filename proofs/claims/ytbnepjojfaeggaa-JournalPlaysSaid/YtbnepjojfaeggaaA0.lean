/-
  Proved here: plain facts on lists of whole numbers (a part that is set, two that are swapped) and on exclusive-or. No conditions but those that each theorem names. Nothing of the program is read here. Proved here: plain facts on a number's bytes, the least one first, in a list of bytes: what is put, what is read, when it fits. No conditions but those that each theorem names. Nothing of the program is read here. Proved here: plain facts on pairs of whole numbers (complex numbers with whole parts) modulo 65521: powers of 2 + i, the steps of a check sum, how sums are joined, that no step loses anything. No conditions but those that each theorem names. Nothing of the program is read here. Proved here: plain facts on short texts that were sealed. No conditions but those that each theorem names. Nothing of the program is read here. Said here: blocks of a log in plain words: a transaction's first block, its last one, what any bytes are as these; what was written is read as it was; no block is both. No conditions but those that each theorem names. Nothing of the program is read here. Said here: what is found in a log, in plain words: whole transactions, from a place on, of numbers that go up by one; that elder ones are not found; that of transactions which were laid behind one another, up to a cut, the whole ones are found. No conditions but those that each theorem names. Nothing of the program is read here.
-/
namespace Go.Proofs.Ytbnepjojfaeggaa

theorem take_snoc (l : List Int) (k : Nat) (h : k < l.length) : l.take (k + 1) = l.take k ++ [l.getD k 0] := by
  rw [List.take_succ_eq_append_getElem h]
  simp [List.getD, h]

theorem getD_mem {l : List Int} {k : Nat} (h : k < l.length) : l.getD k 0 ∈ l := by
  simp [List.getD, h]

theorem split_at (l : List Int) (k : Nat) (h : k < l.length) : l = l.take k ++ [l[k]?.getD 0] ++ l.drop (k + 1) := by
  simp [h]

theorem set_at (l : List Int) (k : Nat) (y : Int) (h : k < l.length) : l.set k y = l.take k ++ [y] ++ l.drop (k + 1) := by
  rw [List.set_eq_take_append_cons_drop, if_pos h]; simp

theorem xor_nat (a b : Nat) : a ^^^ b = a ↔ b = 0 := by
  constructor
  · intro h
    have := congrArg (a ^^^ ·) h
    simpa [← Nat.xor_assoc] using this
  · intro h; simp [h]

theorem getD_set (zs : List Int) (k j : Nat) (y : Int) (hk : k < zs.length) : (zs.set k y).getD j 0 = if j = k then y else zs.getD j 0 := by
  by_cases h : j = k
  · subst h; simp [List.getD, hk]
  · have h' : ¬ k = j := fun e => h e.symm
    simp [List.getD, h, List.getElem?_set_ne h']

theorem mem_set {zs : List Int} {k : Nat} {y : Int} (hz : ∀ z ∈ zs, 0 ≤ z ∧ z ≤ 255) (hy : 0 ≤ y ∧ y ≤ 255) : ∀ z ∈ zs.set k y, 0 ≤ z ∧ z ≤ 255 := by
  intro z h
  rcases List.mem_or_eq_of_mem_set h with h | h
  · exact hz z h
  · rw [h]; exact hy

theorem split_two (l : List Int) (k : Nat) (h : k + 1 < l.length) : l = l.take k ++ [l.getD k 0, l.getD (k + 1) 0] ++ l.drop (k + 2) := by
  have h1 : k < l.length := by omega
  have e1 : l.drop k = l[k] :: l.drop (k + 1) := List.drop_eq_getElem_cons h1
  have e2 : l.drop (k + 1) = l[k + 1] :: l.drop (k + 2) := List.drop_eq_getElem_cons h
  have e3 := List.take_append_drop k l
  rw [e1, e2] at e3
  have g1 : l.getD k 0 = l[k] := by simp [List.getD, h1]
  have g2 : l.getD (k + 1) 0 = l[k + 1] := by simp [List.getD, h]
  rw [g1, g2, List.append_assoc]
  exact e3.symm

theorem set_two (l : List Int) (k : Nat) (x y : Int) (h : k + 1 < l.length) : (l.set k y).set (k + 1) x = l.take k ++ [y, x] ++ l.drop (k + 2) := by
  have hl : (l.take k).length = k := by rw [List.length_take]; omega
  have e := split_two l k h
  generalize l.take k = A at *
  generalize l.drop (k + 2) = B at *
  rw [e, List.append_assoc, List.append_assoc, List.set_append_right _ _ (by omega), hl, Nat.sub_self, List.set_append_right _ _ (by omega), hl]
  have e1 : k + 1 - k = 1 := by omega
  rw [e1]
  rfl

theorem take_getD (l : List Int) (n j : Nat) (h : j < n) : (l.take n).getD j 0 = l.getD j 0 := by
  simp [h]

end Go.Proofs.Ytbnepjojfaeggaa

namespace Go.Proofs.Ytbnepjojfaeggaa

/-- The error of a place: 2: no block; 1: no place for so many bytes; 0: none. -/
def fErr (len : Nat) (p size : Int) : Int :=
  if len = 64 then (if size < 1 ∨ 4 < size ∨ p < 0 ∨ 60 < p ∨ 60 < p + size then 1 else 0) else 2

/-- Behind k bytes: the list, and what is left of the number. -/
def putK (zs : List Int) (p : Nat) (n : Int) : Nat → List Int × Int
  | 0 => (zs, n)
  | k + 1 => ((putK zs p n k).1.set (p + k) ((putK zs p n k).2 % 256), (putK zs p n k).2 / 256)

/-- The number in k bytes. -/
def leN (zs : List Int) (p : Nat) : Nat → Int
  | 0 => 0
  | k + 1 => leN zs p k + zs.getD (p + k) 0 * 256 ^ k

def setErr (len : Nat) (p size n : Int) : Int :=
  if fErr len p size ≠ 0 then fErr len p size else if n < 0 ∨ 0 < (putK [] 0 n size.toNat).2 then 7 else 0

def setOut (zs : List Int) (p size n : Int) : List Int :=
  if setErr zs.length p size n = 0 then (putK zs p.toNat n size.toNat).1 else []

theorem putK_rest (zs ys : List Int) (p q : Nat) (n : Int) (k : Nat) : (putK zs p n k).2 = (putK ys q n k).2 := by
  induction k with
  | zero => rfl
  | succ k ih => show _ / 256 = _ / 256; rw [ih]

theorem putK_length (zs : List Int) (p : Nat) (n : Int) (k : Nat) : (putK zs p n k).1.length = zs.length := by
  induction k with
  | zero => rfl
  | succ k ih => show ((putK zs p n k).1.set _ _).length = _; rw [List.length_set, ih]

theorem putK_bytes {zs : List Int} (hz : ∀ z ∈ zs, 0 ≤ z ∧ z ≤ 255) (p : Nat) (n : Int) (k : Nat) : ∀ z ∈ (putK zs p n k).1, 0 ≤ z ∧ z ≤ 255 := by
  induction k with
  | zero => exact hz
  | succ k ih => exact mem_set ih (by omega)

theorem putK_nonneg (zs : List Int) (p : Nat) {n : Int} (h : 0 ≤ n) (k : Nat) : 0 ≤ (putK zs p n k).2 ∧ (putK zs p n k).2 ≤ n := by
  induction k with
  | zero => exact ⟨h, Int.le_refl _⟩
  | succ k ih =>
    show 0 ≤ (putK zs p n k).2 / 256 ∧ (putK zs p n k).2 / 256 ≤ n
    omega

theorem pow256_pos (k : Nat) : (1 : Int) ≤ 256 ^ k := by
  have := Int.pow_pos (n := 256) (m := k) (by decide)
  omega

theorem leN_bounds {zs : List Int} (hz : ∀ z ∈ zs, 0 ≤ z ∧ z ≤ 255) (p k : Nat) (h : p + k ≤ zs.length) : 0 ≤ leN zs p k ∧ leN zs p k < 256 ^ k := by
  induction k with
  | zero => exact ⟨Int.le_refl _, by show (0 : Int) < 1; decide⟩
  | succ k ih =>
    have h1 := ih (by omega)
    have h2 := hz _ (getD_mem (l := zs) (k := p + k) (by omega))
    have h3 := pow256_pos k
    have h4 : zs.getD (p + k) 0 * 256 ^ k ≤ 255 * 256 ^ k := Int.mul_le_mul_of_nonneg_right h2.2 (by omega)
    have h5 : 0 ≤ zs.getD (p + k) 0 * 256 ^ k := Int.mul_nonneg h2.1 (by omega)
    rw [Int.pow_succ]
    show 0 ≤ leN zs p k + zs.getD (p + k) 0 * 256 ^ k ∧ leN zs p k + zs.getD (p + k) 0 * 256 ^ k < 256 ^ k * 256
    omega

theorem pow256_four {k : Nat} (h : k ≤ 4) : (256 : Int) ^ k ≤ 4294967296 := by
  rcases k with _ | _ | _ | _ | _ | k
  · decide
  · decide
  · decide
  · decide
  · decide
  · omega

theorem leN_four {zs : List Int} (hz : ∀ z ∈ zs, 0 ≤ z ∧ z ≤ 255) (p k : Nat) (h : p + k ≤ zs.length) (hk : k ≤ 4) : 0 ≤ leN zs p k ∧ leN zs p k < 4294967296 := by
  have h1 := leN_bounds hz p k h
  have h2 := pow256_four hk
  omega

/-- A step of reading, from the highest byte down. -/
theorem le_step {zs : List Int} {p k : Nat} {n t : Int} (h : n * 256 ^ (k + 1) + leN zs p (k + 1) = t) : (n * 256 + zs.getD (p + k) 0) * 256 ^ k + leN zs p k = t := by
  rw [← h, Int.pow_succ]
  show _ = n * (256 ^ k * 256) + (leN zs p k + zs.getD (p + k) 0 * 256 ^ k)
  grind

theorem le_part {zs : List Int} (hz : ∀ z ∈ zs, 0 ≤ z ∧ z ≤ 255) {p k : Nat} {n t : Int} (hn : 0 ≤ n) (hk : p + k ≤ zs.length) (h : n * 256 ^ k + leN zs p k = t) : n ≤ t := by
  have h1 := (leN_bounds hz p k hk).1
  have h2 := pow256_pos k
  have h3 : n * 1 ≤ n * 256 ^ k := Int.mul_le_mul_of_nonneg_left h2 hn
  omega

def getOut (zs : List Int) (p size : Int) : Int := if fErr zs.length p size = 0 then leN zs p.toNat size.toNat else 0

theorem fErr_ok {len : Nat} {p size : Int} (h : fErr len p size = 0) : len = 64 ∧ 1 ≤ size ∧ size ≤ 4 ∧ 0 ≤ p ∧ p + size ≤ 60 := by
  unfold fErr at h
  split at h
  · split at h
    · omega
    · omega
  · omega

theorem setOut_bytes {zs : List Int} (hz : ∀ z ∈ zs, 0 ≤ z ∧ z ≤ 255) (p size n : Int) : ∀ z ∈ setOut zs p size n, 0 ≤ z ∧ z ≤ 255 := by
  unfold setOut
  split
  · exact putK_bytes hz _ _ _
  · simp

theorem setOut_err {zs : List Int} {p size n : Int} (h : setErr zs.length p size n ≠ 0) : setOut zs p size n = [] := by
  unfold setOut; rw [if_neg h]

theorem setOut_ok {zs : List Int} {p size n : Int} (h : setErr zs.length p size n = 0) : setOut zs p size n = (putK zs p.toNat n size.toNat).1 := by
  unfold setOut; rw [if_pos h]

/-- A number's first k bytes. -/
def leB (n : Int) : Nat → List Int
  | 0 => []
  | k + 1 => leB n k ++ [n / 256 ^ k % 256]

theorem leB_length (n : Int) (k : Nat) : (leB n k).length = k := by
  induction k with
  | zero => rfl
  | succ k ih => show (leB n k ++ _).length = _; rw [List.length_append, ih]; rfl

theorem leB_bytes (n : Int) (k : Nat) : ∀ z ∈ leB n k, 0 ≤ z ∧ z ≤ 255 := by
  induction k with
  | zero => simp [leB]
  | succ k ih =>
    intro z hz
    rcases List.mem_append.1 hz with h | h
    · exact ih z h
    · rw [List.mem_singleton.1 h]; omega

theorem pow_two_bytes (k : Nat) : (2 : Int) ^ (8 * k) = 256 ^ k := by
  rw [Int.pow_mul]; rfl

/-- A block with its check sum behind its first 60 bytes; the sum is the given function's. -/
def sealOf (sum : List Int → Int) (zs : List Int) : List Int :=
  let l := (zs ++ List.replicate (60 - zs.length) 0).take 60
  l ++ leB (sum l) 4

def textErr (len : Nat) (p : Int) (n : Nat) : Int := if len = 64 then (if p < 0 ∨ 60 < p ∨ 60 - p < n then 1 else 0) else 2

def textOut (zs : List Int) (p : Int) (ss : List Int) : List Int :=
  if textErr zs.length p ss.length = 0 then zs.take p.toNat ++ ss ++ zs.drop (p.toNat + ss.length) else []

def sealErr (len : Nat) : Int := if len = 64 then 0 else 2
def sealOut (sum : List Int → Int) (zs : List Int) : List Int := if zs.length = 64 then sealOf sum zs else []

theorem sealOf_take {sum : List Int → Int} {zs : List Int} (h : zs.length = 64) : sealOf sum zs = zs.take 60 ++ leB (sum (zs.take 60)) 4 := by
  have e : (zs ++ List.replicate (60 - zs.length) 0).take 60 = zs.take 60 := by
    rw [h]; simp
  unfold sealOf
  rw [e]

theorem sealOf_length {sum : List Int → Int} {zs : List Int} (h : zs.length = 64) : (sealOf sum zs).length = 64 := by
  rw [sealOf_take h, List.length_append, leB_length, List.length_take, h]
  rfl

theorem sealOf_again {sum : List Int → Int} {zs : List Int} (h : zs.length = 64) : sealOf sum (sealOf sum zs) = sealOf sum zs := by
  rw [sealOf_take (sealOf_length h)]
  have e : (sealOf sum zs).take 60 = zs.take 60 := by
    rw [sealOf_take h, List.take_append_of_le_length (by rw [List.length_take]; omega), List.take_take]
    simp
  rw [e, sealOf_take h]

end Go.Proofs.Ytbnepjojfaeggaa

namespace Go.Proofs.Ytbnepjojfaeggaa

abbrev Pair := Int × Int

def red (r : Pair) : Pair := (r.1 % 65521, r.2 % 65521)
def mulU (r s : Pair) : Pair := (r.1 * s.1 - r.2 * s.2, r.1 * s.2 + r.2 * s.1)
def stepU (r : Pair) (x : Int) : Pair := (2 * r.1 - r.2 + x, r.1 + 2 * r.2)
def bhdU (l : List Int) (r : Pair) : Pair := l.foldl stepU r
def bhd (l : List Int) (r : Pair) : Pair := l.foldl (fun r x => red (stepU r x)) r
def joinU (a b m : Pair) : Pair := ((a.1 - 1) * m.1 - a.2 * m.2 + b.1, (a.1 - 1) * m.2 + a.2 * m.1 + b.2)
def pwU : Nat → Pair
  | 0 => (1, 0)
  | n + 1 => stepU (pwU n) 0
def sm (r : Pair) : Int := r.1 * 65536 + r.2
def ofS (s : Int) : Pair := ((s / 65536) % 65521, (s % 65536) % 65521)
def Red (r : Pair) : Prop := 0 ≤ r.1 ∧ r.1 < 65521 ∧ 0 ≤ r.2 ∧ r.2 < 65521

theorem red_Red (r : Pair) : Red (red r) := by unfold Red red; simp only; omega
theorem red_of_Red {r : Pair} (h : Red r) : red r = r := by
  unfold Red at h; unfold red
  exact Prod.ext (by simp only; omega) (by simp only; omega)
theorem red_red (r : Pair) : red (red r) = red r := red_of_Red (red_Red r)

theorem cong {a b : Int} (c : Int) (h : a = b + 65521 * c) : a % 65521 = b % 65521 := by omega

theorem red_stepU (r : Pair) (x : Int) : red (stepU (red r) x) = red (stepU r x) := by
  unfold red stepU
  exact Prod.ext (by simp only; omega) (by simp only; omega)

theorem bhd_red (l : List Int) : ∀ r : Pair, bhd l (red r) = red (bhdU l r) := by
  induction l with
  | nil => intro r; rfl
  | cons x l ih =>
    intro r
    show bhd l (red (stepU (red r) x)) = red (bhdU l (stepU r x))
    rw [red_stepU, ih]

theorem bhd_of_Red (l : List Int) {r : Pair} (h : Red r) : bhd l r = red (bhdU l r) := by
  rw [← bhd_red, red_of_Red h]

theorem bhd_Red (l : List Int) {r : Pair} (h : Red r) : Red (bhd l r) := by
  rw [bhd_of_Red l h]; exact red_Red _

theorem bhd_snoc (l : List Int) (x : Int) (r : Pair) : bhd (l ++ [x]) r = red (stepU (bhd l r) x) := by
  unfold bhd; rw [List.foldl_append]; rfl

theorem bhd_append (l m : List Int) (r : Pair) : bhd (l ++ m) r = bhd m (bhd l r) := by
  unfold bhd; rw [List.foldl_append]

theorem mulU_assoc (r s t : Pair) : mulU (mulU r s) t = mulU r (mulU s t) := by
  unfold mulU
  exact Prod.ext (by simp only; grind) (by simp only; grind)

theorem step_mul (r s : Pair) : stepU (mulU r s) 0 = mulU r (stepU s 0) := by
  unfold mulU stepU
  exact Prod.ext (by simp only; grind) (by simp only; grind)

theorem mulU_one (r : Pair) : mulU r (1, 0) = r := by
  unfold mulU
  exact Prod.ext (by simp only; grind) (by simp only; grind)

theorem pwU_add (a b : Nat) : pwU (a + b) = mulU (pwU a) (pwU b) := by
  induction b with
  | zero => rw [show pwU 0 = (1, 0) from rfl, mulU_one]; rfl
  | succ b ih =>
    show stepU (pwU (a + b)) 0 = mulU (pwU a) (stepU (pwU b) 0)
    rw [ih, step_mul]

theorem red_mulU (r s : Pair) : red (mulU (red r) (red s)) = red (mulU r s) := by
  unfold red mulU
  refine Prod.ext ?_ ?_
  · simp only
    rw [Int.sub_emod, ← Int.mul_emod, ← Int.mul_emod, ← Int.sub_emod]
  · simp only
    rw [Int.add_emod, ← Int.mul_emod, ← Int.mul_emod, ← Int.add_emod]

theorem red_joinU (a b m : Pair) : red (joinU (red a) (red b) (red m)) = red (joinU a b m) := by
  have ea1 := Int.emod_def a.1 65521
  have ea2 := Int.emod_def a.2 65521
  have eb1 := Int.emod_def b.1 65521
  have eb2 := Int.emod_def b.2 65521
  have em1 := Int.emod_def m.1 65521
  have em2 := Int.emod_def m.2 65521
  unfold red joinU
  refine Prod.ext ?_ ?_
  · simp only
    rw [ea1, ea2, eb1, em1, em2]
    refine cong (-(a.1 / 65521) * m.1 - (a.1 - 65521 * (a.1 / 65521) - 1) * (m.1 / 65521) + (a.2 / 65521) * m.2 + (a.2 - 65521 * (a.2 / 65521)) * (m.2 / 65521) - b.1 / 65521) ?_
    generalize a.1 / 65521 = x1
    generalize a.2 / 65521 = x2
    generalize b.1 / 65521 = x3
    generalize m.1 / 65521 = x4
    generalize m.2 / 65521 = x5
    grind
  · simp only
    rw [ea1, ea2, eb2, em1, em2]
    refine cong (-(a.1 / 65521) * m.2 - (a.1 - 65521 * (a.1 / 65521) - 1) * (m.2 / 65521) - (a.2 / 65521) * m.1 - (a.2 - 65521 * (a.2 / 65521)) * (m.1 / 65521) - b.2 / 65521) ?_
    generalize a.1 / 65521 = x1
    generalize a.2 / 65521 = x2
    generalize b.2 / 65521 = x3
    generalize m.1 / 65521 = x4
    generalize m.2 / 65521 = x5
    grind

theorem bhdU_join (l : List Int) : ∀ a b : Pair, bhdU l (a.1 - 1 + b.1, a.2 + b.2) = joinU a (bhdU l b) (pwU l.length) := by
  induction l with
  | nil =>
    intro a b
    show (a.1 - 1 + b.1, a.2 + b.2) = joinU a b (1, 0)
    unfold joinU
    exact Prod.ext (by simp only; omega) (by simp only; omega)
  | cons x l ih =>
    intro a b
    show bhdU l (stepU (a.1 - 1 + b.1, a.2 + b.2) x) = joinU a (bhdU l (stepU b x)) (stepU (pwU l.length) 0)
    have e : stepU (a.1 - 1 + b.1, a.2 + b.2) x = ((2 * (a.1 - 1) - a.2 + 1) - 1 + (stepU b x).1, (a.1 - 1 + 2 * a.2) + (stepU b x).2) := by
      unfold stepU
      exact Prod.ext (by simp only; omega) (by simp only; omega)
    rw [e, ih (2 * (a.1 - 1) - a.2 + 1, a.1 - 1 + 2 * a.2) (stepU b x)]
    unfold joinU stepU
    exact Prod.ext (by simp only; grind) (by simp only; grind)

/-- The second text's register begins at 1: joined it is the register behind both. -/
theorem bhdU_parts (l : List Int) (a : Pair) : bhdU l a = joinU a (bhdU l (1, 0)) (pwU l.length) := by
  rw [← bhdU_join]
  congr 1
  exact Prod.ext (by simp only; omega) (by simp only; omega)

theorem ofS_sm {r : Pair} (h : Red r) : ofS (sm r) = r := by
  unfold Red at h; unfold ofS sm
  exact Prod.ext (by simp only; omega) (by simp only; omega)

theorem sm_inj {r s : Pair} (hr : Red r) (hs : Red s) (h : sm r = sm s) : r = s := by
  rw [← ofS_sm hr, ← ofS_sm hs, h]

theorem ofS_Red (s : Int) : Red (ofS s) := by unfold Red ofS; simp only; omega

theorem sm_bounds {r : Pair} (h : Red r) : 0 ≤ sm r ∧ sm r < 4294967296 := by
  unfold Red at h; unfold sm; omega

/-- What More answers. -/
def moreS (s : Int) (l : List Int) : Int := sm (bhd l (ofS s))
/-- What Sum answers. -/
def sumS (l : List Int) : Int := sm (bhd l (1, 0))
/-- What Join answers. -/
def joinS (a b : Int) (n : Nat) : Int := sm (red (joinU (ofS a) (ofS b) (pwU n)))

theorem one_Red : Red (1, 0) := by unfold Red; simp only; omega

theorem moreS_bounds (s : Int) (l : List Int) : 0 ≤ moreS s l ∧ moreS s l < 4294967296 := sm_bounds (bhd_Red l (ofS_Red s))
theorem sumS_bounds (l : List Int) : 0 ≤ sumS l ∧ sumS l < 4294967296 := sm_bounds (bhd_Red l one_Red)
theorem joinS_bounds (a b : Int) (n : Nat) : 0 ≤ joinS a b n ∧ joinS a b n < 4294967296 := sm_bounds (red_Red _)

theorem ofS_65536 : ofS 65536 = (1, 0) := by decide

theorem sumS_more (l : List Int) : sumS l = moreS 65536 l := by unfold sumS moreS; rw [ofS_65536]

theorem ofS_sumS (l : List Int) : ofS (sumS l) = bhd l (1, 0) := ofS_sm (bhd_Red l one_Red)

theorem more_sum (a b : List Int) : moreS (sumS a) b = sumS (a ++ b) := by
  unfold moreS
  rw [ofS_sumS, ← bhd_append]
  rfl

theorem more_nil_sum (a : List Int) : moreS (sumS a) [] = sumS a := by rw [more_sum, List.append_nil]

theorem join_sum (a b : List Int) : joinS (sumS a) (sumS b) b.length = sumS (a ++ b) := by
  unfold joinS
  rw [ofS_sumS, ofS_sumS]
  unfold sumS
  congr 1
  rw [bhd_append, bhd_of_Red a one_Red, bhd_of_Red b one_Red, bhd_of_Red b (red_Red _), ← bhd_of_Red b (red_Red _), bhd_red, bhdU_parts b (bhdU a (1, 0)), ← red_joinU (red (bhdU a (1, 0))) (red (bhdU b (1, 0))) (pwU b.length), red_red, red_red, red_joinU]

theorem join_three (x y z : List Int) : joinS (joinS (sumS x) (sumS y) y.length) (sumS z) z.length = joinS (sumS x) (joinS (sumS y) (sumS z) z.length) (y.length + z.length) := by
  rw [join_sum, join_sum, join_sum]
  have e : y.length + z.length = (y ++ z).length := by simp
  rw [e, join_sum, List.append_assoc]

theorem cong_inv {a b : Int} (h : a % 65521 = b % 65521) : ∃ c, a = b + 65521 * c := ⟨a / 65521 - b / 65521, by omega⟩

theorem inj5 (a b c d k m : Int) (ha : 0 ≤ a ∧ a < 65521) (hb : 0 ≤ b ∧ b < 65521) (hc : 0 ≤ c ∧ c < 65521) (hd : 0 ≤ d ∧ d < 65521)
    (h1 : 2 * a - b = 2 * c - d + 65521 * k) (h2 : a + 2 * b = c + 2 * d + 65521 * m) : a = c ∧ b = d := by
  have h3 : 5 * (a - c) = 65521 * (2 * k + m) := by omega
  have h4 : a - c = 0 := by clear h1 h2 hb hd; omega
  omega

/-- No step loses anything. -/
theorem step_inj {r s : Pair} {x : Int} (hr : Red r) (hs : Red s) (h : red (stepU r x) = red (stepU s x)) : r = s := by
  unfold Red at hr hs
  have h1 := congrArg Prod.fst h
  have h2 := congrArg Prod.snd h
  obtain ⟨k, h1⟩ := cong_inv h1
  obtain ⟨m, h2⟩ := cong_inv h2
  unfold stepU at h1 h2
  simp only at h1 h2
  have h3 := inj5 r.1 r.2 s.1 s.2 k m (by omega) (by omega) (by omega) (by omega) (by omega) (by omega)
  exact Prod.ext h3.1 h3.2

theorem bhd_inj (l : List Int) : ∀ {r s : Pair}, Red r → Red s → bhd l r = bhd l s → r = s := by
  induction l with
  | nil => intro r s _ _ h; exact h
  | cons x l ih =>
    intro r s hr hs h
    exact step_inj hr hs (ih (red_Red _) (red_Red _) h)

theorem sumS_inj_mid (l m : List Int) {r s : Pair} (hr : r = bhd l (1, 0)) (u v : List Int) (h : sumS (l ++ u ++ m) = sumS (l ++ v ++ m)) (hs : s = r) : bhd u r = bhd v s := by
  subst hs
  have h1 := sm_inj (bhd_Red _ one_Red) (bhd_Red _ one_Red) h
  rw [bhd_append, bhd_append, bhd_append, bhd_append] at h1
  rw [← hr] at h1
  have hR : Red s := by rw [hr]; exact bhd_Red l one_Red
  exact bhd_inj m (bhd_Red u hR) (bhd_Red v hR) h1

theorem turn_one (l m : List Int) (x y : Int) (hx : 0 ≤ x ∧ x ≤ 255) (hy : 0 ≤ y ∧ y ≤ 255) : sumS (l ++ [x] ++ m) = sumS (l ++ [y] ++ m) ↔ x = y := by
  constructor
  · intro h
    have h1 := sumS_inj_mid l m rfl [x] [y] h rfl
    have h2 := congrArg Prod.fst h1
    unfold bhd at h2
    simp only [List.foldl_cons, List.foldl_nil] at h2
    unfold red stepU at h2
    simp only at h2
    omega
  · intro h; rw [h]

theorem swap_two (l m : List Int) (x y : Int) (hx : 0 ≤ x ∧ x ≤ 255) (hy : 0 ≤ y ∧ y ≤ 255) : sumS (l ++ [x, y] ++ m) = sumS (l ++ [y, x] ++ m) ↔ x = y := by
  constructor
  · intro h
    have h1 := sumS_inj_mid l m rfl [x, y] [y, x] h rfl
    have h2 := congrArg Prod.fst h1
    unfold bhd at h2
    simp only [List.foldl_cons, List.foldl_nil] at h2
    unfold red stepU at h2
    simp only at h2
    omega
  · intro h; rw [h]

/-- Go's remainder by 65521: what is taken away, and where it lies. -/
theorem tmod_facts (x : Int) : (∃ k, x = x.tmod 65521 + 65521 * k) ∧ -65521 < x.tmod 65521 ∧ x.tmod 65521 < 65521 ∧ (0 ≤ x → x.tmod 65521 = x % 65521) ∧ (0 ≤ x.tmod 65521 → x.tmod 65521 = x % 65521) ∧ (x.tmod 65521 < 0 → x.tmod 65521 + 65521 = x % 65521) := by
  have h1 := Int.tmod_add_mul_tdiv x 65521
  have h2 : x.tmod 65521 < 65521 := Int.tmod_lt_of_pos x (by decide)
  have h3 : -65521 < x.tmod 65521 := by
    have := Int.lt_tmod_of_pos x (b := 65521) (by decide)
    omega
  refine ⟨⟨x.tdiv 65521, h1.symm⟩, h3, h2, fun h => Int.tmod_eq_emod_of_nonneg h, fun h => ?_, fun h => ?_⟩ <;> omega

theorem sum_set {zs : List Int} {k : Nat} {y : Int} (hk : k < zs.length) (hz : ∀ z ∈ zs, 0 ≤ z ∧ z ≤ 255) (hy : 0 ≤ y ∧ y ≤ 255) : sumS (zs.set k y) = sumS zs ↔ y = zs[k]?.getD 0 := by
  have hx : 0 ≤ zs[k]?.getD 0 ∧ zs[k]?.getD 0 ≤ 255 := hz _ (getD_mem hk)
  have e := turn_one (zs.take k) (zs.drop (k + 1)) y (zs[k]?.getD 0) hy hx
  rw [← set_at zs k y hk, ← split_at zs k hk] at e
  exact e

theorem sum_swap {zs : List Int} {k : Nat} (hk : k + 1 < zs.length) (hz : ∀ z ∈ zs, 0 ≤ z ∧ z ≤ 255) :
    (sumS ((zs.set k (zs.getD (k + 1) 0)).set (k + 1) (zs.getD k 0)) == sumS zs) = (zs.getD k 0 == zs.getD (k + 1) 0) := by
  have hx := hz _ (getD_mem (l := zs) (k := k) (by omega))
  have hy := hz _ (getD_mem (l := zs) (k := k + 1) hk)
  have e := swap_two (zs.take k) (zs.drop (k + 2)) (zs.getD k 0) (zs.getD (k + 1) 0) hx hy
  rw [← split_two zs k hk, ← set_two zs k _ _ hk] at e
  rw [Bool.eq_iff_iff, beq_iff_eq, beq_iff_eq]
  exact ⟨fun h => e.1 h.symm, fun h => (e.2 h).symm⟩

end Go.Proofs.Ytbnepjojfaeggaa

namespace Go.Proofs.Ytbnepjojfaeggaa

/-- A short text, sealed. -/
theorem seal_short {sum : List Int → Int} {l : List Int} (h : l.length ≤ 60) : sealOf sum l = (l ++ List.replicate (60 - l.length) 0) ++ leB (sum (l ++ List.replicate (60 - l.length) 0)) 4 := by
  have e : (l ++ List.replicate (60 - l.length) 0).take 60 = l ++ List.replicate (60 - l.length) 0 := List.take_of_length_le (by rw [List.length_append, List.length_replicate]; omega)
  unfold sealOf
  rw [e]

theorem seal_short_length {sum : List Int → Int} {l : List Int} (h : l.length ≤ 60) : (sealOf sum l).length = 64 := by
  rw [seal_short h, List.length_append, leB_length, List.length_append, List.length_replicate]
  omega

/-- The first bytes of a short text, sealed, are its own. -/
theorem seal_short_at {sum : List Int → Int} {l : List Int} (h : l.length ≤ 60) {k : Nat} (hk : k < l.length) : (sealOf sum l).getD k 0 = l.getD k 0 := by
  rw [seal_short h, List.append_assoc, List.getD_eq_getElem?_getD, List.getElem?_append_left hk, ← List.getD_eq_getElem?_getD]

theorem leN_of_eq {zs ys : List Int} {p q : Nat} : ∀ (k : Nat), (∀ j, j < k → zs.getD (p + j) 0 = ys.getD (q + j) 0) → leN zs p k = leN ys q k
  | 0, _ => rfl
  | k + 1, h => by
    show leN zs p k + zs.getD (p + k) 0 * 256 ^ k = leN ys q k + ys.getD (q + k) 0 * 256 ^ k
    rw [leN_of_eq k (fun j hj => h j (by omega)), h k (by omega)]

/-- A number that fits into its bytes is read as it was. -/
theorem leN_leB {n : Int} (h0 : 0 ≤ n) : ∀ (k : Nat), leN (leB n k) 0 k = n % 256 ^ k
  | 0 => by
    show (0 : Int) = n % 1
    omega
  | k + 1 => by
    have hl : (leB n (k + 1)).getD (0 + k) 0 = n / 256 ^ k % 256 := by
      show (leB n k ++ [n / 256 ^ k % 256]).getD (0 + k) 0 = _
      rw [List.getD_eq_getElem?_getD, List.getElem?_append_right (by rw [leB_length]; omega), leB_length]
      simp
    have hp : leN (leB n (k + 1)) 0 k = leN (leB n k) 0 k := leN_of_eq k (fun j hj => by
      show (leB n k ++ [n / 256 ^ k % 256]).getD (0 + j) 0 = _
      rw [List.getD_eq_getElem?_getD, List.getElem?_append_left (by rw [leB_length]; omega), ← List.getD_eq_getElem?_getD])
    show leN (leB n (k + 1)) 0 k + (leB n (k + 1)).getD (0 + k) 0 * 256 ^ k = _
    rw [hl, hp, leN_leB h0 k]
    obtain ⟨m, rfl⟩ : ∃ m : Nat, n = m := ⟨n.toNat, by omega⟩
    obtain ⟨P, hP⟩ : ∃ P : Nat, 256 ^ k = P := ⟨_, rfl⟩
    have hI : (256 : Int) ^ k = (P : Int) := by rw [← hP, Int.natCast_pow]; rfl
    rw [Int.pow_succ, hI]
    have h := Nat.mod_mul (x := m) (a := P) (b := 256)
    have h' : ((m % (P * 256) : Nat) : Int) = ((m % P + P * (m / P % 256) : Nat) : Int) := congrArg _ h
    rw [Int.natCast_emod, Int.natCast_mul, Int.natCast_add, Int.natCast_mul, Int.natCast_emod, Int.natCast_emod, Int.natCast_ediv] at h'
    rw [Int.mul_comm ((m : Int) / (P : Int) % 256) _]
    exact h'.symm

theorem leB4_inj {a b : Int} (ha : 0 ≤ a ∧ a < 4294967296) (hb : 0 ≤ b ∧ b < 4294967296) (h : leB a 4 = leB b 4) : a = b := by
  simp only [leB, List.nil_append, List.cons_append, List.cons.injEq] at h
  omega

/-- Two sealed blocks differ at one place ahead of the sum: then they do not differ. -/
theorem sealed_apart {m l : List Int} (hm : m.length ≤ 60) (hl : l.length ≤ 60) (hz : ∀ z ∈ l, 0 ≤ z ∧ z ≤ 255) {k : Nat} {y : Int} (hk : k < 60) (hy : 0 ≤ y ∧ y ≤ 255) (h : sealOf sumS m = (sealOf sumS l).set k y) :
    y = (sealOf sumS l).getD k 0 := by
  have hzp : ∀ z ∈ l ++ List.replicate (60 - l.length) 0, 0 ≤ z ∧ z ≤ 255 := fun z h => by
    rcases List.mem_append.1 h with h | h
    · exact hz z h
    · rw [List.eq_of_mem_replicate h]; decide
  rw [seal_short hm, seal_short hl] at h
  rw [seal_short hl]
  have l1 : (m ++ List.replicate (60 - m.length) 0).length = 60 := by rw [List.length_append, List.length_replicate]; omega
  have l2 : (l ++ List.replicate (60 - l.length) 0).length = 60 := by rw [List.length_append, List.length_replicate]; omega
  generalize m ++ List.replicate (60 - m.length) 0 = M at *
  generalize l ++ List.replicate (60 - l.length) 0 = L at *
  rw [List.set_append_left _ _ (by omega)] at h
  have h1 : M = L.set k y := by
    have e := congrArg (List.take 60) h
    rw [List.take_append_of_le_length (by omega), List.take_append_of_le_length (by rw [List.length_set]; omega), List.take_of_length_le (by omega), List.take_of_length_le (by rw [List.length_set]; omega)] at e
    exact e
  rw [h1] at h
  have h3 := leB4_inj (sumS_bounds _) (sumS_bounds _) (List.append_cancel_left h)
  have h4 := (sum_set (zs := L) (k := k) (by omega) hzp hy).1 h3
  rw [h4, List.getD_eq_getElem?_getD, List.getElem?_append_left (by omega)]

/-- 64 bytes that are right ahead of the sum, sealed. -/
theorem sealed_of {zs l : List Int} (hl : l.length ≤ 60) (h64 : zs.length = 64) (h : ∀ k, k < 60 → zs.getD k 0 = l.getD k 0) : sealOf sumS zs = sealOf sumS l := by
  have e : zs.take 60 = l ++ List.replicate (60 - l.length) 0 := by
    refine List.ext_getElem (by rw [List.length_take, List.length_append, List.length_replicate]; omega) (fun k h1 h2 => ?_)
    rw [List.length_take] at h1
    have hk := h k (by omega)
    rw [List.getD_eq_getElem?_getD, List.getElem?_eq_getElem (by omega), Option.getD_some] at hk
    rw [List.getElem_take, hk]
    by_cases hkl : k < l.length
    · rw [List.getElem_append_left hkl]
      simp [List.getD, hkl]
    · rw [List.getElem_append_right (by omega), List.getElem_replicate]
      simp [List.getD, List.getElem?_eq_none (show l.length ≤ k by omega)]
  rw [sealOf_take h64, seal_short hl, e]

end Go.Proofs.Ytbnepjojfaeggaa

namespace Go.Proofs.Ytbnepjojfaeggaa
set_option linter.unusedVariables false
set_option linter.unusedSimpArgs false

/-- A descriptor: its number, and the blocks that are written. -/
structure PDesc where
  seq : Int
  to : List Int
  deriving DecidableEq

/-- May a transaction write the block? -/
def homeB (n : Int) : Bool := decide (0 ≤ n ∧ n < 480 ∧ n ≠ 1 ∧ (n < 19 ∨ 59 ≤ n))
def soundD (d : PDesc) : Bool := decide (1 ≤ d.to.length ∧ d.to.length ≤ 20 ∧ 1 ≤ d.seq ∧ d.seq ≤ 1073741824) && (d.to.all homeB && decide d.to.Nodup)
def toL (to : List Int) : List Int := to.flatMap fun t => leB t 2
def begL (d : PDesc) : List Int := [66, 69, 71, 78] ++ leB d.seq 4 ++ leB d.to.length 2 ++ toL d.to
def begB (d : PDesc) : List Int := sealOf sumS (begL d)
def okEnd (seq c : Int) : Bool := decide (1 ≤ seq ∧ seq ≤ 1073741824 ∧ 1 ≤ c ∧ c ≤ 20)
def endL (seq c : Int) : List Int := [68, 79, 78, 69] ++ leB seq 4 ++ leB c 1
def endB (seq c : Int) : List Int := sealOf sumS (endL seq c)

def readD (zs : List Int) : PDesc := ⟨leN zs 4 4, (List.range (zs.getD 8 0).toNat).map fun i => leN zs (10 + 2 * i) 2⟩
def isBeg (zs : List Int) : Bool := decide (zs.length = 64 ∧ zs.getD 8 0 ≤ 20) && (soundD (readD zs) && decide (begB (readD zs) = zs))
def isEnd (zs : List Int) : Bool := decide (zs.length = 64) && (okEnd (leN zs 4 4) (zs.getD 8 0) && decide (endB (leN zs 4 4) (zs.getD 8 0) = zs))

/-- What Begin, End, Begins and Ends answer. -/
def begOut (d : PDesc) : List Int := if soundD d = true then begB d else []
def begErr (d : PDesc) : Int := if soundD d = true then 0 else 2
def endOut (seq c : Int) : List Int := if okEnd seq c = true then endB seq c else []
def endErr (seq c : Int) : Int := if okEnd seq c = true then 0 else 2
def getBeg (zs : List Int) : PDesc := if isBeg zs = true then readD zs else ⟨0, []⟩
def getBegErr (zs : List Int) : Int := if isBeg zs = true then 0 else 2
def getEndSeq (zs : List Int) : Int := if isEnd zs = true then leN zs 4 4 else 0
def getEndCount (zs : List Int) : Int := if isEnd zs = true then zs.getD 8 0 else 0
def getEndErr (zs : List Int) : Int := if isEnd zs = true then 0 else 2

theorem soundD_parts {d : PDesc} (h : soundD d = true) : (1 ≤ d.to.length ∧ d.to.length ≤ 20 ∧ 1 ≤ d.seq ∧ d.seq ≤ 1073741824) ∧ (∀ t ∈ d.to, 0 ≤ t ∧ t < 480) ∧ d.to.Nodup := by
  unfold soundD at h
  rw [Bool.and_eq_true, Bool.and_eq_true, decide_eq_true_eq, decide_eq_true_eq] at h
  refine ⟨h.1, fun t ht => ?_, h.2.2⟩
  have := of_decide_eq_true (List.all_eq_true.1 h.2.1 t ht)
  omega

theorem toL_length : ∀ to : List Int, (toL to).length = 2 * to.length
  | [] => rfl
  | t :: r => by
    show (leB t 2 ++ toL r).length = 2 * (r.length + 1)
    rw [List.length_append, leB_length, toL_length r]
    omega
theorem begL_length (d : PDesc) : (begL d).length = 10 + 2 * d.to.length := by
  unfold begL
  rw [List.length_append, List.length_append, List.length_append, leB_length, leB_length, toL_length]
  rfl
theorem endL_length (seq c : Int) : (endL seq c).length = 9 := by
  unfold endL
  rw [List.length_append, List.length_append, leB_length, leB_length]
  rfl
theorem toL_bytes (to : List Int) : ∀ z ∈ toL to, 0 ≤ z ∧ z ≤ 255 := by
  intro z hz
  obtain ⟨t, _, ht⟩ := List.mem_flatMap.1 hz
  exact leB_bytes _ _ z ht
theorem begL_bytes (d : PDesc) : ∀ z ∈ begL d, 0 ≤ z ∧ z ≤ 255 := by
  intro z hz
  unfold begL at hz
  rcases List.mem_append.1 hz with hz | hz
  · rcases List.mem_append.1 hz with hz | hz
    · rcases List.mem_append.1 hz with hz | hz
      · simp only [List.mem_cons, List.not_mem_nil, or_false] at hz; omega
      · exact leB_bytes _ _ z hz
    · exact leB_bytes _ _ z hz
  · exact toL_bytes _ z hz
theorem endL_bytes (seq c : Int) : ∀ z ∈ endL seq c, 0 ≤ z ∧ z ≤ 255 := by
  intro z hz
  unfold endL at hz
  rcases List.mem_append.1 hz with hz | hz
  · rcases List.mem_append.1 hz with hz | hz
    · simp only [List.mem_cons, List.not_mem_nil, or_false] at hz; omega
    · exact leB_bytes _ _ z hz
  · exact leB_bytes _ _ z hz

/-- A number in the midst of bytes is read as it was. -/
theorem mid_num {a b zs : List Int} {n : Int} {k p : Nat} (h0 : 0 ≤ n) (hn : n < 256 ^ k) (hp : a.length = p) (hz : ∀ j, j < k → zs.getD (p + j) 0 = (a ++ leB n k ++ b).getD (p + j) 0) : leN zs p k = n := by
  rw [leN_of_eq (ys := leB n k) (q := 0) k (fun j hj => ?_), leN_leB h0, Int.emod_eq_of_lt h0 hn]
  rw [hz j hj, List.append_assoc, List.getD_eq_getElem?_getD, List.getElem?_append_right (by omega), List.getElem?_append_left (by rw [leB_length]; omega), ← List.getD_eq_getElem?_getD, Nat.zero_add]
  congr 1
  omega

theorem begB_at {d : PDesc} (h : d.to.length ≤ 20) {k : Nat} (hk : k < 10 + 2 * d.to.length) : (begB d).getD k 0 = (begL d).getD k 0 := seal_short_at (by rw [begL_length]; omega) (by rw [begL_length]; exact hk)
theorem endB_at (seq c : Int) {k : Nat} (hk : k < 9) : (endB seq c).getD k 0 = (endL seq c).getD k 0 := seal_short_at (by rw [endL_length]; decide) (by rw [endL_length]; exact hk)
theorem begB_length {d : PDesc} (h : d.to.length ≤ 20) : (begB d).length = 64 := seal_short_length (by rw [begL_length]; omega)
theorem endB_length (seq c : Int) : (endB seq c).length = 64 := seal_short_length (by rw [endL_length]; decide)

theorem toL_split : ∀ (to : List Int) (i : Nat) (t : Int), to[i]? = some t → ∃ a b, toL to = a ++ leB t 2 ++ b ∧ a.length = 2 * i
  | x :: r, 0, t, h => by
    cases h
    exact ⟨[], toL r, rfl, rfl⟩
  | x :: r, i + 1, t, h => by
    obtain ⟨a, b, e, hl⟩ := toL_split r i t h
    refine ⟨leB x 2 ++ a, b, ?_, by rw [List.length_append, leB_length, hl]; omega⟩
    show leB x 2 ++ toL r = _
    rw [e]
    simp only [List.append_assoc]

theorem read_beg {d : PDesc} (h : soundD d = true) : readD (begB d) = d := by
  obtain ⟨⟨h1, h2, h3, h4⟩, h5, _⟩ := soundD_parts h
  have hs : leN (begB d) 4 4 = d.seq := mid_num (a := [66, 69, 71, 78]) (b := leB d.to.length 2 ++ toL d.to) (by omega) (by show d.seq < 4294967296; omega) rfl (fun j hj => by
    rw [begB_at h2 (by omega)]
    unfold begL
    simp only [List.append_assoc])
  have hc : (begB d).getD 8 0 = (d.to.length : Int) := by
    rw [begB_at h2 (by omega)]
    have e : begL d = ([66, 69, 71, 78] ++ leB d.seq 4) ++ ((((d.to.length : Int) / 256 ^ 0 % 256) :: [((d.to.length : Int) / 256 ^ 1 % 256)]) ++ toL d.to) := by
      unfold begL
      simp only [List.append_assoc]
      rfl
    rw [e, List.getD_eq_getElem?_getD, List.getElem?_append_right (by rw [List.length_append, leB_length]; decide), List.length_append, leB_length]
    show ((d.to.length : Int) / 256 ^ 0 % 256) = _
    omega
  unfold readD
  rw [hs, hc]
  obtain ⟨seq, to⟩ := d
  simp only at h1 h2 h5 ⊢
  congr 1
  rw [Int.toNat_natCast]
  apply List.ext_getElem?
  intro i
  by_cases hi : i < to.length
  · rw [List.getElem?_map, List.getElem?_range hi, List.getElem?_eq_getElem hi]
    obtain ⟨t, ht⟩ : ∃ t, to[i]? = some t := ⟨_, List.getElem?_eq_getElem hi⟩
    obtain ⟨a, b, e, hl⟩ := toL_split to i t ht
    have hb := h5 t (List.mem_of_getElem? ht)
    have : leN (begB ⟨seq, to⟩) (10 + 2 * i) 2 = t := mid_num (a := [66, 69, 71, 78] ++ leB seq 4 ++ leB to.length 2 ++ a) (b := b) hb.1 (by show t < 65536; omega) (by rw [List.length_append, List.length_append, List.length_append, leB_length, leB_length, hl]; rfl) (fun j hj => by
      rw [begB_at (d := ⟨seq, to⟩) h2 (by show 10 + 2 * i + j < 10 + 2 * to.length; omega)]
      unfold begL
      simp only [e, List.append_assoc])
    show some (leN _ (10 + 2 * i) 2) = _
    rw [this, ← ht, List.getElem?_eq_getElem hi]
  · rw [List.getElem?_eq_none (by simp; omega), List.getElem?_eq_none (by omega)]

theorem is_beg {d : PDesc} (h : soundD d = true) : isBeg (begB d) = true := by
  obtain ⟨⟨h1, h2, h3, h4⟩, h5, _⟩ := soundD_parts h
  have hr := read_beg h
  have hc : (begB d).getD 8 0 ≤ 20 := by
    have h8 : ((begB d).getD 8 0).toNat = d.to.length := by
      have := congrArg (fun x => x.to.length) hr
      simpa [readD] using this
    omega
  unfold isBeg
  rw [hr, h, decide_eq_true rfl, decide_eq_true ⟨begB_length h2, hc⟩]
  rfl

theorem read_end {seq c : Int} (h : okEnd seq c = true) : leN (endB seq c) 4 4 = seq ∧ (endB seq c).getD 8 0 = c := by
  have h' : 1 ≤ seq ∧ seq ≤ 1073741824 ∧ 1 ≤ c ∧ c ≤ 20 := of_decide_eq_true h
  refine ⟨mid_num (a := [68, 79, 78, 69]) (b := leB c 1) (by omega) (by show seq < 4294967296; omega) rfl (fun j hj => by
    rw [endB_at _ _ (by omega)]
    unfold endL
    rfl), ?_⟩
  rw [endB_at _ _ (by decide)]
  show c / 256 ^ 0 % 256 = c
  omega
theorem is_end {seq c : Int} (h : okEnd seq c = true) : isEnd (endB seq c) = true := by
  obtain ⟨h1, h2⟩ := read_end h
  unfold isEnd
  rw [h1, h2, h, decide_eq_true rfl, decide_eq_true (endB_length seq c)]
  rfl

theorem isBeg_block {zs : List Int} (h : isBeg zs = true) : zs.length = 64 ∧ soundD (readD zs) = true ∧ begB (readD zs) = zs := by
  unfold isBeg at h
  rw [Bool.and_eq_true, Bool.and_eq_true, decide_eq_true_eq, decide_eq_true_eq] at h
  exact ⟨h.1.1, h.2.1, h.2.2⟩
theorem isEnd_block {zs : List Int} (h : isEnd zs = true) : zs.length = 64 ∧ okEnd (leN zs 4 4) (zs.getD 8 0) = true ∧ endB (leN zs 4 4) (zs.getD 8 0) = zs := by
  unfold isEnd at h
  rw [Bool.and_eq_true, Bool.and_eq_true, decide_eq_true_eq, decide_eq_true_eq] at h
  exact ⟨h.1, h.2.1, h.2.2⟩
theorem beg_first {zs : List Int} (h : isBeg zs = true) : zs.getD 0 0 = 66 := by
  obtain ⟨_, h2, h3⟩ := isBeg_block h
  rw [← h3, begB_at (soundD_parts h2).1.2.1 (by omega)]
  rfl
theorem end_first {zs : List Int} (h : isEnd zs = true) : zs.getD 0 0 = 68 := by
  obtain ⟨_, h2, h3⟩ := isEnd_block h
  rw [← h3, endB_at _ _ (by decide)]
  rfl
theorem beg_not_end {zs : List Int} (h : isBeg zs = true) : isEnd zs = false := by
  cases hb : isEnd zs with
  | false => rfl
  | true => have h1 := beg_first h; rw [end_first hb] at h1; exact absurd h1 (by decide)
theorem end_not_beg {zs : List Int} (h : isEnd zs = true) : isBeg zs = false := by
  cases hb : isBeg zs with
  | false => rfl
  | true => have h1 := end_first h; rw [beg_first hb] at h1; exact absurd h1 (by decide)
theorem zero_not {zs : List Int} (h : zs.getD 0 0 = 0) : isBeg zs = false ∧ isEnd zs = false := by
  constructor
  · cases hb : isBeg zs with
    | false => rfl
    | true => rw [beg_first hb] at h; exact absurd h (by decide)
  · cases hb : isEnd zs with
    | false => rfl
    | true => rw [end_first hb] at h; exact absurd h (by decide)

end Go.Proofs.Ytbnepjojfaeggaa

namespace Go.Proofs.Ytbnepjojfaeggaa
set_option linter.unusedVariables false
set_option linter.unusedSimpArgs false

/-- The transaction of a number that stands whole at a place of the ring. -/
def txAt (bs : List (List Int)) (a : Nat) (seq : Int) : Option (List (Int × List Int)) :=
  if isBeg (bs.getD a []) = true ∧ (readD (bs.getD a [])).seq = seq ∧ isEnd (bs.getD ((a + ((readD (bs.getD a [])).to.length + 1)) % 40) []) = true ∧
      leN (bs.getD ((a + ((readD (bs.getD a [])).to.length + 1)) % 40) []) 4 4 = seq ∧ (bs.getD ((a + ((readD (bs.getD a [])).to.length + 1)) % 40) []).getD 8 0 = ((readD (bs.getD a [])).to.length : Int)
  then some ((List.range (readD (bs.getD a [])).to.length).map fun i => ((readD (bs.getD a [])).to.getD i 0, bs.getD ((a + 1 + i) % 40) [])) else none

/-- The transactions from a place and a number on, so many at most; and where the next one would begin. -/
def findL (bs : List (List Int)) : Nat → Nat → Int → List (List (Int × List Int)) × Nat × Int
  | 0, a, s => ([], a, s)
  | k + 1, a, s => match txAt bs a s with
    | none => ([], a, s)
    | some l => (l :: (findL bs k ((a + (l.length + 2)) % 40) (s + 1)).1, (findL bs k ((a + (l.length + 2)) % 40) (s + 1)).2)
def findF (bs : List (List Int)) (a : Nat) (s : Int) : List (List (Int × List Int)) × Nat × Int := findL bs (1073741824 - s).toNat a s
/-- Is it a log, and a head? -/
def okLog (bs : List (List Int)) (a s : Int) : Bool := decide (bs.length = 40 ∧ 0 ≤ a ∧ a ≤ 39 ∧ 1 ≤ s ∧ s ≤ 1073741824) && bs.all fun b => decide (b.length = 64)

theorem tx_some {bs : List (List Int)} {a : Nat} {s : Int} {l : List (Int × List Int)} (h : txAt bs a s = some l) : isBeg (bs.getD a []) = true ∧ (readD (bs.getD a [])).seq = s ∧ l.length = (readD (bs.getD a [])).to.length ∧ 1 ≤ l.length ∧ l.length ≤ 20 := by
  unfold txAt at h
  split at h
  · next hc =>
    have := (soundD_parts (isBeg_block hc.1).2.1).1
    simp only [Option.some.injEq] at h
    subst h
    rw [List.length_map, List.length_range]
    exact ⟨hc.1, hc.2.1, rfl, this.1, this.2.1⟩
  · cases h
theorem tx_other {bs : List (List Int)} {a : Nat} {s s' : Int} {l : List (Int × List Int)} (h : txAt bs a s = some l) (hne : s' ≠ s) : txAt bs a s' = none := by
  have h2 := (tx_some h).2.1
  unfold txAt
  rw [if_neg]
  rintro ⟨_, h3, _⟩
  exact hne (h3.symm.trans h2)

def sumT (l : List (List (Int × List Int))) : Nat := (l.map fun t => t.length + 2).sum
theorem find_sums (bs : List (List Int)) : ∀ (k a : Nat) (s : Int), a < 40 → (findL bs k a s).2.2 = s + ((findL bs k a s).1.length : Int) ∧ (findL bs k a s).2.1 = (a + sumT (findL bs k a s).1) % 40
  | 0, a, s, h => ⟨by simp [findL], by simp [findL, sumT, Nat.mod_eq_of_lt h]⟩
  | k + 1, a, s, h => by
    unfold findL
    cases hx : txAt bs a s with
    | none => exact ⟨by simp, by simp [sumT, Nat.mod_eq_of_lt h]⟩
    | some l =>
      obtain ⟨h1, h2⟩ := find_sums bs k ((a + (l.length + 2)) % 40) (s + 1) (Nat.mod_lt _ (by decide))
      simp only
      refine ⟨by rw [h1, List.length_cons]; omega, ?_⟩
      rw [h2]
      show ((a + (l.length + 2)) % 40 + sumT _) % 40 = (a + ((l.length + 2) + sumT _)) % 40
      rw [Nat.mod_add_mod, Nat.add_assoc]
theorem find_elder {bs : List (List Int)} {k k' a : Nat} {s : Int} (h : (findL bs k a s).1 ≠ []) : findL bs k' a (s + 1) = ([], a, s + 1) := by
  have hx : ∃ l, txAt bs a s = some l := by
    cases k with
    | zero => exact absurd rfl h
    | succ k =>
      unfold findL at h
      cases hx : txAt bs a s with
      | none => rw [hx] at h; exact absurd rfl h
      | some l => exact ⟨l, rfl⟩
  obtain ⟨l, hl⟩ := hx
  cases k' with
  | zero => rfl
  | succ k' =>
    unfold findL
    rw [tx_other hl (show s + 1 ≠ s by omega)]

/-! ### Transactions that are laid behind one another -/

def zero64 : List Int := List.replicate 64 0
theorem zero64_first : zero64.getD 0 0 = 0 := rfl
def dW (seq : Int) (i n : Nat) : PDesc := ⟨seq + i, (List.range n).map fun (k : Nat) => 60 + 7 * (i : Int) + (k : Int)⟩
def datW (fill : Int) (i : Nat) : List Int := fill :: (i : Int) :: List.replicate 62 0
def txW (seq fill : Int) (i n : Nat) : List (List Int) := begB (dW seq i n) :: (List.replicate n (datW fill i) ++ [endB (seq + i) n])
def flatW (seq fill : Int) : Nat → List Nat → List (List Int)
  | _, [] => []
  | i, n :: r => txW seq fill i n ++ flatW seq fill (i + 1) r
/-- How many are whole ahead of the cut, and how many blocks these are. -/
def wholeN (cut : Nat) : Nat → List Nat → Nat
  | _, [] => 0
  | p, n :: r => if p + (n + 2) ≤ cut then wholeN cut (p + (n + 2)) r + 1 else 0
def placeN (cut : Nat) : Nat → List Nat → Nat
  | p, [] => p
  | p, n :: r => if p + (n + 2) ≤ cut then placeN cut (p + (n + 2)) r else p
/-- What is found of them. -/
def gotW (cut : Nat) (seq fill : Int) : Nat → Nat → List Nat → List (List (Int × List Int))
  | _, _, [] => []
  | p, i, n :: r => if p + (n + 2) ≤ cut then ((List.range n).map fun (k : Nat) => (60 + 7 * (i : Int) + (k : Int), datW fill i)) :: gotW cut seq fill (p + (n + 2)) (i + 1) r else []

theorem wholeN_cons (cut p n : Nat) (r : List Nat) : wholeN cut p (n :: r) = if p + (n + 2) ≤ cut then wholeN cut (p + (n + 2)) r + 1 else 0 := rfl
theorem placeN_cons (cut p n : Nat) (r : List Nat) : placeN cut p (n :: r) = if p + (n + 2) ≤ cut then placeN cut (p + (n + 2)) r else p := rfl
theorem gotW_cons (cut : Nat) (seq fill : Int) (p i n : Nat) (r : List Nat) : gotW cut seq fill p i (n :: r) = if p + (n + 2) ≤ cut then ((List.range n).map fun (k : Nat) => (60 + 7 * (i : Int) + (k : Int), datW fill i)) :: gotW cut seq fill (p + (n + 2)) (i + 1) r else [] := rfl

theorem dW_sound {seq : Int} {i n : Nat} (h0 : 1 ≤ seq) (h1 : seq + i ≤ 1073741824) (hi : i ≤ 40) (hn : 1 ≤ n ∧ n ≤ 5) : soundD (dW seq i n) = true := by
  unfold soundD dW
  rw [Bool.and_eq_true, Bool.and_eq_true, decide_eq_true_eq, decide_eq_true_eq, List.length_map, List.length_range]
  refine ⟨⟨hn.1, by omega, by show 1 ≤ seq + (i : Int); omega, h1⟩, ?_, ?_⟩
  · rw [List.all_eq_true]
    intro x hx
    obtain ⟨k, hk, rfl⟩ := List.mem_map.1 hx
    have := List.mem_range.1 hk
    unfold homeB
    rw [decide_eq_true_eq]
    omega
  · unfold List.Nodup
    rw [List.pairwise_map]
    exact List.Pairwise.imp (fun {x y} h e => h (by omega)) List.nodup_range

theorem txW_length (seq fill : Int) (i n : Nat) : (txW seq fill i n).length = n + 2 := by
  unfold txW
  rw [List.length_cons, List.length_append, List.length_replicate]
  rfl

/-- The ring holds these blocks from a place on, up to the cut; zeros else. -/
def LaidL (bs : List (List Int)) (a cut : Nat) (flat : List (List Int)) : Prop := ∀ p, p < 40 → bs.getD ((a + p) % 40) [] = if p < cut then flat.getD p zero64 else zero64

theorem find_laid {bs : List (List Int)} {a cut : Nat} {seq fill : Int} {flat : List (List Int)} (hL : LaidL bs a cut flat) (hl : flat.length ≤ 40) (h1 : 1 ≤ seq) (hseq : seq ≤ 100000) :
    ∀ (r : List Nat) (p i k : Nat) (pre : List (List Int)), flat = pre ++ flatW seq fill i r → pre.length = p → p ≤ cut → (∀ n ∈ r, 1 ≤ n ∧ n ≤ 5) → i + r.length ≤ 40 → r.length < k → (0 < i → (readD (flat.getD 0 zero64)).seq = seq) → (i = 0 → p = 0) →
      findL bs k ((a + p) % 40) (seq + i) = (gotW cut seq fill p i r, (a + placeN cut p r) % 40, seq + i + wholeN cut p r)
  | [], p, i, k, pre, hf, hp, hc, hn, hi, hk, h0, hi0 => by
    obtain ⟨k, rfl⟩ : ∃ m, k = m + 1 := ⟨k - 1, by simp at hk; omega⟩
    have hfl : flat = pre := by rw [hf]; show pre ++ [] = pre; exact List.append_nil _
    have hnone : txAt bs ((a + p) % 40) (seq + i) = none := by
      unfold txAt
      rw [if_neg]
      rintro ⟨hb, hs, _⟩
      by_cases hp40 : p < 40
      · have hz : bs.getD ((a + p) % 40) [] = zero64 := by
          rw [hL p hp40]
          split
          · rw [List.getD_eq_getElem?_getD, List.getElem?_eq_none (by rw [hfl]; omega)]; rfl
          · rfl
        rw [hz] at hb
        rw [(zero_not zero64_first).1] at hb
        cases hb
      · have hpe : p = 40 := by rw [hfl] at hl; omega
        subst hpe
        have e : (a + 40) % 40 = (a + 0) % 40 := by omega
        rw [e, hL 0 (by decide), if_pos (by omega)] at hs
        by_cases hi2 : i = 0
        · exact absurd (hi0 hi2) (by decide)
        · rw [h0 (by omega)] at hs
          omega
    unfold findL
    rw [hnone]
    show _ = ([], (a + p) % 40, seq + i + 0)
    rw [Int.add_zero]
  | n :: r, p, i, k, pre, hf, hp, hc, hn, hi, hk, h0, hi0 => by
    obtain ⟨k, rfl⟩ : ∃ m, k = m + 1 := ⟨k - 1, by simp at hk; omega⟩
    have hnb := hn n (List.mem_cons_self ..)
    have hi' : i + (r.length + 1) ≤ 40 := hi
    have hsd : soundD (dW seq i n) = true := dW_sound h1 (by omega) (by omega) hnb
    have hfl : flat.length = p + ((n + 2) + (flatW seq fill (i + 1) r).length) := by
      rw [hf, List.length_append, hp]
      show p + (txW seq fill i n ++ flatW seq fill (i + 1) r).length = _
      rw [List.length_append, txW_length]
    have hat : ∀ j, j < n + 2 → flat.getD (p + j) zero64 = (txW seq fill i n).getD j zero64 := fun j hj => by
      rw [hf, List.getD_eq_getElem?_getD, List.getElem?_append_right (by omega), hp, Nat.add_sub_cancel_left]
      show ((txW seq fill i n ++ flatW seq fill (i + 1) r)[j]?).getD zero64 = _
      rw [List.getElem?_append_left (by rw [txW_length]; exact hj), ← List.getD_eq_getElem?_getD]
    have hto : (dW seq i n).to.length = n := by unfold dW; rw [List.length_map, List.length_range]
    have g0 : (txW seq fill i n).getD 0 zero64 = begB (dW seq i n) := rfl
    have gd : ∀ j, j < n → (txW seq fill i n).getD (j + 1) zero64 = datW fill i := fun j hj => by
      show ((List.replicate n (datW fill i) ++ [endB (seq + i) n])[j]?).getD zero64 = _
      rw [List.getElem?_append_left (by rw [List.length_replicate]; exact hj), List.getElem?_replicate, if_pos hj]
      rfl
    have ge : (txW seq fill i n).getD (n + 1) zero64 = endB (seq + i) n := by
      show ((List.replicate n (datW fill i) ++ [endB (seq + i) n])[n]?).getD zero64 = _
      rw [List.getElem?_append_right (by rw [List.length_replicate]; exact Nat.le_refl _), List.length_replicate, Nat.sub_self]
      rfl
    by_cases hw : p + (n + 2) ≤ cut
    · have hb0 : bs.getD ((a + p) % 40) [] = begB (dW seq i n) := by rw [hL p (by omega), if_pos (by omega)]; have := hat 0 (by omega); rw [Nat.add_zero] at this; rw [this, g0]
      have hbe : bs.getD (((a + p) % 40 + (n + 1)) % 40) [] = endB (seq + i) n := by
        rw [Nat.mod_add_mod, Nat.add_assoc, hL (p + (n + 1)) (by omega), if_pos (by omega), hat (n + 1) (by omega), ge]
      have hok : okEnd (seq + i) n = true := by unfold okEnd; rw [decide_eq_true_eq]; omega
      obtain ⟨r1, r2⟩ := read_end hok
      have htx : txAt bs ((a + p) % 40) (seq + i) = some ((List.range n).map fun (k : Nat) => (60 + 7 * (i : Int) + (k : Int), datW fill i)) := by
        unfold txAt
        rw [hb0, read_beg hsd, hto, hbe, r1, r2, if_pos ⟨is_beg hsd, rfl, is_end hok, rfl, rfl⟩]
        congr 1
        apply List.map_congr_left
        intro j hj
        have hj' := List.mem_range.1 hj
        have hd : bs.getD (((a + p) % 40 + 1 + j) % 40) [] = datW fill i := by
          rw [show (a + p) % 40 + 1 + j = (a + p) % 40 + (1 + j) by omega, Nat.mod_add_mod, Nat.add_assoc, hL (p + (1 + j)) (by omega), if_pos (by omega), Nat.add_comm 1 j, hat (j + 1) (by omega), gd j hj']
        have ht : (dW seq i n).to.getD j 0 = 60 + 7 * (i : Int) + (j : Int) := by
          unfold dW
          rw [List.getD_eq_getElem?_getD, List.getElem?_map, List.getElem?_range hj']
          rfl
        rw [hd, ht]
      have ih := find_laid hL hl h1 hseq r (p + (n + 2)) (i + 1) k (pre ++ txW seq fill i n) (by rw [hf, List.append_assoc]; rfl) (by rw [List.length_append, txW_length, hp]) hw (fun x hx => hn x (List.mem_cons_of_mem _ hx)) (by omega) (by simp at hk; omega) (fun _ => by
        by_cases hi2 : i = 0
        · have hp0 := hi0 hi2
          have := hat 0 (by omega)
          rw [hp0] at this
          rw [this, g0, read_beg hsd, hi2]
          show seq + ((0 : Nat) : Int) = seq
          omega
        · exact h0 (by omega)) (fun h => by omega)
      unfold findL
      rw [htx]
      simp only [List.length_map, List.length_range]
      have e1 : ((a + p) % 40 + (n + 2)) % 40 = (a + (p + (n + 2))) % 40 := by rw [Nat.mod_add_mod, Nat.add_assoc]
      have e2 : seq + (i : Int) + 1 = seq + ((i + 1 : Nat) : Int) := by omega
      rw [e1, e2, ih]
      rw [gotW_cons, placeN_cons, wholeN_cons, if_pos hw, if_pos hw, if_pos hw]
      refine Prod.ext rfl (Prod.ext rfl ?_)
      show seq + ((i + 1 : Nat) : Int) + (wholeN cut (p + (n + 2)) r : Int) = seq + (i : Int) + ((wholeN cut (p + (n + 2)) r + 1 : Nat) : Int)
      omega
    · have hnone : txAt bs ((a + p) % 40) (seq + i) = none := by
        unfold txAt
        rw [if_neg]
        rintro ⟨hb, hs, he, _⟩
        have hp40 : p < 40 := by omega
        by_cases hpc : p < cut
        · have hb0 : bs.getD ((a + p) % 40) [] = begB (dW seq i n) := by rw [hL p hp40, if_pos hpc]; have := hat 0 (by omega); rw [Nat.add_zero] at this; rw [this, g0]
          rw [hb0, read_beg hsd, hto, Nat.mod_add_mod, Nat.add_assoc, hL (p + (n + 1)) (by omega), if_neg (by omega), (zero_not zero64_first).2] at he
          cases he
        · rw [hL p hp40, if_neg hpc, (zero_not zero64_first).1] at hb
          cases hb
      unfold findL
      rw [hnone]
      rw [gotW_cons, placeN_cons, wholeN_cons, if_neg hw, if_neg hw, if_neg hw]
      show _ = ([], (a + p) % 40, seq + i + 0)
      rw [Int.add_zero]

end Go.Proofs.Ytbnepjojfaeggaa
