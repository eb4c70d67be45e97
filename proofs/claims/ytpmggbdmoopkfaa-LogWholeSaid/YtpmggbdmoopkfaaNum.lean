/-
  Proved here: plain facts on pairs of whole numbers (complex numbers with whole parts) modulo 65521: powers of 2 + i, the steps of a check sum, how sums are joined, that no step loses anything.
  No conditions but those that each theorem names. Nothing of the program is read here.
-/
import Derived.Test.YtpmggbdmoopkfaaLists
namespace Go.Proofs.Ytpmggbdmoopkfaa

abbrev Pair := Int × Int

def red (r : Pair) : Pair := (r.1 % 65521, r.2 % 65521)
def mulU (r s : Pair) : Pair := (r.1 * s.1 - r.2 * s.2, r.1 * s.2 + r.2 * s.1)
def stepU (r : Pair) (x : Int) : Pair := (2 * r.1 - r.2 + x, r.1 + 2 * r.2)
def bhdU (l : List Int) (r : Pair) : Pair := l.foldl stepU r
def bhd (l : List Int) (r : Pair) : Pair := l.foldl (fun r x => red (stepU r x)) r
def joinU (a b m : Pair) : Pair := ((a.1 - 1) * m.1 - a.2 * m.2 + b.1, (a.1 - 1) * m.2 + a.2 * m.1 + b.2)
def pwU : Nat → Pair
  | 0 => (1, 0)
  | n + 1 => stepU (pwU n) 0
def sm (r : Pair) : Int := r.1 * 65536 + r.2
def ofS (s : Int) : Pair := ((s / 65536) % 65521, (s % 65536) % 65521)
def Red (r : Pair) : Prop := 0 ≤ r.1 ∧ r.1 < 65521 ∧ 0 ≤ r.2 ∧ r.2 < 65521

theorem red_Red (r : Pair) : Red (red r) := by unfold Red red; simp only; omega
theorem red_of_Red {r : Pair} (h : Red r) : red r = r := by
  unfold Red at h; unfold red
  exact Prod.ext (by simp only; omega) (by simp only; omega)
theorem red_red (r : Pair) : red (red r) = red r := red_of_Red (red_Red r)

theorem cong {a b : Int} (c : Int) (h : a = b + 65521 * c) : a % 65521 = b % 65521 := by omega

theorem red_stepU (r : Pair) (x : Int) : red (stepU (red r) x) = red (stepU r x) := by
  unfold red stepU
  exact Prod.ext (by simp only; omega) (by simp only; omega)

theorem bhd_red (l : List Int) : ∀ r : Pair, bhd l (red r) = red (bhdU l r) := by
  induction l with
  | nil => intro r; rfl
  | cons x l ih =>
    intro r
    show bhd l (red (stepU (red r) x)) = red (bhdU l (stepU r x))
    rw [red_stepU, ih]

theorem bhd_of_Red (l : List Int) {r : Pair} (h : Red r) : bhd l r = red (bhdU l r) := by
  rw [← bhd_red, red_of_Red h]

theorem bhd_Red (l : List Int) {r : Pair} (h : Red r) : Red (bhd l r) := by
  rw [bhd_of_Red l h]; exact red_Red _

theorem bhd_snoc (l : List Int) (x : Int) (r : Pair) : bhd (l ++ [x]) r = red (stepU (bhd l r) x) := by
  unfold bhd; rw [List.foldl_append]; rfl

theorem bhd_append (l m : List Int) (r : Pair) : bhd (l ++ m) r = bhd m (bhd l r) := by
  unfold bhd; rw [List.foldl_append]

theorem mulU_assoc (r s t : Pair) : mulU (mulU r s) t = mulU r (mulU s t) := by
  unfold mulU
  exact Prod.ext (by simp only; grind) (by simp only; grind)

theorem step_mul (r s : Pair) : stepU (mulU r s) 0 = mulU r (stepU s 0) := by
  unfold mulU stepU
  exact Prod.ext (by simp only; grind) (by simp only; grind)

theorem mulU_one (r : Pair) : mulU r (1, 0) = r := by
  unfold mulU
  exact Prod.ext (by simp only; grind) (by simp only; grind)

theorem pwU_add (a b : Nat) : pwU (a + b) = mulU (pwU a) (pwU b) := by
  induction b with
  | zero => rw [show pwU 0 = (1, 0) from rfl, mulU_one]; rfl
  | succ b ih =>
    show stepU (pwU (a + b)) 0 = mulU (pwU a) (stepU (pwU b) 0)
    rw [ih, step_mul]

theorem red_mulU (r s : Pair) : red (mulU (red r) (red s)) = red (mulU r s) := by
  unfold red mulU
  refine Prod.ext ?_ ?_
  · simp only
    rw [Int.sub_emod, ← Int.mul_emod, ← Int.mul_emod, ← Int.sub_emod]
  · simp only
    rw [Int.add_emod, ← Int.mul_emod, ← Int.mul_emod, ← Int.add_emod]

theorem red_joinU (a b m : Pair) : red (joinU (red a) (red b) (red m)) = red (joinU a b m) := by
  have ea1 := Int.emod_def a.1 65521
  have ea2 := Int.emod_def a.2 65521
  have eb1 := Int.emod_def b.1 65521
  have eb2 := Int.emod_def b.2 65521
  have em1 := Int.emod_def m.1 65521
  have em2 := Int.emod_def m.2 65521
  unfold red joinU
  refine Prod.ext ?_ ?_
  · simp only
    rw [ea1, ea2, eb1, em1, em2]
    refine cong (-(a.1 / 65521) * m.1 - (a.1 - 65521 * (a.1 / 65521) - 1) * (m.1 / 65521) + (a.2 / 65521) * m.2 + (a.2 - 65521 * (a.2 / 65521)) * (m.2 / 65521) - b.1 / 65521) ?_
    generalize a.1 / 65521 = x1
    generalize a.2 / 65521 = x2
    generalize b.1 / 65521 = x3
    generalize m.1 / 65521 = x4
    generalize m.2 / 65521 = x5
    grind
  · simp only
    rw [ea1, ea2, eb2, em1, em2]
    refine cong (-(a.1 / 65521) * m.2 - (a.1 - 65521 * (a.1 / 65521) - 1) * (m.2 / 65521) - (a.2 / 65521) * m.1 - (a.2 - 65521 * (a.2 / 65521)) * (m.1 / 65521) - b.2 / 65521) ?_
    generalize a.1 / 65521 = x1
    generalize a.2 / 65521 = x2
    generalize b.2 / 65521 = x3
    generalize m.1 / 65521 = x4
    generalize m.2 / 65521 = x5
    grind

theorem bhdU_join (l : List Int) : ∀ a b : Pair, bhdU l (a.1 - 1 + b.1, a.2 + b.2) = joinU a (bhdU l b) (pwU l.length) := by
  induction l with
  | nil =>
    intro a b
    show (a.1 - 1 + b.1, a.2 + b.2) = joinU a b (1, 0)
    unfold joinU
    exact Prod.ext (by simp only; omega) (by simp only; omega)
  | cons x l ih =>
    intro a b
    show bhdU l (stepU (a.1 - 1 + b.1, a.2 + b.2) x) = joinU a (bhdU l (stepU b x)) (stepU (pwU l.length) 0)
    have e : stepU (a.1 - 1 + b.1, a.2 + b.2) x = ((2 * (a.1 - 1) - a.2 + 1) - 1 + (stepU b x).1, (a.1 - 1 + 2 * a.2) + (stepU b x).2) := by
      unfold stepU
      exact Prod.ext (by simp only; omega) (by simp only; omega)
    rw [e, ih (2 * (a.1 - 1) - a.2 + 1, a.1 - 1 + 2 * a.2) (stepU b x)]
    unfold joinU stepU
    exact Prod.ext (by simp only; grind) (by simp only; grind)

/-- The second text's register begins at 1: joined it is the register behind both. -/
theorem bhdU_parts (l : List Int) (a : Pair) : bhdU l a = joinU a (bhdU l (1, 0)) (pwU l.length) := by
  rw [← bhdU_join]
  congr 1
  exact Prod.ext (by simp only; omega) (by simp only; omega)

theorem ofS_sm {r : Pair} (h : Red r) : ofS (sm r) = r := by
  unfold Red at h; unfold ofS sm
  exact Prod.ext (by simp only; omega) (by simp only; omega)

theorem sm_inj {r s : Pair} (hr : Red r) (hs : Red s) (h : sm r = sm s) : r = s := by
  rw [← ofS_sm hr, ← ofS_sm hs, h]

theorem ofS_Red (s : Int) : Red (ofS s) := by unfold Red ofS; simp only; omega

theorem sm_bounds {r : Pair} (h : Red r) : 0 ≤ sm r ∧ sm r < 4294967296 := by
  unfold Red at h; unfold sm; omega

/-- What More answers. -/
def moreS (s : Int) (l : List Int) : Int := sm (bhd l (ofS s))
/-- What Sum answers. -/
def sumS (l : List Int) : Int := sm (bhd l (1, 0))
/-- What Join answers. -/
def joinS (a b : Int) (n : Nat) : Int := sm (red (joinU (ofS a) (ofS b) (pwU n)))

theorem one_Red : Red (1, 0) := by unfold Red; simp only; omega

theorem moreS_bounds (s : Int) (l : List Int) : 0 ≤ moreS s l ∧ moreS s l < 4294967296 := sm_bounds (bhd_Red l (ofS_Red s))
theorem sumS_bounds (l : List Int) : 0 ≤ sumS l ∧ sumS l < 4294967296 := sm_bounds (bhd_Red l one_Red)
theorem joinS_bounds (a b : Int) (n : Nat) : 0 ≤ joinS a b n ∧ joinS a b n < 4294967296 := sm_bounds (red_Red _)

theorem ofS_65536 : ofS 65536 = (1, 0) := by decide

theorem sumS_more (l : List Int) : sumS l = moreS 65536 l := by unfold sumS moreS; rw [ofS_65536]

theorem ofS_sumS (l : List Int) : ofS (sumS l) = bhd l (1, 0) := ofS_sm (bhd_Red l one_Red)

theorem more_sum (a b : List Int) : moreS (sumS a) b = sumS (a ++ b) := by
  unfold moreS
  rw [ofS_sumS, ← bhd_append]
  rfl

theorem more_nil_sum (a : List Int) : moreS (sumS a) [] = sumS a := by rw [more_sum, List.append_nil]

theorem join_sum (a b : List Int) : joinS (sumS a) (sumS b) b.length = sumS (a ++ b) := by
  unfold joinS
  rw [ofS_sumS, ofS_sumS]
  unfold sumS
  congr 1
  rw [bhd_append, bhd_of_Red a one_Red, bhd_of_Red b one_Red, bhd_of_Red b (red_Red _), ← bhd_of_Red b (red_Red _), bhd_red, bhdU_parts b (bhdU a (1, 0)), ← red_joinU (red (bhdU a (1, 0))) (red (bhdU b (1, 0))) (pwU b.length), red_red, red_red, red_joinU]

theorem join_three (x y z : List Int) : joinS (joinS (sumS x) (sumS y) y.length) (sumS z) z.length = joinS (sumS x) (joinS (sumS y) (sumS z) z.length) (y.length + z.length) := by
  rw [join_sum, join_sum, join_sum]
  have e : y.length + z.length = (y ++ z).length := by simp
  rw [e, join_sum, List.append_assoc]

theorem cong_inv {a b : Int} (h : a % 65521 = b % 65521) : ∃ c, a = b + 65521 * c := ⟨a / 65521 - b / 65521, by omega⟩

theorem inj5 (a b c d k m : Int) (ha : 0 ≤ a ∧ a < 65521) (hb : 0 ≤ b ∧ b < 65521) (hc : 0 ≤ c ∧ c < 65521) (hd : 0 ≤ d ∧ d < 65521)
    (h1 : 2 * a - b = 2 * c - d + 65521 * k) (h2 : a + 2 * b = c + 2 * d + 65521 * m) : a = c ∧ b = d := by
  have h3 : 5 * (a - c) = 65521 * (2 * k + m) := by omega
  have h4 : a - c = 0 := by clear h1 h2 hb hd; omega
  omega

/-- No step loses anything. -/
theorem step_inj {r s : Pair} {x : Int} (hr : Red r) (hs : Red s) (h : red (stepU r x) = red (stepU s x)) : r = s := by
  unfold Red at hr hs
  have h1 := congrArg Prod.fst h
  have h2 := congrArg Prod.snd h
  obtain ⟨k, h1⟩ := cong_inv h1
  obtain ⟨m, h2⟩ := cong_inv h2
  unfold stepU at h1 h2
  simp only at h1 h2
  have h3 := inj5 r.1 r.2 s.1 s.2 k m (by omega) (by omega) (by omega) (by omega) (by omega) (by omega)
  exact Prod.ext h3.1 h3.2

theorem bhd_inj (l : List Int) : ∀ {r s : Pair}, Red r → Red s → bhd l r = bhd l s → r = s := by
  induction l with
  | nil => intro r s _ _ h; exact h
  | cons x l ih =>
    intro r s hr hs h
    exact step_inj hr hs (ih (red_Red _) (red_Red _) h)

theorem sumS_inj_mid (l m : List Int) {r s : Pair} (hr : r = bhd l (1, 0)) (u v : List Int) (h : sumS (l ++ u ++ m) = sumS (l ++ v ++ m)) (hs : s = r) : bhd u r = bhd v s := by
  subst hs
  have h1 := sm_inj (bhd_Red _ one_Red) (bhd_Red _ one_Red) h
  rw [bhd_append, bhd_append, bhd_append, bhd_append] at h1
  rw [← hr] at h1
  have hR : Red s := by rw [hr]; exact bhd_Red l one_Red
  exact bhd_inj m (bhd_Red u hR) (bhd_Red v hR) h1

theorem turn_one (l m : List Int) (x y : Int) (hx : 0 ≤ x ∧ x ≤ 255) (hy : 0 ≤ y ∧ y ≤ 255) : sumS (l ++ [x] ++ m) = sumS (l ++ [y] ++ m) ↔ x = y := by
  constructor
  · intro h
    have h1 := sumS_inj_mid l m rfl [x] [y] h rfl
    have h2 := congrArg Prod.fst h1
    unfold bhd at h2
    simp only [List.foldl_cons, List.foldl_nil] at h2
    unfold red stepU at h2
    simp only at h2
    omega
  · intro h; rw [h]

theorem swap_two (l m : List Int) (x y : Int) (hx : 0 ≤ x ∧ x ≤ 255) (hy : 0 ≤ y ∧ y ≤ 255) : sumS (l ++ [x, y] ++ m) = sumS (l ++ [y, x] ++ m) ↔ x = y := by
  constructor
  · intro h
    have h1 := sumS_inj_mid l m rfl [x, y] [y, x] h rfl
    have h2 := congrArg Prod.fst h1
    unfold bhd at h2
    simp only [List.foldl_cons, List.foldl_nil] at h2
    unfold red stepU at h2
    simp only at h2
    omega
  · intro h; rw [h]

/-- Go's remainder by 65521: what is taken away, and where it lies. -/
theorem tmod_facts (x : Int) : (∃ k, x = x.tmod 65521 + 65521 * k) ∧ -65521 < x.tmod 65521 ∧ x.tmod 65521 < 65521 ∧ (0 ≤ x → x.tmod 65521 = x % 65521) ∧ (0 ≤ x.tmod 65521 → x.tmod 65521 = x % 65521) ∧ (x.tmod 65521 < 0 → x.tmod 65521 + 65521 = x % 65521) := by
  have h1 := Int.tmod_add_mul_tdiv x 65521
  have h2 : x.tmod 65521 < 65521 := Int.tmod_lt_of_pos x (by decide)
  have h3 : -65521 < x.tmod 65521 := by
    have := Int.lt_tmod_of_pos x (b := 65521) (by decide)
    omega
  refine ⟨⟨x.tdiv 65521, h1.symm⟩, h3, h2, fun h => Int.tmod_eq_emod_of_nonneg h, fun h => ?_, fun h => ?_⟩ <;> omega

theorem sum_set {zs : List Int} {k : Nat} {y : Int} (hk : k < zs.length) (hz : ∀ z ∈ zs, 0 ≤ z ∧ z ≤ 255) (hy : 0 ≤ y ∧ y ≤ 255) : sumS (zs.set k y) = sumS zs ↔ y = zs[k]?.getD 0 := by
  have hx : 0 ≤ zs[k]?.getD 0 ∧ zs[k]?.getD 0 ≤ 255 := hz _ (getD_mem hk)
  have e := turn_one (zs.take k) (zs.drop (k + 1)) y (zs[k]?.getD 0) hy hx
  rw [← set_at zs k y hk, ← split_at zs k hk] at e
  exact e

theorem sum_swap {zs : List Int} {k : Nat} (hk : k + 1 < zs.length) (hz : ∀ z ∈ zs, 0 ≤ z ∧ z ≤ 255) :
    (sumS ((zs.set k (zs.getD (k + 1) 0)).set (k + 1) (zs.getD k 0)) == sumS zs) = (zs.getD k 0 == zs.getD (k + 1) 0) := by
  have hx := hz _ (getD_mem (l := zs) (k := k) (by omega))
  have hy := hz _ (getD_mem (l := zs) (k := k + 1) hk)
  have e := swap_two (zs.take k) (zs.drop (k + 2)) (zs.getD k 0) (zs.getD (k + 1) 0) hx hy
  rw [← split_two zs k hk, ← set_two zs k _ _ hk] at e
  rw [Bool.eq_iff_iff, beq_iff_eq, beq_iff_eq]
  exact ⟨fun h => e.1 h.symm, fun h => (e.2 h).symm⟩

end Go.Proofs.Ytpmggbdmoopkfaa
