/-
  Proved here: plain facts on short texts that were sealed.
  No conditions but those that each theorem names. Nothing of the program is read here.
-/
import Derived.Test.YtpmggbdmoopkfaaFieldNum
import Derived.Test.YtpmggbdmoopkfaaNum
namespace Go.Proofs.Ytpmggbdmoopkfaa

/-- A short text, sealed. -/
theorem seal_short {sum : List Int → Int} {l : List Int} (h : l.length ≤ 60) : sealOf sum l = (l ++ List.replicate (60 - l.length) 0) ++ leB (sum (l ++ List.replicate (60 - l.length) 0)) 4 := by
  have e : (l ++ List.replicate (60 - l.length) 0).take 60 = l ++ List.replicate (60 - l.length) 0 := List.take_of_length_le (by rw [List.length_append, List.length_replicate]; omega)
  unfold sealOf
  rw [e]

theorem seal_short_length {sum : List Int → Int} {l : List Int} (h : l.length ≤ 60) : (sealOf sum l).length = 64 := by
  rw [seal_short h, List.length_append, leB_length, List.length_append, List.length_replicate]
  omega

/-- The first bytes of a short text, sealed, are its own. -/
theorem seal_short_at {sum : List Int → Int} {l : List Int} (h : l.length ≤ 60) {k : Nat} (hk : k < l.length) : (sealOf sum l).getD k 0 = l.getD k 0 := by
  rw [seal_short h, List.append_assoc, List.getD_eq_getElem?_getD, List.getElem?_append_left hk, ← List.getD_eq_getElem?_getD]

theorem leN_of_eq {zs ys : List Int} {p q : Nat} : ∀ (k : Nat), (∀ j, j < k → zs.getD (p + j) 0 = ys.getD (q + j) 0) → leN zs p k = leN ys q k
  | 0, _ => rfl
  | k + 1, h => by
    show leN zs p k + zs.getD (p + k) 0 * 256 ^ k = leN ys q k + ys.getD (q + k) 0 * 256 ^ k
    rw [leN_of_eq k (fun j hj => h j (by omega)), h k (by omega)]

/-- A number that fits into its bytes is read as it was. -/
theorem leN_leB {n : Int} (h0 : 0 ≤ n) : ∀ (k : Nat), leN (leB n k) 0 k = n % 256 ^ k
  | 0 => by
    show (0 : Int) = n % 1
    omega
  | k + 1 => by
    have hl : (leB n (k + 1)).getD (0 + k) 0 = n / 256 ^ k % 256 := by
      show (leB n k ++ [n / 256 ^ k % 256]).getD (0 + k) 0 = _
      rw [List.getD_eq_getElem?_getD, List.getElem?_append_right (by rw [leB_length]; omega), leB_length]
      simp
    have hp : leN (leB n (k + 1)) 0 k = leN (leB n k) 0 k := leN_of_eq k (fun j hj => by
      show (leB n k ++ [n / 256 ^ k % 256]).getD (0 + j) 0 = _
      rw [List.getD_eq_getElem?_getD, List.getElem?_append_left (by rw [leB_length]; omega), ← List.getD_eq_getElem?_getD])
    show leN (leB n (k + 1)) 0 k + (leB n (k + 1)).getD (0 + k) 0 * 256 ^ k = _
    rw [hl, hp, leN_leB h0 k]
    obtain ⟨m, rfl⟩ : ∃ m : Nat, n = m := ⟨n.toNat, by omega⟩
    obtain ⟨P, hP⟩ : ∃ P : Nat, 256 ^ k = P := ⟨_, rfl⟩
    have hI : (256 : Int) ^ k = (P : Int) := by rw [← hP, Int.natCast_pow]; rfl
    rw [Int.pow_succ, hI]
    have h := Nat.mod_mul (x := m) (a := P) (b := 256)
    have h' : ((m % (P * 256) : Nat) : Int) = ((m % P + P * (m / P % 256) : Nat) : Int) := congrArg _ h
    rw [Int.natCast_emod, Int.natCast_mul, Int.natCast_add, Int.natCast_mul, Int.natCast_emod, Int.natCast_emod, Int.natCast_ediv] at h'
    rw [Int.mul_comm ((m : Int) / (P : Int) % 256) _]
    exact h'.symm

theorem leB4_inj {a b : Int} (ha : 0 ≤ a ∧ a < 4294967296) (hb : 0 ≤ b ∧ b < 4294967296) (h : leB a 4 = leB b 4) : a = b := by
  simp only [leB, List.nil_append, List.cons_append, List.cons.injEq] at h
  omega

/-- Two sealed blocks differ at one place ahead of the sum: then they do not differ. -/
theorem sealed_apart {m l : List Int} (hm : m.length ≤ 60) (hl : l.length ≤ 60) (hz : ∀ z ∈ l, 0 ≤ z ∧ z ≤ 255) {k : Nat} {y : Int} (hk : k < 60) (hy : 0 ≤ y ∧ y ≤ 255) (h : sealOf sumS m = (sealOf sumS l).set k y) :
    y = (sealOf sumS l).getD k 0 := by
  have hzp : ∀ z ∈ l ++ List.replicate (60 - l.length) 0, 0 ≤ z ∧ z ≤ 255 := fun z h => by
    rcases List.mem_append.1 h with h | h
    · exact hz z h
    · rw [List.eq_of_mem_replicate h]; decide
  rw [seal_short hm, seal_short hl] at h
  rw [seal_short hl]
  have l1 : (m ++ List.replicate (60 - m.length) 0).length = 60 := by rw [List.length_append, List.length_replicate]; omega
  have l2 : (l ++ List.replicate (60 - l.length) 0).length = 60 := by rw [List.length_append, List.length_replicate]; omega
  generalize m ++ List.replicate (60 - m.length) 0 = M at *
  generalize l ++ List.replicate (60 - l.length) 0 = L at *
  rw [List.set_append_left _ _ (by omega)] at h
  have h1 : M = L.set k y := by
    have e := congrArg (List.take 60) h
    rw [List.take_append_of_le_length (by omega), List.take_append_of_le_length (by rw [List.length_set]; omega), List.take_of_length_le (by omega), List.take_of_length_le (by rw [List.length_set]; omega)] at e
    exact e
  rw [h1] at h
  have h3 := leB4_inj (sumS_bounds _) (sumS_bounds _) (List.append_cancel_left h)
  have h4 := (sum_set (zs := L) (k := k) (by omega) hzp hy).1 h3
  rw [h4, List.getD_eq_getElem?_getD, List.getElem?_append_left (by omega)]

/-- 64 bytes that are right ahead of the sum, sealed. -/
theorem sealed_of {zs l : List Int} (hl : l.length ≤ 60) (h64 : zs.length = 64) (h : ∀ k, k < 60 → zs.getD k 0 = l.getD k 0) : sealOf sumS zs = sealOf sumS l := by
  have e : zs.take 60 = l ++ List.replicate (60 - l.length) 0 := by
    refine List.ext_getElem (by rw [List.length_take, List.length_append, List.length_replicate]; omega) (fun k h1 h2 => ?_)
    rw [List.length_take] at h1
    have hk := h k (by omega)
    rw [List.getD_eq_getElem?_getD, List.getElem?_eq_getElem (by omega), Option.getD_some] at hk
    rw [List.getElem_take, hk]
    by_cases hkl : k < l.length
    · rw [List.getElem_append_left hkl]
      simp [List.getD, hkl]
    · rw [List.getElem_append_right (by omega), List.getElem_replicate]
      simp [List.getD, List.getElem?_eq_none (show l.length ≤ k by omega)]
  rw [sealOf_take h64, seal_short hl, e]

end Go.Proofs.Ytpmggbdmoopkfaa
