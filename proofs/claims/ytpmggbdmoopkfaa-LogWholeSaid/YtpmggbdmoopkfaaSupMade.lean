/-
  Proved here: blocks of Supers and Heads that are made by package field's words (Text, Set, Seal; in plain words textOut, setOut, sealOut) are the blocks that the document asks.
  The conditions stand at each theorem. Nothing of the program is read here.
-/
import Derived.Test.YtpmggbdmoopkfaaSupFacts
import Derived.Test.YtpmggbdmoopkfaaFieldPut
namespace Go.Proofs.Ytpmggbdmoopkfaa
open Go.RowKit

theorem putK_over (zs : List Int) (p : Nat) (n : Int) : ∀ k : Nat, (putK zs p n k).2 = n / 256 ^ k
  | 0 => by
    show n = n / 1
    omega
  | k + 1 => by
    show (putK zs p n k).2 / 256 = _
    rw [putK_over zs p n k, Int.pow_succ, ← Int.ediv_ediv_of_nonneg (by have := pow256_pos k; omega)]

/-- A number that fits is put without an error. -/
theorem setErr_none {p size : Nat} {n : Int} (h1 : 1 ≤ size) (h2 : size ≤ 4) (h3 : p + size ≤ 60) (h4 : 0 ≤ n) (h5 : n < 256 ^ size) : setErr 64 p size n = 0 := by
  have hf : fErr 64 p size = 0 := by
    unfold fErr
    rw [if_pos rfl, if_neg (by omega)]
  unfold setErr
  rw [if_neg (by simp [hf]), if_neg]
  rintro (h | h)
  · omega
  · rw [putK_over, Int.toNat_natCast, Int.ediv_eq_zero_of_lt h4 h5] at h
    omega

theorem put_at {zs : List Int} {p size : Nat} {n : Int} (h : setErr zs.length p size n = 0) {i : Nat} (hi : p ≤ i ∧ i < p + size) : (setOut zs p size n).getD i 0 = n / 256 ^ (i - p) % 256 := by
  have ho := fErr_ok (setErr_ok h).1
  rw [setOut_ok h, Int.toNat_natCast, Int.toNat_natCast, getD_put _ _ _ _ (by omega), if_pos hi, putK_over]

theorem put_off {zs : List Int} {p size : Nat} {n : Int} (h : setErr zs.length p size n = 0) {i : Nat} (hi : ¬ (p ≤ i ∧ i < p + size)) : (setOut zs p size n).getD i 0 = zs.getD i 0 := set_other h (by omega)

def zeroes64 : List Int := List.replicate 64 0
/-- A text of four bytes at the beginning of nothing but 0. -/
def begun4 (t : List Int) : List Int := textOut zeroes64 0 t
theorem begun_dryd : begun4 dryd = dryd ++ List.replicate 60 0 := by decide
theorem begun_head : begun4 headT = headT ++ List.replicate 60 0 := by decide

/-- What Set by Set comes of a Super. -/
def madeSup (s : PSup) : List Int := setOut (setOut (setOut (setOut (setOut (begun4 dryd) (4 : Nat) (2 : Nat) s.a) (6 : Nat) (1 : Nat) s.b) (7 : Nat) (1 : Nat) s.c) (8 : Nat) (1 : Nat) s.d) (10 : Nat) (2 : Nat) s.e
def madeHead (s : PHead) : List Int := setOut (setOut (begun4 headT) (4 : Nat) (1 : Nat) s.a) (8 : Nat) (4 : Nat) s.b

theorem made_sup {s : PSup} (h : s.sound = true) : (madeSup s).length = 64 ∧ sealOf sumS (madeSup s) = supBlock s := by
  obtain ⟨a, b, c, d, e⟩ := s
  have h' : 64 ≤ a ∧ a ≤ 480 ∧ 1 ≤ b ∧ b ≤ 3 ∧ 0 ≤ c ∧ c ≤ 3 ∧ 0 ≤ d ∧ d ≤ 32 ∧ 0 ≤ e ∧ e ≤ 480 := of_decide_eq_true h
  have l0 : (begun4 dryd).length = 64 := by decide
  have p2 : (256 : Int) ^ 2 = 65536 := by decide
  have p1 : (256 : Int) ^ 1 = 256 := by decide
  have p0 : (256 : Int) ^ 0 = 1 := by decide
  have e1 : setErr (begun4 dryd).length (4 : Nat) (2 : Nat) a = 0 := by rw [l0]; exact setErr_none (by decide) (by decide) (by decide) (by omega) (by omega)
  have l1 := setOut_length e1
  have e2 : setErr (setOut (begun4 dryd) (4 : Nat) (2 : Nat) a).length (6 : Nat) (1 : Nat) b = 0 := by rw [l1]; exact setErr_none (by decide) (by decide) (by decide) (by omega) (by omega)
  have l2 := setOut_length e2
  have e3 : setErr (setOut (setOut (begun4 dryd) (4 : Nat) (2 : Nat) a) (6 : Nat) (1 : Nat) b).length (7 : Nat) (1 : Nat) c = 0 := by rw [l2]; exact setErr_none (by decide) (by decide) (by decide) (by omega) (by omega)
  have l3 := setOut_length e3
  have e4 : setErr (setOut (setOut (setOut (begun4 dryd) (4 : Nat) (2 : Nat) a) (6 : Nat) (1 : Nat) b) (7 : Nat) (1 : Nat) c).length (8 : Nat) (1 : Nat) d = 0 := by rw [l3]; exact setErr_none (by decide) (by decide) (by decide) (by omega) (by omega)
  have l4 := setOut_length e4
  have e5 : setErr (setOut (setOut (setOut (setOut (begun4 dryd) (4 : Nat) (2 : Nat) a) (6 : Nat) (1 : Nat) b) (7 : Nat) (1 : Nat) c) (8 : Nat) (1 : Nat) d).length (10 : Nat) (2 : Nat) e = 0 := by rw [l4]; exact setErr_none (by decide) (by decide) (by decide) (by omega) (by omega)
  refine ⟨setOut_length e5, sup_of_sealed _ (setOut_length e5) (fun k hk => ?_)⟩
  show (setOut (setOut (setOut (setOut (setOut (begun4 dryd) (4 : Nat) (2 : Nat) a) (6 : Nat) (1 : Nat) b) (7 : Nat) (1 : Nat) c) (8 : Nat) (1 : Nat) d) (10 : Nat) (2 : Nat) e).getD k 0 = _
  by_cases k12 : 12 ≤ k
  · rw [put_off e5 (by omega), put_off e4 (by omega), put_off e3 (by omega), put_off e2 (by omega), put_off e1 (by omega), begun_dryd]
    have hs : (supB ⟨a, b, c, d, e⟩).getD k 0 = 0 := by
      rw [List.getD_eq_getElem?_getD, List.getElem?_eq_none (by rw [supB_length]; exact k12), Option.getD_none]
    rw [hs, List.getD_eq_getElem?_getD, List.getElem?_append_right (show dryd.length ≤ k by show 4 ≤ k; omega)]
    rw [List.getElem?_replicate]
    split
    · rfl
    · rfl
  · by_cases k4 : k < 4
    · rw [put_off e5 (by omega), put_off e4 (by omega), put_off e3 (by omega), put_off e2 (by omega), put_off e1 (by omega), begun_dryd]
      obtain rfl | rfl | rfl | rfl : k = 0 ∨ k = 1 ∨ k = 2 ∨ k = 3 := by omega
      all_goals rfl
    · by_cases k6 : k < 6
      · rw [put_off e5 (by omega), put_off e4 (by omega), put_off e3 (by omega), put_off e2 (by omega), put_at e1 (by omega)]
        obtain rfl | rfl : k = 4 ∨ k = 5 := by omega
        all_goals rfl
      · by_cases k7 : k = 6
        · subst k7
          rw [put_off e5 (by omega), put_off e4 (by omega), put_off e3 (by omega), put_at e2 (by omega)]
          rfl
        · by_cases k8 : k = 7
          · subst k8
            rw [put_off e5 (by omega), put_off e4 (by omega), put_at e3 (by omega)]
            rfl
          · by_cases k9 : k = 8
            · subst k9
              rw [put_off e5 (by omega), put_at e4 (by omega)]
              rfl
            · by_cases k10 : k = 9
              · subst k10
                rw [put_off e5 (by omega), put_off e4 (by omega), put_off e3 (by omega), put_off e2 (by omega), put_off e1 (by omega), begun_dryd]
                show (0 : Int) = d / 256 ^ 1 % 256
                omega
              · rw [put_at e5 (by omega)]
                obtain rfl | rfl : k = 10 ∨ k = 11 := by omega
                all_goals rfl

theorem made_head {s : PHead} (h : s.sound = true) : (madeHead s).length = 64 ∧ sealOf sumS (madeHead s) = headBlock s := by
  obtain ⟨a, b⟩ := s
  have h' : 0 ≤ a ∧ a ≤ 39 ∧ 1 ≤ b ∧ b ≤ 1073741824 := of_decide_eq_true h
  have l0 : (begun4 headT).length = 64 := by decide
  have p4 : (256 : Int) ^ 4 = 4294967296 := by decide
  have p1 : (256 : Int) ^ 1 = 256 := by decide
  have e1 : setErr (begun4 headT).length (4 : Nat) (1 : Nat) a = 0 := by rw [l0]; exact setErr_none (by decide) (by decide) (by decide) (by omega) (by omega)
  have l1 := setOut_length e1
  have e2 : setErr (setOut (begun4 headT) (4 : Nat) (1 : Nat) a).length (8 : Nat) (4 : Nat) b = 0 := by rw [l1]; exact setErr_none (by decide) (by decide) (by decide) (by omega) (by omega)
  refine ⟨setOut_length e2, head_of_sealed _ (setOut_length e2) (fun k hk => ?_)⟩
  show (setOut (setOut (begun4 headT) (4 : Nat) (1 : Nat) a) (8 : Nat) (4 : Nat) b).getD k 0 = _
  by_cases k12 : 12 ≤ k
  · rw [put_off e2 (by omega), put_off e1 (by omega), begun_head]
    have hs : (headB ⟨a, b⟩).getD k 0 = 0 := by
      rw [List.getD_eq_getElem?_getD, List.getElem?_eq_none (by rw [headB_length]; exact k12), Option.getD_none]
    rw [hs, List.getD_eq_getElem?_getD, List.getElem?_append_right (show headT.length ≤ k by show 4 ≤ k; omega)]
    rw [List.getElem?_replicate]
    split
    · rfl
    · rfl
  · by_cases k4 : k < 4
    · rw [put_off e2 (by omega), put_off e1 (by omega), begun_head]
      obtain rfl | rfl | rfl | rfl : k = 0 ∨ k = 1 ∨ k = 2 ∨ k = 3 := by omega
      all_goals rfl
    · by_cases k5 : k = 4
      · subst k5
        rw [put_off e2 (by omega), put_at e1 (by omega)]
        rfl
      · by_cases k8 : k < 8
        · rw [put_off e2 (by omega), put_off e1 (by omega), begun_head]
          obtain rfl | rfl | rfl : k = 5 ∨ k = 6 ∨ k = 7 := by omega
          · show (0 : Int) = a / 256 ^ 1 % 256
            omega
          · show (0 : Int) = a / 256 ^ 2 % 256
            omega
          · show (0 : Int) = a / 256 ^ 3 % 256
            omega
        · rw [put_at e2 (by omega)]
          obtain rfl | rfl | rfl | rfl : k = 8 ∨ k = 9 ∨ k = 10 ∨ k = 11 := by omega
          all_goals rfl

end Go.Proofs.Ytpmggbdmoopkfaa
