/-
  Proved here: plain facts on blocks of Supers and Heads: what was made is read as it was; no block is both; a block of which one byte ahead of the sum is another one is neither.
  No conditions but those that each theorem names.
-/
import Derived.Test.YtpmggbdmoopkfaaSup
namespace Go.Proofs.Ytpmggbdmoopkfaa
open Go.RowKit

theorem supBlock_length (s : PSup) : (supBlock s).length = 64 := seal_short_length (by rw [supB_length]; decide)
theorem headBlock_length (s : PHead) : (headBlock s).length = 64 := seal_short_length (by rw [headB_length]; decide)
theorem supBlock_bytes (s : PSup) : ∀ z ∈ supBlock s, 0 ≤ z ∧ z ≤ 255 := sealOf_bytes (supB_bytes s)
theorem headBlock_bytes (s : PHead) : ∀ z ∈ headBlock s, 0 ≤ z ∧ z ≤ 255 := sealOf_bytes (headB_bytes s)
theorem supBlock_at (s : PSup) {k : Nat} (h : k < 12) : (supBlock s).getD k 0 = (supB s).getD k 0 := seal_short_at (by rw [supB_length]; decide) (by rw [supB_length]; exact h)
theorem headBlock_at (s : PHead) {k : Nat} (h : k < 12) : (headBlock s).getD k 0 = (headB s).getD k 0 := seal_short_at (by rw [headB_length]; decide) (by rw [headB_length]; exact h)

theorem leN2 (zs : List Int) (p : Nat) : leN zs p 2 = zs.getD p 0 + zs.getD (p + 1) 0 * 256 := by
  show (0 + zs.getD (p + 0) 0 * 256 ^ 0) + zs.getD (p + 1) 0 * 256 ^ 1 = _
  rw [Nat.add_zero]
  omega
theorem leN4 (zs : List Int) (p : Nat) : leN zs p 4 = zs.getD p 0 + zs.getD (p + 1) 0 * 256 + zs.getD (p + 2) 0 * 65536 + zs.getD (p + 3) 0 * 16777216 := by
  show (((0 + zs.getD (p + 0) 0 * 256 ^ 0) + zs.getD (p + 1) 0 * 256 ^ 1) + zs.getD (p + 2) 0 * 256 ^ 2) + zs.getD (p + 3) 0 * 256 ^ 3 = _
  rw [Nat.add_zero]
  omega

theorem read_sup {s : PSup} (h : s.sound = true) : readSup (supBlock s) = s := by
  obtain ⟨a, b, c, d, e⟩ := s
  have h' : 64 ≤ a ∧ a ≤ 480 ∧ 1 ≤ b ∧ b ≤ 3 ∧ 0 ≤ c ∧ c ≤ 3 ∧ 0 ≤ d ∧ d ≤ 32 ∧ 0 ≤ e ∧ e ≤ 480 := of_decide_eq_true h
  obtain ⟨p, hp⟩ : ∃ p : PSup, p = ⟨a, b, c, d, e⟩ := ⟨_, rfl⟩
  have g4 : (supBlock p).getD 4 0 = a / 256 ^ 0 % 256 := by rw [supBlock_at _ (by decide), hp]; rfl
  have g5 : (supBlock p).getD 5 0 = a / 256 ^ 1 % 256 := by rw [supBlock_at _ (by decide), hp]; rfl
  have g6 : (supBlock p).getD 6 0 = b / 256 ^ 0 % 256 := by rw [supBlock_at _ (by decide), hp]; rfl
  have g7 : (supBlock p).getD 7 0 = c / 256 ^ 0 % 256 := by rw [supBlock_at _ (by decide), hp]; rfl
  have g8 : (supBlock p).getD 8 0 = d / 256 ^ 0 % 256 := by rw [supBlock_at _ (by decide), hp]; rfl
  have g10 : (supBlock p).getD 10 0 = e / 256 ^ 0 % 256 := by rw [supBlock_at _ (by decide), hp]; rfl
  have g11 : (supBlock p).getD 11 0 = e / 256 ^ 1 % 256 := by rw [supBlock_at _ (by decide), hp]; rfl
  rw [← hp]
  unfold readSup
  rw [leN2, leN2, g4, g5, g6, g7, g8, g10, g11, hp]
  have e1 : a / 256 ^ 0 % 256 + a / 256 ^ 1 % 256 * 256 = a := by omega
  have e2 : b / 256 ^ 0 % 256 = b := by omega
  have e3 : c / 256 ^ 0 % 256 = c := by omega
  have e4 : d / 256 ^ 0 % 256 = d := by omega
  have e5 : e / 256 ^ 0 % 256 + e / 256 ^ 1 % 256 * 256 = e := by omega
  rw [e1, e2, e3, e4, e5]

theorem read_head {s : PHead} (h : s.sound = true) : readHead (headBlock s) = s := by
  obtain ⟨a, b⟩ := s
  have h' : 0 ≤ a ∧ a ≤ 39 ∧ 1 ≤ b ∧ b ≤ 1073741824 := of_decide_eq_true h
  obtain ⟨p, hp⟩ : ∃ p : PHead, p = ⟨a, b⟩ := ⟨_, rfl⟩
  have g4 : (headBlock p).getD 4 0 = a / 256 ^ 0 % 256 := by rw [headBlock_at _ (by decide), hp]; rfl
  have g8 : (headBlock p).getD 8 0 = b / 256 ^ 0 % 256 := by rw [headBlock_at _ (by decide), hp]; rfl
  have g9 : (headBlock p).getD 9 0 = b / 256 ^ 1 % 256 := by rw [headBlock_at _ (by decide), hp]; rfl
  have g10 : (headBlock p).getD 10 0 = b / 256 ^ 2 % 256 := by rw [headBlock_at _ (by decide), hp]; rfl
  have g11 : (headBlock p).getD 11 0 = b / 256 ^ 3 % 256 := by rw [headBlock_at _ (by decide), hp]; rfl
  rw [← hp]
  unfold readHead
  rw [leN4, g4, g8, g9, g10, g11, hp]
  have e1 : a / 256 ^ 0 % 256 = a := by omega
  have e2 : b / 256 ^ 0 % 256 + b / 256 ^ 1 % 256 * 256 + b / 256 ^ 2 % 256 * 65536 + b / 256 ^ 3 % 256 * 16777216 = b := by omega
  rw [e1, e2]

theorem is_sup {s : PSup} (h : s.sound = true) : isSup (supBlock s) = true := by
  unfold isSup
  rw [read_sup h, h, supBlock_length]
  simp
theorem is_head {s : PHead} (h : s.sound = true) : isHead (headBlock s) = true := by
  unfold isHead
  rw [read_head h, h, headBlock_length]
  simp

theorem isSup_block {zs : List Int} (h : isSup zs = true) : (readSup zs).sound = true ∧ supBlock (readSup zs) = zs := by
  unfold isSup at h
  simp only [Bool.and_eq_true, decide_eq_true_iff] at h
  exact h.2
theorem isHead_block {zs : List Int} (h : isHead zs = true) : (readHead zs).sound = true ∧ headBlock (readHead zs) = zs := by
  unfold isHead at h
  simp only [Bool.and_eq_true, decide_eq_true_iff] at h
  exact h.2

/-- No block is both. -/
theorem sup_not_head (s : PSup) : isHead (supBlock s) = false := by
  rw [← Bool.not_eq_true]
  intro h
  have e := congrArg (fun l => l.getD 0 0) (isHead_block h).2
  simp only [headBlock_at _ (show (0 : Nat) < 12 by decide), supBlock_at _ (show (0 : Nat) < 12 by decide)] at e
  exact absurd (show (72 : Int) = 68 from e) (by decide)
theorem head_not_sup (s : PHead) : isSup (headBlock s) = false := by
  rw [← Bool.not_eq_true]
  intro h
  have e := congrArg (fun l => l.getD 0 0) (isSup_block h).2
  simp only [headBlock_at _ (show (0 : Nat) < 12 by decide), supBlock_at _ (show (0 : Nat) < 12 by decide)] at e
  exact absurd (show (68 : Int) = 72 from e) (by decide)

theorem sup_turned {s : PSup} {k : Nat} {y : Int} (hk : k < 60) (hy : 0 ≤ y ∧ y ≤ 255) (hne : y ≠ (supBlock s).getD k 0) : isSup ((supBlock s).set k y) = false := by
  rw [← Bool.not_eq_true]
  intro h
  exact hne (sealed_apart (m := supB (readSup ((supBlock s).set k y))) (by rw [supB_length]; decide) (by rw [supB_length]; decide) (supB_bytes s) hk hy (isSup_block h).2)
theorem head_turned {s : PHead} {k : Nat} {y : Int} (hk : k < 60) (hy : 0 ≤ y ∧ y ≤ 255) (hne : y ≠ (headBlock s).getD k 0) : isHead ((headBlock s).set k y) = false := by
  rw [← Bool.not_eq_true]
  intro h
  exact hne (sealed_apart (m := headB (readHead ((headBlock s).set k y))) (by rw [headB_length]; decide) (by rw [headB_length]; decide) (headB_bytes s) hk hy (isHead_block h).2)

/-! ### What calls answer of such blocks -/

theorem getSup_block {s : PSup} (h : s.sound = true) : getSup (supBlock s) = s ∧ getSupErr (supBlock s) = 0 ∧ getHeadErr (supBlock s) = 2 := by
  unfold getSup getSupErr getHeadErr
  rw [is_sup h, sup_not_head, read_sup h]
  exact ⟨rfl, rfl, rfl⟩
theorem getHead_block {s : PHead} (h : s.sound = true) : getHead (headBlock s) = s ∧ getHeadErr (headBlock s) = 0 ∧ getSupErr (headBlock s) = 2 := by
  unfold getHead getHeadErr getSupErr
  rw [is_head h, head_not_sup, read_head h]
  exact ⟨rfl, rfl, rfl⟩
theorem sup_in64 {s : PSup} (h : s.sound = true) : s.in64 := by
  obtain ⟨a, b, c, d, e⟩ := s
  have h' : 64 ≤ a ∧ a ≤ 480 ∧ 1 ≤ b ∧ b ≤ 3 ∧ 0 ≤ c ∧ c ≤ 3 ∧ 0 ≤ d ∧ d ≤ 32 ∧ 0 ≤ e ∧ e ≤ 480 := of_decide_eq_true h
  unfold PSup.in64 i64w
  show ((_ ≤ a ∧ a ≤ _) ∧ (_ ≤ b ∧ b ≤ _) ∧ (_ ≤ c ∧ c ≤ _) ∧ (_ ≤ d ∧ d ≤ _) ∧ (_ ≤ e ∧ e ≤ _))
  omega

theorem sup_of_sealed {zs : List Int} (s : PSup) (h64 : zs.length = 64) (h : ∀ k, k < 60 → zs.getD k 0 = (supB s).getD k 0) : sealOf sumS zs = supBlock s :=
  sealed_of (by rw [supB_length]; decide) h64 h
theorem head_of_sealed {zs : List Int} (s : PHead) (h64 : zs.length = 64) (h : ∀ k, k < 60 → zs.getD k 0 = (headB s).getD k 0) : sealOf sumS zs = headBlock s :=
  sealed_of (by rw [headB_length]; decide) h64 h

end Go.Proofs.Ytpmggbdmoopkfaa
