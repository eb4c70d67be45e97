/-
  Said here: what is told of a volume, and of its log, as blocks, in plain words; what the landed calls of package super are to answer (SupOk); plain facts on these. No conditions but those that each theorem names. Proved here: plain facts on blocks of Supers and Heads: what was made is read as it was; no block is both; a block of which one byte ahead of the sum is another one is neither. No conditions but those that each theorem names. Proved here: blocks of Supers and Heads that are made by package field's words (Text, Set, Seal; in plain words textOut, setOut, sealOut) are the blocks that the document asks. The conditions stand at each theorem. Nothing of the program is read here. Proved here: what the landed super's small parts answer: within, the places, writing and reading place by place. The conditions stand at each theorem. Proved here: what the landed super's writing and reading place by place answer. The conditions stand at each theorem. Proved here: what the landed super's four calls answer (supOk). No conditions but those that each theorem names. Proved here: what the landed super's four calls answer (supOk): the two that read, and all. No conditions but those that each theorem names.
-/
import Derived.Test.YtbnepjojfaeggaaA2
import Derived.Test.YtbnepjojfaeggaaA0
import Derived.Test.YtbnepjojfaeggaaA3
import Derived.BigRegion
import Derived.StillTailTactics
import Derived.Deep.RegionHeld
import Derived.Laws.ResultCell
namespace Go.Proofs.Ytbnepjojfaeggaa
open Go.RowKit

def dryd : List Int := [68, 82, 89, 68]
def headT : List Int := [72, 69, 65, 68]

/-- What is told of a volume. -/
structure PSup where
  a : Int
  b : Int
  c : Int
  d : Int
  e : Int
  deriving DecidableEq

structure PHead where
  a : Int
  b : Int
  deriving DecidableEq

def PSup.sound (s : PSup) : Bool := decide (64 ≤ s.a ∧ s.a ≤ 480 ∧ 1 ≤ s.b ∧ s.b ≤ 3 ∧ 0 ≤ s.c ∧ s.c ≤ 3 ∧ 0 ≤ s.d ∧ s.d ≤ 32 ∧ 0 ≤ s.e ∧ s.e ≤ 480)
def PHead.sound (h : PHead) : Bool := decide (0 ≤ h.a ∧ h.a ≤ 39 ∧ 1 ≤ h.b ∧ h.b ≤ 1073741824)
def supB (s : PSup) : List Int := dryd ++ leB s.a 2 ++ leB s.b 1 ++ leB s.c 1 ++ leB s.d 2 ++ leB s.e 2
def headB (h : PHead) : List Int := headT ++ leB h.a 4 ++ leB h.b 4
def supBlock (s : PSup) : List Int := sealOf sumS (supB s)
def headBlock (h : PHead) : List Int := sealOf sumS (headB h)
def supErr (s : PSup) : Int := if s.sound = true then 0 else 2
def supOut (s : PSup) : List Int := if s.sound = true then supBlock s else []
def headErr (h : PHead) : Int := if h.sound = true then 0 else 2
def headOut (h : PHead) : List Int := if h.sound = true then headBlock h else []
def noSup : PSup := ⟨0, 0, 0, 0, 0⟩
def noHead : PHead := ⟨0, 0⟩
/-- What a block is as a Super, its soundness apart. -/
def readSup (zs : List Int) : PSup := ⟨leN zs 4 2, zs.getD 6 0, zs.getD 7 0, zs.getD 8 0, leN zs 10 2⟩
def readHead (zs : List Int) : PHead := ⟨zs.getD 4 0, leN zs 8 4⟩
def isSup (zs : List Int) : Bool := decide (zs.length = 64) && ((readSup zs).sound && decide (supBlock (readSup zs) = zs))
def isHead (zs : List Int) : Bool := decide (zs.length = 64) && ((readHead zs).sound && decide (headBlock (readHead zs) = zs))
def getSup (zs : List Int) : PSup := if isSup zs = true then readSup zs else noSup
def getHead (zs : List Int) : PHead := if isHead zs = true then readHead zs else noHead
def getSupErr (zs : List Int) : Int := if isSup zs = true then 0 else 2
def getHeadErr (zs : List Int) : Int := if isHead zs = true then 0 else 2

def PSup.val (s : PSup) : Value := .agg #[.int .i64 s.a, .int .i64 s.b, .int .i64 s.c, .int .i64 s.d, .int .i64 s.e]
def PHead.val (h : PHead) : Value := .agg #[.int .i64 h.a, .int .i64 h.b]
def i64w (x : Int) : Prop := -9223372036854775808 ≤ x ∧ x ≤ 9223372036854775807
def PSup.in64 (s : PSup) : Prop := i64w s.a ∧ i64w s.b ∧ i64w s.c ∧ i64w s.d ∧ i64w s.e
def PHead.in64 (h : PHead) : Prop := i64w h.a ∧ i64w h.b

/-! ### Plain facts -/

theorem supB_length (s : PSup) : (supB s).length = 12 := by
  unfold supB
  simp only [List.length_append, leB_length]
  rfl
theorem headB_length (h : PHead) : (headB h).length = 12 := by
  unfold headB
  simp only [List.length_append, leB_length]
  rfl
theorem supB_bytes (s : PSup) : ∀ z ∈ supB s, 0 ≤ z ∧ z ≤ 255 := by
  intro z hz
  unfold supB at hz
  simp only [List.mem_append] at hz
  rcases hz with ((((h | h) | h) | h) | h) | h
  · unfold dryd at h; simp at h; omega
  all_goals exact leB_bytes _ _ z h
theorem headB_bytes (h : PHead) : ∀ z ∈ headB h, 0 ≤ z ∧ z ≤ 255 := by
  intro z hz
  unfold headB at hz
  simp only [List.mem_append] at hz
  rcases hz with (h' | h') | h'
  · unfold headT at h'; simp at h'; omega
  all_goals exact leB_bytes _ _ z h'

end Go.Proofs.Ytbnepjojfaeggaa

namespace Go.Proofs.Ytbnepjojfaeggaa
open Go.RowKit

theorem supBlock_length (s : PSup) : (supBlock s).length = 64 := seal_short_length (by rw [supB_length]; decide)
theorem headBlock_length (s : PHead) : (headBlock s).length = 64 := seal_short_length (by rw [headB_length]; decide)
theorem supBlock_bytes (s : PSup) : ∀ z ∈ supBlock s, 0 ≤ z ∧ z ≤ 255 := sealOf_bytes (supB_bytes s)
theorem headBlock_bytes (s : PHead) : ∀ z ∈ headBlock s, 0 ≤ z ∧ z ≤ 255 := sealOf_bytes (headB_bytes s)
theorem supBlock_at (s : PSup) {k : Nat} (h : k < 12) : (supBlock s).getD k 0 = (supB s).getD k 0 := seal_short_at (by rw [supB_length]; decide) (by rw [supB_length]; exact h)
theorem headBlock_at (s : PHead) {k : Nat} (h : k < 12) : (headBlock s).getD k 0 = (headB s).getD k 0 := seal_short_at (by rw [headB_length]; decide) (by rw [headB_length]; exact h)

theorem leN2 (zs : List Int) (p : Nat) : leN zs p 2 = zs.getD p 0 + zs.getD (p + 1) 0 * 256 := by
  show (0 + zs.getD (p + 0) 0 * 256 ^ 0) + zs.getD (p + 1) 0 * 256 ^ 1 = _
  rw [Nat.add_zero]
  omega
theorem leN4 (zs : List Int) (p : Nat) : leN zs p 4 = zs.getD p 0 + zs.getD (p + 1) 0 * 256 + zs.getD (p + 2) 0 * 65536 + zs.getD (p + 3) 0 * 16777216 := by
  show (((0 + zs.getD (p + 0) 0 * 256 ^ 0) + zs.getD (p + 1) 0 * 256 ^ 1) + zs.getD (p + 2) 0 * 256 ^ 2) + zs.getD (p + 3) 0 * 256 ^ 3 = _
  rw [Nat.add_zero]
  omega

theorem read_sup {s : PSup} (h : s.sound = true) : readSup (supBlock s) = s := by
  obtain ⟨a, b, c, d, e⟩ := s
  have h' : 64 ≤ a ∧ a ≤ 480 ∧ 1 ≤ b ∧ b ≤ 3 ∧ 0 ≤ c ∧ c ≤ 3 ∧ 0 ≤ d ∧ d ≤ 32 ∧ 0 ≤ e ∧ e ≤ 480 := of_decide_eq_true h
  obtain ⟨p, hp⟩ : ∃ p : PSup, p = ⟨a, b, c, d, e⟩ := ⟨_, rfl⟩
  have g4 : (supBlock p).getD 4 0 = a / 256 ^ 0 % 256 := by rw [supBlock_at _ (by decide), hp]; rfl
  have g5 : (supBlock p).getD 5 0 = a / 256 ^ 1 % 256 := by rw [supBlock_at _ (by decide), hp]; rfl
  have g6 : (supBlock p).getD 6 0 = b / 256 ^ 0 % 256 := by rw [supBlock_at _ (by decide), hp]; rfl
  have g7 : (supBlock p).getD 7 0 = c / 256 ^ 0 % 256 := by rw [supBlock_at _ (by decide), hp]; rfl
  have g8 : (supBlock p).getD 8 0 = d / 256 ^ 0 % 256 := by rw [supBlock_at _ (by decide), hp]; rfl
  have g10 : (supBlock p).getD 10 0 = e / 256 ^ 0 % 256 := by rw [supBlock_at _ (by decide), hp]; rfl
  have g11 : (supBlock p).getD 11 0 = e / 256 ^ 1 % 256 := by rw [supBlock_at _ (by decide), hp]; rfl
  rw [← hp]
  unfold readSup
  rw [leN2, leN2, g4, g5, g6, g7, g8, g10, g11, hp]
  have e1 : a / 256 ^ 0 % 256 + a / 256 ^ 1 % 256 * 256 = a := by omega
  have e2 : b / 256 ^ 0 % 256 = b := by omega
  have e3 : c / 256 ^ 0 % 256 = c := by omega
  have e4 : d / 256 ^ 0 % 256 = d := by omega
  have e5 : e / 256 ^ 0 % 256 + e / 256 ^ 1 % 256 * 256 = e := by omega
  rw [e1, e2, e3, e4, e5]

theorem read_head {s : PHead} (h : s.sound = true) : readHead (headBlock s) = s := by
  obtain ⟨a, b⟩ := s
  have h' : 0 ≤ a ∧ a ≤ 39 ∧ 1 ≤ b ∧ b ≤ 1073741824 := of_decide_eq_true h
  obtain ⟨p, hp⟩ : ∃ p : PHead, p = ⟨a, b⟩ := ⟨_, rfl⟩
  have g4 : (headBlock p).getD 4 0 = a / 256 ^ 0 % 256 := by rw [headBlock_at _ (by decide), hp]; rfl
  have g8 : (headBlock p).getD 8 0 = b / 256 ^ 0 % 256 := by rw [headBlock_at _ (by decide), hp]; rfl
  have g9 : (headBlock p).getD 9 0 = b / 256 ^ 1 % 256 := by rw [headBlock_at _ (by decide), hp]; rfl
  have g10 : (headBlock p).getD 10 0 = b / 256 ^ 2 % 256 := by rw [headBlock_at _ (by decide), hp]; rfl
  have g11 : (headBlock p).getD 11 0 = b / 256 ^ 3 % 256 := by rw [headBlock_at _ (by decide), hp]; rfl
  rw [← hp]
  unfold readHead
  rw [leN4, g4, g8, g9, g10, g11, hp]
  have e1 : a / 256 ^ 0 % 256 = a := by omega
  have e2 : b / 256 ^ 0 % 256 + b / 256 ^ 1 % 256 * 256 + b / 256 ^ 2 % 256 * 65536 + b / 256 ^ 3 % 256 * 16777216 = b := by omega
  rw [e1, e2]

theorem is_sup {s : PSup} (h : s.sound = true) : isSup (supBlock s) = true := by
  unfold isSup
  rw [read_sup h, h, supBlock_length]
  simp
theorem is_head {s : PHead} (h : s.sound = true) : isHead (headBlock s) = true := by
  unfold isHead
  rw [read_head h, h, headBlock_length]
  simp

theorem isSup_block {zs : List Int} (h : isSup zs = true) : (readSup zs).sound = true ∧ supBlock (readSup zs) = zs := by
  unfold isSup at h
  simp only [Bool.and_eq_true, decide_eq_true_iff] at h
  exact h.2
theorem isHead_block {zs : List Int} (h : isHead zs = true) : (readHead zs).sound = true ∧ headBlock (readHead zs) = zs := by
  unfold isHead at h
  simp only [Bool.and_eq_true, decide_eq_true_iff] at h
  exact h.2

/-- No block is both. -/
theorem sup_not_head (s : PSup) : isHead (supBlock s) = false := by
  rw [← Bool.not_eq_true]
  intro h
  have e := congrArg (fun l => l.getD 0 0) (isHead_block h).2
  simp only [headBlock_at _ (show (0 : Nat) < 12 by decide), supBlock_at _ (show (0 : Nat) < 12 by decide)] at e
  exact absurd (show (72 : Int) = 68 from e) (by decide)
theorem head_not_sup (s : PHead) : isSup (headBlock s) = false := by
  rw [← Bool.not_eq_true]
  intro h
  have e := congrArg (fun l => l.getD 0 0) (isSup_block h).2
  simp only [headBlock_at _ (show (0 : Nat) < 12 by decide), supBlock_at _ (show (0 : Nat) < 12 by decide)] at e
  exact absurd (show (68 : Int) = 72 from e) (by decide)

theorem sup_turned {s : PSup} {k : Nat} {y : Int} (hk : k < 60) (hy : 0 ≤ y ∧ y ≤ 255) (hne : y ≠ (supBlock s).getD k 0) : isSup ((supBlock s).set k y) = false := by
  rw [← Bool.not_eq_true]
  intro h
  exact hne (sealed_apart (m := supB (readSup ((supBlock s).set k y))) (by rw [supB_length]; decide) (by rw [supB_length]; decide) (supB_bytes s) hk hy (isSup_block h).2)
theorem head_turned {s : PHead} {k : Nat} {y : Int} (hk : k < 60) (hy : 0 ≤ y ∧ y ≤ 255) (hne : y ≠ (headBlock s).getD k 0) : isHead ((headBlock s).set k y) = false := by
  rw [← Bool.not_eq_true]
  intro h
  exact hne (sealed_apart (m := headB (readHead ((headBlock s).set k y))) (by rw [headB_length]; decide) (by rw [headB_length]; decide) (headB_bytes s) hk hy (isHead_block h).2)

/-! ### What calls answer of such blocks -/

theorem getSup_block {s : PSup} (h : s.sound = true) : getSup (supBlock s) = s ∧ getSupErr (supBlock s) = 0 ∧ getHeadErr (supBlock s) = 2 := by
  unfold getSup getSupErr getHeadErr
  rw [is_sup h, sup_not_head, read_sup h]
  exact ⟨rfl, rfl, rfl⟩
theorem getHead_block {s : PHead} (h : s.sound = true) : getHead (headBlock s) = s ∧ getHeadErr (headBlock s) = 0 ∧ getSupErr (headBlock s) = 2 := by
  unfold getHead getHeadErr getSupErr
  rw [is_head h, head_not_sup, read_head h]
  exact ⟨rfl, rfl, rfl⟩
theorem sup_in64 {s : PSup} (h : s.sound = true) : s.in64 := by
  obtain ⟨a, b, c, d, e⟩ := s
  have h' : 64 ≤ a ∧ a ≤ 480 ∧ 1 ≤ b ∧ b ≤ 3 ∧ 0 ≤ c ∧ c ≤ 3 ∧ 0 ≤ d ∧ d ≤ 32 ∧ 0 ≤ e ∧ e ≤ 480 := of_decide_eq_true h
  unfold PSup.in64 i64w
  show ((_ ≤ a ∧ a ≤ _) ∧ (_ ≤ b ∧ b ≤ _) ∧ (_ ≤ c ∧ c ≤ _) ∧ (_ ≤ d ∧ d ≤ _) ∧ (_ ≤ e ∧ e ≤ _))
  omega

theorem sup_of_sealed {zs : List Int} (s : PSup) (h64 : zs.length = 64) (h : ∀ k, k < 60 → zs.getD k 0 = (supB s).getD k 0) : sealOf sumS zs = supBlock s :=
  sealed_of (by rw [supB_length]; decide) h64 h
theorem head_of_sealed {zs : List Int} (s : PHead) (h64 : zs.length = 64) (h : ∀ k, k < 60 → zs.getD k 0 = (headB s).getD k 0) : sealOf sumS zs = headBlock s :=
  sealed_of (by rw [headB_length]; decide) h64 h

end Go.Proofs.Ytbnepjojfaeggaa

namespace Go.Proofs.Ytbnepjojfaeggaa
open Go.RowKit

theorem putK_over (zs : List Int) (p : Nat) (n : Int) : ∀ k : Nat, (putK zs p n k).2 = n / 256 ^ k
  | 0 => by
    show n = n / 1
    omega
  | k + 1 => by
    show (putK zs p n k).2 / 256 = _
    rw [putK_over zs p n k, Int.pow_succ, ← Int.ediv_ediv_of_nonneg (by have := pow256_pos k; omega)]

/-- A number that fits is put without an error. -/
theorem setErr_none {p size : Nat} {n : Int} (h1 : 1 ≤ size) (h2 : size ≤ 4) (h3 : p + size ≤ 60) (h4 : 0 ≤ n) (h5 : n < 256 ^ size) : setErr 64 p size n = 0 := by
  have hf : fErr 64 p size = 0 := by
    unfold fErr
    rw [if_pos rfl, if_neg (by omega)]
  unfold setErr
  rw [if_neg (by simp [hf]), if_neg]
  rintro (h | h)
  · omega
  · rw [putK_over, Int.toNat_natCast, Int.ediv_eq_zero_of_lt h4 h5] at h
    omega

theorem put_at {zs : List Int} {p size : Nat} {n : Int} (h : setErr zs.length p size n = 0) {i : Nat} (hi : p ≤ i ∧ i < p + size) : (setOut zs p size n).getD i 0 = n / 256 ^ (i - p) % 256 := by
  have ho := fErr_ok (setErr_ok h).1
  rw [setOut_ok h, Int.toNat_natCast, Int.toNat_natCast, getD_put _ _ _ _ (by omega), if_pos hi, putK_over]

theorem put_off {zs : List Int} {p size : Nat} {n : Int} (h : setErr zs.length p size n = 0) {i : Nat} (hi : ¬ (p ≤ i ∧ i < p + size)) : (setOut zs p size n).getD i 0 = zs.getD i 0 := set_other h (by omega)

def zeroes64 : List Int := List.replicate 64 0
/-- A text of four bytes at the beginning of nothing but 0. -/
def begun4 (t : List Int) : List Int := textOut zeroes64 0 t
theorem begun_dryd : begun4 dryd = dryd ++ List.replicate 60 0 := by decide
theorem begun_head : begun4 headT = headT ++ List.replicate 60 0 := by decide

/-- What Set by Set comes of a Super. -/
def madeSup (s : PSup) : List Int := setOut (setOut (setOut (setOut (setOut (begun4 dryd) (4 : Nat) (2 : Nat) s.a) (6 : Nat) (1 : Nat) s.b) (7 : Nat) (1 : Nat) s.c) (8 : Nat) (1 : Nat) s.d) (10 : Nat) (2 : Nat) s.e
def madeHead (s : PHead) : List Int := setOut (setOut (begun4 headT) (4 : Nat) (1 : Nat) s.a) (8 : Nat) (4 : Nat) s.b

theorem made_sup {s : PSup} (h : s.sound = true) : (madeSup s).length = 64 ∧ sealOf sumS (madeSup s) = supBlock s := by
  obtain ⟨a, b, c, d, e⟩ := s
  have h' : 64 ≤ a ∧ a ≤ 480 ∧ 1 ≤ b ∧ b ≤ 3 ∧ 0 ≤ c ∧ c ≤ 3 ∧ 0 ≤ d ∧ d ≤ 32 ∧ 0 ≤ e ∧ e ≤ 480 := of_decide_eq_true h
  have l0 : (begun4 dryd).length = 64 := by decide
  have p2 : (256 : Int) ^ 2 = 65536 := by decide
  have p1 : (256 : Int) ^ 1 = 256 := by decide
  have p0 : (256 : Int) ^ 0 = 1 := by decide
  have e1 : setErr (begun4 dryd).length (4 : Nat) (2 : Nat) a = 0 := by rw [l0]; exact setErr_none (by decide) (by decide) (by decide) (by omega) (by omega)
  have l1 := setOut_length e1
  have e2 : setErr (setOut (begun4 dryd) (4 : Nat) (2 : Nat) a).length (6 : Nat) (1 : Nat) b = 0 := by rw [l1]; exact setErr_none (by decide) (by decide) (by decide) (by omega) (by omega)
  have l2 := setOut_length e2
  have e3 : setErr (setOut (setOut (begun4 dryd) (4 : Nat) (2 : Nat) a) (6 : Nat) (1 : Nat) b).length (7 : Nat) (1 : Nat) c = 0 := by rw [l2]; exact setErr_none (by decide) (by decide) (by decide) (by omega) (by omega)
  have l3 := setOut_length e3
  have e4 : setErr (setOut (setOut (setOut (begun4 dryd) (4 : Nat) (2 : Nat) a) (6 : Nat) (1 : Nat) b) (7 : Nat) (1 : Nat) c).length (8 : Nat) (1 : Nat) d = 0 := by rw [l3]; exact setErr_none (by decide) (by decide) (by decide) (by omega) (by omega)
  have l4 := setOut_length e4
  have e5 : setErr (setOut (setOut (setOut (setOut (begun4 dryd) (4 : Nat) (2 : Nat) a) (6 : Nat) (1 : Nat) b) (7 : Nat) (1 : Nat) c) (8 : Nat) (1 : Nat) d).length (10 : Nat) (2 : Nat) e = 0 := by rw [l4]; exact setErr_none (by decide) (by decide) (by decide) (by omega) (by omega)
  refine ⟨setOut_length e5, sup_of_sealed _ (setOut_length e5) (fun k hk => ?_)⟩
  show (setOut (setOut (setOut (setOut (setOut (begun4 dryd) (4 : Nat) (2 : Nat) a) (6 : Nat) (1 : Nat) b) (7 : Nat) (1 : Nat) c) (8 : Nat) (1 : Nat) d) (10 : Nat) (2 : Nat) e).getD k 0 = _
  by_cases k12 : 12 ≤ k
  · rw [put_off e5 (by omega), put_off e4 (by omega), put_off e3 (by omega), put_off e2 (by omega), put_off e1 (by omega), begun_dryd]
    have hs : (supB ⟨a, b, c, d, e⟩).getD k 0 = 0 := by
      rw [List.getD_eq_getElem?_getD, List.getElem?_eq_none (by rw [supB_length]; exact k12), Option.getD_none]
    rw [hs, List.getD_eq_getElem?_getD, List.getElem?_append_right (show dryd.length ≤ k by show 4 ≤ k; omega)]
    rw [List.getElem?_replicate]
    split
    · rfl
    · rfl
  · by_cases k4 : k < 4
    · rw [put_off e5 (by omega), put_off e4 (by omega), put_off e3 (by omega), put_off e2 (by omega), put_off e1 (by omega), begun_dryd]
      obtain rfl | rfl | rfl | rfl : k = 0 ∨ k = 1 ∨ k = 2 ∨ k = 3 := by omega
      all_goals rfl
    · by_cases k6 : k < 6
      · rw [put_off e5 (by omega), put_off e4 (by omega), put_off e3 (by omega), put_off e2 (by omega), put_at e1 (by omega)]
        obtain rfl | rfl : k = 4 ∨ k = 5 := by omega
        all_goals rfl
      · by_cases k7 : k = 6
        · subst k7
          rw [put_off e5 (by omega), put_off e4 (by omega), put_off e3 (by omega), put_at e2 (by omega)]
          rfl
        · by_cases k8 : k = 7
          · subst k8
            rw [put_off e5 (by omega), put_off e4 (by omega), put_at e3 (by omega)]
            rfl
          · by_cases k9 : k = 8
            · subst k9
              rw [put_off e5 (by omega), put_at e4 (by omega)]
              rfl
            · by_cases k10 : k = 9
              · subst k10
                rw [put_off e5 (by omega), put_off e4 (by omega), put_off e3 (by omega), put_off e2 (by omega), put_off e1 (by omega), begun_dryd]
                show (0 : Int) = d / 256 ^ 1 % 256
                omega
              · rw [put_at e5 (by omega)]
                obtain rfl | rfl : k = 10 ∨ k = 11 := by omega
                all_goals rfl

theorem made_head {s : PHead} (h : s.sound = true) : (madeHead s).length = 64 ∧ sealOf sumS (madeHead s) = headBlock s := by
  obtain ⟨a, b⟩ := s
  have h' : 0 ≤ a ∧ a ≤ 39 ∧ 1 ≤ b ∧ b ≤ 1073741824 := of_decide_eq_true h
  have l0 : (begun4 headT).length = 64 := by decide
  have p4 : (256 : Int) ^ 4 = 4294967296 := by decide
  have p1 : (256 : Int) ^ 1 = 256 := by decide
  have e1 : setErr (begun4 headT).length (4 : Nat) (1 : Nat) a = 0 := by rw [l0]; exact setErr_none (by decide) (by decide) (by decide) (by omega) (by omega)
  have l1 := setOut_length e1
  have e2 : setErr (setOut (begun4 headT) (4 : Nat) (1 : Nat) a).length (8 : Nat) (4 : Nat) b = 0 := by rw [l1]; exact setErr_none (by decide) (by decide) (by decide) (by omega) (by omega)
  refine ⟨setOut_length e2, head_of_sealed _ (setOut_length e2) (fun k hk => ?_)⟩
  show (setOut (setOut (begun4 headT) (4 : Nat) (1 : Nat) a) (8 : Nat) (4 : Nat) b).getD k 0 = _
  by_cases k12 : 12 ≤ k
  · rw [put_off e2 (by omega), put_off e1 (by omega), begun_head]
    have hs : (headB ⟨a, b⟩).getD k 0 = 0 := by
      rw [List.getD_eq_getElem?_getD, List.getElem?_eq_none (by rw [headB_length]; exact k12), Option.getD_none]
    rw [hs, List.getD_eq_getElem?_getD, List.getElem?_append_right (show headT.length ≤ k by show 4 ≤ k; omega)]
    rw [List.getElem?_replicate]
    split
    · rfl
    · rfl
  · by_cases k4 : k < 4
    · rw [put_off e2 (by omega), put_off e1 (by omega), begun_head]
      obtain rfl | rfl | rfl | rfl : k = 0 ∨ k = 1 ∨ k = 2 ∨ k = 3 := by omega
      all_goals rfl
    · by_cases k5 : k = 4
      · subst k5
        rw [put_off e2 (by omega), put_at e1 (by omega)]
        rfl
      · by_cases k8 : k < 8
        · rw [put_off e2 (by omega), put_off e1 (by omega), begun_head]
          obtain rfl | rfl | rfl : k = 5 ∨ k = 6 ∨ k = 7 := by omega
          · show (0 : Int) = a / 256 ^ 1 % 256
            omega
          · show (0 : Int) = a / 256 ^ 2 % 256
            omega
          · show (0 : Int) = a / 256 ^ 3 % 256
            omega
        · rw [put_at e2 (by omega)]
          obtain rfl | rfl | rfl | rfl : k = 8 ∨ k = 9 ∨ k = 10 ∨ k = 11 := by omega
          all_goals rfl

end Go.Proofs.Ytbnepjojfaeggaa

namespace Go.Proofs.Ytbnepjojfaeggaa
open Go.RowKit
set_option linter.unusedVariables false
set_option linter.unusedSimpArgs false

/-- Does a number lie between two others? -/
def inB (n lo hi : Int) : Bool := decide (lo ≤ n ∧ n ≤ hi)

theorem within_any (n lo hi : Int) (w : World) : Calls Try.prog 89 #[.int .i64 n, .int .i64 lo, .int .i64 hi] w fun e w' => e = .returned (.bool (inB n lo hi)) ∧ w = w' := by
  by_cases h1 : lo ≤ n
  · by_cases h2 : n ≤ hi
    · have HE : Hid (inB n lo hi = true) := Lib.hid (decide_eq_true ⟨h1, h2⟩)
      go_enter Try.func89, Try.ntmps89
      go_wp2
      go_ret
      exact ⟨by rw [HE.out]; rfl, rfl⟩
    · have HE : Hid (inB n lo hi = false) := Lib.hid (decide_eq_false (fun h => h2 h.2))
      go_enter Try.func89, Try.ntmps89
      go_wp2
      go_ret
      exact ⟨by rw [HE.out]; rfl, rfl⟩
  · have HE : Hid (inB n lo hi = false) := Lib.hid (decide_eq_false (fun h => h1 h.1))
    go_enter Try.func89, Try.ntmps89
    go_wp2
    go_ret
    exact ⟨by rw [HE.out]; rfl, rfl⟩

/-- Block gp holds places: where in a block a number lies, in how many bytes, and the cell of block g that it belongs to. -/
def PlIs (w : World) (gp g : Nat) (ps : List (Nat × Nat)) : Prop :=
  ∀ (j a b : Nat), ps[j]? = some (a, b) → w.cell? ⟨gp, j * 3, none⟩ = some (.int .i64 (a : Int)) ∧ w.cell? ⟨gp, j * 3 + 1, none⟩ = some (.int .i64 (b : Int)) ∧ w.cell? ⟨gp, j * 3 + 2, none⟩ = some (.pointer (some ⟨g, j, none⟩))

def supPs : List (Nat × Nat) := [(4, 2), (6, 1), (7, 1), (8, 1), (10, 2)]
def headPs : List (Nat × Nat) := [(4, 1), (8, 4)]
def smallPs (ps : List (Nat × Nat)) : Prop := ∀ (j a b : Nat), ps[j]? = some (a, b) → a ≤ 60 ∧ b ≤ 4
theorem small_sup : smallPs supPs := fun j a b h => by
  match j with
  | 0 | 1 | 2 | 3 | 4 => cases Option.some.inj h; omega
  | n + 5 => cases h
theorem small_head : smallPs headPs := fun j a b h => by
  match j with
  | 0 | 1 => cases Option.some.inj h; omega
  | n + 2 => cases h

theorem PlIs.later {w w' : World} {gp g : Nat} {ps : List (Nat × Nat)} (h : PlIs w gp g ps) (hb : Below w.heap.size w w') : PlIs w' gp g ps := fun j a b hj => by
  obtain ⟨h1, h2, h3⟩ := h j a b hj
  exact ⟨cell_later hb h1, cell_later hb h2, cell_later hb h3⟩

theorem new_cell (w : World) (cs : Array Value) (T : TypeId) (j : Nat) (v : Value) (h : cs[j]? = some v) : (w.alloc (.cells cs T)).drew.cell? ⟨w.heap.size, j, none⟩ = some v := by
  show (w.alloc (.cells cs T)).cell? ⟨w.heap.size, j, none⟩ = some v
  rw [World.cell?_alloc_new]; exact h

set_option maxRecDepth 100000 in
set_option maxHeartbeats 800000 in
theorem headPlaces_any (g : Nat) (w : World) : Calls Try.prog 69 #[.pointer (some ⟨g, 0, none⟩)] w fun e w' => e = .returned (.slice (some ⟨w.heap.size, 0, none⟩) (2 : Nat) (2 : Nat)) ∧ PlIs w' w.heap.size g headPs ∧ Below w.heap.size w w' := by
  go_enter Try.func69, Try.ntmps69
  go_wp2_with fail
  refine wp_region_still_tail 8 (by kernel_rfl) (by kernel_rfl) ?_
  simp only [List.take_succ_cons, List.take_zero, List.drop_succ_cons, List.drop_zero]
  try rw [drew_eq]
  iterate 8 still_step
  refine wpStill_nil ?_
  go_wp2_with fail
  go_ret
  refine ⟨rfl, fun j a b h => ?_, ((Below.refl _ _).alloc (Nat.le_refl _) _).drew⟩
  match j with
  | 0 | 1 => cases Option.some.inj h; exact ⟨new_cell w _ _ _ _ rfl, new_cell w _ _ _ _ rfl, new_cell w _ _ _ _ rfl⟩
  | n + 2 => cases h

set_option maxHeartbeats 800000 in
theorem soundHead_any (h : PHead) (w : World) : Calls Try.prog 74 #[h.val] w fun e w' => e = .returned (.bool h.sound) ∧ Below w.heap.size w w' := by
  obtain ⟨a, b⟩ := h
  have hS : Hid (PHead.sound ⟨a, b⟩ = (inB a 0 39 && inB b 1 1073741824)) := Lib.hid (by unfold PHead.sound inB; rw [Bool.eq_iff_iff]; simp; omega)
  have hB : Hid (Below w.heap.size w (w.alloc (.cells #[.int .i64 a, .int .i64 b] 58))) := Lib.hid ((Below.refl _ _).alloc (Nat.le_refl _) _)
  unfold PHead.val
  cases h0 : inB a 0 39 with
  | false =>
    have H0 := Lib.hid h0
    clear h0
    go_enter Try.func74, Try.ntmps74
    go_wp2_with (go_at_call 89; refine (within_any _ _ _ _).mono ?_; rintro e w' ⟨rfl, rfl⟩; (try rw [H0.out]))
    go_ret
    exact ⟨by rw [hS.out, H0.out]; rfl, hB.out⟩
  | true =>
    cases h1 : inB b 1 1073741824 with
    | false =>
      have H0 := Lib.hid h0
      have H1 := Lib.hid h1
      clear h0 h1
      go_enter Try.func74, Try.ntmps74
      go_wp2_with (go_at_call 89; refine (within_any _ _ _ _).mono ?_; rintro e w' ⟨rfl, rfl⟩; (try rw [H0.out]); (try rw [H1.out]))
      go_ret
      exact ⟨by rw [hS.out, H0.out, H1.out]; rfl, hB.out⟩
    | true =>
      have H0 := Lib.hid h0
      have H1 := Lib.hid h1
      clear h0 h1
      go_enter Try.func74, Try.ntmps74
      go_wp2_with (go_at_call 89; refine (within_any _ _ _ _).mono ?_; rintro e w' ⟨rfl, rfl⟩; (try rw [H0.out]); (try rw [H1.out]))
      go_ret
      exact ⟨by rw [hS.out, H0.out, H1.out]; rfl, hB.out⟩

end Go.Proofs.Ytbnepjojfaeggaa

namespace Go.Proofs.Ytbnepjojfaeggaa
open Go.RowKit
set_option linter.unusedVariables false
set_option linter.unusedSimpArgs false

theorem drew_of (w : World) : { w with drawn := w.drawn + 1 } = w.drew := rfl

/-- What comes of a block when the first i numbers are put, one after the other. -/
def wrt (zs : List Int) (ps : List (Nat × Nat)) (vs : List Int) : Nat → List Int
  | 0 => zs
  | i + 1 => setOut (wrt zs ps vs i) ((ps.getD i (0, 0)).1 : Nat) ((ps.getD i (0, 0)).2 : Nat) (vs.getD i 0)

theorem ps_at {ps : List (Nat × Nat)} {i : Nat} (h : i < ps.length) : ps[i]? = some ((ps.getD i (0, 0)).1, (ps.getD i (0, 0)).2) := by
  simp [List.getD, h]

theorem fresh_form {w : World} {base : Nat} {v : Value} {l : List Int} (h : Fresh w base v l) : ∃ ao cap, v = .slice ao l.length cap ∧ Arg w ao l.length cap l := by
  obtain ⟨ao, cap, hv, hA, _⟩ := h
  exact ⟨ao, cap, hv, hA⟩

set_option maxHeartbeats 1600000 in
theorem write_any (s : ByteArray) (gp g n : Nat) (ps : List (Nat × Nat)) (vs : List Int) (w : World) (hs : s.size ≤ 60) (hn : ps.length = n) (hn5 : n ≤ 5) (hps : smallPs ps) (hp : PlIs w gp g ps) (hv : ∀ j, j < n → w.cell? ⟨g, j, none⟩ = some (.int .i64 (vs.getD j 0))) (hi : ∀ j, j < n → i64w (vs.getD j 0)) :
    Calls Try.prog 75 #[.string s, .slice (some ⟨gp, 0, none⟩) n n] w (Gives w.heap.size w (sealOut sumS (wrt (textOut zeroes64 0 (bytesOf s)) ps vs n))) := by
  have hmk := run_make_bytes w 64 (by decide)
  rw [show ((64 : Nat) : Int) = 64 from rfl] at hmk
  have hA0 := made_arg w 64 (by decide)
  have hB0 : Below w.heap.size w (w.alloc (.cells (madeCells #[.int .u8 0] 64) 5)) := (Below.refl _ _).alloc (Nat.le_refl _) _
  have HP := Lib.hid hp
  have HPS := Lib.hid hps
  have HV := Lib.hid hv
  have HI := Lib.hid hi
  clear hp hps hv hi
  generalize hw1 : w.alloc (.cells (madeCells #[.int .u8 0] 64) 5) = w1 at *
  have HW1 := Lib.hid hw1
  have HB0 := Lib.hid hB0
  have cT := fText_any _ 64 64 (List.replicate 64 0) 0 s w1 hA0 (by decide) (by omega)
  clear hw1 hB0 hA0
  go_enter Try.func75, Try.ntmps75
  go_wp2_with (go_at_call 84; refine cT.mono ?_; rintro e w2 ⟨v2, rfl, hf2, hb2⟩; have F2 := Lib.hid (hf2.mono HB0.out.size); have B2 := Lib.hid (HB0.out.trans (hb2.mono HB0.out.size)); clear hf2 hb2)
  go_loopw [5, 17] (fun bv iv wr => ∃ i : Nat, iv = .int .i64 (i : Int) ∧ i ≤ n ∧ Hid (Fresh wr w.heap.size bv (wrt (textOut zeroes64 0 (bytesOf s)) ps vs i)) ∧ Hid (Below w.heap.size w wr)) (fun _ iv _ => n - (intOf iv).toNat)
  case atStart => exact ⟨0, rfl, Nat.zero_le _, F2, B2⟩
  case round =>
    obtain ⟨i, rfl, hi, HF, HB⟩ := hrel
    by_cases hlt : i < n
    · obtain ⟨a, ha⟩ : ∃ a, (ps.getD i (0, 0)).1 = a := ⟨_, rfl⟩
      obtain ⟨b, hb⟩ : ∃ b, (ps.getD i (0, 0)).2 = b := ⟨_, rfl⟩
      obtain ⟨x, hx⟩ : ∃ x, vs.getD i 0 = x := ⟨_, rfl⟩
      have hat := ps_at (ps := ps) (i := i) (by omega)
      rw [ha, hb] at hat
      obtain ⟨c1, c2, c3⟩ := HP.out i a b hat
      have c4 := HV.out i hlt
      have hsm := HPS.out i a b hat
      have hxi := HI.out i hlt
      rw [hx] at c4 hxi
      unfold i64w at hxi
      have HS : Hid (wrt (textOut zeroes64 0 (bytesOf s)) ps vs (i + 1) = setOut (wrt (textOut zeroes64 0 (bytesOf s)) ps vs i) (a : Nat) (b : Nat) x) := Lib.hid (by
        show setOut _ _ _ _ = _
        rw [ha, hb, hx])
      generalize wrt (textOut zeroes64 0 (bytesOf s)) ps vs i = L at *
      obtain ⟨ao, cap, rfl, hA⟩ := fresh_form HF.out
      have d1 := cell_later HB.out c1
      have d2 := cell_later HB.out c2
      have d3 := cell_later HB.out c3
      have d4 := cell_later HB.out c4
      have hgl := World.block_lt_of_cell? _ _ d4
      have HC : Hid (∀ W, Below wr.heap.size wr W → Calls Try.prog 79 #[.slice ao L.length cap, .int .i64 (a : Int), .int .i64 (b : Int), .int .i64 x] W (Handed W.heap.size W (setOut L a b x) (setErr L.length a b x))) :=
        Lib.hid (fun W hW => fSet_any ao L.length cap L a b x W (hA.later hW) (by omega) (by omega) hxi)
      have HN : Hid (Below wr.heap.size wr (wr.alloc (.cells #[.int .i64 (a : Int), .int .i64 (b : Int), .pointer (some ⟨g, i, none⟩)] 144)).drew) := Lib.hid ((Below.refl _ _).alloc (Nat.le_refl _) _).drew
      have HK : Hid (∀ W, Below (wr.alloc (.cells #[.int .i64 (a : Int), .int .i64 (b : Int), .pointer (some ⟨g, i, none⟩)] 144)).drew.heap.size (wr.alloc (.cells #[.int .i64 (a : Int), .int .i64 (b : Int), .pointer (some ⟨g, i, none⟩)] 144)).drew W → W.cell? ⟨wr.heap.size, 0, none⟩ = some (.int .i64 (a : Int)) ∧ W.cell? ⟨wr.heap.size, 1, none⟩ = some (.int .i64 (b : Int)) ∧ W.cell? ⟨wr.heap.size, 2, none⟩ = some (.pointer (some ⟨g, i, none⟩)) ∧ W.cell? ⟨g, i, none⟩ = some (.int .i64 x) ∧ Hid (Below wr.heap.size wr W)) := Lib.hid (fun W hW =>
        ⟨cell_later hW (new_cell wr _ _ _ _ rfl), cell_later hW (new_cell wr _ _ _ _ rfl), cell_later hW (new_cell wr _ _ _ _ rfl), cell_later hW (cell_later HN.out d4), Lib.hid (HN.out.trans (hW.mono HN.out.size))⟩)
      have i1 : (i : Int) < (n : Int) := by omega
      generalize L.length = len at *
      clear ha hb hx hat c1 c2 c3 c4 hsm hA hxi
      go_wp2_with fail
      go_region_held (fun W => W.cell? ⟨wr.heap.size, 0, none⟩ = some (.int .i64 (a : Int)) ∧ W.cell? ⟨wr.heap.size, 1, none⟩ = some (.int .i64 (b : Int)) ∧ W.cell? ⟨wr.heap.size, 2, none⟩ = some (.pointer (some ⟨g, i, none⟩)) ∧ W.cell? ⟨g, i, none⟩ = some (.int .i64 x) ∧ Hid (Below wr.heap.size wr W)) (first | exact HK.out _ (Below.refl _ _) | exact HK.out _ B5.out)
        (first | (go_at_call 79; refine (HC.out _ HN.out).mono ?_; rintro e w5 ⟨v5, rfl, hf5, hb5⟩; have F5 := Lib.hid hf5; have B5 := Lib.hid hb5; clear hf5 hb5))
      go_wp2_with fail
      go_roundw
      case rel => exact ⟨i + 1, by go_num, by omega, Lib.hid (by rw [HS.out]; exact F5.out.mono (Nat.le_trans HB.out.size HN.out.size)), Lib.hid ((HB.out.trans (HN.out.mono HB.out.size)).trans (B5.out.mono (Nat.le_trans HB.out.size HN.out.size)))⟩
      case measure => simp [intOf]; omega
    · have hin : i = n := by omega
      subst hin
      obtain ⟨ao, cap, rfl, hA⟩ := fresh_form HF.out
      have cS := fSeal_any ao _ cap _ wr hA
      clear hA
      generalize wrt (textOut zeroes64 0 (bytesOf s)) ps vs i = L at *
      generalize L.length = len at *
      go_wp2_with (go_at_call 66; refine cS.mono ?_; rintro e w5 ⟨v5, rfl, hf5, hb5⟩; have F5 := Lib.hid hf5; have B5 := Lib.hid hb5; clear hf5 hb5)
      go_ret
      exact ⟨v5, rfl, F5.out.mono HB.out.size, HB.out.trans (B5.out.mono HB.out.size)⟩

/-- Reading behind i rounds: the first i cells of block g hold what was read. -/
def Rd (w0 : World) (gp g : Nat) (ps : List (Nat × Nat)) (n : Nat) (zs : List Int) (i : Nat) (wr : World) : Prop :=
  Below w0.heap.size w0 wr ∧ PlIs wr gp g ps ∧ (∀ j, j < n → wr.cell? ⟨g, j, none⟩ = some (.int .i64 (if j < i then getOut zs ((ps.getD j (0, 0)).1 : Nat) ((ps.getD j (0, 0)).2 : Nat) else 0))) ∧ (∀ j, wr.frozen? ⟨g, j, none⟩ = false)

theorem Rd.alloc {w0 wr : World} {gp g n i : Nat} {ps : List (Nat × Nat)} {zs : List Int} (h : Rd w0 gp g ps n zs i wr) (hg : g < wr.heap.size) (o : Obj) : Rd w0 gp g ps n zs i (wr.alloc o) := by
  have hb : Below wr.heap.size wr (wr.alloc o) := (Below.refl _ _).alloc (Nat.le_refl _) _
  exact ⟨h.1.trans (hb.mono h.1.size), h.2.1.later hb, fun j hj => cell_later hb (h.2.2.1 j hj), fun j => by rw [hb.frozen (p := ⟨g, j, none⟩) hg]; exact h.2.2.2 j⟩

theorem Rd.step {w0 wr : World} {gp g n i : Nat} {ps : List (Nat × Nat)} {zs : List Int} (h : Rd w0 gp g ps n zs i wr) (hg : w0.heap.size ≤ g) (hne : gp ≠ g) (hi : i < n) {x : Int} (hx : x = getOut zs ((ps.getD i (0, 0)).1 : Nat) ((ps.getD i (0, 0)).2 : Nat)) : Rd w0 gp g ps n zs (i + 1) (wr.setCell ⟨g, i, none⟩ (.int .i64 x)) := by
  refine ⟨h.1.setCell (p := ⟨g, i, none⟩) hg _, fun j a b hj => ?_, fun j hj => ?_, fun j => by simpa using h.2.2.2 j⟩
  · obtain ⟨h1, h2, h3⟩ := h.2.1 j a b hj
    refine ⟨?_, ?_, ?_⟩
    all_goals rw [World.cell?_setCell_other (h := by intro e; exact hne (by simpa using (congrArg Addr.block e).symm))]
    · exact h1
    · exact h2
    · exact h3
  · by_cases e : j = i
    · subst e
      rw [if_pos (by omega), ← hx]
      exact World.cell?_setCell_same wr _ _ (h.2.2.1 j hj)
    · rw [World.cell?_setCell_other (h := by intro e'; exact e (by simpa using (congrArg Addr.off e').symm)), h.2.2.1 j hj]
      by_cases h1 : j < i
      · rw [if_pos h1, if_pos (by omega)]
      · rw [if_neg h1, if_neg (by omega)]

theorem kept_made {wr : World} {g i b : Nat} {o : Obj} {v : Value} (hb : b ≠ g) (hl : b < wr.heap.size) : ((wr.alloc o).setCell ⟨g, i, none⟩ v).drew.heap[b]? = wr.heap[b]? := by
  show ((wr.alloc o).setCell ⟨g, i, none⟩ v).heap[b]? = wr.heap[b]?
  rw [Below.heap_setCell _ _ _ _ hb]
  exact ((Below.refl wr.heap.size wr).alloc (Nat.le_refl _) o).block b hl

theorem Rd.drew {w0 wr : World} {gp g n i : Nat} {ps : List (Nat × Nat)} {zs : List Int} (h : Rd w0 gp g ps n zs i wr) : Rd w0 gp g ps n zs i wr.drew :=
  ⟨h.1.drew, fun j a b hj => h.2.1 j a b hj, fun j hj => h.2.2.1 j hj, fun j => h.2.2.2 j⟩

set_option maxHeartbeats 3200000 in
theorem read_any (ao : Option Addr) (len cap : Nat) (zs : List Int) (gp g n : Nat) (ps : List (Nat × Nat)) (w0 w : World) (hA : Arg w0 ao len cap zs) (hn : ps.length = n) (hn5 : n ≤ 5) (hps : smallPs ps) (hg : w0.heap.size ≤ g) (hgl : g < w.heap.size) (hne : gp ≠ g) (h : Rd w0 gp g ps n zs 0 w) :
    Calls Try.prog 68 #[.slice ao len cap, .slice (some ⟨gp, 0, none⟩) n n] w fun e w' => e = .returned (.tuple #[]) ∧ Rd w0 gp g ps n zs n w' ∧ w.heap.size ≤ w'.heap.size ∧ ∀ b, b < w.heap.size → b ≠ g → w'.heap[b]? = w.heap[b]? := by
  have HA := Lib.hid hA
  have HPS := Lib.hid hps
  have H0 := Lib.hid h
  clear hA hps h
  go_enter Try.func68, Try.ntmps68
  go_wp2_with fail
  go_loopw [8] (fun iv wr => ∃ i : Nat, iv = .int .i64 (i : Int) ∧ i ≤ n ∧ Hid (Rd w0 gp g ps n zs i wr) ∧ Hid (w.heap.size ≤ wr.heap.size ∧ ∀ b, b < w.heap.size → b ≠ g → wr.heap[b]? = w.heap[b]?)) (fun iv _ => n - (intOf iv).toNat)
  case atStart => exact ⟨0, rfl, Nat.zero_le _, H0, Lib.hid ⟨Nat.le_refl _, fun _ _ _ => rfl⟩⟩
  case round =>
    obtain ⟨i, rfl, hi, HR, HZ⟩ := hrel
    by_cases hlt : i < n
    · obtain ⟨a, ha⟩ : ∃ a, (ps.getD i (0, 0)).1 = a := ⟨_, rfl⟩
      obtain ⟨b, hb⟩ : ∃ b, (ps.getD i (0, 0)).2 = b := ⟨_, rfl⟩
      have hat := ps_at (ps := ps) (i := i) (by omega)
      rw [ha, hb] at hat
      obtain ⟨c1, c2, c3⟩ := HR.out.2.1 i a b hat
      have c4 := HR.out.2.2.1 i hlt
      rw [if_neg (by omega)] at c4
      have hsm := HPS.out i a b hat
      have hgr : g < wr.heap.size := World.block_lt_of_cell? _ _ c4
      have HO : Hid (∀ o : Obj, Rd w0 gp g ps n zs (i + 1) ((wr.alloc o).setCell ⟨g, i, none⟩ (.int .i64 (getOut zs a b))).drew) := Lib.hid (fun o => ((HR.out.alloc hgr o).step hg hne hlt (by rw [ha, hb])).drew)
      have HG : Hid (∀ W, Below w0.heap.size w0 W → Calls Try.prog 81 #[.slice ao len cap, .int .i64 (a : Int), .int .i64 (b : Int)] W (fun e w' => e = .returned (.tuple #[.int .i64 (getOut zs a b), .int .i64 (fErr len a b)]) ∧ w' = W)) :=
        Lib.hid (fun W hW => (fGet_any ao len cap zs a b W (HA.out.later hW) (by omega) (by omega)).mono (fun e w' h => ⟨h.1, h.2.symm⟩))
      have HN : Hid (Below w0.heap.size w0 (wr.alloc (.cells #[.int .i64 (a : Int), .int .i64 (b : Int), .pointer (some ⟨g, i, none⟩)] 144)).drew) := Lib.hid (HR.out.1.trans (((Below.refl _ _).alloc (Nat.le_refl _) _).drew.mono HR.out.1.size))
      have e4 : (wr.alloc (.cells #[.int .i64 (a : Int), .int .i64 (b : Int), .pointer (some ⟨g, i, none⟩)] 144)).cell? ⟨g, i, none⟩ = some (.int .i64 0) := cell_later ((Below.refl _ _).alloc (Nat.le_refl _) _) c4
      have f4 : (wr.alloc (.cells #[.int .i64 (a : Int), .int .i64 (b : Int), .pointer (some ⟨g, i, none⟩)] 144)).frozen? ⟨g, i, none⟩ = false := (HR.out.alloc hgr _).2.2.2 i
      have i1 : (i : Int) < (n : Int) := by omega
      generalize getOut zs a b = x at *
      generalize fErr len a b = E at *
      clear ha hb hat c4 hsm hgr
      go_wp2_with fail
      go_region_with (go_at_call 81; refine (HG.out _ HN.out).mono ?_; rintro e w5 ⟨rfl, rfl⟩)
      all_goals go_wp2_with fail
      all_goals go_roundw
      all_goals first
        | (exact ⟨i + 1, by go_num, by omega, Lib.hid (HO.out _), Lib.hid ⟨Nat.le_trans HZ.out.1 (by simp [World.setCell]), fun b' hb' hn' => (kept_made hn' (Nat.lt_of_lt_of_le hb' HZ.out.1)).trans (HZ.out.2 b' hb' hn')⟩⟩)
        | (simp [intOf]; omega)
    · have hin : i = n := by omega
      subst hin
      go_wp2_with fail
      go_end0
      exact ⟨rfl, HR.out, HZ.out.1, HZ.out.2⟩

end Go.Proofs.Ytbnepjojfaeggaa

namespace Go.Proofs.Ytbnepjojfaeggaa
open Go.RowKit
set_option linter.unusedVariables false
set_option linter.unusedSimpArgs false

theorem bytesEq_any (ao bo : Option Addr) (al ac bl bc : Nat) (xs ys : List Int) (w : World) (hx : Bts w ao al xs) (hy : Bts w bo bl ys) :
    Calls Try.prog 70 #[.slice ao al ac, .slice bo bl bc] w fun e w' => e = .returned (.bool (decide (xs = ys))) ∧ w = w' := by
  have h1 := str_bytes (cap := ac) hx
  have h2 := str_bytes (cap := bc) hy
  have HE : Hid (((str xs).toList == (str ys).toList) = decide (xs = ys)) := Lib.hid (str_eq hx.2.2.1 hy.2.2.1)
  clear hx hy
  generalize str xs = sx at *
  generalize str ys = sy at *
  go_enter Try.func70, Try.ntmps70
  go_wp2
  go_ret
  exact ⟨by rw [← HE.out]; rfl, rfl⟩

theorem sealOut_sum {m b : List Int} (h : m.length = 64 ∧ sealOf sumS m = b) : sealOut sumS m = b := by
  unfold sealOut
  rw [if_pos h.1, h.2]

theorem wrt_sup (s : PSup) : wrt (textOut zeroes64 0 (bytesOf ⟨#[68, 82, 89, 68]⟩)) supPs [s.a, s.b, s.c, s.d, s.e] 5 = madeSup s := rfl
theorem wrt_head (s : PHead) : wrt (textOut zeroes64 0 (bytesOf ⟨#[72, 69, 65, 68]⟩)) headPs [s.a, s.b] 2 = madeHead s := rfl

theorem cell_block {w w' : World} {p : Addr} (h : w'.heap[p.block]? = w.heap[p.block]?) : w'.cell? p = w.cell? p := by
  unfold World.cell?
  rw [h]

/-- What has been made ahead of the places: the variable that is answered, and the one that is read into. -/
theorem dec_begun {w w3 : World} {T : TypeId} {c : Array Value} {n : Nat} {ps : List (Nat × Nat)} {zs : List Int} (hz : ∀ j, j < n → c[j]? = some (.int .i64 0))
    (hp : PlIs w3 ((w.alloc (.cells c T)).alloc (.cells c T)).heap.size (w.heap.size + 1) ps) (hb : Below ((w.alloc (.cells c T)).alloc (.cells c T)).heap.size ((w.alloc (.cells c T)).alloc (.cells c T)) w3) :
    Rd w (w.heap.size + 1 + 1) (w.heap.size + 1) ps n zs 0 w3 ∧ (∀ j, j < n → w3.cell? ⟨w.heap.size, j, none⟩ = some (.int .i64 0)) ∧ (∀ j, w3.frozen? ⟨w.heap.size, j, none⟩ = false) ∧ w.heap.size + 1 < w3.heap.size := by
  have s1 : ((w.alloc (.cells c T)).alloc (.cells c T)).heap.size = w.heap.size + 1 + 1 := by simp
  have sa : (w.alloc (.cells c T)).heap.size = w.heap.size + 1 := by simp
  have b1 : Below (w.alloc (.cells c T)).heap.size (w.alloc (.cells c T)) w3 := ((Below.refl _ _).alloc (Nat.le_refl _) _).trans (hb.mono (by simp))
  have hsz := hb.size
  rw [s1] at hsz hp
  refine ⟨⟨((Below.refl _ _).alloc (Nat.le_refl _) _).trans (b1.mono (by simp)), hp, fun j hj => ?_, fun j => ?_⟩, fun j hj => cell_later b1 (by rw [World.cell?_alloc_new]; exact hz j hj), fun j => ?_, by omega⟩
  · rw [if_neg (by omega)]
    refine cell_later hb ?_
    rw [← sa, World.cell?_alloc_new]
    exact hz j hj
  · rw [hb.frozen (p := ⟨w.heap.size + 1, j, none⟩) (by simp), ← sa, World.frozen?_alloc_mark]
    simp
  · rw [b1.frozen (p := ⟨w.heap.size, j, none⟩) (by simp), World.frozen?_alloc_mark]
    simp

/-- What is there behind the reading, and behind writing it again. -/
theorem dec_read {w w3 w4 w5 : World} {gp n : Nat} {ps : List (Nat × Nat)} {zs : List Int} (h3 : (∀ j, j < n → w3.cell? ⟨w.heap.size, j, none⟩ = some (.int .i64 0)) ∧ (∀ j, w3.frozen? ⟨w.heap.size, j, none⟩ = false) ∧ w.heap.size + 1 < w3.heap.size)
    (h4 : Rd w gp (w.heap.size + 1) ps n zs n w4) (hs : w3.heap.size ≤ w4.heap.size) (hk : ∀ b, b < w3.heap.size → b ≠ w.heap.size + 1 → w4.heap[b]? = w3.heap[b]?) (h5 : Below w4.heap.size w4 w5) :
    (∀ j, j < n → w5.cell? ⟨w.heap.size, j, none⟩ = some (.int .i64 0)) ∧ (∀ j, w5.frozen? ⟨w.heap.size, j, none⟩ = false) ∧ (∀ j, j < n → w5.cell? ⟨w.heap.size + 1, j, none⟩ = some (.int .i64 (getOut zs ((ps.getD j (0, 0)).1 : Nat) ((ps.getD j (0, 0)).2 : Nat)))) ∧ Below w.heap.size w w5 := by
  have hk0 := hk w.heap.size (by omega) (by omega)
  refine ⟨fun j hj => cell_later h5 ?_, fun j => ?_, fun j hj => cell_later h5 ?_, h4.1.trans (h5.mono h4.1.size)⟩
  · rw [cell_block (p := ⟨w.heap.size, j, none⟩) hk0]; exact h3.1 j hj
  · rw [h5.frozen (p := ⟨w.heap.size, j, none⟩) (by show w.heap.size < _; omega), World.frozen?_of_block (w := w3) (a := ⟨w.heap.size, j, none⟩) hk0]; exact h3.2.1 j
  · rw [h4.2.2.1 j hj, if_pos hj]

theorem getOut_in {zs : List Int} (hz : ∀ z ∈ zs, 0 ≤ z ∧ z ≤ 255) {p k : Nat} (h : p + k ≤ 64) (hk : k ≤ 4) : i64w (getOut zs p k) := by
  unfold getOut
  split
  · have h64 : zs.length = 64 := (fErr_ok (by assumption)).1
    have := leN_four hz p k (by omega) hk
    unfold i64w
    rw [Int.toNat_natCast, Int.toNat_natCast]
    omega
  · unfold i64w; omega

theorem getOut_64 {zs : List Int} (h : zs.length = 64) {p k : Nat} (h1 : 1 ≤ k) (h2 : k ≤ 4) (h3 : p + k ≤ 60) : getOut zs p k = leN zs p k := by
  unfold getOut
  rw [h, if_pos (by unfold fErr; rw [if_pos rfl, if_neg (by omega)])]
  rw [Int.toNat_natCast, Int.toNat_natCast]

theorem getOut_no {zs : List Int} (h : zs.length ≠ 64) (p k : Int) : getOut zs p k = 0 := by
  unfold getOut
  rw [if_neg (by intro e; exact h (fErr_ok e).1)]

theorem leN1 (zs : List Int) (p : Nat) : leN zs p 1 = zs.getD p 0 := by
  show 0 + zs.getD (p + 0) 0 * 256 ^ 0 = _
  rw [Nat.add_zero]
  omega

/-- What reading place by place makes of any bytes. -/
def gotSup (zs : List Int) : PSup := ⟨getOut zs (4 : Nat) (2 : Nat), getOut zs (6 : Nat) (1 : Nat), getOut zs (7 : Nat) (1 : Nat), getOut zs (8 : Nat) (1 : Nat), getOut zs (10 : Nat) (2 : Nat)⟩
def gotHead (zs : List Int) : PHead := ⟨getOut zs (4 : Nat) (1 : Nat), getOut zs (8 : Nat) (4 : Nat)⟩

theorem got_sup {zs : List Int} (h : zs.length = 64) : gotSup zs = readSup zs := by
  unfold gotSup readSup
  rw [getOut_64 h (by decide) (by decide) (by decide), getOut_64 h (by decide) (by decide) (by decide), getOut_64 h (by decide) (by decide) (by decide), getOut_64 h (by decide) (by decide) (by decide), getOut_64 h (by decide) (by decide) (by decide), leN1, leN1, leN1]
theorem got_head {zs : List Int} (h : zs.length = 64) : gotHead zs = readHead zs := by
  unfold gotHead readHead
  rw [getOut_64 h (by decide) (by decide) (by decide), getOut_64 h (by decide) (by decide) (by decide), leN1]
theorem got_no_sup {zs : List Int} (h : zs.length ≠ 64) : (gotSup zs).sound = false := by
  unfold gotSup
  simp only [getOut_no h]
  rfl
theorem got_no_head {zs : List Int} (h : zs.length ≠ 64) : (gotHead zs).sound = false := by
  unfold gotHead
  simp only [getOut_no h]
  rfl

/-- The three ways of reading: it is sound and the same again; it is sound and other bytes; it is not sound. -/
theorem sup_ways (zs : List Int) : ((gotSup zs).sound = true ∧ supBlock (gotSup zs) = zs ∧ getSup zs = gotSup zs ∧ getSupErr zs = 0) ∨ ((gotSup zs).sound = true ∧ supBlock (gotSup zs) ≠ zs ∧ getSup zs = noSup ∧ getSupErr zs = 2) ∨ ((gotSup zs).sound = false ∧ getSup zs = noSup ∧ getSupErr zs = 2) := by
  unfold getSup getSupErr
  by_cases h64 : zs.length = 64
  · rw [got_sup h64]
    unfold isSup
    rw [decide_eq_true h64, Bool.true_and]
    cases hs : (readSup zs).sound with
    | false => right; right; exact ⟨rfl, rfl, rfl⟩
    | true =>
      by_cases he : supBlock (readSup zs) = zs
      · left; rw [decide_eq_true he]; exact ⟨rfl, he, rfl, rfl⟩
      · right; left; rw [decide_eq_false he]; exact ⟨rfl, he, rfl, rfl⟩
  · right; right
    have hi : isSup zs = false := by unfold isSup; rw [decide_eq_false h64]; rfl
    rw [hi]
    exact ⟨got_no_sup h64, rfl, rfl⟩
theorem head_ways (zs : List Int) : ((gotHead zs).sound = true ∧ headBlock (gotHead zs) = zs ∧ getHead zs = gotHead zs ∧ getHeadErr zs = 0) ∨ ((gotHead zs).sound = true ∧ headBlock (gotHead zs) ≠ zs ∧ getHead zs = noHead ∧ getHeadErr zs = 2) ∨ ((gotHead zs).sound = false ∧ getHead zs = noHead ∧ getHeadErr zs = 2) := by
  unfold getHead getHeadErr
  by_cases h64 : zs.length = 64
  · rw [got_head h64]
    unfold isHead
    rw [decide_eq_true h64, Bool.true_and]
    cases hs : (readHead zs).sound with
    | false => right; right; exact ⟨rfl, rfl, rfl⟩
    | true =>
      by_cases he : headBlock (readHead zs) = zs
      · left; rw [decide_eq_true he]; exact ⟨rfl, he, rfl, rfl⟩
      · right; left; rw [decide_eq_false he]; exact ⟨rfl, he, rfl, rfl⟩
  · right; right
    have hi : isHead zs = false := by unfold isHead; rw [decide_eq_false h64]; rfl
    rw [hi]
    exact ⟨got_no_head h64, rfl, rfl⟩

set_option maxHeartbeats 1600000 in
theorem sput_any (s : PHead) (w : World) (hi : s.in64) : Calls Try.prog 58 #[s.val] w (Handed w.heap.size w (headOut s) (headErr s)) := by
  obtain ⟨a, b⟩ := s
  have W1 : Hid (Below w.heap.size w (w.alloc (.cells #[.int .i64 a, .int .i64 b] 58))) := Lib.hid ((Below.refl _ _).alloc (Nat.le_refl _) _)
  have cS := fun W => soundHead_any (⟨a, b⟩ : PHead) W
  cases hS : (PHead.sound ⟨a, b⟩) with
  | false =>
    have HO : Hid (headOut ⟨a, b⟩ = [] ∧ headErr ⟨a, b⟩ = 2) := Lib.hid (by unfold headOut headErr; rw [hS]; exact ⟨rfl, rfl⟩)
    rw [hS] at cS
    unfold PHead.val at cS ⊢
    clear hS hi
    go_enter Try.func58, Try.ntmps58
    go_wp2_with (go_at_call 74; refine (cS _).mono ?_; rintro e w2 ⟨rfl, hb2⟩; have B2 := Lib.hid (W1.out.trans (hb2.mono W1.out.size)); clear hb2)
    go_ret2
    exact ⟨.slice none 0 0, by rw [HO.out.2]; rfl, by rw [HO.out.1]; exact Fresh.nil _ _, B2.out⟩
  | true =>
    have HO : Hid (headOut ⟨a, b⟩ = headBlock ⟨a, b⟩ ∧ headErr ⟨a, b⟩ = 0) := Lib.hid (by unfold headOut headErr; rw [hS]; exact ⟨rfl, rfl⟩)
    have HM : Hid (sealOut sumS (wrt (textOut zeroes64 0 (bytesOf ⟨#[72, 69, 65, 68]⟩)) headPs [a, b] 2) = headBlock ⟨a, b⟩) := Lib.hid (by
      have ew := wrt_head ⟨a, b⟩
      rw [show wrt (textOut zeroes64 0 (bytesOf ⟨#[72, 69, 65, 68]⟩)) headPs [a, b] 2 = _ from ew]
      exact sealOut_sum (made_head hS))
    have HW : Hid (∀ gp W, Below (w.alloc (.cells #[.int .i64 a, .int .i64 b] 58)).heap.size (w.alloc (.cells #[.int .i64 a, .int .i64 b] 58)) W → PlIs W gp w.heap.size headPs → Calls Try.prog 75 #[.string ⟨#[72, 69, 65, 68]⟩, .slice (some ⟨gp, 0, none⟩) (2 : Nat) (2 : Nat)] W (Gives W.heap.size W (headBlock ⟨a, b⟩))) := Lib.hid (fun gp W hW hp => by
      have c := write_any ⟨#[72, 69, 65, 68]⟩ gp w.heap.size 2 headPs [a, b] W (by decide) rfl (by decide) small_head hp (fun j hj => ?_) (fun j hj => ?_)
      · rw [HM.out] at c
        exact c
      · refine cell_later hW ?_
        rw [World.cell?_alloc_new]
        match j, hj with
        | 0, _ | 1, _ => rfl
      · unfold PHead.in64 at hi
        match j, hj with
        | 0, _ => exact hi.1
        | 1, _ => exact hi.2
      )
    rw [hS] at cS
    unfold PHead.val at cS ⊢
    have cP := fun W => headPlaces_any w.heap.size W
    clear hS hi HM
    go_enter Try.func58, Try.ntmps58
    go_wp2_with (first
      | (go_at_call 74; refine (cS _).mono ?_; rintro e w2 ⟨rfl, hb2⟩; have B2 := Lib.hid hb2; clear hb2)
      | (go_at_call 69; refine (cP _).mono ?_; rintro e w3 ⟨rfl, hp3, hb3⟩; have P3 := Lib.hid hp3; have B3 := Lib.hid (B2.out.trans (hb3.mono B2.out.size)); clear hp3 hb3)
      | (go_at_call 75; refine (HW.out _ _ B3.out P3.out).mono ?_; rintro e w4 ⟨v4, rfl, hf4, hb4⟩; have B4 := Lib.hid ((W1.out.trans (B3.out.mono W1.out.size)).trans (hb4.mono (W1.out.trans (B3.out.mono W1.out.size)).size)); have F4 := Lib.hid (hf4.mono (W1.out.trans (B3.out.mono W1.out.size)).size); clear hf4 hb4))
    go_ret2
    exact ⟨v4, by rw [HO.out.2]; rfl, by rw [HO.out.1]; exact F4.out, B4.out⟩

end Go.Proofs.Ytbnepjojfaeggaa

namespace Go.Proofs.Ytbnepjojfaeggaa
open Go.RowKit
set_option linter.unusedVariables false
set_option linter.unusedSimpArgs false

set_option maxHeartbeats 3200000 in
theorem shead_any (ao : Option Addr) (len cap : Nat) (zs : List Int) (w : World) (hA : Arg w ao len cap zs) : Calls Try.prog 55 #[.slice ao len cap] w fun e w' => e = .returned (.tuple #[(getHead zs).val, .int .i64 (getHeadErr zs)]) ∧ Below w.heap.size w w' := by
  have HA := Lib.hid hA
  have HZ : Hid (∀ j, j < 2 → (#[.int .i64 0, .int .i64 0] : Array Value)[j]? = some (.int .i64 0)) := Lib.hid (fun j hj => by
    match j, hj with
    | 0, _ | 1, _ => rfl)
  have HI : Hid ((gotHead zs).in64) := Lib.hid (by
    unfold gotHead PHead.in64
    exact ⟨getOut_in hA.1.2.2.1 (by decide) (by decide), getOut_in hA.1.2.2.1 (by decide) (by decide)⟩)
  have cP := fun (W : World) => headPlaces_any (w.heap.size + 1) W
  have HR : Hid (∀ W, Rd w (w.heap.size + 1 + 1) (w.heap.size + 1) headPs 2 zs 0 W → w.heap.size + 1 < W.heap.size → Calls Try.prog 68 #[.slice ao len cap, .slice (some ⟨w.heap.size + 1 + 1, 0, none⟩) (2 : Nat) (2 : Nat)] W fun e w' => e = .returned (.tuple #[]) ∧ Rd w (w.heap.size + 1 + 1) (w.heap.size + 1) headPs 2 zs 2 w' ∧ W.heap.size ≤ w'.heap.size ∧ ∀ b, b < W.heap.size → b ≠ w.heap.size + 1 → w'.heap[b]? = W.heap[b]?) :=
    Lib.hid (fun W hR hg => read_any ao len cap zs (w.heap.size + 1 + 1) (w.heap.size + 1) 2 headPs w W HA.out rfl (by decide) small_head (by omega) hg (by omega) hR)
  have cE := fun (W : World) => sput_any (gotHead zs) W HI.out
  have HG : Hid (gotHead zs = gotHead zs) := Lib.hid rfl
  clear hA
  rcases head_ways zs with ⟨hs, hb, hg, he⟩ | ⟨hs, hb, hg, he⟩ | ⟨hs, hg, he⟩
  · unfold headOut headErr at cE
    rw [hs] at cE
    have HE := Lib.hid (And.intro hg he)
    rw [if_pos rfl, if_pos rfl] at cE
    generalize headBlock (gotHead zs) = O at *
    have HD : Hid (decide (O = zs) = true) := Lib.hid (decide_eq_true hb)
    clear hs hg he hb
    unfold gotHead PHead.val at cE
    go_enter Try.func55, Try.ntmps55
    go_wp2_with (first
      | (go_at_call 69; refine (cP _).mono ?_; rintro e w3 ⟨rfl, hp3, hb3⟩; have H3 := Lib.hid (dec_begun (zs := zs) HZ.out hp3 hb3); clear hp3 hb3)
      | (go_at_call 68; refine (HR.out _ H3.out.1 H3.out.2.2.2).mono ?_; rintro e w4 ⟨rfl, hr4, hs4, hk4⟩; have H4 := Lib.hid (And.intro hr4 (And.intro hs4 hk4)); have q0 := (dec_read H3.out.2 hr4 hs4 hk4 (Below.refl _ _)).2.2.1 0 (by decide); have q1 := (dec_read H3.out.2 hr4 hs4 hk4 (Below.refl _ _)).2.2.1 1 (by decide); clear hr4 hs4 hk4)
      | (go_at_call 58; refine (cE _).mono ?_; rintro e w5 ⟨v5, rfl, hf5, hb5⟩; obtain ⟨a5, c5, rfl, hA5⟩ := fresh_form hf5; clear q0 q1; have q0 := (dec_read H3.out.2 H4.out.1 H4.out.2.1 H4.out.2.2 hb5).2.2.1 0 (by decide); have z0 := (dec_read H3.out.2 H4.out.1 H4.out.2.1 H4.out.2.2 hb5).1 0 (by decide); have f0 := (dec_read H3.out.2 H4.out.1 H4.out.2.1 H4.out.2.2 hb5).2.1 0; have q1 := (dec_read H3.out.2 H4.out.1 H4.out.2.1 H4.out.2.2 hb5).2.2.1 1 (by decide); have z1 := (dec_read H3.out.2 H4.out.1 H4.out.2.1 H4.out.2.2 hb5).1 1 (by decide); have f1 := (dec_read H3.out.2 H4.out.1 H4.out.2.1 H4.out.2.2 hb5).2.1 1; have A5 := Lib.hid hA5; have B5 := Lib.hid (dec_read H3.out.2 H4.out.1 H4.out.2.1 H4.out.2.2 hb5).2.2.2; clear hf5 hb5 hA5)
      | (go_at_call 70; refine (bytesEq_any a5 ao _ c5 len cap O zs _ A5.out.1 (HA.out.later B5.out).1).mono ?_; rintro e w6 ⟨rfl, rfl⟩; rw [HD.out]))
    refine bodyPost_ret (v := .tuple #[(getHead zs).val, .int .i64 (getHeadErr zs)]) ?_ rfl ⟨rfl, ((B5.out.setCell (Nat.le_refl _) _).setCell (Nat.le_refl _) _)⟩
    rw [HE.out.1, HE.out.2, results_cell_tmp rfl]
    go_simp
    try rfl
  · unfold headOut headErr at cE
    rw [hs] at cE
    have HE := Lib.hid (And.intro hg he)
    rw [if_pos rfl, if_pos rfl] at cE
    generalize headBlock (gotHead zs) = O at *
    have HD : Hid (decide (O = zs) = false) := Lib.hid (decide_eq_false hb)
    clear hs hg he hb
    unfold gotHead PHead.val at cE
    go_enter Try.func55, Try.ntmps55
    go_wp2_with (first
      | (go_at_call 69; refine (cP _).mono ?_; rintro e w3 ⟨rfl, hp3, hb3⟩; have H3 := Lib.hid (dec_begun (zs := zs) HZ.out hp3 hb3); clear hp3 hb3)
      | (go_at_call 68; refine (HR.out _ H3.out.1 H3.out.2.2.2).mono ?_; rintro e w4 ⟨rfl, hr4, hs4, hk4⟩; have H4 := Lib.hid (And.intro hr4 (And.intro hs4 hk4)); have q0 := (dec_read H3.out.2 hr4 hs4 hk4 (Below.refl _ _)).2.2.1 0 (by decide); have q1 := (dec_read H3.out.2 hr4 hs4 hk4 (Below.refl _ _)).2.2.1 1 (by decide); clear hr4 hs4 hk4)
      | (go_at_call 58; refine (cE _).mono ?_; rintro e w5 ⟨v5, rfl, hf5, hb5⟩; obtain ⟨a5, c5, rfl, hA5⟩ := fresh_form hf5; clear q0 q1; have q0 := (dec_read H3.out.2 H4.out.1 H4.out.2.1 H4.out.2.2 hb5).2.2.1 0 (by decide); have z0 := (dec_read H3.out.2 H4.out.1 H4.out.2.1 H4.out.2.2 hb5).1 0 (by decide); have f0 := (dec_read H3.out.2 H4.out.1 H4.out.2.1 H4.out.2.2 hb5).2.1 0; have q1 := (dec_read H3.out.2 H4.out.1 H4.out.2.1 H4.out.2.2 hb5).2.2.1 1 (by decide); have z1 := (dec_read H3.out.2 H4.out.1 H4.out.2.1 H4.out.2.2 hb5).1 1 (by decide); have f1 := (dec_read H3.out.2 H4.out.1 H4.out.2.1 H4.out.2.2 hb5).2.1 1; have A5 := Lib.hid hA5; have B5 := Lib.hid (dec_read H3.out.2 H4.out.1 H4.out.2.1 H4.out.2.2 hb5).2.2.2; clear hf5 hb5 hA5)
      | (go_at_call 70; refine (bytesEq_any a5 ao _ c5 len cap O zs _ A5.out.1 (HA.out.later B5.out).1).mono ?_; rintro e w6 ⟨rfl, rfl⟩; rw [HD.out]))
    refine bodyPost_ret (v := .tuple #[(getHead zs).val, .int .i64 (getHeadErr zs)]) ?_ rfl ⟨rfl, ((B5.out.setCell (Nat.le_refl _) _).setCell (Nat.le_refl _) _)⟩
    rw [HE.out.1, HE.out.2, results_cell_tmp rfl]
    go_simp
    try rfl
  · unfold headOut headErr at cE
    rw [hs] at cE
    have HE := Lib.hid (And.intro hg he)
    rw [if_neg (by decide), if_neg (by decide)] at cE
    clear hs hg he
    unfold gotHead PHead.val at cE
    go_enter Try.func55, Try.ntmps55
    go_wp2_with (first
      | (go_at_call 69; refine (cP _).mono ?_; rintro e w3 ⟨rfl, hp3, hb3⟩; have H3 := Lib.hid (dec_begun (zs := zs) HZ.out hp3 hb3); clear hp3 hb3)
      | (go_at_call 68; refine (HR.out _ H3.out.1 H3.out.2.2.2).mono ?_; rintro e w4 ⟨rfl, hr4, hs4, hk4⟩; have H4 := Lib.hid (And.intro hr4 (And.intro hs4 hk4)); have q0 := (dec_read H3.out.2 hr4 hs4 hk4 (Below.refl _ _)).2.2.1 0 (by decide); have q1 := (dec_read H3.out.2 hr4 hs4 hk4 (Below.refl _ _)).2.2.1 1 (by decide); clear hr4 hs4 hk4)
      | (go_at_call 58; refine (cE _).mono ?_; rintro e w5 ⟨v5, rfl, hf5, hb5⟩; obtain ⟨a5, c5, rfl, hA5⟩ := fresh_form hf5; clear q0 q1; have q0 := (dec_read H3.out.2 H4.out.1 H4.out.2.1 H4.out.2.2 hb5).2.2.1 0 (by decide); have z0 := (dec_read H3.out.2 H4.out.1 H4.out.2.1 H4.out.2.2 hb5).1 0 (by decide); have f0 := (dec_read H3.out.2 H4.out.1 H4.out.2.1 H4.out.2.2 hb5).2.1 0; have q1 := (dec_read H3.out.2 H4.out.1 H4.out.2.1 H4.out.2.2 hb5).2.2.1 1 (by decide); have z1 := (dec_read H3.out.2 H4.out.1 H4.out.2.1 H4.out.2.2 hb5).1 1 (by decide); have f1 := (dec_read H3.out.2 H4.out.1 H4.out.2.1 H4.out.2.2 hb5).2.1 1; have A5 := Lib.hid hA5; have B5 := Lib.hid (dec_read H3.out.2 H4.out.1 H4.out.2.1 H4.out.2.2 hb5).2.2.2; clear hf5 hb5 hA5))
    refine bodyPost_ret (v := .tuple #[(getHead zs).val, .int .i64 (getHeadErr zs)]) ?_ rfl ⟨rfl, ((B5.out.setCell (Nat.le_refl _) _).setCell (Nat.le_refl _) _)⟩
    rw [HE.out.1, HE.out.2, results_cell_tmp rfl]
    go_simp
    try rfl

end Go.Proofs.Ytbnepjojfaeggaa
