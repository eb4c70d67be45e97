/-
  Said here: what is told of a volume, and of its log, as blocks, in plain words; what the landed calls of package super are to answer (SupOk); plain facts on these.
  No conditions but those that each theorem names.
-/
import Derived.Test.YtpmggbdmoopkfaaRef04Num
import Derived.Test.YtpmggbdmoopkfaaSealShort
import Derived.Test.YtpmggbdmoopkfaaRef04Put
namespace Go.Proofs.Ytpmggbdmoopkfaa
open Go.RowKit

def dryd : List Int := [68, 82, 89, 68]
def headT : List Int := [72, 69, 65, 68]

/-- What is told of a volume. -/
structure PSup where
  a : Int
  b : Int
  c : Int
  d : Int
  e : Int
  deriving DecidableEq

structure PHead where
  a : Int
  b : Int
  deriving DecidableEq

def PSup.sound (s : PSup) : Bool := decide (64 ≤ s.a ∧ s.a ≤ 480 ∧ 1 ≤ s.b ∧ s.b ≤ 3 ∧ 0 ≤ s.c ∧ s.c ≤ 3 ∧ 0 ≤ s.d ∧ s.d ≤ 32 ∧ 0 ≤ s.e ∧ s.e ≤ 480)
def PHead.sound (h : PHead) : Bool := decide (0 ≤ h.a ∧ h.a ≤ 39 ∧ 1 ≤ h.b ∧ h.b ≤ 1073741824)
def supB (s : PSup) : List Int := dryd ++ leB s.a 2 ++ leB s.b 1 ++ leB s.c 1 ++ leB s.d 2 ++ leB s.e 2
def headB (h : PHead) : List Int := headT ++ leB h.a 4 ++ leB h.b 4
def supBlock (s : PSup) : List Int := sealOf sumS (supB s)
def headBlock (h : PHead) : List Int := sealOf sumS (headB h)
def supErr (s : PSup) : Int := if s.sound = true then 0 else 2
def supOut (s : PSup) : List Int := if s.sound = true then supBlock s else []
def headErr (h : PHead) : Int := if h.sound = true then 0 else 2
def headOut (h : PHead) : List Int := if h.sound = true then headBlock h else []
def noSup : PSup := ⟨0, 0, 0, 0, 0⟩
def noHead : PHead := ⟨0, 0⟩
/-- What a block is as a Super, its soundness apart. -/
def readSup (zs : List Int) : PSup := ⟨leN zs 4 2, zs.getD 6 0, zs.getD 7 0, zs.getD 8 0, leN zs 10 2⟩
def readHead (zs : List Int) : PHead := ⟨zs.getD 4 0, leN zs 8 4⟩
def isSup (zs : List Int) : Bool := decide (zs.length = 64) && ((readSup zs).sound && decide (supBlock (readSup zs) = zs))
def isHead (zs : List Int) : Bool := decide (zs.length = 64) && ((readHead zs).sound && decide (headBlock (readHead zs) = zs))
def getSup (zs : List Int) : PSup := if isSup zs = true then readSup zs else noSup
def getHead (zs : List Int) : PHead := if isHead zs = true then readHead zs else noHead
def getSupErr (zs : List Int) : Int := if isSup zs = true then 0 else 2
def getHeadErr (zs : List Int) : Int := if isHead zs = true then 0 else 2

def PSup.val (s : PSup) : Value := .agg #[.int .i64 s.a, .int .i64 s.b, .int .i64 s.c, .int .i64 s.d, .int .i64 s.e]
def PHead.val (h : PHead) : Value := .agg #[.int .i64 h.a, .int .i64 h.b]
def i64w (x : Int) : Prop := -9223372036854775808 ≤ x ∧ x ≤ 9223372036854775807
def PSup.in64 (s : PSup) : Prop := i64w s.a ∧ i64w s.b ∧ i64w s.c ∧ i64w s.d ∧ i64w s.e
def PHead.in64 (h : PHead) : Prop := i64w h.a ∧ i64w h.b

/-! ### Plain facts -/

theorem supB_length (s : PSup) : (supB s).length = 12 := by
  unfold supB
  simp only [List.length_append, leB_length]
  rfl
theorem headB_length (h : PHead) : (headB h).length = 12 := by
  unfold headB
  simp only [List.length_append, leB_length]
  rfl
theorem supB_bytes (s : PSup) : ∀ z ∈ supB s, 0 ≤ z ∧ z ≤ 255 := by
  intro z hz
  unfold supB at hz
  simp only [List.mem_append] at hz
  rcases hz with ((((h | h) | h) | h) | h) | h
  · unfold dryd at h; simp at h; omega
  all_goals exact leB_bytes _ _ z h
theorem headB_bytes (h : PHead) : ∀ z ∈ headB h, 0 ≤ z ∧ z ≤ 255 := by
  intro z hz
  unfold headB at hz
  simp only [List.mem_append] at hz
  rcases hz with (h' | h') | h'
  · unfold headT at h'; simp at h'; omega
  all_goals exact leB_bytes _ _ z h'

end Go.Proofs.Ytpmggbdmoopkfaa

