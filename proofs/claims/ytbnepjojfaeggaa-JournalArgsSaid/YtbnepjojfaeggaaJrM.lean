/-
  Said here: the landed journal in plain words: what Open, Commit, Read, Head and Look make of a disk and of a journal.
  Nothing is proved of the program here.
-/
import Derived.Test.YtbnepjojfaeggaaJrAns
import Derived.Test.YtbnepjojfaeggaaJrnOk
namespace Go.Proofs.Ytbnepjojfaeggaa
open Go.RowKit
set_option linter.unusedVariables false

/-- The block of the log at a place of the ring. -/
def logA (a : Nat) : Int := ((19 + a % 40 : Nat) : Int)
/-- What Open writes: nothing (so that what was read lasts), what the log says, the head behind. -/
def openG (d : DM) : List (List (Int × List Int)) := [[], lookW d, [(1, headBlock ⟨(lookH d).1, (lookH d).2⟩)]]
def openJ (d : DM) : DM × Option JS × Int :=
  if lookE d ≠ 0 then (d, none, lookE d)
  else if (writeP d (openG d)).2 ≠ 0 then ((writeP d (openG d)).1, none, (writeP d (openG d)).2)
  else ((writeP d (openG d)).1, some ⟨(lookH d).1, (lookH d).2, false⟩, 0)

/-- A first block that was left at the head is taken away. -/
def clearP (d : DM) (s : JS) : DM × Int :=
  if diskErr d (logA s.at_.toNat) ≠ 0 then (d, diskErr d (logA s.at_.toNat))
  else if isBeg (diskOut d (logA s.at_.toNat)) = true then writeP d [[(logA s.at_.toNat, zeros64)]] else (d, 0)
/-- Where the next transaction begins. -/
def nextA (s : JS) (m : Nat) : Nat := (s.at_.toNat + m + 2) % 40
/-- The data of a transaction, in its places. -/
def dataG (a : Nat) (ws : List (Int × List Int)) : List (Int × List Int) := (List.range ws.length).map fun i => (logA (a + 1 + i), (ws.getD i (0, [])).2)
def behindG (s : JS) (ws : List (Int × List Int)) : List (Int × List Int) := (logA (nextA s ws.length), zeros64) :: (logA (s.at_.toNat + 1 + ws.length), endB s.seq (ws.length : Int)) :: dataG s.at_.toNat ws
def commitW (d : DM) (s : JS) (ws : List (Int × List Int)) : DM × Int := writeP (clearP d s).1 [behindG s ws, [(logA s.at_.toNat, firstOut (d.n : Int) s.seq ws)], ws]
def commitH (d : DM) (s : JS) (ws : List (Int × List Int)) : DM × Int := writeP (commitW d s ws).1 [[(1, headBlock ⟨(nextA s ws.length : Nat), s.seq + 1⟩)]]
/-- What the landed journal's commit makes. -/
def commit0 (d : DM) (s : JS) (ws : List (Int × List Int)) : DM × JS × Int :=
  if ws = [] then (d, s, 0) else if 20 < ws.length then (d, s, 1) else if 1073741824 ≤ s.seq then (d, s, 11)
  else if firstErr (d.n : Int) s.seq ws ≠ 0 then (d, s, firstErr (d.n : Int) s.seq ws)
  else if (clearP d s).2 ≠ 0 then ((clearP d s).1, s, (clearP d s).2)
  else if (commitW d s ws).2 ≠ 0 then ((commitW d s ws).1, s, (commitW d s ws).2)
  else ((commitH d s ws).1, ⟨(nextA s ws.length : Nat), s.seq + 1, s.gone⟩, (commitH d s ws).2)
def commitJ (d : DM) (s : JS) (ws : List (Int × List Int)) : DM × JS × Int :=
  if s.gone = true then (d, s, 8)
  else ((commit0 d s ws).1, ⟨(commit0 d s ws).2.1.at_, (commit0 d s ws).2.1.seq, decide ((commit0 d s ws).2.2 = 8)⟩, (commit0 d s ws).2.2)
def mJ : JM := { S := JS, openP := openJ, lookP := lookJ, commitP := commitJ, readP := readJ, headP := headJ }
/-- The landed journal in memory: its head is sound. -/
def JI2 (w : World) (j a : Addr) (G : Nat → Prop) (s : JS) : Prop := JI w j a G s ∧ 0 ≤ s.at_ ∧ s.at_ ≤ 39 ∧ 1 ≤ s.seq ∧ s.seq ≤ 1073741824
end Go.Proofs.Ytbnepjojfaeggaa
