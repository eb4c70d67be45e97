/-
  Said here: what must hold of a journal in plain words (JM) for the laws of layer 16: alive, cut off, behind a restart.
  Nothing is proved of the program here.
-/
import Derived.Test.YtbnepjojfaeggaaJSeen
namespace Go.Proofs.Ytbnepjojfaeggaa
open Go.RowKit
set_option linter.unusedVariables false

/-- Texts that a journal should read: block by block, but for the log and the head. -/
def Holds (M : JM) (d : DM) (s : M.S) (now : List ByteArray) : Prop :=
  now.length = d.n ∧ ∀ i : Nat, i < d.n → (M.readP d s (i : Int)).2 = 0 ∧ (homeB (i : Int) = true → now[i]? = some (str (M.readP d s (i : Int)).1))

/-- Live: the journal is alive and reads 'now', behind at most k commits. Dead: it was cut off in a commit from 'now' to 'then'. Rec: a disk with power, behind a restart, on which either is found. -/
structure JournalGood (M : JM) where
  Live : DM → M.S → List ByteArray → Nat → Prop
  Dead : DM → M.S → List ByteArray → List ByteArray → Nat → Prop
  Rec : DM → List ByteArray → List ByteArray → Nat → Prop
  live_small : ∀ {d s now k}, Live d s now k → smallD d ∧ d.n ≤ 480 ∧ 64 ≤ d.n
  dead_small : ∀ {d s a b k}, Dead d s a b k → smallD d ∧ d.n ≤ 480 ∧ 64 ≤ d.n ∧ a.length = d.n ∧ b.length = d.n
  rec_small : ∀ {d a b k}, Rec d a b k → smallD d ∧ d.n ≤ 480 ∧ 64 ≤ d.n ∧ a.length = d.n ∧ b.length = d.n
  live_holds : ∀ {d s now k}, Live d s now k → Holds M d s now
  live_same : ∀ {d s x y k}, Live d s x k → sameB x y → Live d s y k
  begins : ∀ n : Nat, 64 ≤ n → n ≤ 480 → ∃ s, (M.openP (beginD n)).2 = (some s, 0) ∧ Live (M.openP (beginD n)).1 s (List.replicate n zeroS) 0 ∧ (M.openP (beginD n)).1.left < 0 ∧ (M.openP (beginD n)).1.n = n
  head : ∀ {d s now k}, Live d s now k → 0 < (M.headP s).2
  commit_no : ∀ {d s now k ws}, Live d s now k → k ≤ 1000 → (checkW ws d.n ≠ 0 ∨ ws = []) → (M.commitP d s ws).2.2 = checkW ws d.n ∧ (M.commitP d s ws).1.n = d.n ∧ (M.commitP d s ws).1.left = d.left ∧ Live (M.commitP d s ws).1 (M.commitP d s ws).2.1 now k
  commit_yes : ∀ {d s now k ws}, Live d s now k → k ≤ 1000 → checkW ws d.n = 0 → ws ≠ [] → (M.commitP d s ws).1.n = d.n ∧
    (((M.commitP d s ws).2.2 = 0 ∧ Live (M.commitP d s ws).1 (M.commitP d s ws).2.1 (putS now ws) (k + 1)) ∨ ((M.commitP d s ws).2.2 = 8 ∧ 0 ≤ d.left ∧ Dead (M.commitP d s ws).1 (M.commitP d s ws).2.1 now (putS now ws) (k + 1)))
  commit_left : ∀ {d s now k ws}, Live d s now k → d.left < 0 → (M.commitP d s ws).1.left < 0
  dead_commit : ∀ {d s a b k ws}, Dead d s a b k → (M.commitP d s ws).2.2 = 8 ∧ (M.commitP d s ws).1.n = d.n ∧ Dead (M.commitP d s ws).1 (M.commitP d s ws).2.1 a b k
  live_fail : ∀ {d s now k} (n : Int), Live d s now k → Live (failed d n) s now k
  dead_fail : ∀ {d s a b k} (n : Int), Dead d s a b k → Dead (failed d n) s a b k
  live_restart : ∀ {d s now k} (ks : List Int), Live d s now k → Rec (restarted d ks) now now k
  dead_restart : ∀ {d s a b k} (ks : List Int), Dead d s a b k → Rec (restarted d ks) a b k
  rec_fail : ∀ {d a b k} (n : Int), Rec d a b k → Rec (failed d n) a b k
  opens : ∀ {d a b k}, Rec d a b k → (M.openP d).1.n = d.n ∧ ((∃ s x, (M.openP d).2 = (some s, 0) ∧ (x = a ∨ x = b) ∧ Live (M.openP d).1 s x k) ∨ ((M.openP d).2 = (none, 8) ∧ 0 ≤ d.left ∧ smallD (M.openP d).1 ∧ ∀ ks, Rec (restarted (M.openP d).1 ks) a b k))
  opens_left : ∀ {d a b k}, Rec d a b k → d.left < 0 → (M.openP d).1.left < 0
  looks : ∀ {d a b k}, Rec d a b k → (M.lookP d).2 = 0 ∧ (M.lookP d).1.length = d.n ∧ ∀ s, (M.openP d).2 = (some s, 0) → ∀ i : Nat, i < d.n → i ≠ 1 → (M.lookP d).1[i]? = some (M.readP (M.openP d).1 s (i : Int)).1

end Go.Proofs.Ytbnepjojfaeggaa
