/-
  Proved here: what the landed journal's Read and Look are in plain words, and what they answer of no log.
  The conditions stand at each theorem.
-/
import Derived.Test.YtbnepjojfaeggaaJrNil
import Derived.Test.YtbnepjojfaeggaaJrPh
import Derived.Test.YtbnepjojfaeggaaJrCom
namespace Go.Proofs.Ytbnepjojfaeggaa
open Go.RowKit
set_option linter.unusedVariables false
set_option linter.unusedSimpArgs false

def readJ (d : DM) (s : JS) (n : Int) : List Int × Int := if s.gone = true then ([], 8) else (diskOut d n, diskErr d n)
def lookJ (d : DM) : List (List Int) × Int := (layR (lookR d) (lookW d), lookE d)
def headJ (s : JS) : Int × Int := (s.at_, s.seq)

theorem okRead {w : World} {j a : Addr} {F G : Nat → Prop} {d : DM} {s : JS} (n : Int) (hD : DI w a F d) (hJ : JI w j a G s) (hn : I64 n) (h8 : (readJ d s n).2 ≠ 8) :
    Calls Try.prog 18 #[.pointer (some j), .int .i64 n] w fun e w' => ∃ v, e = .returned (.tuple #[v, .int .i64 (readJ d s n).2]) ∧ Fresh w' w.heap.size v (readJ d s n).1 ∧ Below w.heap.size w w' := by
  have hg : s.gone = false := by
    cases h : s.gone with
    | false => rfl
    | true => exact absurd (by unfold readJ; rw [if_pos h]) h8
  have e : readJ d s n = (diskOut d n, diskErr d n) := by unfold readJ; rw [if_neg (by rw [hg]; decide)]
  rw [e] at h8 ⊢
  exact jread_any n hD hJ hn hg h8
theorem okLook {w : World} {a : Addr} {F : Nat → Prop} {d : DM} (hD : DI w a F d) :
    Calls Try.prog 21 #[.pointer (some a)] w fun e w' => ∃ ao len cap, e = .returned (.tuple #[.slice ao len cap, .int .i64 (lookJ d).2]) ∧ RowsNew w' w.heap.size ao len cap (lookJ d).1 ∧ Below w.heap.size w w' := looks_any hD

theorem look_small {n : Nat} (h : n < 64) : lookE (freshD n) = 1 := by
  unfold lookE
  exact if_pos h
theorem fresh_curs_length (n : Nat) : (curs (freshD n)).length = n := curs_length _
theorem look_fresh {n : Nat} (h : 64 ≤ n) : lookE (freshD n) = 2 := by
  have hs : Still (freshD n) (fun _ => zeros64) := ⟨rfl, fun _ => rfl⟩
  have e : headD (freshD n) = getHead zeros64 := by
    unfold headD
    exact congrArg getHead (still_out hs (k := 1) (by show 1 < n; omega))
  have e0 : getHead zeros64 = ⟨0, 0⟩ := by decide +kernel
  unfold lookE foundErr
  rw [if_neg (by show ¬ n < 64; omega), if_neg (by show ¬ false = true; decide), e, e0, if_neg]
  unfold okLog
  rw [Bool.and_eq_true, decide_eq_true_eq]
  rintro ⟨⟨_, _, _, h, _⟩, _⟩
  exact absurd h (by decide)

theorem form_out {n k : Nat} {y : List Int} (h : k < n) : diskOut (addW (step1 (freshD n)) 1 y) (k : Int) = if k = 1 then y else zeros64 := by
  have e : diskErr (addW (step1 (freshD n)) 1 y) (k : Int) = 0 := by
    unfold diskErr
    rw [if_neg (by show ¬ false = true; decide), if_pos ⟨by omega, by show (k : Int) < ((n : Nat) : Int); omega⟩]
  unfold diskOut
  rw [if_pos e, Int.toNat_natCast]
  show ((if k = 1 then [zeros64] ++ [y] else [zeros64]) : List (List Int)).getLastD [] = _
  split <;> rfl
theorem look_form {n : Nat} {y : List Int} (h : 64 ≤ n) (hy : y.length = 64) : lookE (addW (step1 (freshD n)) 1 y) = getHeadErr y := by
  obtain ⟨D, hD⟩ : ∃ D, addW (step1 (freshD n)) 1 y = D := ⟨_, rfl⟩
  have hn : D.n = n := by rw [← hD]; rfl
  have ho : D.off = false := by rw [← hD]; rfl
  have hk : ∀ k : Nat, k < n → diskOut D (k : Int) = if k = 1 then y else zeros64 := fun k hk => by rw [← hD]; exact form_out hk
  rw [hD]
  have hl : (logD D).length = 40 := by
    unfold logD
    rw [List.length_take, List.length_drop, curs_length, hn]
    omega
  have h64 : ((logD D).all fun b => decide (b.length = 64)) = true := List.all_eq_true.2 fun b hb => by
    unfold logD at hb
    have hb := List.mem_of_mem_drop (List.mem_of_mem_take hb)
    unfold curs at hb
    obtain ⟨k, hkr, rfl⟩ := List.mem_map.1 hb
    rw [hk k (by rw [← hn]; exact List.mem_range.1 hkr)]
    split
    · exact decide_eq_true hy
    · exact decide_eq_true (by decide)
  have e1 : headD D = getHead y := by
    unfold headD
    have := hk 1 (by omega)
    rw [if_pos rfl] at this
    exact congrArg getHead this
  unfold lookE foundErr
  rw [if_neg (by omega), if_neg (by rw [ho]; decide), e1]
  unfold getHead getHeadErr okLog
  rw [h64, hl, Bool.and_true]
  cases hh : isHead y with
  | true =>
    have hs : 0 ≤ (readHead y).a ∧ (readHead y).a ≤ 39 ∧ 1 ≤ (readHead y).b ∧ (readHead y).b ≤ 1073741824 := of_decide_eq_true (isHead_block hh).1
    rw [if_pos rfl, if_pos rfl, if_pos (decide_eq_true ⟨rfl, hs.1, hs.2.1, hs.2.2.1, hs.2.2.2⟩)]
  | false =>
    have e2 : (if false = true then readHead y else noHead) = noHead := if_neg (by decide)
    rw [e2, if_neg (by decide), if_neg (by decide)]
end Go.Proofs.Ytbnepjojfaeggaa
