/-
  Proved here: what the landed chain's pieces hands back: a function that gives the pieces of extents, the last one first, for every loop body that leaves the list where it lies.
  The conditions stand at each theorem.
-/
import Derived.RangeFuncNested
import Derived.RangeFuncBound
import Derived.RangeFuncCalls
import Derived.RangeFuncLeaves
import Derived.Shelf.Abstract
import Derived.Shelf.RegionOpen
import Derived.WalkKit
import Derived.OwnWalkIn
import Derived.TacticsInMore
import Derived.LoopNIn
import Derived.LoopIn
import Derived.Test.YtmgmlebkmdpddaaChNeed
namespace Go.Proofs.Ytmgmlebkmdpddaa
open Go.RowKit Go.Shelf
set_option linter.unusedVariables false
set_option linter.unusedSimpArgs false
attribute [local go_sem] Oper.semAt_some

/-- A piece, as it is handed to a round: its number and its extents. -/
def pieceV (b off n cap : Nat) (i : Nat) : Array Value := #[.int .i64 (i : Int), .slice (some ⟨b, off + (3 + 14 * i) * 2, none⟩) (min 14 (n - (3 + 14 * i))) (cap - (3 + 14 * i))]

/-- The numbers below K, the greatest first: the first k of them. -/
def downs (K k : Nat) : List (Fin K) := (List.finRange K).reverse.take k
theorem downs_length {K k : Nat} (h : k ≤ K) : (downs K k).length = k := by
  unfold downs
  rw [List.length_take, List.length_reverse, List.length_finRange]
  omega
theorem downs_succ {K k : Nat} (h : k < K) : downs K (k + 1) = downs K k ++ [⟨K - 1 - k, by omega⟩] := by
  unfold downs
  rw [List.take_add_one]
  congr 1
  rw [List.getElem?_reverse (by rw [List.length_finRange]; exact h), List.length_finRange, List.getElem?_eq_getElem (by rw [List.length_finRange]; omega)]
  simp

/-- The cell of a block holds what it held. -/
def KeepsC (B : Nat) (W W' : World) : Prop := ∀ v, W.cell? ⟨B, 0, none⟩ = some v → W'.cell? ⟨B, 0, none⟩ = some v
theorem KeepsC.refl (B : Nat) (W : World) : KeepsC B W W := fun _ h => h
theorem keepsC_t {B : Nat} {X Y Z : World} (h : KeepsC B X Y) (k : KeepsC B Y Z) : KeepsC B X Z := fun v hv => k v (h v hv)
theorem keepsC_b {B : Nat} {w : World} (W : World) (l : Nat) (o o' : Obj) (_ : w.heap.size ≤ l) (h : W.heap[l]? = some o) (hc : o.isCells = false) (_ : o.isWalk = false) : KeepsC B W (W.putObj l o') := fun v hv => by
  by_cases e : B = l
  · subst e
    unfold World.cell? at hv
    rw [h] at hv
    cases o <;> simp_all [Obj.isCells]
  · unfold World.cell? at hv ⊢
    rw [World.putObj_heap_other e]
    exact hv

theorem pieces_any (ao : Option Addr) (n cap : Nat) (w : World) : Calls Try.prog 14 #[.slice ao n cap] w fun e w' => e = .returned (.func (.func 21) #[] #[.pointer (some ⟨w.heap.size, 0, none⟩)]) ∧ w' = w.alloc (.cells #[.slice ao n cap] 29) := by
  go_enter Try.func14, Try.ntmps14
  go_wp2_with fail
  go_ret
  exact ⟨rfl, rfl⟩

set_option maxRecDepth 100000 in
set_option maxHeartbeats 2000000 in
theorem pieces1_in (m : Nat) (hm : 1 ≤ m) (l B b off n cap K : Nat) (ao : Option Addr) (hao : 0 < n → ao = some ⟨b, off, none⟩) (hn : n ≤ 96) (hcap : n ≤ cap) (hK : (K : Int) = chNeed n) (J Jx : List (Fin K) → World → Prop)
    (hY : ∀ pre x W, J pre W → pre.length < K → YieldAt Fence.wide (m - 1) Try.prog l (pieceV b off n cap x.1) W fun e W' =>
      (e = .returned (.bool true) ∧ J (pre ++ [x]) W' ∧ KeepsC B W W') ∨ (e = .returned (.bool false) ∧ Jx (pre ++ [x]) W'))
    (W : World) (hB : W.cell? ⟨B, 0, none⟩ = some (.slice ao n cap)) (h0 : J [] W) :
    CallsIn Fence.wide m Try.prog 21 #[.func (.yield l) #[] #[], .pointer (some ⟨B, 0, none⟩)] W fun e W' => (∃ v, e = .returned v) ∧
      ((∃ ys, ys = downs K K ∧ J ys W') ∨ (∃ pre, True ∧ Jx pre W')) := by
  have cN := chNeed_any (n : Int)
  rw [if_neg (by omega), if_neg (by omega)] at cN
  rw [← hK] at cN
  have hKK : K ≤ 7 ∧ (0 < K → 14 * K + 3 < n + 14) := by
    unfold chNeed at hK
    split at hK <;> omega
  have HK := Lib.hid hK
  clear hK
  refine callsIn_of_wp Try.func21 rfl trivial ?_ rfl
  simp only [Try.ntmps21, List.size_toArray, List.length_cons, List.length_nil, Nat.reduceAdd, Nat.reduceSub, Array.replicate_succ, Array.replicate_zero, List.push_toArray, List.append_toArray, List.nil_append, List.cons_append]
  gi_wp2_with (refine ⟨trivial, ?_⟩; gi_at_call 5; refine (callsIn_wide.2 (cN _)).mono ?_; rintro e w' ⟨rfl, rfl⟩)
  gi_loopw [5] (fun iv wr => ∃ k : Nat, k ≤ K ∧ iv = .int .i64 ((K : Int) - 1 - (k : Int)) ∧ J (downs K k) wr ∧ KeepsC B W wr) (fun iv _ => (intOf iv + 1).toNat)
  case atStart => exact ⟨0, Nat.zero_le _, by first | rfl | (congr 1; omega), h0, KeepsC.refl _ _⟩
  case round =>
    obtain ⟨k, hk, rfl, hJs, hKp⟩ := hrel
    have hcl := hKp _ hB
    by_cases hlt : k < K
    · obtain rfl := hao (by omega)
      obtain ⟨fn, tmps, assign, body, hy, hR⟩ := hY _ ⟨K - 1 - k, by omega⟩ wr hJs (by rw [downs_length hk]; exact hlt)
      have HSUC := Lib.hid (downs_succ hlt)
      obtain ⟨q, hq⟩ : ∃ q, K - 1 - k = q := ⟨_, rfl⟩
      have hqi : (K : Int) - 1 - (k : Int) = (q : Int) := by omega
      unfold pieceV at hy
      simp only [hq] at hy
      rw [hqi]
      have q0 : 3 + 14 * q < n := by omega
      have i0 : (0 : Int) ≤ (q : Int) := by omega
      have o1 : 3 + 14 * q ≤ n := by omega
      have o2 : 3 + 14 * q ≤ cap := by omega
      have HE : Hid (downs K (k + 1) = downs K k ++ [⟨K - 1 - k, by omega⟩]) := Lib.hid (downs_succ hlt)
      by_cases h14 : 14 ≤ n - (3 + 14 * q)
      · rw [Nat.min_eq_left h14] at hy
        have o4 : (14 : Int) ≤ ((n - (3 + 14 * q) : Nat) : Int) := by omega
        gi_wp2
        all_goals (try (exfalso; omega))
        refine hR.mono ?_
        rintro e W3 (⟨rfl, hJ3, hk3⟩ | ⟨rfl, hJx3⟩)
        · gi_wp2
          go_roundw
          case rel => exact ⟨k + 1, by omega, by first | rfl | (congr 1; omega) | go_num, by rw [HE.out]; exact hJ3, keepsC_t hKp hk3⟩
          case measure => simp [intOf]; try omega
        · gi_wp2
          refine bodyPost_ret (results_none rfl _ _ _) rfl ?_
          exact ⟨⟨_, rfl⟩, .inr ⟨_, trivial, hJx3⟩⟩
      · rw [Nat.min_eq_right (by omega)] at hy
        have o4 : ((n - (3 + 14 * q) : Nat) : Int) < (14 : Int) := by omega
        gi_wp2
        all_goals (try (exfalso; omega))
        refine hR.mono ?_
        rintro e W3 (⟨rfl, hJ3, hk3⟩ | ⟨rfl, hJx3⟩)
        · gi_wp2
          go_roundw
          case rel => exact ⟨k + 1, by omega, by first | rfl | (congr 1; omega) | go_num, by rw [HE.out]; exact hJ3, keepsC_t hKp hk3⟩
          case measure => simp [intOf]; try omega
        · gi_wp2
          refine bodyPost_ret (results_none rfl _ _ _) rfl ?_
          exact ⟨⟨_, rfl⟩, .inr ⟨_, trivial, hJx3⟩⟩
    · obtain rfl : k = K := by omega
      gi_wp2
      go_end0
      exact ⟨⟨_, rfl⟩, .inl ⟨_, rfl, hJs⟩⟩

/-- What pieces hands back gives the pieces. -/
theorem pieces_stops (m : Nat) (hm : 1 ≤ m) (B b off n cap K : Nat) (ao : Option Addr) (hao : 0 < n → ao = some ⟨b, off, none⟩) (hn : n ≤ 96) (hcap : n ≤ cap) (hK : (K : Int) = chNeed n) (w : World) (hBs : B < w.heap.size)
    (hB : w.cell? ⟨B, 0, none⟩ = some (.slice ao n cap)) :
    SeqStopsK Fence.wide m Try.prog 21 #[.pointer (some ⟨B, 0, none⟩)] (fun x : Fin K => pieceV b off n cap x.1) (KeepsC B) (fun ys => ys = downs K K) (fun _ => True) K w := fun l J Jx W hW _ _ hY h0 =>
  pieces1_in m hm l B b off n cap K ao hao hn hcap hK J Jx hY W ((hW.cell (p := ⟨B, 0, none⟩) hBs).trans hB) h0

end Go.Proofs.Ytmgmlebkmdpddaa
