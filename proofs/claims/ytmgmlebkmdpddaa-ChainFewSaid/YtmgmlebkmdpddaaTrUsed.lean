/-
  Proved here: what the landed tree's page says of itself (used): whether one of its numbers is not 0.
  The conditions stand at each theorem.
-/
import Derived.Test.YtmgmlebkmdpddaaInts
import Derived.Test.YtmgmlebkmdpddaaTree
import Derived.Deep.QuietTactic
import Derived.BigQuiet
namespace Go.Proofs.Ytmgmlebkmdpddaa
open Go.RowKit
set_option linter.unusedVariables false
set_option linter.unusedSimpArgs false

def pageV (p : List Int) : Value := .agg (ints p).toArray

theorem uPage : Try.prog.underlying 97 = some (.array 30 3) := Try.underlying97
theorem iPage {p : List Int} (h : p.length = 30) : (Try.prog.info? 97).map (·.size) = some (ints p).length := by rw [ints_length, h]; kernel_rfl

theorem part_int (w : World) (p : List Int) (i : Nat) (h : i < p.length) : (part 3 (ints p).toArray i).run Try.prog w = .ok (.int .i64 (p.getD i 0)) w := by
  have e : (ints p).toArray[i]? = some (.int .i64 (p.getD i 0)) := by
    rw [List.getElem?_toArray]
    exact ints_get (by rw [List.getD_eq_getElem?_getD, List.getElem?_eq_getElem h]; rfl)
  unfold part isAgg
  rw [Sem.run_bind, Sem.run_bind, run_underlying Try.underlying3 w]
  simp [e]

theorem eq_items (w : World) (d : Nat) (p q : List Int) : ∀ is : List Nat, (∀ i ∈ is, i < p.length ∧ i < q.length) →
    (Op.eqItems (d + 1) 3 1 (ints p).toArray (ints q).toArray is).run Try.prog w = .ok (is.all fun j => p.getD j 0 == q.getD j 0) w
  | [], _ => by simp [Op.eqItems]
  | i :: is, h => by
    obtain ⟨h1, h2⟩ := h i (by simp)
    simp only [Op.eqItems, Sem.run_bind, Nat.mul_one, part_int w p i h1, part_int w q i h2, Result.andThen_ok, run_equalIn_int w d 3 .i64 .i64 (p.getD i 0) (q.getD i 0) Try.underlying3, List.all_cons]
    cases p.getD i 0 == q.getD i 0
    · simp
    · simpa using eq_items w d p q is (fun j hj => h j (List.mem_cons_of_mem _ hj))

theorem zero_items {p : List Int} (h : p.length = 30) : (List.range 30).all (fun j => p.getD j 0 == (List.replicate 30 (0 : Int)).getD j 0) = !(p.any nzB) := by
  rw [Bool.eq_iff_iff, List.all_eq_true, Bool.not_eq_true', List.any_eq_false]
  constructor
  · intro hh x hx
    obtain ⟨i, hi, rfl⟩ := List.mem_iff_getElem.1 hx
    have := hh i (List.mem_range.2 (by omega))
    rw [List.getD_eq_getElem?_getD, List.getD_eq_getElem?_getD, List.getElem?_replicate, if_pos (by omega), List.getElem?_eq_getElem hi] at this
    simpa [nzB] using this
  · intro hh i hi
    have hi' := List.mem_range.1 hi
    have := hh p[i] (List.getElem_mem (by omega))
    rw [List.getD_eq_getElem?_getD, List.getD_eq_getElem?_getD, List.getElem?_replicate, if_pos (by omega), List.getElem?_eq_getElem (by omega)]
    simpa [nzB] using this

def zero30 : Array Value := #[Value.int .i64 0, Value.int .i64 0, Value.int .i64 0, Value.int .i64 0, Value.int .i64 0, Value.int .i64 0, Value.int .i64 0, Value.int .i64 0, Value.int .i64 0, Value.int .i64 0, Value.int .i64 0, Value.int .i64 0, Value.int .i64 0, Value.int .i64 0, Value.int .i64 0, Value.int .i64 0, Value.int .i64 0, Value.int .i64 0, Value.int .i64 0, Value.int .i64 0, Value.int .i64 0, Value.int .i64 0, Value.int .i64 0, Value.int .i64 0, Value.int .i64 0, Value.int .i64 0, Value.int .i64 0, Value.int .i64 0, Value.int .i64 0, Value.int .i64 0]

theorem run_eq_page (w : World) (p : List Int) (h : p.length = 30) : (Op.equalIn 10000 97 (.agg (ints p).toArray) (.agg zero30)).run Try.prog w = .ok (!(p.any nzB)) w := by
  obtain ⟨i0, hi0, hz0, hz1, hz2⟩ := info_parts elemI.2.1
  have hc : Try.prog.cellsOf 3 = 1 := by kernel_rfl
  rw [show zero30 = (ints (List.replicate 30 0)).toArray from rfl, show (10000 : Nat) = 9999 + 1 from rfl, run_equalIn_array (P := Try.prog) w 9999 _ _ uPage hi0, hc, eq_items w 9998 p (List.replicate 30 0) (List.range 30) (fun i hi => by have := List.mem_range.1 hi; simp only [List.length_replicate]; omega), zero_items h]

set_option maxRecDepth 100000 in
set_option maxHeartbeats 1600000 in
theorem used_any (p : List Int) (w : World) (h : p.length = 30) : Calls Try.prog 58 #[pageV p] w fun e w' => e = .returned (.bool (p.any nzB)) ∧ Below w.heap.size w w' := by
  have hn := fun W => run_eq_page W p h
  unfold zero30 at hn
  have hr : (w.alloc (.cells (ints p).toArray 97)).rangeAt w.heap.size 0 (ints p) := fun j v hj => by
    rw [Nat.zero_add, World.cell?_alloc_new]
    simpa using hj
  unfold pageV at *
  go_enter Try.func58, Try.ntmps58
  go_wp2_with (refine wpList_load_mid rfl 97 (.tmp 1) rfl w.heap.size 0 rfl (ints p) _ hr uPage rfl (iPage h) ?_)
  go_ret
  exact ⟨by simp, (Below.refl _ _).alloc (Nat.le_refl _) _⟩

end Go.Proofs.Ytmgmlebkmdpddaa
