/-
  Proved here: the simplest facts that the laws of layer 8 ask hold of the landed super.
  No conditions.
-/
import Derived.Test.YtpfapkdenlfmbaaSupIs
import Derived.Test.YtpfapkdenlfmbaaSupFacts
import Derived.Test.YtpfapkdenlfmbaaRef08
namespace Go.Proofs.Ytpfapkdenlfmbaa
open Go.RowKit

def sup64 : PSup := ⟨64, 1, 0, 0, 0⟩
def head39 : PHead := ⟨3, 9⟩

theorem enc_ok {s : PSup} (h : s.sound = true) (w : World) : Calls Try.prog 7 #[s.val] w (Handed w.heap.size w (supBlock s) 0) := by
  have c := supOk.enc s w (sup_in64 h)
  unfold supOut supErr at c
  rw [if_pos h, if_pos h] at c
  exact c
theorem head_in64 {s : PHead} (h : s.sound = true) : s.in64 := by
  obtain ⟨a, b⟩ := s
  have h' : 0 ≤ a ∧ a ≤ 39 ∧ 1 ≤ b ∧ b ≤ 1073741824 := of_decide_eq_true h
  unfold PHead.in64 i64w
  show ((_ ≤ a ∧ a ≤ _) ∧ (_ ≤ b ∧ b ≤ _))
  omega
theorem put_ok {s : PHead} (h : s.sound = true) (w : World) : Calls Try.prog 9 #[s.val] w (Handed w.heap.size w (headBlock s) 0) := by
  have c := supOk.put s w (head_in64 h)
  unfold headOut headErr at c
  rw [if_pos h, if_pos h] at c
  exact c

theorem enc_no {s : PSup} (h : s.in64) (hs : s.sound = false) (w : World) : Calls Try.prog 7 #[s.val] w (Handed w.heap.size w [] 2) := by
  have c := supOk.enc s w h
  unfold supOut supErr at c
  rw [hs] at c
  exact c
theorem put_no {s : PHead} (h : s.in64) (hs : s.sound = false) (w : World) : Calls Try.prog 9 #[s.val] w (Handed w.heap.size w [] 2) := by
  have c := supOk.put s w h
  unfold headOut headErr at c
  rw [hs] at c
  exact c

/-- Reading of bytes that a call handed back. -/
theorem dec_fresh {w : World} {base : Nat} {v : Value} {zs : List Int} (h : Fresh w base v zs) : Calls Try.prog 12 #[v] w fun e w' => e = .returned (.tuple #[(getSup zs).val, .int .i64 (getSupErr zs)]) ∧ Below w.heap.size w w' := by
  obtain ⟨ao, cap, rfl, hA, _⟩ := h
  exact supOk.dec ao _ cap zs w hA
theorem get_fresh {w : World} {base : Nat} {v : Value} {zs : List Int} (h : Fresh w base v zs) : Calls Try.prog 14 #[v] w fun e w' => e = .returned (.tuple #[(getHead zs).val, .int .i64 (getHeadErr zs)]) ∧ Below w.heap.size w w' := by
  obtain ⟨ao, cap, rfl, hA, _⟩ := h
  exact supOk.get ao _ cap zs w hA
theorem dec_block {w : World} {base : Nat} {v : Value} {s : PSup} (hs : s.sound = true) (h : Fresh w base v (supBlock s)) : Calls Try.prog 12 #[v] w fun e w' => e = .returned (.tuple #[s.val, .int .i64 0]) ∧ Below w.heap.size w w' := by
  have c := dec_fresh h
  rw [(getSup_block hs).1, (getSup_block hs).2.1] at c
  exact c
theorem get_block {w : World} {base : Nat} {v : Value} {s : PHead} (hs : s.sound = true) (h : Fresh w base v (headBlock s)) : Calls Try.prog 14 #[v] w fun e w' => e = .returned (.tuple #[s.val, .int .i64 0]) ∧ Below w.heap.size w w' := by
  have c := get_fresh h
  rw [(getHead_block hs).1, (getHead_block hs).2.1] at c
  exact c

set_option maxHeartbeats 1600000 in
theorem awake08_any (w : World) : Calls Try.prog 11 #[] w fun e w' => e = .returned (.bool true) ∧ Below w.heap.size w w' := by
  go_enter Try.func11, Try.ntmps11
  go_wp2_with (first
    | (go_at_call 7; refine (enc_ok (s := sup64) rfl _).mono ?_; rintro e w1 ⟨v1, rfl, hf1, hb1⟩; have F1 := Lib.hid hf1; have B1 := Lib.hid hb1; clear hf1 hb1)
    | (go_at_call 12; refine (dec_block (s := sup64) rfl F1.out).mono ?_; unfold sup64 PSup.val; rintro e w2 ⟨rfl, hb2⟩; have B2 := Lib.hid (B1.out.trans (hb2.mono B1.out.size)); clear hb2)
    | (go_at_call 9; refine (put_ok (s := head39) rfl _).mono ?_; rintro e w3 ⟨v3, rfl, hf3, hb3⟩; have F3 := Lib.hid hf3; have b2 := B2.out.alloc B2.out.size (.cells #[.int .i64 64, .int .i64 1, .int .i64 0, .int .i64 0, .int .i64 0] 23); have B3 := Lib.hid (b2.trans (hb3.mono b2.size)); have f0 := cell_later hb3 (made_at w2 _ _ 0 (.int .i64 64) rfl); clear hf3 hb3 b2)
    | (go_at_call 14; refine (get_block (s := head39) rfl F3.out).mono ?_; unfold head39 PHead.val; rintro e w4 ⟨rfl, hb4⟩; have B4 := Lib.hid (B3.out.trans (hb4.mono B3.out.size)); have f1 := cell_later ((Below.refl w4.heap.size w4).alloc (Nat.le_refl _) (.cells #[.int .i64 3, .int .i64 9] 25)) (cell_later hb4 f0); clear hb4 f0))
  go_ret
  exact ⟨rfl, B4.out.alloc B4.out.size _⟩

/-- Two variables that were made, of whatever types. -/
theorem made_two {w w5 : World} {T0 T1 : TypeId} {c0 c1 : Array Value} (hb : Below ((w.alloc (.cells c0 T0)).alloc (.cells c1 T1)).heap.size ((w.alloc (.cells c0 T0)).alloc (.cells c1 T1)) w5) :
    (∀ j v, c0[j]? = some v → w5.cell? ⟨w.heap.size, j, none⟩ = some v) ∧ (∀ j v, c1[j]? = some v → w5.cell? ⟨w.heap.size + 1, j, none⟩ = some v) ∧ Below w.heap.size w w5 := by
  have b1 : Below (w.alloc (.cells c0 T0)).heap.size (w.alloc (.cells c0 T0)) w5 := ((Below.refl _ _).alloc (Nat.le_refl _) _).trans (hb.mono (by simp))
  refine ⟨fun j v h => cell_later b1 (by rw [World.cell?_alloc_new]; exact h), fun j v h => ?_, (((Below.refl _ _).alloc (Nat.le_refl _) _).trans (b1.mono (by simp)))⟩
  refine cell_later hb ?_
  rw [← World.size_alloc w (.cells c0 T0), World.cell?_alloc_new]
  exact h

end Go.Proofs.Ytpfapkdenlfmbaa
