/-
  Proved here: what the landed extent's From answers of any pointers.
  The conditions stand at each theorem.
-/
import Derived.Test.YtmgmlebkmdpddaaExtents
import Derived.Test.YtmgmlebkmdpddaaTrNeed
namespace Go.Proofs.Ytmgmlebkmdpddaa
open Go.RowKit
set_option linter.unusedVariables false
set_option linter.unusedSimpArgs false

theorem lay_zeros {zs : List Int} {n : Nat} (h : zs.length ≤ n) : lay (List.replicate n 0) 0 (zs.take n) = zs ++ List.replicate (n - zs.length) 0 := by
  rw [List.take_of_length_le h, lay_eq _ _ _ (by rw [List.length_replicate]; omega), List.take_zero, List.nil_append, Nat.zero_add, List.drop_replicate]

/-- A list of extents of the call's own: what is handed back of these pointers. -/
def OutE (w : World) (base : Nat) (v : Value) (zs : List Int) : Prop := ∃ n vs, w.ownsRow base 33 2 v n vs ∧ CellsE vs (fromE 0 zs)

set_option maxRecDepth 100000 in
set_option maxHeartbeats 3200000 in
theorem From_any (ao : Option Addr) (len cap : Nat) (zs : List Int) (w : World) (hA : IArg w ao len cap zs) :
    Calls Try.prog 26 #[.slice ao len cap] w fun e w' => ∃ v, e = .returned (.tuple #[v, .int .i64 (if ptrsOk zs = true then 0 else 1)]) ∧ OutE w' w.heap.size v (if ptrsOk zs = true then zs else []) ∧ Below w.heap.size w w' := by
  have c := Need_any ao len cap zs w hA
  have HA := Lib.hid hA
  have HN := Lib.hid hA.len
  unfold needOut needErr at c
  by_cases hok : ptrsOk zs = true
  · rw [if_pos hok, if_pos hok]
    rw [hok] at c
    have hl96 : zs.length ≤ 96 := by unfold ptrsOk at hok; rw [Bool.and_eq_true, decide_eq_true_eq] at hok; exact hok.1
    have hap : apartL zs = true := by unfold ptrsOk at hok; rw [Bool.and_eq_true] at hok; exact hok.2
    obtain ⟨F, hF⟩ : ∃ F, zs ++ List.replicate (96 - zs.length) 0 = F := ⟨_, rfl⟩
    have HLAY : Hid (lay (List.replicate 96 0) 0 (zs.take 96) = F) := Lib.hid (by rw [lay_zeros hl96, hF])
    have HL : Hid (F.length = 96) := Lib.hid (by rw [← hF, List.length_append, List.length_replicate]; omega)
    have HAP : Hid (apartL F = true) := Lib.hid (by rw [← hF, apart_zeros]; exact hap)
    have HFR : Hid (fromE 0 F = fromE 0 zs) := Lib.hid (by rw [← hF, from_append_zeros])
    have HI := Lib.hid (iFile HL.out)
    clear hok hA hl96 hap hF
    go_enter Try.func26, Try.ntmps26
    go_wp2_with (first | (go_at_call 40; refine (extents_any w5 HL.out HAP.out).mono ?_; rintro e w6 ⟨v, n, vs, rfl, ho, hc, hb⟩; have HO6 := Lib.hid ho; have HC6 := Lib.hid hc; have HB6 := Lib.hid hb; clear ho hc hb) | (refine wpList_load_mid rfl 59 (.tmp 6) rfl w2.heap.size 0 rfl (ints F) _ HF5.out.2 uFile rfl HI.out ?_) | (refine wp_copy rfl (.tmp 14) (.tmp 15) 34 34 rfl _ _ rfl rfl _ HCC.out ?_; rintro v5 w5 ⟨rfl, hO5, hK5⟩; rw [HLAY.out] at hO5; have HB5 := Lib.hid hO5.2.2.2; have HF5 := Lib.hid (file_of_own hO5 HL.out); clear hO5 hK5) | (go_at_call 39; refine c.mono ?_; rintro e w2 ⟨rfl, hb⟩; have HB := Lib.hid hb; clear hb; have HCC := Lib.hid (own_copy_ints (off := 0) (len := 96) (cap := 96) (made_file w2) (by rw [List.length_replicate]; decide) ao len cap zs ((HA.out.later HB.out).later ((Below.refl _ _).alloc (Nat.le_refl _) _)) 3)))
    go_ret2
    have hs2 : w.heap.size ≤ w2.heap.size := HB.out.size
    have hs5 : w2.heap.size ≤ w5.heap.size := HB5.out.size
    exact ⟨v, rfl, ⟨n, vs, owns_mono_r HO6.out (Nat.le_trans hs2 hs5), by rw [← HFR.out]; exact HC6.out⟩, HB.out.trans ((HB5.out.mono hs2).trans (HB6.out.mono (Nat.le_trans hs2 hs5)))⟩
  · rw [if_neg hok, if_neg hok]
    rw [Bool.not_eq_true] at hok
    rw [hok] at c
    clear hok hA
    go_enter Try.func26, Try.ntmps26
    go_wp2_with (go_at_call 39; refine c.mono ?_; rintro e w2 ⟨rfl, hb⟩; have HB := Lib.hid hb; clear hb)
    go_ret2
    exact ⟨_, rfl, ⟨0, [], owns_nil_r _ _ _ _, CellsE.nil⟩, HB.out⟩

end Go.Proofs.Ytmgmlebkmdpddaa
