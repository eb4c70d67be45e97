/-
  Proved here: what the landed node's pointers, and what is asked of each of them, answer.
  The conditions stand at each theorem.
-/
import Derived.Test.YtojfhhmjoledjaaNExt
import Derived.Test.YtojfhhmjoledjaaNSameL
import Derived.BigRegion
import Derived.StillTailTactics
namespace Go.Proofs.Ytojfhhmjoledjaa
open Go.RowKit
set_option linter.unusedVariables false
set_option linter.unusedSimpArgs false

theorem drew_of9 (w : World) : { w with drawn := w.drawn + 1 } = w.drew := rfl

/-- Block b holds the addresses of the six pointers of the node in block g. -/
def PtrsAre (w : World) (b g : Nat) : Prop := ∀ j, j < 6 → w.cell? ⟨b, j, none⟩ = some (.pointer (some ⟨g, 4 + j, none⟩))

theorem PtrsAre.later {w w' : World} {b g : Nat} (h : PtrsAre w b g) (hb : Below w.heap.size w w') : PtrsAre w' b g := fun j hj => cell_later hb (h j hj)

theorem new_cell9 (w : World) (cs : Array Value) (T : TypeId) (j : Nat) (v : Value) (h : cs[j]? = some v) : (w.alloc (.cells cs T)).drew.cell? ⟨w.heap.size, j, none⟩ = some v := by
  show (w.alloc (.cells cs T)).cell? ⟨w.heap.size, j, none⟩ = some v
  rw [World.cell?_alloc_new]; exact h

set_option maxRecDepth 100000 in
set_option maxHeartbeats 800000 in
theorem pointers_any (g : Nat) (w : World) : Calls Try.prog 29 #[.pointer (some ⟨g, 0, none⟩)] w fun e w' => e = .returned (.slice (some ⟨w.heap.size, 0, none⟩) (6 : Nat) (6 : Nat)) ∧ PtrsAre w' w.heap.size g ∧ Below w.heap.size w w' := by
  go_enter Try.func29, Try.ntmps29
  go_wp2_with fail
  refine wp_region_still_tail 22 (by kernel_rfl) (by kernel_rfl) ?_
  simp only [List.take_succ_cons, List.take_zero, List.drop_succ_cons, List.drop_zero]
  try rw [drew_of9]
  iterate 22 still_step
  refine wpStill_nil ?_
  go_wp2_with fail
  go_ret
  refine ⟨rfl, fun j hj => ?_, ((Below.refl _ _).alloc (Nat.le_refl _) _).drew⟩
  match j, hj with
  | 0, _ | 1, _ | 2, _ | 3, _ | 4, _ | 5, _ => exact new_cell9 w _ _ _ _ rfl

theorem map1_any (p : Int) (g o : Nat) (w : World) (hc : w.cell? ⟨g, o, none⟩ = some (.int .i64 p)) : Calls Try.prog 44 #[.pointer (some ⟨g, o, none⟩)] w fun e w' => e = .returned (.bool (!ptrOk p)) ∧ w = w' := by
  have c := soundPointer_any p w
  generalize ptrOk p = t at *
  go_enter Try.func44, Try.ntmps44
  go_wp2_with (go_at_call 45; refine c.mono ?_; rintro e w' ⟨rfl, rfl⟩)
  go_ret
  exact ⟨rfl, rfl⟩

def not0 (p : Int) : Bool := !decide (p = 0)
theorem map2_any (p : Int) (g o : Nat) (w : World) (hc : w.cell? ⟨g, o, none⟩ = some (.int .i64 p)) : Calls Try.prog 46 #[.pointer (some ⟨g, o, none⟩)] w fun e w' => e = .returned (.bool (not0 p)) ∧ w = w' := by
  unfold not0
  by_cases h : p = 0
  · subst h
    go_enter Try.func46, Try.ntmps46
    go_wp2_with fail
    go_ret
    exact ⟨rfl, rfl⟩
  · have h1 : (p != 0) = true := by simp [h]
    have h2 : decide (p = 0) = false := by simp [h]
    rw [h2]
    clear h
    go_enter Try.func46, Try.ntmps46
    go_wp2_with fail
    go_ret
    exact ⟨rfl, rfl⟩

theorem any_take_i {p : Int → Bool} {l : List Int} {i : Nat} {x : Int} (h : l[i]? = some x) (h0 : (l.take i).any p = false) : (l.take (i + 1)).any p = p x := by
  rw [List.take_add_one, h, List.any_append, h0]
  simp

theorem any_of_take_i {p : Int → Bool} {l : List Int} {i : Nat} (h : (l.take i).any p = true) : l.any p = true := by
  rw [List.any_eq_true] at h ⊢
  obtain ⟨x, hx, hp⟩ := h
  exact ⟨x, List.mem_of_mem_take hx, hp⟩

/-- The six pointers' cells. -/
def SixAre (w : World) (g : Nat) (l : List Int) : Prop := l.length = 6 ∧ ∀ j x, l[j]? = some x → w.cell? ⟨g, 4 + j, none⟩ = some (.int .i64 x)

set_option maxRecDepth 100000 in
set_option maxHeartbeats 1600000 in
theorem indexP1_any {w : World} {b g : Nat} {l : List Int} (hp : PtrsAre w b g) (hl : SixAre w g l) :
    Calls Try.prog 55 #[.slice (some ⟨b, 0, none⟩) (6 : Nat) (6 : Nat), .func (.func 44) #[] #[]] w fun e w' => ∃ r : Int, e = .returned (.int .i64 r) ∧ decide (0 ≤ r) = l.any (fun p => !ptrOk p) ∧ (-1 ≤ r ∧ r ≤ 6) ∧ w = w' := by
  have HP := Lib.hid hp
  have HL := Lib.hid hl
  clear hp hl
  go_enter Try.func55, Try.ntmps55
  go_wp2_with fail
  go_loopw [8] (fun iv wr => ∃ i : Nat, iv = .int .i64 (i : Int) ∧ i ≤ 6 ∧ Hid (w = wr) ∧ Hid ((l.take i).any (fun p => !ptrOk p) = false)) (fun iv _ => 6 - (intOf iv).toNat)
  case atStart => exact ⟨0, rfl, Nat.zero_le _, Lib.hid rfl, Lib.hid rfl⟩
  case round =>
    obtain ⟨i, rfl, hi, HB, HQ⟩ := hrel
    by_cases hlt : i < 6
    · obtain ⟨x, hx⟩ : ∃ x, l[i]? = some x := ⟨_, List.getElem?_eq_getElem (by rw [HL.out.1]; exact hlt)⟩
      have d1 : wr.cell? ⟨b, i, none⟩ = some (.pointer (some ⟨g, 4 + i, none⟩)) := by rw [← HB.out]; exact HP.out i hlt
      have d2 : wr.cell? ⟨g, 4 + i, none⟩ = some (.int .i64 x) := by rw [← HB.out]; exact HL.out.2 i x hx
      have cF := map1_any x g (4 + i) wr d2
      have i1 : (i : Int) < 6 := by omega
      have HX := Lib.hid hx
      clear hx d2
      by_cases hv : (fun p => !ptrOk p) x = true
      · have HS := Lib.hid ((any_take_i (p := (fun p => !ptrOk p)) HX.out HQ.out).trans hv)
        have HV := Lib.hid (any_of_take_i HS.out)
        rw [show (!ptrOk x) = true from hv] at cF
        clear hv HS
        go_wp2_with (go_at_call 44; refine cF.mono ?_; rintro e w3 ⟨rfl, rfl⟩)
        go_ret
        exact ⟨(i : Int), rfl, by rw [HV.out]; exact decide_eq_true (by omega), by omega, HB.out⟩
      · rw [Bool.not_eq_true] at hv
        have HS := Lib.hid ((any_take_i (p := (fun p => !ptrOk p)) HX.out HQ.out).trans hv)
        rw [show (!ptrOk x) = false from hv] at cF
        clear hv
        go_wp2_with (go_at_call 44; refine cF.mono ?_; rintro e w3 ⟨rfl, rfl⟩)
        go_roundw
        case rel => exact ⟨i + 1, by go_num, by omega, HB, HS⟩
        case measure => simp [intOf]; omega
    · have hin : i = 6 := by omega
      subst hin
      go_wp2_with fail
      go_ret
      refine ⟨-1, rfl, ?_, by omega, HB.out⟩
      have h := HQ.out
      rw [← HL.out.1, List.take_length] at h
      rw [h]
      rfl

theorem containsP1_any {w : World} {b g : Nat} {l : List Int} (hp : PtrsAre w b g) (hl : SixAre w g l) :
    Calls Try.prog 43 #[.slice (some ⟨b, 0, none⟩) (6 : Nat) (6 : Nat), .func (.func 44) #[] #[]] w fun e w' => e = .returned (.bool (l.any (fun p => !ptrOk p))) ∧ w = w' := by
  have c := indexP1_any hp hl
  clear hp hl
  go_enter Try.func43, Try.ntmps43
  go_wp2_with (go_at_call 55; refine c.mono ?_; rintro e w2 ⟨r, rfl, hr, hrb, rfl⟩; have HR := Lib.hid hr; clear hr)
  go_ret
  exact ⟨by rw [← HR.out]; rfl, rfl⟩

set_option maxRecDepth 100000 in
set_option maxHeartbeats 1600000 in
theorem indexP2_any {w : World} {b g : Nat} {l : List Int} (hp : PtrsAre w b g) (hl : SixAre w g l) :
    Calls Try.prog 55 #[.slice (some ⟨b, 0, none⟩) (6 : Nat) (6 : Nat), .func (.func 46) #[] #[]] w fun e w' => ∃ r : Int, e = .returned (.int .i64 r) ∧ decide (0 ≤ r) = l.any not0 ∧ (-1 ≤ r ∧ r ≤ 6) ∧ w = w' := by
  have HP := Lib.hid hp
  have HL := Lib.hid hl
  clear hp hl
  go_enter Try.func55, Try.ntmps55
  go_wp2_with fail
  go_loopw [8] (fun iv wr => ∃ i : Nat, iv = .int .i64 (i : Int) ∧ i ≤ 6 ∧ Hid (w = wr) ∧ Hid ((l.take i).any not0 = false)) (fun iv _ => 6 - (intOf iv).toNat)
  case atStart => exact ⟨0, rfl, Nat.zero_le _, Lib.hid rfl, Lib.hid rfl⟩
  case round =>
    obtain ⟨i, rfl, hi, HB, HQ⟩ := hrel
    by_cases hlt : i < 6
    · obtain ⟨x, hx⟩ : ∃ x, l[i]? = some x := ⟨_, List.getElem?_eq_getElem (by rw [HL.out.1]; exact hlt)⟩
      have d1 : wr.cell? ⟨b, i, none⟩ = some (.pointer (some ⟨g, 4 + i, none⟩)) := by rw [← HB.out]; exact HP.out i hlt
      have d2 : wr.cell? ⟨g, 4 + i, none⟩ = some (.int .i64 x) := by rw [← HB.out]; exact HL.out.2 i x hx
      have cF := map2_any x g (4 + i) wr d2
      have i1 : (i : Int) < 6 := by omega
      have HX := Lib.hid hx
      clear hx d2
      by_cases hv : not0 x = true
      · have HS := Lib.hid ((any_take_i (p := not0) HX.out HQ.out).trans hv)
        have HV := Lib.hid (any_of_take_i HS.out)
        rw [show not0 x = true from hv] at cF
        clear hv HS
        go_wp2_with (go_at_call 46; refine cF.mono ?_; rintro e w3 ⟨rfl, rfl⟩)
        go_ret
        exact ⟨(i : Int), rfl, by rw [HV.out]; exact decide_eq_true (by omega), by omega, HB.out⟩
      · rw [Bool.not_eq_true] at hv
        have HS := Lib.hid ((any_take_i (p := not0) HX.out HQ.out).trans hv)
        rw [show not0 x = false from hv] at cF
        clear hv
        go_wp2_with (go_at_call 46; refine cF.mono ?_; rintro e w3 ⟨rfl, rfl⟩)
        go_roundw
        case rel => exact ⟨i + 1, by go_num, by omega, HB, HS⟩
        case measure => simp [intOf]; omega
    · have hin : i = 6 := by omega
      subst hin
      go_wp2_with fail
      go_ret
      refine ⟨-1, rfl, ?_, by omega, HB.out⟩
      have h := HQ.out
      rw [← HL.out.1, List.take_length] at h
      rw [h]
      rfl

theorem containsP2_any {w : World} {b g : Nat} {l : List Int} (hp : PtrsAre w b g) (hl : SixAre w g l) :
    Calls Try.prog 43 #[.slice (some ⟨b, 0, none⟩) (6 : Nat) (6 : Nat), .func (.func 46) #[] #[]] w fun e w' => e = .returned (.bool (l.any not0)) ∧ w = w' := by
  have c := indexP2_any hp hl
  clear hp hl
  go_enter Try.func43, Try.ntmps43
  go_wp2_with (go_at_call 55; refine c.mono ?_; rintro e w2 ⟨r, rfl, hr, hrb, rfl⟩; have HR := Lib.hid hr; clear hr)
  go_ret
  exact ⟨by rw [← HR.out]; rfl, rfl⟩

end Go.Proofs.Ytojfhhmjoledjaa
