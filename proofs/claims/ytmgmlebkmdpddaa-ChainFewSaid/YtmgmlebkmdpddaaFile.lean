/-
  Proved here: the landed extent's file: what its two closures say of a place, and what seek answers.
  The conditions stand at each theorem.
-/
import Derived.Test.YtmgmlebkmdpddaaZero
import Derived.Test.YtmgmlebkmdpddaaTrNeeds
namespace Go.Proofs.Ytmgmlebkmdpddaa
open Go.RowKit
set_option linter.unusedVariables false
set_option linter.unusedSimpArgs false

def fileV (F : List Int) : Value := .agg (ints F).toArray
/-- Block b is a file: its 96 numbers. -/
def FileAt (w : World) (b : Nat) (F : List Int) : Prop := F.length = 96 ∧ w.rangeAt b 0 (ints F)

theorem uFile : Try.prog.underlying 59 = some (.array 96 3) := Try.underlying59
theorem iFile {F : List Int} (h : F.length = 96) : (Try.prog.info? 59).map (·.size) = some (ints F).length := by rw [ints_length, h]; kernel_rfl

theorem FileAt.later {w wx : World} {b : Nat} {F : List Int} (h : FileAt w b F) (hb : Below w.heap.size w wx) : FileAt wx b F := ⟨h.1, fun j v hj => cell_later hb (h.2 j v hj)⟩
theorem FileAt.cell {w : World} {b k : Nat} {F : List Int} (h : FileAt w b F) (hk : k < 96) : w.cell? ⟨b, k, none⟩ = some (.int .i64 (F.getD k 0)) := by
  have := h.2 k (.int .i64 (F.getD k 0)) (ints_get (by rw [List.getD_eq_getElem?_getD, List.getElem?_eq_getElem (by rw [h.1]; exact hk)]; rfl))
  rwa [Nat.zero_add] at this
theorem file_new (w : World) {F : List Int} (h : F.length = 96) (T : TypeId) : FileAt (w.alloc (.cells (ints F).toArray T)) w.heap.size F := ⟨h, fun j v hj => by
  rw [Nat.zero_add, World.cell?_alloc_new]
  simpa using hj⟩
theorem file_of_own {base g : Nat} {w0 w : World} {F : List Int} (h : OwnV base w0 g (ints F) w) (hl : F.length = 96) : FileAt w g F := ⟨hl, own_range h⟩

/-- Is it so of a place that a block lies there? -/
def liesB (F : List Int) (k : Nat) : Bool := F.getD k 0 != 0
/-- Is it so of a place that the blocks go on no longer? -/
def endsB (F : List Int) (s : Int) (k : Nat) : Bool := F.getD k 0 != s + k

set_option maxHeartbeats 800000 in
theorem lies_any {w : World} {b k : Nat} {F : List Int} (hF : FileAt w b F) (hk : k < 96) :
    Calls Try.prog 48 #[.int .i64 (k : Int), .pointer (some ⟨b, 0, none⟩)] w fun e w' => e = .returned (.bool (liesB F k)) ∧ Below w.heap.size w w' := by
  have d1 := hF.cell hk
  unfold liesB
  obtain ⟨x, hx⟩ : ∃ x, F.getD k 0 = x := ⟨_, rfl⟩
  rw [hx] at d1 ⊢
  have i1 : (k : Int) < 96 := by omega
  clear hF hx
  go_enter Try.func48, Try.ntmps48
  go_wp2_with fail
  go_ret
  exact ⟨rfl, Below.refl _ _⟩

set_option maxHeartbeats 1600000 in
theorem ends_any {w : World} {b s k : Nat} {F : List Int} {x : Int} (hF : FileAt w b F) (hs : w.cell? ⟨s, 0, none⟩ = some (.int .i64 x)) (hx : -1000 ≤ x ∧ x ≤ 1000) (hk : k < 96) :
    Calls Try.prog 50 #[.int .i64 (k : Int), .pointer (some ⟨b, 0, none⟩), .pointer (some ⟨s, 0, none⟩)] w fun e w' => e = .returned (.bool (endsB F x k)) ∧ Below w.heap.size w w' := by
  have d1 := hF.cell hk
  have e1 : endsB F x k = (F.getD k 0 != x + k) := rfl
  rw [e1]
  obtain ⟨y, hy⟩ : ∃ y, F.getD k 0 = y := ⟨_, rfl⟩
  rw [hy] at d1 ⊢
  have i1 : (k : Int) < 96 := by omega
  have i2 : wrap64 (x + (k : Int)) = x + k := by unfold wrap64; omega
  clear hF hy e1
  go_enter Try.func50, Try.ntmps50
  go_wp2_with fail
  go_quiet (fail)
  go_wp2_with fail
  go_ret
  exact ⟨rfl, below_drewN (Below.refl _ _) _⟩

set_option maxRecDepth 100000 in
set_option maxHeartbeats 1600000 in
theorem seekL_any {w : World} {b from_ : Nat} {F G : List Int}  (hF : FileAt w b F) (hG : G.length = 96)  (hf : from_ ≤ 96) :
    Calls Try.prog 49 #[fileV G, .int .i64 (from_ : Int), .func (.func 48) #[] #[.pointer (some ⟨b, 0, none⟩)]] w fun e w' => ∃ r : Nat, e = .returned (.int .i64 (r : Int)) ∧ (from_ ≤ r ∧ r ≤ 96) ∧ (∀ k, from_ ≤ k → k < r → liesB F k = false) ∧ (r < 96 → liesB F r = true) ∧ Below w.heap.size w w' := by
  have HF := Lib.hid hF
  unfold fileV
  have HG := Lib.hid hG
  clear hF hG
  go_enter Try.func49, Try.ntmps49
  go_wp2_with fail
  go_loopw [1] (fun iv wr => ∃ i : Nat, iv = .int .i64 (i : Int) ∧ (from_ ≤ i ∧ i ≤ 96) ∧ Hid (Below w.heap.size w wr) ∧ Hid (∀ k, from_ ≤ k → k < i → liesB F k = false)) (fun iv _ => 96 - (intOf iv).toNat)
  case atStart => exact ⟨from_, rfl, ⟨Nat.le_refl _, hf⟩, Lib.hid ((Below.refl _ _).alloc (Nat.le_refl _) _), Lib.hid (fun k h1 h2 => by omega)⟩
  case round =>
    obtain ⟨i, rfl, hi, HB, HP⟩ := hrel
    by_cases hlt : i < 96
    · have cF := lies_any (HF.out.later HB.out) hlt
      have i1 : (i : Int) < 96 := by omega
      obtain ⟨B, hB⟩ : ∃ B, liesB F i = B := ⟨_, rfl⟩
      have HV := Lib.hid hB
      rw [hB] at cF
      clear hB
      cases B with
      | true =>
        go_wp2_with (go_at_call 48; refine cF.mono ?_; rintro e w3 ⟨rfl, hb3⟩; have HB3 := Lib.hid hb3; clear hb3)
        go_ret
        exact ⟨i, rfl, hi, HP.out, fun _ => HV.out, HB.out.trans (HB3.out.mono HB.out.size)⟩
      | false =>
        go_wp2_with (go_at_call 48; refine cF.mono ?_; rintro e w3 ⟨rfl, hb3⟩; have HB3 := Lib.hid hb3; clear hb3)
        go_roundw
        case rel => exact ⟨i + 1, by go_num, by omega, Lib.hid (HB.out.trans (HB3.out.mono HB.out.size)), Lib.hid (fun k h1 h2 => by
          by_cases hk : k = i
          · subst hk; exact HV.out
          · exact HP.out k h1 (by omega))⟩
        case measure => simp [intOf]; omega
    · have hin : i = 96 := by omega
      subst hin
      go_wp2_with fail
      go_ret
      exact ⟨96, rfl, hi, HP.out, fun h => absurd h (by decide), HB.out⟩

set_option maxRecDepth 100000 in
set_option maxHeartbeats 1600000 in
theorem seekE_any {w : World} {b from_ : Nat} {F G : List Int} {s : Nat} {x : Int} (hF : FileAt w b F) (hG : G.length = 96) (hs : w.cell? ⟨s, 0, none⟩ = some (.int .i64 x)) (hx : -1000 ≤ x ∧ x ≤ 1000) (hf : from_ ≤ 96) :
    Calls Try.prog 49 #[fileV G, .int .i64 (from_ : Int), .func (.func 50) #[] #[.pointer (some ⟨b, 0, none⟩), .pointer (some ⟨s, 0, none⟩)]] w fun e w' => ∃ r : Nat, e = .returned (.int .i64 (r : Int)) ∧ (from_ ≤ r ∧ r ≤ 96) ∧ (∀ k, from_ ≤ k → k < r → endsB F x k = false) ∧ (r < 96 → endsB F x r = true) ∧ Below w.heap.size w w' := by
  have HF := Lib.hid hF
  have HS := Lib.hid hs
  clear hs
  unfold fileV
  have HG := Lib.hid hG
  clear hF hG
  go_enter Try.func49, Try.ntmps49
  go_wp2_with fail
  go_loopw [1] (fun iv wr => ∃ i : Nat, iv = .int .i64 (i : Int) ∧ (from_ ≤ i ∧ i ≤ 96) ∧ Hid (Below w.heap.size w wr) ∧ Hid (∀ k, from_ ≤ k → k < i → endsB F x k = false)) (fun iv _ => 96 - (intOf iv).toNat)
  case atStart => exact ⟨from_, rfl, ⟨Nat.le_refl _, hf⟩, Lib.hid ((Below.refl _ _).alloc (Nat.le_refl _) _), Lib.hid (fun k h1 h2 => by omega)⟩
  case round =>
    obtain ⟨i, rfl, hi, HB, HP⟩ := hrel
    by_cases hlt : i < 96
    · have cF := ends_any (HF.out.later HB.out) (cell_later HB.out HS.out) hx hlt
      have i1 : (i : Int) < 96 := by omega
      obtain ⟨B, hB⟩ : ∃ B, endsB F x i = B := ⟨_, rfl⟩
      have HV := Lib.hid hB
      rw [hB] at cF
      clear hB
      cases B with
      | true =>
        go_wp2_with (go_at_call 50; refine cF.mono ?_; rintro e w3 ⟨rfl, hb3⟩; have HB3 := Lib.hid hb3; clear hb3)
        go_ret
        exact ⟨i, rfl, hi, HP.out, fun _ => HV.out, HB.out.trans (HB3.out.mono HB.out.size)⟩
      | false =>
        go_wp2_with (go_at_call 50; refine cF.mono ?_; rintro e w3 ⟨rfl, hb3⟩; have HB3 := Lib.hid hb3; clear hb3)
        go_roundw
        case rel => exact ⟨i + 1, by go_num, by omega, Lib.hid (HB.out.trans (HB3.out.mono HB.out.size)), Lib.hid (fun k h1 h2 => by
          by_cases hk : k = i
          · subst hk; exact HV.out
          · exact HP.out k h1 (by omega))⟩
        case measure => simp [intOf]; omega
    · have hin : i = 96 := by omega
      subst hin
      go_wp2_with fail
      go_ret
      exact ⟨96, rfl, hi, HP.out, fun h => absurd h (by decide), HB.out⟩

end Go.Proofs.Ytmgmlebkmdpddaa
