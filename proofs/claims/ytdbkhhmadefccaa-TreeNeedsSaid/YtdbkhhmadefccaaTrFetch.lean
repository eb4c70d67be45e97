/-
  Proved here: how the landed tree reads a page out of the block that it lies in (fetch), where that block is there and is one of pointers.
  The conditions stand at each theorem.
-/
import Derived.Test.YtdbkhhmadefccaaTrBlocks
import Derived.Test.YtdbkhhmadefccaaFieldSealed
import Derived.Deep.RegionHeld3
namespace Go.Proofs.Ytdbkhhmadefccaa
open Go.RowKit
set_option linter.unusedVariables false
set_option linter.unusedSimpArgs false

theorem find_index {ws : List (Int × List Int)} {q : Int} {zs : List Int} (h : findW ws q = some zs) : ∃ k, ws[k]? = some (q, zs) ∧ ∀ (j : Nat) (a : Int) (ys : List Int), j < k → ws[j]? = some (a, ys) → a ≠ q := by
  unfold findW at h
  induction ws with
  | nil => simp at h
  | cons w r ih =>
    rw [List.find?_cons] at h
    by_cases hw : w.1 = q
    · rw [decide_eq_true hw] at h
      simp at h
      refine ⟨0, ?_, fun j a ys hj => absurd hj (Nat.not_lt_zero j)⟩
      show some w = _
      rw [← hw, ← h]
    · rw [decide_eq_false hw] at h
      obtain ⟨k, h1, h2⟩ := ih h
      refine ⟨k + 1, h1, fun j a ys hj hjs => ?_⟩
      cases j with
      | zero =>
        have : w = (a, ys) := by simpa using hjs
        rw [this] at hw
        exact hw
      | succ j => exact h2 j a ys (by omega) (by simpa using hjs)

def wV (a : Int) (ad : Option Addr) (l c : Nat) : Value := .agg #[.int .i64 a, .slice ad l c]

/-- What a closure over a chart and a page's number reads. -/
structure Caps (w : World) (g B1 B2 i : Nat) (q : Int) : Prop where
  c1 : w.cell? ⟨B1, 0, none⟩ = some (.pointer (some ⟨g, 0, none⟩))
  c2 : w.cell? ⟨B2, 0, none⟩ = some (.int .i64 (i : Int))
  c3 : w.cell? ⟨g, 154 + i, none⟩ = some (.int .i64 q)
theorem Caps.later {w wx : World} {g B1 B2 i : Nat} {q : Int} (h : Caps w g B1 B2 i q) (hb : Below w.heap.size w wx) : Caps wx g B1 B2 i q := ⟨cell_later hb h.c1, cell_later hb h.c2, cell_later hb h.c3⟩

set_option maxRecDepth 100000 in
set_option maxHeartbeats 1600000 in
theorem fetch1_any (a : Int) (ad : Option Addr) (l c : Nat) {g B1 B2 i : Nat} {q : Int} (w : World) (hC : Caps w g B1 B2 i q) (hi : i < 5) :
    Calls Try.prog 53 #[wV a ad l c, .pointer (some ⟨B1, 0, none⟩), .pointer (some ⟨B2, 0, none⟩)] w fun e w' => e = .returned (.bool (decide (a = q))) ∧ Below w.heap.size w w' := by
  have HC : Hid (∀ o, Caps (w.alloc o) g B1 B2 i q) := Lib.hid (fun o => hC.later ((Below.refl _ _).alloc (Nat.le_refl _) _))
  have c1 := fun o => (HC.out o).c1
  have c2 := fun o => (HC.out o).c2
  have c3 := fun o => (HC.out o).c3
  have HB : Hid (∀ o, Below w.heap.size w (w.alloc o)) := Lib.hid (fun o => (Below.refl _ _).alloc (Nat.le_refl _) _)
  have i1 : (i : Int) < 5 := by omega
  have i0 : (0 : Int) ≤ (i : Int) := by omega
  have e1 : (a == q) = decide (a = q) := by
    by_cases h : a = q
    · rw [decide_eq_true h]; simpa using h
    · rw [decide_eq_false h]; simpa using h
  have HE := Lib.hid e1
  clear hC e1
  unfold wV
  go_enter Try.func53, Try.ntmps53
  go_wp2_with fail
  go_quiet (fail)
  go_wp2_with fail
  go_ret
  exact ⟨by rw [← HE.out]; rfl, below_drewN (HB.out _) _⟩

set_option maxRecDepth 100000 in
set_option maxHeartbeats 1600000 in
theorem indexW_any {w : World} {ao : Option Addr} {m cap g B1 B2 i k : Nat} {q : Int} {ws : List (Int × List Int)} {zs : List Int} (hL : WIs w ao m ws) (hC : Caps w g B1 B2 i q) (hi5 : i < 5) (hk : ws[k]? = some (q, zs)) (hk2 : ∀ (j : Nat) (a : Int) (ys : List Int), j < k → ws[j]? = some (a, ys) → a ≠ q) :
    Calls Try.prog 52 #[.slice ao m cap, .func (.func 53) #[] #[.pointer (some ⟨B1, 0, none⟩), .pointer (some ⟨B2, 0, none⟩)]] w fun e w' => e = .returned (.int .i64 (k : Int)) ∧ Below w.heap.size w w' := by
  have HL := Lib.hid hL
  have HC := Lib.hid hC
  have HK := Lib.hid hk
  have HK2 := Lib.hid hk2
  have hm := hL.2.1
  have hkm : k < m := by
    have := (List.getElem?_eq_some_iff.1 hk).1
    have := hL.1
    omega
  clear hL hC hk hk2
  go_enter Try.func52, Try.ntmps52
  go_wp2_with fail
  go_loopw [8] (fun iv wr => ∃ n : Nat, iv = .int .i64 (n : Int) ∧ n ≤ k ∧ Hid (Below w.heap.size w wr)) (fun iv _ => m - (intOf iv).toNat)
  case atStart => exact ⟨0, rfl, Nat.zero_le _, Lib.hid (Below.refl _ _)⟩
  case round =>
    obtain ⟨n, rfl, hn, HB⟩ := hrel
    have hlt : n < m := by omega
    obtain ⟨b, off, x, ys, ad, l, c, rfl, hp, d1, _, d2, _⟩ := (HL.out.later HB.out).at hlt
    have i1 : (n : Int) < (m : Int) := by omega
    have cF := fetch1_any x ad l c wr (HC.out.later HB.out) hi5
    unfold wV at cF
    by_cases he : n = k
    · subst he
      have hxq : x = q := by
        have h := HK.out
        rw [hp] at h
        simp at h
        exact h.1
      rw [decide_eq_true hxq] at cF
      clear hp hxq
      go_wp2_with (go_at_call 53; refine cF.mono ?_; rintro e w3 ⟨rfl, hb3⟩; have HB3 := Lib.hid hb3; clear hb3)
      go_ret
      exact ⟨rfl, HB.out.trans (HB3.out.mono HB.out.size)⟩
    · have hxq : x ≠ q := HK2.out n x ys (by omega) hp
      rw [decide_eq_false hxq] at cF
      clear hp hxq
      go_wp2_with (go_at_call 53; refine cF.mono ?_; rintro e w3 ⟨rfl, hb3⟩; have HB3 := Lib.hid hb3; clear hb3)
      go_roundw
      case rel => exact ⟨n + 1, by go_num, by omega, Lib.hid (HB.out.trans (HB3.out.mono HB.out.size))⟩
      case measure => simp [intOf]; omega

/-- No page: nothing is read. -/
theorem fetch0_any {w : World} {g i : Nat} {ao : Option Addr} {m cap : Nat} (hc : w.cell? ⟨g, 154 + i, none⟩ = some (.int .i64 0)) (hi : i < 5) :
    Calls Try.prog 43 #[.pointer (some ⟨g, 0, none⟩), .int .i64 (i : Int), .slice ao m cap] w fun e w' => e = .returned (.bool true) ∧ Below w.heap.size w w' := by
  have HB : Hid (∀ o p, Below w.heap.size w ((w.alloc o).alloc p)) := Lib.hid (fun o p => ((Below.refl _ _).alloc (Nat.le_refl _) _).alloc (by simp) _)
  have hc2 : ∀ o p, ((w.alloc o).alloc p).cell? ⟨g, 154 + i, none⟩ = some (.int .i64 0) := fun o p => cell_later (HB.out o p) hc
  have i1 : (i : Int) < 5 := by omega
  have i0 : (0 : Int) ≤ (i : Int) := by omega
  clear hc
  go_enter Try.func43, Try.ntmps43
  go_wp2_with fail
  go_quiet (fail)
  go_wp2_with fail
  go_ret
  exact ⟨rfl, below_drewN (HB.out _ _) _⟩

end Go.Proofs.Ytdbkhhmadefccaa
