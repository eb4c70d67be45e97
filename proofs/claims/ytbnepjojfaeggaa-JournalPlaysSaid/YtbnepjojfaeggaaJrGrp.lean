/-
  Proved here: groups of writes that a call has built, in memory.
  The conditions stand at each theorem.
-/
import Derived.Test.YtbnepjojfaeggaaJrM
namespace Go.Proofs.Ytbnepjojfaeggaa
open Go.RowKit
set_option linter.unusedVariables false
set_option linter.unusedSimpArgs false

theorem ListIs.wide {w : World} {H H' : Nat → Prop} {ao : Option Addr} {m : Nat} {ws : List (Int × List Int)} (h : ListIs w H ao m ws) (hi : ∀ k, H k → H' k) : ListIs w H' ao m ws := by
  obtain ⟨h1, h2, h3⟩ := h
  refine ⟨h1, h2, h3.imp_right ?_⟩
  rintro ⟨b, off, rfl, hg, hc⟩
  refine ⟨b, off, rfl, hi _ hg, fun j a zs hj => ?_⟩
  obtain ⟨c1, c2, ad, l, c, c3, hA, c4⟩ := hc j a zs hj
  exact ⟨c1, c2, ad, l, c, c3, hA, fun b' o s e hl => hi _ (c4 b' o s e hl)⟩
theorem list_none (w : World) (H : Nat → Prop) : ListIs w H none 0 [] := ⟨rfl, Nat.zero_le _, Or.inl rfl⟩
theorem gs_one {w : World} {T : TypeId} {H : Nat → Prop} {lo : Option Addr} {ll lc : Nat} {g : List (Int × List Int)} (h : ListIs w H lo ll g) (hH : H w.heap.size) : GsIs (w.alloc (.cells #[.slice lo ll lc] T)) H (some ⟨w.heap.size, 0, none⟩) 1 [g] := by
  have hb : Below w.heap.size w (w.alloc (.cells #[.slice lo ll lc] T)) := (Below.refl _ _).alloc (Nat.le_refl _) _
  refine ⟨rfl, by decide, Or.inr ⟨w.heap.size, 0, rfl, hH, fun j x hj => ?_⟩⟩
  match j, hj with
  | 0, hj =>
    obtain rfl : g = x := by simpa using hj
    exact ⟨lo, ll, lc, by simp, h.later hb⟩
  | j + 1, hj => simp at hj
theorem gs_three {w : World} {T : TypeId} {H : Nat → Prop} {o1 o2 o3 : Option Addr} {l1 l2 l3 c1 c2 c3 : Nat} {g1 g2 g3 : List (Int × List Int)} (h1 : ListIs w H o1 l1 g1) (h2 : ListIs w H o2 l2 g2) (h3 : ListIs w H o3 l3 g3) (hH : H w.heap.size) :
    GsIs (w.alloc (.cells #[.slice o1 l1 c1, .slice o2 l2 c2, .slice o3 l3 c3] T)) H (some ⟨w.heap.size, 0, none⟩) 3 [g1, g2, g3] := by
  have hb : Below w.heap.size w (w.alloc (.cells #[.slice o1 l1 c1, .slice o2 l2 c2, .slice o3 l3 c3] T)) := (Below.refl _ _).alloc (Nat.le_refl _) _
  refine ⟨rfl, by decide, Or.inr ⟨w.heap.size, 0, rfl, hH, fun j x hj => ?_⟩⟩
  match j, hj with
  | 0, hj =>
    obtain rfl : g1 = x := by simpa using hj
    exact ⟨o1, l1, c1, by simp, h1.later hb⟩
  | 1, hj =>
    obtain rfl : g2 = x := by simpa using hj
    exact ⟨o2, l2, c2, by simp, h2.later hb⟩
  | 2, hj =>
    obtain rfl : g3 = x := by simpa using hj
    exact ⟨o3, l3, c3, by simp, h3.later hb⟩
  | j + 3, hj => simp at hj
theorem Fresh.inb {w : World} {base : Nat} {ao : Option Addr} {l c : Nat} {zs : List Int} (h : Fresh w base (.slice ao l c) zs) (h0 : zs ≠ []) : l = zs.length ∧ Arg w ao l c zs ∧ ∀ b' o s, ao = some ⟨b', o, s⟩ → base ≤ b' ∧ b' < w.heap.size := by
  obtain ⟨ao', c', hv, hA, hn⟩ := h
  injection hv with e1 e2 e3
  subst e1 e2 e3
  refine ⟨rfl, hA, fun b' o s e => ?_⟩
  obtain ⟨g, o2, e2, hg, _⟩ := hn.resolve_left h0
  rw [e] at e2
  cases e2
  refine ⟨hg, ?_⟩
  rcases hA.1.2.2.2 with h | ⟨b2, o3, e3, hc⟩
  · exact absurd (List.length_eq_zero_iff.1 h) h0
  · rw [e] at e3
    cases e3
    exact World.block_lt_of_cell? _ _ (hc 0 (by cases zs with | nil => exact absurd rfl h0 | cons _ _ => exact Nat.succ_pos _))
theorem logA_in2 (a : Nat) : 0 ≤ logA a ∧ logA a < 59 := by unfold logA; omega
end Go.Proofs.Ytbnepjojfaeggaa
