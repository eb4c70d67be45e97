/-
  Proved here: what slices.Clone of extents answers; extents that are appended to a row of the call's own.
  The conditions stand at each theorem.
-/
import Derived.Test.YtmgmlebkmdpddaaChWrite
namespace Go.Proofs.Ytmgmlebkmdpddaa
open Go.RowKit
set_option linter.unusedVariables false
set_option linter.unusedSimpArgs false

/-- The values that extents in memory are. -/
theorem EIs.vals {w : World} {b off n : Nat} {xs : List EX} (h : EIs w (some ⟨b, off, none⟩) n xs) : ∀ k, k ≤ n → ∃ vs, CellsE vs (xs.take k) ∧ (∀ u ∈ vs, u.oneCell' = true) ∧ ∀ j u, vs[j]? = some u → w.cell? ⟨b, off + j, none⟩ = some u
  | 0, _ => ⟨[], by rw [List.take_zero]; exact CellsE.nil, by simp, by simp⟩
  | k + 1, hk => by
    obtain ⟨vs, h1, h2, h3⟩ := EIs.vals h k (by omega)
    obtain ⟨b', off', x, p, q, he, hx, hm, c1, c2, f1, f2⟩ := h.at (i := k) (by omega)
    simp only [Option.some.injEq, Addr.mk.injEq, and_true] at he
    obtain ⟨rfl, rfl⟩ := he
    have hl : (xs.take k).length = k := by rw [List.length_take, h.1]; omega
    have hv : vs.length = k * 2 := by rw [h1.1, hl]
    refine ⟨vs ++ [.int .i64 x.a, .complex .f64 p q], by rw [List.take_add_one, hx]; exact h1.snoc f1 f2, ?_, ?_⟩
    · intro u hu
      rcases List.mem_append.1 hu with hu | hu
      · exact h2 u hu
      · simp only [List.mem_cons, List.mem_nil_iff, or_false] at hu
        rcases hu with rfl | rfl <;> rfl
    · intro j u hj
      by_cases hlt : j < vs.length
      · rw [List.getElem?_append_left hlt] at hj
        exact h3 j u hj
      · rw [List.getElem?_append_right (by omega)] at hj
        obtain ⟨d, hd⟩ : ∃ d, j - vs.length = d := ⟨_, rfl⟩
        rw [hd] at hj
        match d, hj with
        | 0, hj =>
          obtain rfl : j = k * 2 := by omega
          simp at hj
          rw [c1, hj]
        | 1, hj =>
          obtain rfl : j = k * 2 + 1 := by omega
          simp at hj
          rw [← Nat.add_assoc, c2, hj]
        | d + 2, hj => simp at hj

theorem EIs.news {w : World} {ad : Addr} {n : Nat} {xs : List EX} (h : EIs w (some ad) n xs) (h0 : 0 < n) : ∃ vs, CellsE vs xs ∧ vs.length = n * 2 ∧ (∀ u ∈ vs, u.oneCell' = true) ∧ ∀ j u, vs[j]? = some u → w.cell? (ad.add j) = some u := by
  obtain ⟨b, off, he, _⟩ := h.2.2.resolve_left (by omega)
  cases he
  obtain ⟨vs, h1, h2, h3⟩ := h.vals n (Nat.le_refl _)
  rw [List.take_of_length_le (by rw [h.1]; exact Nat.le_refl _)] at h1
  refine ⟨vs, h1, by rw [h1.1, h.1], h2, fun j u hj => ?_⟩
  rw [Go.WideShapes.add_plain]
  exact h3 j u hj

theorem CellsE.append {vs us : List Value} {xs ys : List EX} (h : CellsE vs xs) (k : CellsE us ys) : CellsE (vs ++ us) (xs ++ ys) := by
  refine ⟨by rw [List.length_append, List.length_append, h.1, k.1]; omega, fun i y hy => ?_⟩
  by_cases hi : i < xs.length
  · rw [List.getElem?_append_left hi] at hy
    obtain ⟨c1, v, c2, c3⟩ := h.2 i y hy
    exact ⟨by rw [List.getElem?_append_left (by rw [h.1]; omega)]; exact c1, v, by rw [List.getElem?_append_left (by rw [h.1]; omega)]; exact c2, c3⟩
  · rw [List.getElem?_append_right (by omega)] at hy
    obtain ⟨c1, v, c2, c3⟩ := k.2 _ y hy
    exact ⟨by rw [List.getElem?_append_right (by rw [h.1]; omega), h.1, show i * 2 - xs.length * 2 = (i - xs.length) * 2 by omega]; exact c1, v, by rw [List.getElem?_append_right (by rw [h.1]; omega), h.1, show i * 2 + 1 - xs.length * 2 = (i - xs.length) * 2 + 1 by omega]; exact c2, c3⟩

/-- A row of extents of the call's own. -/
def RowX (base : Nat) (w : World) (v : Value) (xs : List EX) : Prop := ∃ vs, w.ownsRow base 33 2 v xs.length vs ∧ CellsE vs xs
theorem RowX.later {base : Nat} {w w' : World} {v : Value} {xs : List EX} (h : RowX base w v xs) (hb : Below w.heap.size w w') : RowX base w' v xs := by
  obtain ⟨vs, h1, h2⟩ := h
  exact ⟨vs, owns_later_r h1 hb, h2⟩
theorem RowX.mono {base base' : Nat} {w : World} {v : Value} {xs : List EX} (h : RowX base' w v xs) (hb : base ≤ base') : RowX base w v xs := by
  obtain ⟨vs, h1, h2⟩ := h
  exact ⟨vs, owns_mono_r h1 hb, h2⟩
theorem RowX.eis {base : Nat} {w : World} {v : Value} {xs : List EX} (h : RowX base w v xs) (hn : xs.length ≤ 1000) : ∃ ao cap, v = .slice ao xs.length cap ∧ EIs w ao xs.length xs := by
  obtain ⟨vs, h1, h2⟩ := h
  obtain ⟨ao, cap, rfl⟩ := owns_shape_r h1
  exact ⟨ao, cap, rfl, h2.eis h1 hn⟩

set_option maxHeartbeats 800000 in
theorem cloneX_any (ao : Option Addr) (n cap : Nat) (xs : List EX) (w : World) (hA : EIs w ao n xs) (hnil : ao = none → cap = 0) :
    Calls Try.prog 16 #[.slice ao n cap] w fun e w' => ∃ v, e = .returned v ∧ RowX w.heap.size w' v xs ∧ Below w.heap.size w w' := by
  have hl := hA.2.1
  cases ao with
  | none =>
    obtain rfl : cap = 0 := hnil rfl
    obtain rfl : n = 0 := hA.2.2.resolve_right (by rintro ⟨b, off, h, _⟩; cases h)
    obtain rfl : xs = [] := List.length_eq_zero_iff.1 hA.1
    clear hA
    have hnil := fun (w : World) => Lib.run_eql_slice_nil (P := Try.prog) w 29 33 none 0 0 0 0 Try.underlying29
    go_enter Try.func16, Try.ntmps16
    go_wp2_with fail
    go_ret
    exact ⟨_, rfl, ⟨[], owns_nil_r _ _ _ _, CellsE.nil⟩, Below.refl _ _⟩
  | some ad =>
    have HL := Lib.hid hA.1
    have HA := Lib.hid hA
    have HO : Hid ((w.alloc (.cells #[] 33)).ownsRow w.heap.size 33 2 (.slice (some ⟨w.heap.size, 0, none⟩) 0 0) 0 []) := Lib.hid (World.ownsRow_made (base := w.heap.size) (e := 33) (size := 2) w #[] 0 (Nat.le_refl _) (by decide) rfl)
    have HB : Hid (Below w.heap.size w (w.alloc (.cells #[] 33))) := Lib.hid ((Below.refl _ _).alloc (Nat.le_refl _) _)
    have hnil := fun (w : World) => Lib.run_eql_slice_nil (P := Try.prog) w 29 33 (some ad) n cap 0 0 Try.underlying29
    have HV : Hid (∃ vs, CellsE vs xs ∧ vs.length = n * 2 ∧ (∀ u ∈ vs, u.oneCell' = true) ∧ ∀ j u, vs[j]? = some u → (w.alloc (.cells #[] 33)).cell? (ad.add j) = some u) := Lib.hid (by
      by_cases h0 : n = 0
      · subst h0
        obtain rfl : xs = [] := List.length_eq_zero_iff.1 hA.1
        exact ⟨[], CellsE.nil, rfl, by simp, by simp⟩
      · exact (hA.later ((Below.refl _ _).alloc (Nat.le_refl _) _)).news (by omega))
    clear hA
    obtain ⟨vs, hv1, hv2, hv3, hv4⟩ := HV.out
    have HV1 := Lib.hid hv1
    have HV2 := Lib.hid hv2
    have HV3 := Lib.hid hv3
    have HV4 := Lib.hid hv4
    clear hv1 hv2 hv3 hv4 HV
    go_enter Try.func16, Try.ntmps16
    go_wp2_with (refine wp_append_r elemX rfl (.tmp 5) (.tmp 6) rfl w.heap.size 0 _ [] rfl HO.out ad n cap vs HV2.out rfl HV4.out HV3.out (by omega) (by simp) ?_; intro v1 w1 hown1 hg1 hb1; have HO1 := Lib.hid hown1; have HB1 := Lib.hid (HB.out.trans hb1); clear hown1 hg1 hb1)
    go_ret
    exact ⟨v1, rfl, ⟨vs, by have := HO1.out; rw [Nat.zero_add, List.nil_append] at this; rw [HL.out]; exact this, HV1.out⟩, HB1.out⟩

end Go.Proofs.Ytmgmlebkmdpddaa
