/-
  Proved here: whether one path lies within another, as the landed path answers it; both Splits in one form.
  The conditions stand at each theorem.
-/
import Derived.Test.YtjhdhglbgbpckaaPthJoin
namespace Go.Proofs.Ytjhdhglbgbpckaa
open Go.RowKit
set_option linter.unusedVariables false
set_option linter.unusedSimpArgs false

theorem fold_err : ∀ (ps out : List (List Int)), (foldP out ps).1 ≠ 0 → (foldP out ps).2 = []
  | [], out, h => absurd rfl h
  | p :: r, out, h => by
    rw [fold_cons] at h ⊢
    by_cases h1 : p = [] ∨ p = [46]
    · rw [if_pos h1] at h ⊢; exact fold_err r out h
    · rw [if_neg h1] at h ⊢
      by_cases h2 : p = [46, 46]
      · rw [if_pos h2] at h ⊢; exact fold_err r _ h
      · rw [if_neg h2] at h ⊢
        by_cases h3 : nmL p = false
        · rw [if_pos h3]
        · rw [if_neg h3] at h ⊢
          by_cases h4 : out.length = 16
          · rw [if_pos h4]
          · rw [if_neg h4] at h ⊢; exact fold_err r _ h
theorem split_err {s : List Int} (h : (splitW s).1 ≠ 0) : (splitW s).2 = [] := by
  unfold splitW at h ⊢
  by_cases h1 : 1024 < s.length
  · rw [if_pos h1]
  · rw [if_neg h1] at h ⊢
    cases s with
    | nil => rfl
    | cons c r =>
      show (if c = 47 then foldP [] (partsW r) else (2, [])).2 = []
      have h' : (if c = 47 then foldP [] (partsW r) else (2, [])).1 ≠ 0 := h
      by_cases hc : c = 47
      · rw [if_pos hc] at h' ⊢; exact fold_err _ _ h'
      · rw [if_neg hc]
theorem split_few (s : List Int) : (splitW s).2.length ≤ 16 := by
  by_cases h : (splitW s).1 = 0
  · exact (split_facts (s := s) (l := (splitW s).2) (by rw [← h])).2.1
  · rw [split_err h]; decide

/-- What either Split hands back: a list of names, and what is wrong. -/
def SplitS (J : Int × List (List Int)) (e : Ending) (w' : World) : Prop :=
  ∃ ns ao cap, e = .returned (.tuple #[.slice ao ns.length cap, .int .i64 J.1]) ∧ SIs w' ao ns.length ns ∧ ns.length ≤ cap ∧ (ao = none → ns.length = 0 ∧ cap = 0) ∧ ns.map bytesOf = J.2 ∧ ns.length ≤ 16
theorem outS_split {w : World} {base : Nat} {v : Value} {J : Int × List (List Int)} (h : OutS w base v J.2) (hl : J.2.length ≤ 16) : SplitS J (.returned (.tuple #[v, .int .i64 J.1])) w := by
  obtain ⟨ns, ho, hm⟩ := h
  have hn : ns.length ≤ 16 := by rw [← hm, List.length_map] at hl; exact hl
  obtain ⟨ao, cap, hv, hV, hc, _⟩ := owns_vals ho (by omega)
  rw [strs_length] at hv hV hc
  refine ⟨ns, ao, cap, by rw [hv], hV, hc, fun e => ?_, hm, hn⟩
  rcases ho.2 with ⟨h1, h0⟩ | ⟨g, c2, cur, h1, _⟩
  · rw [hv] at h1
    injection h1 with _ h2 h3
    exact ⟨h2, h3⟩
  · rw [hv, e] at h1
    injection h1 with h2
    cases h2

theorem Split_s (s : ByteArray) (w : World) (hs : s.size ≤ 140737488351232) : Calls Try.prog 9 #[.string s] w fun e w' => SplitS (splitW (bytesOf s)) e w' ∧ Below w.heap.size w w' :=
  (Split_any s w hs).mono (by rintro e w' ⟨v, rfl, ho, hb⟩; exact ⟨outS_split ho (split_few _), hb⟩)
theorem RSplit_s (s : ByteArray) (w : World) (hs : s.size ≤ 140737488351232) : Calls Try.prog 10 #[.string s] w fun e w' => SplitS (splitW (bytesOf s)) e w' ∧ Below w.heap.size w w' :=
  (RSplit_any s w hs).mono (by rintro e w' ⟨v, rfl, ho, hb⟩; exact ⟨outS_split ho (split_few _), hb⟩)

theorem map_inj {xs ys : List ByteArray} (h : xs.map bytesOf = ys.map bytesOf) : xs = ys := by
  induction xs generalizing ys with
  | nil => cases ys with
    | nil => rfl
    | cons y r => cases h
  | cons x r ih => cases ys with
    | nil => cases h
    | cons y q =>
      rw [List.map_cons, List.map_cons] at h
      injection h with h1 h2
      rw [bytesOf_inj h1, ih h2]
theorem same_map (xs ys : List ByteArray) : decide (xs = ys) = decide (xs.map bytesOf = ys.map bytesOf) := decide_eq_decide.2 ⟨fun h => by rw [h], map_inj⟩
theorem take_map (xs ys : List ByteArray) (n : Nat) : decide (xs.take n = ys) = decide ((xs.map bytesOf).take n = ys.map bytesOf) := by rw [same_map, List.map_take]

theorem sis_take' {w : World} {ao : Option Addr} {len k : Nat} {ns : List ByteArray} (h : SIs w ao len ns) (hk : k ≤ len) : SIs w ao k (ns.take k) := by
  rcases Nat.eq_zero_or_pos k with rfl | h0
  · exact ⟨rfl, by decide, Or.inl rfl⟩
  · obtain ⟨b, off, s, rfl, _, _⟩ := h.at (i := 0) (by omega)
    exact sis_take h hk
/-- Do these names begin so? -/
def beginsW (a b : List (List Int)) : Bool := decide (b.length ≤ a.length) && decide (a.take b.length = b)
/-- What Under answers. -/
def underW (A B : Int × List (List Int)) : Bool × Int := if A.1 ≠ 0 then (false, A.1) else if B.1 ≠ 0 then (false, B.1) else (beginsW A.2 B.2, 0)

set_option maxRecDepth 100000 in
set_option maxHeartbeats 3200000 in
theorem Under_any (s t : ByteArray) (w : World) (hs : s.size ≤ 140737488351232) (ht : t.size ≤ 140737488351232) :
    Calls Try.prog 15 #[.string s, .string t] w fun e w' => e = .returned (.tuple #[.bool (underW (splitW (bytesOf s)) (splitW (bytesOf t))).1, .int .i64 (underW (splitW (bytesOf s)) (splitW (bytesOf t))).2]) ∧ Below w.heap.size w w' := by
  have c1 := Split_s s w hs
  have c2 := fun W => Split_s t W ht
  generalize splitW (bytesOf s) = A at *
  generalize splitW (bytesOf t) = B at *
  obtain ⟨e1, A⟩ := A
  obtain ⟨e2, B⟩ := B
  unfold underW
  simp only
  by_cases h1 : e1 = 0
  · subst h1
    rw [if_neg (by decide)]
    by_cases h2 : e2 = 0
    · subst h2
      rw [if_neg (by decide)]
      by_cases hle : B.length ≤ A.length
      · go_enter Try.func15, Try.ntmps15
        go_wp2_with (first
          | (go_at_call 24; refine cE.mono ?_; rintro e w5 ⟨rfl, hb5⟩; have HB5 := Lib.hid (HB4.out.trans (hb5.mono HB4.out.size)); clear hb5)
          | (have gt := HB3; clear gt; go_at_call 9; refine (c2 _).mono ?_; rintro e w4 ⟨⟨ms, bo, c4, rfl, hX4, hc4, hn4, hm4, hl4⟩, hb4⟩; have HB4 := Lib.hid (HB3.out.trans (hb4.mono HB3.out.size)); have HX3 := Lib.hid (HX.out.later hb4); have HX4 := Lib.hid hX4; have HM4 : Hid (ms.map bytesOf = B) := Lib.hid hm4; have HL := Lib.hid (show ms.length ≤ ns.length by rw [← HM4.out, List.length_map, ← HM.out, List.length_map] at hle; exact hle); have g1 : (ms.length : Int) ≤ (ns.length : Int) := Int.ofNat_le.2 HL.out; have g2 : (ms.length : Int) ≤ (c3 : Int) := Int.ofNat_le.2 (Nat.le_trans HL.out HC.out); have g0 : (0 : Int) ≤ (ms.length : Int) := Int.natCast_nonneg _; have cE := Equal_any (c1 := c3) (c2 := c4) w4 (sis_take' HX3.out HL.out) HX4.out; have HQ := Lib.hid (show decide (ns.take ms.length = ms) = decide (A.take B.length = B) by rw [take_map, HM.out, HM4.out, show ms.length = B.length by rw [← HM4.out, List.length_map]]); clear hb4 hX4 hm4 hc4 hn4)
          | (go_at_call 9; refine c1.mono ?_; rintro e w3 ⟨⟨ns, ao, c3, rfl, hX, hc, hn, hm, hl⟩, hb3⟩; have HB3 := Lib.hid hb3; have HX := Lib.hid hX; have HM : Hid (ns.map bytesOf = A) := Lib.hid hm; have HC := Lib.hid hc; clear hb3 hX hm hc hn))
        go_ret2
        exact ⟨by rw [HQ.out]; unfold beginsW; rw [decide_eq_true hle]; rfl, HB5.out⟩
      · have HF : Hid (beginsW A B = false) := Lib.hid (by unfold beginsW; rw [decide_eq_false hle]; rfl)
        go_enter Try.func15, Try.ntmps15
        go_wp2_with (first
          | (have gt := HB3; clear gt; go_at_call 9; refine (c2 _).mono ?_; rintro e w4 ⟨⟨ms, bo, c4, rfl, hX4, hc4, hn4, hm4, hl4⟩, hb4⟩; have HB4 := Lib.hid (HB3.out.trans (hb4.mono HB3.out.size)); have HX3 := Lib.hid (HX.out.later hb4); have HX4 := Lib.hid hX4; have HM4 : Hid (ms.map bytesOf = B) := Lib.hid hm4; have g1 : ¬ (ms.length : Int) ≤ (ns.length : Int) := (fun h => hle (by rw [← HM4.out, List.length_map, ← HM.out, List.length_map]; exact Int.ofNat_le.1 h)); clear hb4 hX4 hm4 hc4 hn4)
          | (go_at_call 9; refine c1.mono ?_; rintro e w3 ⟨⟨ns, ao, c3, rfl, hX, hc, hn, hm, hl⟩, hb3⟩; have HB3 := Lib.hid hb3; have HX := Lib.hid hX; have HM : Hid (ns.map bytesOf = A) := Lib.hid hm; have HC := Lib.hid hc; clear hb3 hX hm hc hn))
        go_ret2
        exact ⟨by rw [HF.out]; rfl, HB4.out⟩
    · have b2 : (e2 != 0) = true := by simpa using h2
      rw [if_pos h2]
      clear h2
      go_enter Try.func15, Try.ntmps15
      go_wp2_with (first
        | (have gt := HB3; clear gt; go_at_call 9; refine (c2 _).mono ?_; rintro e w4 ⟨⟨ms, bo, c4, rfl, hX4, hc4, hn4, hm4, hl4⟩, hb4⟩; have HB4 := Lib.hid (HB3.out.trans (hb4.mono HB3.out.size)); have HX3 := Lib.hid (HX.out.later hb4); have HX4 := Lib.hid hX4; have HM4 : Hid (ms.map bytesOf = B) := Lib.hid hm4; clear hb4 hX4 hm4 hc4 hn4)
        | (go_at_call 9; refine c1.mono ?_; rintro e w3 ⟨⟨ns, ao, c3, rfl, hX, hc, hn, hm, hl⟩, hb3⟩; have HB3 := Lib.hid hb3; have HX := Lib.hid hX; have HM : Hid (ns.map bytesOf = A) := Lib.hid hm; have HC := Lib.hid (And.intro hc hn); clear hb3 hX hm hc hn))
      go_ret2
      exact ⟨rfl, HB4.out⟩
  · have b1 : (e1 != 0) = true := by simpa using h1
    rw [if_pos h1]
    clear h1
    go_enter Try.func15, Try.ntmps15
    go_wp2_with (go_at_call 9; refine c1.mono ?_; rintro e w3 ⟨⟨ns, ao, c3, rfl, hX, hc, hn, hm, hl⟩, hb3⟩; have HB3 := Lib.hid hb3; have HX := Lib.hid hX; have HM : Hid (ns.map bytesOf = A) := Lib.hid hm; have HC := Lib.hid (And.intro hc hn); clear hb3 hX hm hc hn)
    go_ret2
    exact ⟨rfl, HB3.out⟩

end Go.Proofs.Ytjhdhglbgbpckaa
