/-
  Proved here: what the landed node's soundMap answers.
  The conditions stand at each theorem.
-/
import Derived.Test.YtojfhhmjoledjaaNPtr
namespace Go.Proofs.Ytojfhhmjoledjaa
open Go.RowKit
set_option linter.unusedVariables false
set_option linter.unusedSimpArgs false

theorem all_not (l : List Int) (p : Int → Bool) : l.all p = !(l.any fun x => !p x) := by
  induction l with
  | nil => rfl
  | cons x r ih => rw [List.all_cons, List.any_cons, ih]; cases p x <;> simp

set_option maxHeartbeats 12800000 in
theorem soundMap_any (n : PNode) {ao : Option Addr} {m cap : Nat} (w : World) (hn : n.small) (hX : XIs w ao m n.x) (hcap : m ≤ cap ∧ cap ≤ 9223372036854775807) :
    Calls Try.prog 32 #[n.val (.slice ao m cap)] w fun e w' => e = .returned (.bool n.mapOk) ∧ Below w.heap.size w w' := by
  obtain ⟨k, f, l, z, d0, d1, d2, d3, s, t, x, c⟩ := n
  unfold PNode.val
  simp only at *
  have hm := hX.2.1
  have hxl : x.length = m := hX.1
  have hb : Below w.heap.size w (w.alloc (.cells #[.int .i64 k, .int .i64 f, .int .i64 l, .int .i64 z, .int .i64 d0, .int .i64 d1, .int .i64 d2, .int .i64 d3, .int .i64 s, .int .i64 t, .slice ao m cap, .int .i64 c] 26)) := (Below.refl _ _).alloc (Nat.le_refl _) _
  have HC : Hid (∀ j v, #[.int .i64 k, .int .i64 f, .int .i64 l, .int .i64 z, .int .i64 d0, .int .i64 d1, .int .i64 d2, .int .i64 d3, .int .i64 s, .int .i64 t, .slice ao m cap, .int .i64 c][j]? = some v → (w.alloc (.cells #[.int .i64 k, .int .i64 f, .int .i64 l, .int .i64 z, .int .i64 d0, .int .i64 d1, .int .i64 d2, .int .i64 d3, .int .i64 s, .int .i64 t, .slice ao m cap, .int .i64 c] 26)).cell? ⟨w.heap.size, j, none⟩ = some v) := Lib.hid (fun j v h => by rw [World.cell?_alloc_new]; exact h)
  have hs : ∀ y ∈ x, smallX y := hn.2.2.2.2.2.2.2.2.2.2.2
  have HB := Lib.hid hb
  have cX := fun (W : World) (hW : Below w.heap.size w W) => soundExtents_any (cap := cap) (hX.later hW) hs hcap
  have HX := Lib.hid cX
  have H6 : Hid (∀ W, Below (w.alloc (.cells #[.int .i64 k, .int .i64 f, .int .i64 l, .int .i64 z, .int .i64 d0, .int .i64 d1, .int .i64 d2, .int .i64 d3, .int .i64 s, .int .i64 t, .slice ao m cap, .int .i64 c] 26)).heap.size (w.alloc (.cells #[.int .i64 k, .int .i64 f, .int .i64 l, .int .i64 z, .int .i64 d0, .int .i64 d1, .int .i64 d2, .int .i64 d3, .int .i64 s, .int .i64 t, .slice ao m cap, .int .i64 c] 26)) W → SixAre W w.heap.size [d0, d1, d2, d3, s, t]) := Lib.hid (fun W hW => ⟨rfl, fun j v hj => by
    refine cell_later hW (HC.out (4 + j) (.int .i64 v) ?_)
    match j, hj with
    | 0, h | 1, h | 2, h | 3, h | 4, h | 5, h => cases h; rfl
    | j + 6, h => cases h⟩)
  clear hX hn hs hb cX
  by_cases hf1 : f = 1
  · subst hf1
    have HM : Hid (PNode.mapOk ⟨k, 1, l, z, d0, d1, d2, d3, s, t, x, c⟩ = (!([d0, d1, d2, d3, s, t].any fun p => !ptrOk p) && (decide (m = 0) && decide (c = 0)))) := Lib.hid (by
      show (if (1 : Int) = 1 then [d0, d1, d2, d3, s, t].all ptrOk && (decide (x = []) && decide (c = 0)) else _) = _
      rw [if_pos rfl, all_not]
      congr 2
      rw [Bool.eq_iff_iff, decide_eq_true_iff, decide_eq_true_iff, ← hxl]
      exact List.length_eq_zero_iff.symm)
    have cC := fun (W : World) (b : Nat) (hW : Below (w.alloc (.cells #[.int .i64 k, .int .i64 1, .int .i64 l, .int .i64 z, .int .i64 d0, .int .i64 d1, .int .i64 d2, .int .i64 d3, .int .i64 s, .int .i64 t, .slice ao m cap, .int .i64 c] 26)).heap.size (w.alloc (.cells #[.int .i64 k, .int .i64 1, .int .i64 l, .int .i64 z, .int .i64 d0, .int .i64 d1, .int .i64 d2, .int .i64 d3, .int .i64 s, .int .i64 t, .slice ao m cap, .int .i64 c] 26)) W) (hp : PtrsAre W b w.heap.size) => containsP1_any hp (H6.out W hW)
    have HCC := Lib.hid cC
    clear cC hxl
    generalize ([d0, d1, d2, d3, s, t].any fun p => !ptrOk p) = u at *
    by_cases hm0 : m = 0
    · subst hm0
      by_cases hc0 : c = 0
      · subst hc0
        cases u with
        | true =>
          go_enter Try.func32, Try.ntmps32
          go_wp2_with (first
            | (go_at_call 29; refine (pointers_any _ _).mono ?_; rintro e w2 ⟨rfl, hp2, hb2⟩; rw [World.size_alloc] at hp2; have B2 := Lib.hid hb2; have P2 := Lib.hid hp2; have g1 := cell_later B2.out (HC.out 10 _ rfl); have g2 := cell_later B2.out (HC.out 11 _ rfl); clear hp2 hb2)
            | (go_at_call 43; refine (HCC.out _ _ B2.out P2.out).mono ?_; rintro e w3 ⟨rfl, rfl⟩))
          go_ret
          exact ⟨by rw [HM.out]; rfl, HB.out.trans (B2.out.mono HB.out.size)⟩
        | false =>
          go_enter Try.func32, Try.ntmps32
          go_wp2_with (first
            | (go_at_call 29; refine (pointers_any _ _).mono ?_; rintro e w2 ⟨rfl, hp2, hb2⟩; rw [World.size_alloc] at hp2; have B2 := Lib.hid hb2; have P2 := Lib.hid hp2; have g1 := cell_later B2.out (HC.out 10 _ rfl); have g2 := cell_later B2.out (HC.out 11 _ rfl); clear hp2 hb2)
            | (go_at_call 43; refine (HCC.out _ _ B2.out P2.out).mono ?_; rintro e w3 ⟨rfl, rfl⟩))
          go_ret
          exact ⟨by rw [HM.out]; rfl, HB.out.trans (B2.out.mono HB.out.size)⟩
      · have e1 : (c == 0) = false := by simp [hc0]
        have e2 : decide (c = 0) = false := by simp [hc0]
        rw [e2] at HM
        clear hc0
        cases u with
        | true =>
          go_enter Try.func32, Try.ntmps32
          go_wp2_with (first
            | (go_at_call 29; refine (pointers_any _ _).mono ?_; rintro e w2 ⟨rfl, hp2, hb2⟩; rw [World.size_alloc] at hp2; have B2 := Lib.hid hb2; have P2 := Lib.hid hp2; have g1 := cell_later B2.out (HC.out 10 _ rfl); have g2 := cell_later B2.out (HC.out 11 _ rfl); clear hp2 hb2)
            | (go_at_call 43; refine (HCC.out _ _ B2.out P2.out).mono ?_; rintro e w3 ⟨rfl, rfl⟩))
          go_ret
          exact ⟨by rw [HM.out]; rfl, HB.out.trans (B2.out.mono HB.out.size)⟩
        | false =>
          go_enter Try.func32, Try.ntmps32
          go_wp2_with (first
            | (go_at_call 29; refine (pointers_any _ _).mono ?_; rintro e w2 ⟨rfl, hp2, hb2⟩; rw [World.size_alloc] at hp2; have B2 := Lib.hid hb2; have P2 := Lib.hid hp2; have g1 := cell_later B2.out (HC.out 10 _ rfl); have g2 := cell_later B2.out (HC.out 11 _ rfl); clear hp2 hb2)
            | (go_at_call 43; refine (HCC.out _ _ B2.out P2.out).mono ?_; rintro e w3 ⟨rfl, rfl⟩))
          go_ret
          exact ⟨by rw [HM.out]; rfl, HB.out.trans (B2.out.mono HB.out.size)⟩
    · have e1 : ((m : Int) == 0) = false := by simp; omega
      have e2 : decide (m = 0) = false := by simp [hm0]
      rw [e2] at HM
      cases u with
      | true =>
        go_enter Try.func32, Try.ntmps32
        go_wp2_with (first
          | (go_at_call 29; refine (pointers_any _ _).mono ?_; rintro e w2 ⟨rfl, hp2, hb2⟩; rw [World.size_alloc] at hp2; have B2 := Lib.hid hb2; have P2 := Lib.hid hp2; have g1 := cell_later B2.out (HC.out 10 _ rfl); have g2 := cell_later B2.out (HC.out 11 _ rfl); clear hp2 hb2)
          | (go_at_call 43; refine (HCC.out _ _ B2.out P2.out).mono ?_; rintro e w3 ⟨rfl, rfl⟩))
        go_ret
        exact ⟨by rw [HM.out]; rfl, HB.out.trans (B2.out.mono HB.out.size)⟩
      | false =>
        go_enter Try.func32, Try.ntmps32
        go_wp2_with (first
          | (go_at_call 29; refine (pointers_any _ _).mono ?_; rintro e w2 ⟨rfl, hp2, hb2⟩; rw [World.size_alloc] at hp2; have B2 := Lib.hid hb2; have P2 := Lib.hid hp2; have g1 := cell_later B2.out (HC.out 10 _ rfl); have g2 := cell_later B2.out (HC.out 11 _ rfl); clear hp2 hb2)
          | (go_at_call 43; refine (HCC.out _ _ B2.out P2.out).mono ?_; rintro e w3 ⟨rfl, rfl⟩))
        go_ret
        exact ⟨by rw [HM.out]; rfl, HB.out.trans (B2.out.mono HB.out.size)⟩
  · have e1 : (f == 1) = false := by simp [hf1]
    have e1' : decide (f = 1) = false := by simp [hf1]
    by_cases hf2 : f = 2
    · subst hf2
      have HM : Hid (PNode.mapOk ⟨k, 2, l, z, d0, d1, d2, d3, s, t, x, c⟩ = (!([d0, d1, d2, d3, s, t].any not0) && (soundXs x && ptrOk c))) := Lib.hid (by
        show (if (2 : Int) = 1 then _ else if (2 : Int) = 2 then [d0, d1, d2, d3, s, t].all (fun p => decide (p = 0)) && (soundXs x && ptrOk c) else _) = _
        rw [if_neg (by decide), if_pos rfl, all_not]
        rfl)
      have cC := fun (W : World) (b : Nat) (hW : Below (w.alloc (.cells #[.int .i64 k, .int .i64 2, .int .i64 l, .int .i64 z, .int .i64 d0, .int .i64 d1, .int .i64 d2, .int .i64 d3, .int .i64 s, .int .i64 t, .slice ao m cap, .int .i64 c] 26)).heap.size (w.alloc (.cells #[.int .i64 k, .int .i64 2, .int .i64 l, .int .i64 z, .int .i64 d0, .int .i64 d1, .int .i64 d2, .int .i64 d3, .int .i64 s, .int .i64 t, .slice ao m cap, .int .i64 c] 26)) W) (hp : PtrsAre W b w.heap.size) => containsP2_any hp (H6.out W hW)
      have HCC := Lib.hid cC
      clear cC hxl e1 e1' hf1
      generalize ([d0, d1, d2, d3, s, t].any not0) = u at *
      generalize soundXs x = v at *
      have cP := fun W => soundPointer_any c W
      generalize ptrOk c = y at *
      cases u with
      | true =>
        go_enter Try.func32, Try.ntmps32
        go_wp2_with (first
          | (go_at_call 29; refine (pointers_any _ _).mono ?_; rintro e w2 ⟨rfl, hp2, hb2⟩; rw [World.size_alloc] at hp2; have B2 := Lib.hid hb2; have P2 := Lib.hid hp2; have g1 := cell_later B2.out (HC.out 10 _ rfl); have g2 := cell_later B2.out (HC.out 11 _ rfl); clear hp2 hb2)
          | (go_at_call 43; refine (HCC.out _ _ B2.out P2.out).mono ?_; rintro e w3 ⟨rfl, rfl⟩))
        go_ret
        exact ⟨by rw [HM.out]; rfl, HB.out.trans (B2.out.mono HB.out.size)⟩
      | false =>
        cases v with
        | false =>
          go_enter Try.func32, Try.ntmps32
          go_wp2_with (first
            | (go_at_call 29; refine (pointers_any _ _).mono ?_; rintro e w2 ⟨rfl, hp2, hb2⟩; rw [World.size_alloc] at hp2; have B2 := Lib.hid hb2; have P2 := Lib.hid hp2; have g1 := cell_later B2.out (HC.out 10 _ rfl); have g2 := cell_later B2.out (HC.out 11 _ rfl); clear hp2 hb2)
            | (go_at_call 43; refine (HCC.out _ _ B2.out P2.out).mono ?_; rintro e w3 ⟨rfl, rfl⟩)
            | (go_at_call 47; refine (HX.out _ (HB.out.trans (B2.out.mono HB.out.size))).mono ?_; rintro e w4 ⟨rfl, hb4⟩; have B4 := Lib.hid (B2.out.trans (hb4.mono B2.out.size)); clear hb4))
          go_ret
          exact ⟨by rw [HM.out]; rfl, HB.out.trans (B4.out.mono HB.out.size)⟩
        | true =>
          go_enter Try.func32, Try.ntmps32
          go_wp2_with (first
            | (go_at_call 29; refine (pointers_any _ _).mono ?_; rintro e w2 ⟨rfl, hp2, hb2⟩; rw [World.size_alloc] at hp2; have B2 := Lib.hid hb2; have P2 := Lib.hid hp2; have g1 := cell_later B2.out (HC.out 10 _ rfl); have g2 := cell_later B2.out (HC.out 11 _ rfl); clear hp2 hb2)
            | (go_at_call 43; refine (HCC.out _ _ B2.out P2.out).mono ?_; rintro e w3 ⟨rfl, rfl⟩)
            | (go_at_call 47; refine (HX.out _ (HB.out.trans (B2.out.mono HB.out.size))).mono ?_; rintro e w4 ⟨rfl, hb4⟩; have B4 := Lib.hid (B2.out.trans (hb4.mono B2.out.size)); have g3 := cell_later B4.out (HC.out 11 _ rfl); clear hb4)
            | (go_at_call 45; refine (cP _).mono ?_; rintro e w5 ⟨rfl, rfl⟩))
          go_ret
          exact ⟨by rw [HM.out]; rfl, HB.out.trans (B4.out.mono HB.out.size)⟩
    · have e2 : (f == 2) = false := by simp [hf2]
      have e2' : decide (f = 2) = false := by simp [hf2]
      have HM : Hid (PNode.mapOk ⟨k, f, l, z, d0, d1, d2, d3, s, t, x, c⟩ = false) := Lib.hid (by unfold PNode.mapOk; simp only; rw [if_neg hf1, if_neg hf2])
      clear hf1 hf2
      go_enter Try.func32, Try.ntmps32
      go_wp2_with fail
      go_ret
      exact ⟨by rw [HM.out]; rfl, HB.out⟩

end Go.Proofs.Ytojfhhmjoledjaa
