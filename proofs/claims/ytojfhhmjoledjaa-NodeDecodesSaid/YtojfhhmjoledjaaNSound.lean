/-
  Proved here: what the landed node's sound answers.
  The conditions stand at each theorem.
-/
import Derived.Test.YtojfhhmjoledjaaNMap
namespace Go.Proofs.Ytojfhhmjoledjaa
open Go.RowKit
set_option linter.unusedVariables false
set_option linter.unusedSimpArgs false

theorem headOk_parts (n : PNode) (h : n.k = 1 ∨ n.k = 2) : n.headOk = (inN n.l 1 1000 && inN n.z 0 6144) := by
  unfold PNode.headOk inN
  rw [Bool.eq_iff_iff]
  simp
  omega

set_option maxHeartbeats 6400000 in
theorem sound_any (n : PNode) {ao : Option Addr} {m cap : Nat} (w : World) (hn : n.small) (hX : XIs w ao m n.x) (hcap : m ≤ cap ∧ cap ≤ 9223372036854775807) :
    Calls Try.prog 20 #[n.val (.slice ao m cap)] w fun e w' => e = .returned (.bool n.sound) ∧ Below w.heap.size w w' := by
  obtain ⟨k, f, l, z, d0, d1, d2, d3, s, t, x, c⟩ := n
  unfold PNode.val
  simp only at hX ⊢
  by_cases h0 : k = 0
  · subst h0
    have HB : Hid (Below w.heap.size w (w.alloc (.cells #[.int .i64 0, .int .i64 f, .int .i64 l, .int .i64 z, .int .i64 d0, .int .i64 d1, .int .i64 d2, .int .i64 d3, .int .i64 s, .int .i64 t, .slice ao m cap, .int .i64 c] 26))) := Lib.hid ((Below.refl _ _).alloc (Nat.le_refl _) _)
    have cS := same9_none (c1 := cap) (⟨0, f, l, z, d0, d1, d2, d3, s, t, x, c⟩ : PNode) rfl (w.alloc (.cells #[.int .i64 0, .int .i64 f, .int .i64 l, .int .i64 z, .int .i64 d0, .int .i64 d1, .int .i64 d2, .int .i64 d3, .int .i64 s, .int .i64 t, .slice ao m cap, .int .i64 c] 26)) (hX.later HB.out)
    have HV : Hid (PNode.sound ⟨0, f, l, z, d0, d1, d2, d3, s, t, x, c⟩ = decide ((⟨0, f, l, z, d0, d1, d2, d3, s, t, x, c⟩ : PNode) = noNode)) := Lib.hid (by unfold PNode.sound; rw [if_pos rfl])
    generalize decide ((⟨0, f, l, z, d0, d1, d2, d3, s, t, x, c⟩ : PNode) = noNode) = v at *
    unfold PNode.val noNode at cS
    clear hX hn
    go_enter Try.func20, Try.ntmps20
    go_wp2_with (go_at_call 14; refine cS.mono ?_; rintro e w' ⟨rfl, hb⟩; have HB2 := Lib.hid (HB.out.trans (hb.mono HB.out.size)); clear hb)
    go_ret
    exact ⟨by rw [HV.out]; rfl, HB2.out⟩
  · by_cases h1 : k = 1
    · subst h1
      have HB : Hid (Below w.heap.size w (w.alloc (.cells #[.int .i64 1, .int .i64 f, .int .i64 l, .int .i64 z, .int .i64 d0, .int .i64 d1, .int .i64 d2, .int .i64 d3, .int .i64 s, .int .i64 t, .slice ao m cap, .int .i64 c] 26))) := Lib.hid ((Below.refl _ _).alloc (Nat.le_refl _) _)
      have HC : Hid (∀ j v, #[.int .i64 1, .int .i64 f, .int .i64 l, .int .i64 z, .int .i64 d0, .int .i64 d1, .int .i64 d2, .int .i64 d3, .int .i64 s, .int .i64 t, .slice ao m cap, .int .i64 c][j]? = some v → (w.alloc (.cells #[.int .i64 1, .int .i64 f, .int .i64 l, .int .i64 z, .int .i64 d0, .int .i64 d1, .int .i64 d2, .int .i64 d3, .int .i64 s, .int .i64 t, .slice ao m cap, .int .i64 c] 26)).cell? ⟨w.heap.size, j, none⟩ = some v) := Lib.hid (fun j v h => by rw [World.cell?_alloc_new]; exact h)
      have cM := fun W (hW : Below w.heap.size w W) => soundMap_any (cap := cap) (⟨1, f, l, z, d0, d1, d2, d3, s, t, x, c⟩ : PNode) W hn (hX.later hW) hcap
      unfold PNode.val at cM
      have HM := Lib.hid cM
      have HV : Hid (PNode.sound ⟨1, f, l, z, d0, d1, d2, d3, s, t, x, c⟩ = ((inN l 1 1000 && inN z 0 6144) && PNode.mapOk ⟨1, f, l, z, d0, d1, d2, d3, s, t, x, c⟩)) := Lib.hid (by
        unfold PNode.sound
        rw [if_neg (by show ¬ (1 : Int) = 0; decide), headOk_parts _ (by show (1 : Int) = 1 ∨ (1 : Int) = 2; decide)])
      clear hX hn cM
      cases h1 : inN l 1 1000 with
      | false =>
        have H1 := Lib.hid h1
        clear h1
        go_enter Try.func20, Try.ntmps20
        go_wp2_with (go_at_call 31; refine (within9_any _ _ _ _).mono ?_; rintro e w' ⟨rfl, rfl⟩; (try rw [H1.out]))
        go_ret
        exact ⟨by rw [HV.out, H1.out]; rfl, HB.out⟩
      | true =>
        cases h2 : inN z 0 6144 with
        | false =>
          have H1 := Lib.hid h1
          have H2 := Lib.hid h2
          clear h1 h2
          go_enter Try.func20, Try.ntmps20
          go_wp2_with (go_at_call 31; refine (within9_any _ _ _ _).mono ?_; rintro e w' ⟨rfl, rfl⟩; (try rw [H1.out]); (try rw [H2.out]))
          go_ret
          exact ⟨by rw [HV.out, H1.out, H2.out]; rfl, HB.out⟩
        | true =>
          have H1 := Lib.hid h1
          have H2 := Lib.hid h2
          clear h1 h2
          go_enter Try.func20, Try.ntmps20
          go_wp2_with (first
            | (go_at_call 31; refine (within9_any _ _ _ _).mono ?_; rintro e w' ⟨rfl, rfl⟩; (try rw [H1.out]); (try rw [H2.out]))
            | (go_at_call 32; refine (HM.out _ HB.out).mono ?_; rintro e w' ⟨rfl, hb⟩; have HB2 := Lib.hid (HB.out.trans (hb.mono HB.out.size)); clear hb))
          go_ret
          exact ⟨by rw [HV.out, H1.out, H2.out]; rfl, HB2.out⟩
    · by_cases h2 : k = 2
      · subst h2
        have HB : Hid (Below w.heap.size w (w.alloc (.cells #[.int .i64 2, .int .i64 f, .int .i64 l, .int .i64 z, .int .i64 d0, .int .i64 d1, .int .i64 d2, .int .i64 d3, .int .i64 s, .int .i64 t, .slice ao m cap, .int .i64 c] 26))) := Lib.hid ((Below.refl _ _).alloc (Nat.le_refl _) _)
        have HC : Hid (∀ j v, #[.int .i64 2, .int .i64 f, .int .i64 l, .int .i64 z, .int .i64 d0, .int .i64 d1, .int .i64 d2, .int .i64 d3, .int .i64 s, .int .i64 t, .slice ao m cap, .int .i64 c][j]? = some v → (w.alloc (.cells #[.int .i64 2, .int .i64 f, .int .i64 l, .int .i64 z, .int .i64 d0, .int .i64 d1, .int .i64 d2, .int .i64 d3, .int .i64 s, .int .i64 t, .slice ao m cap, .int .i64 c] 26)).cell? ⟨w.heap.size, j, none⟩ = some v) := Lib.hid (fun j v h => by rw [World.cell?_alloc_new]; exact h)
        have cM := fun W (hW : Below w.heap.size w W) => soundMap_any (cap := cap) (⟨2, f, l, z, d0, d1, d2, d3, s, t, x, c⟩ : PNode) W hn (hX.later hW) hcap
        unfold PNode.val at cM
        have HM := Lib.hid cM
        have HV : Hid (PNode.sound ⟨2, f, l, z, d0, d1, d2, d3, s, t, x, c⟩ = ((inN l 1 1000 && inN z 0 6144) && PNode.mapOk ⟨2, f, l, z, d0, d1, d2, d3, s, t, x, c⟩)) := Lib.hid (by
          unfold PNode.sound
          rw [if_neg (by show ¬ (2 : Int) = 0; decide), headOk_parts _ (by show (2 : Int) = 1 ∨ (2 : Int) = 2; decide)])
        clear hX hn cM
        cases h1 : inN l 1 1000 with
        | false =>
          have H1 := Lib.hid h1
          clear h1
          go_enter Try.func20, Try.ntmps20
          go_wp2_with (go_at_call 31; refine (within9_any _ _ _ _).mono ?_; rintro e w' ⟨rfl, rfl⟩; (try rw [H1.out]))
          go_ret
          exact ⟨by rw [HV.out, H1.out]; rfl, HB.out⟩
        | true =>
          cases h2 : inN z 0 6144 with
          | false =>
            have H1 := Lib.hid h1
            have H2 := Lib.hid h2
            clear h1 h2
            go_enter Try.func20, Try.ntmps20
            go_wp2_with (go_at_call 31; refine (within9_any _ _ _ _).mono ?_; rintro e w' ⟨rfl, rfl⟩; (try rw [H1.out]); (try rw [H2.out]))
            go_ret
            exact ⟨by rw [HV.out, H1.out, H2.out]; rfl, HB.out⟩
          | true =>
            have H1 := Lib.hid h1
            have H2 := Lib.hid h2
            clear h1 h2
            go_enter Try.func20, Try.ntmps20
            go_wp2_with (first
              | (go_at_call 31; refine (within9_any _ _ _ _).mono ?_; rintro e w' ⟨rfl, rfl⟩; (try rw [H1.out]); (try rw [H2.out]))
              | (go_at_call 32; refine (HM.out _ HB.out).mono ?_; rintro e w' ⟨rfl, hb⟩; have HB2 := Lib.hid (HB.out.trans (hb.mono HB.out.size)); clear hb))
            go_ret
            exact ⟨by rw [HV.out, H1.out, H2.out]; rfl, HB2.out⟩
      · have HB : Hid (Below w.heap.size w (w.alloc (.cells #[.int .i64 k, .int .i64 f, .int .i64 l, .int .i64 z, .int .i64 d0, .int .i64 d1, .int .i64 d2, .int .i64 d3, .int .i64 s, .int .i64 t, .slice ao m cap, .int .i64 c] 26))) := Lib.hid ((Below.refl _ _).alloc (Nat.le_refl _) _)
        have HV : Hid (PNode.sound ⟨k, f, l, z, d0, d1, d2, d3, s, t, x, c⟩ = false) := Lib.hid (by
          unfold PNode.sound
          rw [if_neg h0, show PNode.headOk ⟨k, f, l, z, d0, d1, d2, d3, s, t, x, c⟩ = false from decide_eq_false (fun h => by rcases h.1 with h | h; exact h1 h; exact h2 h)]
          rfl)
        have e0 : (k == 0) = false := by simp [h0]
        have e1 : (k == 1) = false := by simp [h1]
        have e2 : (k == 2) = false := by simp [h2]
        have e3 : decide (k = 0) = false := by simp [h0]
        have e4 : decide (k = 1) = false := by simp [h1]
        have e5 : decide (k = 2) = false := by simp [h2]
        clear h0 h1 h2 hX hn
        go_enter Try.func20, Try.ntmps20
        go_wp2_with fail
        go_ret
        exact ⟨by rw [HV.out]; rfl, HB.out⟩

end Go.Proofs.Ytojfhhmjoledjaa
