/-
  Proved here: what the document's own Ends of a log answers.
  The conditions stand at each theorem.
-/
import Derived.Test.YtpmggbdmoopkfaaRef15B
import Derived.Test.YtpmggbdmoopkfaaRef04Num
import Derived.Deep.RegionHeld
namespace Go.Proofs.Ytpmggbdmoopkfaa
open Go.RowKit
set_option linter.unusedVariables false
set_option linter.unusedSimpArgs false

theorem num15 {w : World} {ao : Option Addr} {len cap : Nat} {zs : List Int} {pz kz : Int} (hB : Bts w ao len zs) (hk : kz.toNat ≤ 4) (hpk : pz.toNat + kz.toNat ≤ len) (h0 : 0 ≤ pz ∧ 0 ≤ kz) :
    Calls Try.prog 33 #[.slice ao len cap, .int .i64 pz, .int .i64 kz] w fun e w' => e = .returned (.int .i64 (leN zs pz.toNat kz.toNat)) ∧ w' = w := by
  obtain ⟨p, rfl⟩ := Int.eq_ofNat_of_zero_le h0.1
  obtain ⟨k, rfl⟩ := Int.eq_ofNat_of_zero_le h0.2
  exact (Num04_any ao len cap zs p k w hB hk hpk).mono (fun e w' h => ⟨h.1, h.2.symm⟩)

set_option maxHeartbeats 1600000 in
theorem REnds_any (ao : Option Addr) (len cap : Nat) (zs : List Int) (w : World) (hA : Bts w ao len zs) : Calls Try.prog 18 #[.slice ao len cap] w fun e w' => e = .returned (.tuple #[.int .i64 (getEndSeq zs), .int .i64 (getEndCount zs), .int .i64 (getEndErr zs)]) ∧ Below w.heap.size w w' := by
  have hB := hA
  by_cases h64 : len = 64
  case neg =>
    have hI : isEnd zs = false := by unfold isEnd; rw [hB.1, decide_eq_false h64]; rfl
    have HE : Hid (getEndErr zs = 2 ∧ getEndSeq zs = 0 ∧ getEndCount zs = 0) := Lib.hid (by unfold getEndErr getEndSeq getEndCount; rw [hI]; exact ⟨rfl, rfl, rfl⟩)
    have hne : ((len : Int) == 64) = false := by simp; omega
    clear hI hB hA
    go_enter Try.func18, Try.ntmps18
    go_wp2_with fail
    go_ret3
    exact ⟨by rw [HE.out.1, HE.out.2.1, HE.out.2.2]; rfl, Below.refl _ _⟩
  subst h64
  have HB := Lib.hid hB
  obtain ⟨g, off, rfl, hc⟩ := hB.2.2.2.resolve_left (by decide)
  have f8 := hc 8 (by decide)
  have b8 := hB.2.2.1 _ (getD_mem (l := zs) (k := 8) (by rw [hB.1]; decide))
  obtain ⟨x8, HX8⟩ : ∃ x, Hid (zs.getD 8 0 = x) := ⟨_, Lib.hid rfl⟩
  rw [HX8.out] at f8 b8
  have hw8 : IntKind.i64.wrap x8 = x8 := by rw [IntKind.wrap_i64]; omega
  have HF8 := Lib.hid f8
  have HK : Hid (∀ W, Below w.heap.size w W → W.cell? ⟨g, off + 8, none⟩ = some (.int .u8 x8) ∧ Hid (Below w.heap.size w W)) := Lib.hid (fun W h => ⟨cell_later h HF8.out, Lib.hid h⟩)
  obtain ⟨s, HS⟩ : ∃ x, Hid (leN zs 4 4 = x) := ⟨_, Lib.hid rfl⟩
  have cN := fun W (hW : Below w.heap.size w W) => num15 (cap := cap) (zs := zs) (pz := 4) (kz := 4) (HB.out.later hW) (by decide) (by decide) (by decide)
  rw [show leN zs (Int.toNat 4) (Int.toNat 4) = s from HS.out] at cN
  have CN := Lib.hid cN
  clear hB hA hc cN b8
  obtain ⟨E, O, hEO⟩ : ∃ E O, endErr s x8 = E ∧ endOut s x8 = O := ⟨_, _, rfl, rfl⟩
  have cE := fun (W : World) => REnd_any s x8 W
  rw [hEO.1, hEO.2] at cE
  have HEO := Lib.hid hEO
  clear hEO
  have H3 : Hid ((E = 2 ∧ getEndErr zs = 2 ∧ getEndSeq zs = 0 ∧ getEndCount zs = 0) ∨ (E = 0 ∧ ((str O).toList == (str zs).toList) = true ∧ getEndErr zs = 0 ∧ getEndSeq zs = s ∧ getEndCount zs = x8) ∨ (E = 0 ∧ ((str O).toList == (str zs).toList) = false ∧ getEndErr zs = 2 ∧ getEndSeq zs = 0 ∧ getEndCount zs = 0)) := Lib.hid (by
    obtain ⟨e1, e2⟩ := HEO.out
    have hi : isEnd zs = (okEnd s x8 && decide (endB s x8 = zs)) := by
      unfold isEnd
      rw [HB.out.1, HX8.out, HS.out]
      rfl
    unfold getEndErr getEndSeq getEndCount
    rw [hi, HX8.out, HS.out]
    unfold endErr endOut at *
    by_cases hs : okEnd s x8 = true
    · rw [if_pos hs] at e1 e2
      have hv : ((str O).toList == (str zs).toList) = decide (O = zs) := str_eq (by rw [← e2]; exact sealOf_bytes (endL_bytes _ _)) HB.out.2.2.1
      rw [hv, hs, Bool.true_and, e2]
      by_cases ho : O = zs
      · right; left
        rw [decide_eq_true ho]
        exact ⟨e1.symm, rfl, rfl, rfl, rfl⟩
      · right; right
        rw [decide_eq_false ho]
        exact ⟨e1.symm, rfl, rfl, rfl, rfl⟩
    · left
      rw [if_neg hs] at e1
      rw [Bool.not_eq_true] at hs
      rw [hs]
      exact ⟨e1.symm, rfl, rfl, rfl⟩)
  have B0 : Hid (Below w.heap.size w w.drew) := Lib.hid (Below.refl _ _).drew
  go_enter Try.func18, Try.ntmps18
  go_wp2_with fail
  rcases H3.out with ⟨h1, h2, h3, h5⟩ | ⟨h1, h4, h2, h3, h5⟩ | ⟨h1, h4, h2, h3, h5⟩
  all_goals
    subst h1
    have G2 := Lib.hid h2
    have G3 := Lib.hid h3
    have G5 := Lib.hid h5
    clear h2 h3 h5
    go_region_held (fun W => W.cell? ⟨g, off + 8, none⟩ = some (.int .u8 x8) ∧ Hid (Below w.heap.size w W)) (first | exact HK.out _ B0.out | exact HK.out _ B5.out)
      (first
        | (go_at_call 33; refine (CN.out _ B0.out).mono ?_; rintro e w' ⟨rfl, rfl⟩)
        | (go_at_call 16; refine (cE _).mono ?_; rintro e w5 ⟨v5, rfl, hf5, hb5⟩; have B5 := Lib.hid (B0.out.trans (hb5.mono B0.out.size)); have k1 := fresh_str hf5; have k2 := str_bytes (cap := cap) (HB.out.later B5.out); clear hf5 hb5))
  all_goals go_wp2_with fail
  all_goals (try (go_ret3; exact ⟨by rw [G2.out, G3.out, G5.out]; rfl, B5.out⟩))
  all_goals
    have B6 := Lib.hid B5.out.drew
    go_region_held (fun W => W.cell? ⟨g, off + 8, none⟩ = some (.int .u8 x8) ∧ Hid (Below w.heap.size w W)) (first | exact HK.out _ B6.out)
      (first | (go_at_call 33; refine (CN.out _ B6.out).mono ?_; rintro e w' ⟨rfl, rfl⟩))
  all_goals go_wp2_with fail
  all_goals go_ret3
  all_goals exact ⟨by rw [G2.out, G3.out, G5.out]; rfl, B6.out⟩

end Go.Proofs.Ytpmggbdmoopkfaa
