/-
  Proved here: what the landed log's Find answers.
  The conditions stand at each theorem.
-/
import Derived.Test.YtpmggbdmoopkfaaLgTxW
import Derived.Test.YtpmggbdmoopkfaaPthAgain
namespace Go.Proofs.Ytpmggbdmoopkfaa
open Go.RowKit
set_option linter.unusedVariables false
set_option linter.unusedSimpArgs false

theorem logAt_of {w : World} {ao : Option Addr} {cap : Nat} {Z : List (List Int)} (hR : RowsIn w ao 40 cap Z) (h64 : all64 Z = true) : ∃ b off, ao = some ⟨b, off, none⟩ ∧ ∀ W B, Below w.heap.size w W → W.cell? ⟨B, 0, none⟩ = some (.slice ao (40 : Nat) cap) → LogAt W B b off cap Z := by
  have hl : ∀ j, j < 40 → (Z.getD j []).length = 64 := fun j hj => by
    unfold all64 at h64
    have := List.all_eq_true.1 h64 (Z.getD j []) (by rw [List.getD_eq_getElem?_getD, List.getElem?_eq_getElem (by rw [hR.1]; exact hj)]; exact List.getElem_mem _)
    exact of_decide_eq_true this
  obtain ⟨b, off, _, _, rfl, _⟩ := hR.full (show 0 < 40 by decide) (hl 0 (by decide))
  refine ⟨b, off, rfl, fun W B hb hc => ⟨hc, hR.2.1, hR.1, fun j hj => ?_⟩⟩
  obtain ⟨b', off', ad, c, he, h1, h2⟩ := hR.full hj (hl j hj)
  simp only [Option.some.injEq, Addr.mk.injEq, and_true] at he
  obtain ⟨rfl, rfl⟩ := he
  exact ⟨ad, c, cell_later hb h1, h2.later hb⟩

theorem okLog_is {Z : List (List Int)} {a s : Int} : okLog Z a s = (PHead.sound ⟨a, s⟩ && ringB Z) := by
  unfold okLog PHead.sound ringB all64
  rw [Bool.eq_iff_iff]
  simp only [Bool.and_eq_true, decide_eq_true_eq]
  exact ⟨fun h => ⟨h.1.2, h.1.1, h.2⟩, fun h => ⟨⟨h.2.1, h.1⟩, h.2.2⟩⟩

/-- What holds at the label. -/
def AtNext (Z : List (List Int)) (at_ s : Int) (w1 : World) (B b off cap : Nat) (v : Value) (pre : List (List (Int × List Int))) (a : Nat) (q : Int) (w' : World) : Prop :=
  a < 40 ∧ s ≤ q ∧ q ≤ 1073741824 ∧ findF Z at_.toNat s = (pre ++ (findF Z a q).1, (findF Z a q).2) ∧ (pre.length : Int) = q - s ∧ FVar w1 (a : Int) q w' ∧ LogAt w' B b off cap Z ∧ LOwn (w1.heap.size + 2) w' v pre

set_option maxRecDepth 100000 in
set_option maxHeartbeats 3200000 in
theorem lFind_any {w : World} {ao : Option Addr} {len cap : Nat} {Z : List (List Int)} (at_ s : Int) (h1 : I64 at_) (h2 : I64 s) (hR : RowsIn w ao len cap Z) :
    Calls Try.prog 19 #[.slice ao len cap, .agg #[.int .i64 at_, .int .i64 s]] w (HandedF w.heap.size w (foundOut Z at_ s) (foundErr Z at_ s)) := by
  obtain ⟨w1, hW1⟩ : ∃ w1, w.alloc (.cells #[.slice ao len cap] 38) = w1 := ⟨_, rfl⟩
  have B1 : Hid (Below w.heap.size w w1) := Lib.hid (by rw [← hW1]; exact (Below.refl _ _).alloc (Nat.le_refl _) _)
  have hs1 : w1.heap.size = w.heap.size + 1 := by rw [← hW1]; simp
  have l1 : w1.cell? ⟨w.heap.size, 0, none⟩ = some (.slice ao len cap) := by rw [← hW1, World.cell?_alloc_new]; rfl
  obtain ⟨A0, hA0⟩ : ∃ A0, (w1.alloc (.cells #[.int .i64 at_, .int .i64 s] 40)).alloc (.cells #[.int .i64 0, .int .i64 0] 40) = A0 := ⟨_, rfl⟩
  have FV0 : FVar w1 at_ s A0 := by
    have hs2 : (w1.alloc (.cells #[.int .i64 at_, .int .i64 s] 40)).heap.size = w1.heap.size + 1 := by simp
    have hb : Below (w1.alloc (.cells #[.int .i64 at_, .int .i64 s] 40)).heap.size (w1.alloc (.cells #[.int .i64 at_, .int .i64 s] 40)) A0 := by rw [← hA0]; exact (Below.refl _ _).alloc (Nat.le_refl _) _
    refine ⟨by rw [← hA0]; exact ((Below.refl _ _).alloc (Nat.le_refl _) _).alloc (by simp) _, cell_later hb ?_, cell_later hb ?_, ?_, ?_, fun j => ?_, fun j => ?_⟩
    · rw [World.cell?_alloc_new]; rfl
    · rw [World.cell?_alloc_new]; rfl
    · rw [← hA0, ← hs2, World.cell?_alloc_new]; rfl
    · rw [← hA0, ← hs2, World.cell?_alloc_new]; rfl
    · rw [hb.frozen (p := ⟨w1.heap.size, j, none⟩) (by simp), World.frozen?_alloc_mark]; simp
    · rw [← hA0, ← hs2, World.frozen?_alloc_mark]; simp
  have HF0 : Hid (∀ W, Below A0.heap.size A0 W → FVar w1 at_ s W) := Lib.hid (fun W hb => FV0.later hb)
  have HB0 : Hid (∀ W, Below A0.heap.size A0 W → Below w.heap.size w W) := Lib.hid (fun W hb => B1.out.trans ((FV0.later hb).1.mono B1.out.size))
  have HLB : Hid (∀ W, Below A0.heap.size A0 W → W.cell? ⟨w.heap.size, 0, none⟩ = some (.slice ao len cap)) := Lib.hid (fun W hb => cell_later (FV0.later hb).1 l1)
  have HRL : Hid (∀ W, Below A0.heap.size A0 W → RowsIn W ao len cap Z) := Lib.hid (fun W hb => hR.later (HB0.out W hb))
  have cP := sput_any ⟨at_, s⟩ A0 ⟨h1, h2⟩
  have HIN := Lib.hid (And.intro h1 h2)
  have hok := okLog_is (Z := Z) (a := at_) (s := s)
  have a0 := FV0.2.1
  have a1 := FV0.2.2.1
  unfold PHead.val at cP
  have HBAD : Hid (∀ W, Below A0.heap.size A0 W → Below w.heap.size w ((W.setCell ⟨w1.heap.size + 1, 0, none⟩ (.int .i64 0)).setCell ⟨w1.heap.size + 1, 1, none⟩ (.int .i64 0))) := Lib.hid (fun W hb => ((HB0.out W hb).setCell (p := ⟨w1.heap.size + 1, 0, none⟩) (by show w.heap.size ≤ w1.heap.size + 1; omega) _).setCell (p := ⟨w1.heap.size + 1, 1, none⟩) (by show w.heap.size ≤ w1.heap.size + 1; omega) _)
  by_cases hok1 : okLog Z at_ s = true
  case neg =>
    have HE : Hid (foundErr Z at_ s = 2 ∧ foundOut Z at_ s = ([], 0, 0)) := Lib.hid (by unfold foundErr foundOut; rw [if_neg hok1, if_neg hok1]; exact ⟨rfl, rfl⟩)
    rw [Bool.not_eq_true] at hok1
    rw [hok1] at hok
    cases hS : PHead.sound ⟨at_, s⟩ with
    | false =>
      have e1 : headErr ⟨at_, s⟩ = 2 := by unfold headErr; rw [hS]; rfl
      rw [e1] at cP
      clear hok hok1 hS e1 h1 h2 hR l1 FV0 hs1
      go_enter Try.func19, Try.ntmps19
      go_wp2_with fail
      clear hA0 hW1
      refine wp_scope_again 0 (fun _ _ => False) (fun _ _ => 0) rfl ?_ (fun _ _ h => h.elim)
      intro hpass
      go_wp2_with (first | (go_at_call 34; refine cP.mono ?_; rintro e w2 ⟨v2, rfl, _, hb2⟩; have HB2 := Lib.hid hb2; have k0 := (HF0.out _ hb2).2.1; have k1 := (HF0.out _ hb2).2.2.1; have k2 := (HF0.out _ hb2).2.2.2.1; have k3 := (HF0.out _ hb2).2.2.2.2.1; have f2 := (HF0.out _ hb2).2.2.2.2.2.1; have f3 := (HF0.out _ hb2).2.2.2.2.2.2; have l0 := HLB.out _ hb2; have cR := ring_any (HRL.out _ hb2); clear hb2))
      simp only [Exit.jump]
      refine bodyPost_ret (v := .tuple #[.slice none 0 0, .agg #[.int .i64 0, .int .i64 0], .int .i64 2]) ?_ rfl ⟨none, 0, by rw [HE.out.1, HE.out.2]; rfl, by rw [HE.out.2]; exact LIs.nil _, (HBAD.out _ HB2.out)⟩
      rw [results_tct rfl]
      go_simp
      try rfl
    | true =>
      have hrg : ringB Z = false := by rw [hS, Bool.true_and] at hok; exact hok.symm
      have e1 : headErr ⟨at_, s⟩ = 0 := by unfold headErr; rw [hS]; rfl
      rw [e1] at cP
      have HRG := Lib.hid hrg
      clear hok hok1 hS e1 h1 h2 hR l1 FV0 hrg hs1
      go_enter Try.func19, Try.ntmps19
      go_wp2_with fail
      clear hA0 hW1
      refine wp_scope_again 0 (fun _ _ => False) (fun _ _ => 0) rfl ?_ (fun _ _ h => h.elim)
      intro hpass
      go_wp2_with (first | (go_at_call 35; refine cR.mono ?_; rintro e w3 ⟨rfl, rfl⟩; rw [HRG.out]) | (go_at_call 34; refine cP.mono ?_; rintro e w2 ⟨v2, rfl, _, hb2⟩; have HB2 := Lib.hid hb2; have k0 := (HF0.out _ hb2).2.1; have k1 := (HF0.out _ hb2).2.2.1; have k2 := (HF0.out _ hb2).2.2.2.1; have k3 := (HF0.out _ hb2).2.2.2.2.1; have f2 := (HF0.out _ hb2).2.2.2.2.2.1; have f3 := (HF0.out _ hb2).2.2.2.2.2.2; have l0 := HLB.out _ hb2; have cR := ring_any (HRL.out _ hb2); clear hb2))
      simp only [Exit.jump]
      refine bodyPost_ret (v := .tuple #[.slice none 0 0, .agg #[.int .i64 0, .int .i64 0], .int .i64 2]) ?_ rfl ⟨none, 0, by rw [HE.out.1, HE.out.2]; rfl, by rw [HE.out.2]; exact LIs.nil _, (HBAD.out _ HB2.out)⟩
      rw [results_tct rfl]
      go_simp
      try rfl
  rw [hok1] at hok
  have hS : PHead.sound ⟨at_, s⟩ = true := by
    cases h : PHead.sound ⟨at_, s⟩ with
    | true => rfl
    | false => rw [h] at hok; cases hok
  have hrg : ringB Z = true := by rw [hS, Bool.true_and] at hok; exact hok.symm
  have e1 : headErr ⟨at_, s⟩ = 0 := by unfold headErr; rw [hS]; rfl
  rw [e1] at cP
  have Hc : Hid (0 ≤ at_ ∧ at_ ≤ 39 ∧ 1 ≤ s ∧ s ≤ 1073741824) := Lib.hid (of_decide_eq_true hS)
  have hr2 : Z.length = 40 ∧ all64 Z = true := by unfold ringB at hrg; rw [Bool.and_eq_true, decide_eq_true_eq] at hrg; exact hrg
  have HRG := Lib.hid hrg
  obtain rfl : len = 40 := by rw [← hR.1, hr2.1]
  have HE : Hid (foundErr Z at_ s = 0 ∧ foundOut Z at_ s = ((findF Z at_.toNat s).1, ((findF Z at_.toNat s).2.1 : Int), (findF Z at_.toNat s).2.2)) := Lib.hid (by unfold foundErr foundOut; rw [hok1]; exact ⟨rfl, rfl⟩)
  obtain ⟨b, off, rfl, hLG⟩ := logAt_of hR hr2.2
  have HLG := Lib.hid hLG
  have hfin : ∀ (W : World) (ov : Value) (pre : List (List (Int × List Int))) (a : Nat) (q : Int), findF Z at_.toNat s = (pre, a, q) → FVar w1 (a : Int) q W → LOwn (w1.heap.size + 2) W ov pre → ∃ oa oc, ov = .slice oa pre.length oc ∧
      HandedF w.heap.size w (foundOut Z at_ s) (foundErr Z at_ s) (.returned (.tuple #[ov, .agg #[.int .i64 a, .int .i64 q], .int .i64 0])) (((W.setCell ⟨w1.heap.size + 1, 0, none⟩ (.int .i64 a)).setCell ⟨w1.heap.size + 1, 1, none⟩ (.int .i64 q)).drew) := fun W ov pre a q he hV hO => by
    have hK : Keeps (w1.heap.size + 1) W (((W.setCell ⟨w1.heap.size + 1, 0, none⟩ (.int .i64 a)).setCell ⟨w1.heap.size + 1, 1, none⟩ (.int .i64 q)).drew) := ((Keeps.set _ ⟨w1.heap.size + 1, 0, none⟩ _).trans (Keeps.set _ ⟨w1.heap.size + 1, 1, none⟩ _)).drew
    obtain ⟨oa, oc, rfl, hL⟩ := (hO.keeps hK (by omega)).lis
    refine ⟨oa, oc, rfl, oa, oc, ?_, ?_, (((B1.out.trans (hV.1.mono B1.out.size)).setCell (p := ⟨w1.heap.size + 1, 0, none⟩) (by show w.heap.size ≤ w1.heap.size + 1; omega) _).setCell (p := ⟨w1.heap.size + 1, 1, none⟩) (by show w.heap.size ≤ w1.heap.size + 1; omega) _).drew⟩
    · rw [HE.out.1, HE.out.2, he]
    · rw [HE.out.2, he]; exact hL
  have HFIN := Lib.hid hfin
  have HS1 := Lib.hid hs1
  have HLC : Hid (∀ W, Below w1.heap.size w1 W → LogAt W w.heap.size b off cap Z) := Lib.hid (fun W hb => hLG W _ (B1.out.trans (hb.mono B1.out.size)) (cell_later hb l1))
  clear hok hok1 hS e1 h1 h2 hR l1 FV0 hrg hr2 hLG hfin hs1
  go_enter Try.func19, Try.ntmps19
  go_wp2_with fail
  clear hA0 hW1
  refine wp_scope_again 0 (fun a' w' => ∃ (v : Value) (pre : List (List (Int × List Int))) (a : Nat) (q : Int) (u7 u8 u11 u12 u13 u14 u15 u16 u17 u18 u19 u20 u21 u22 u23 u24 u25 u26 u27 u28 u29 u30 u31 u32 u33 u34 u35 u36 u37 u38 u39 u40 u41 u42 u43 u44 u45 u46 u47 u48 u49 u50 u51 : Value), a' = { tmps := #[.slice (some ⟨b, off, none⟩) (40 : Nat) cap, .agg #[.int .i64 at_, .int .i64 s], .pointer (some ⟨w.heap.size, 0, none⟩), .pointer (some ⟨w1.heap.size, 0, none⟩), .slice none 0 0, .pointer (some ⟨w1.heap.size + 1, 0, none⟩), .int .i64 0, u7, u8, .func (.func 36) #[] #[.pointer (some ⟨w.heap.size, 0, none⟩)], v, u11, u12, u13, u14, u15, u16, u17, u18, u19, u20, u21, u22, u23, u24, u25, u26, u27, u28, u29, u30, u31, u32, u33, u34, u35, u36, u37, u38, u39, u40, u41, u42, u43, u44, u45, u46, u47, u48, u49, u50, u51], defers := [] } ∧ Hid (AtNext Z at_ s w1 w.heap.size b off cap v pre a q w')) (fun _ w' => seqOf w1.heap.size w') rfl ?_ ?_
  · intro hpass
    go_wp2_with (first | (go_at_call 35; refine cR.mono ?_; rintro e w3 ⟨rfl, rfl⟩; rw [HRG.out]) | (go_at_call 34; refine cP.mono ?_; rintro e w2 ⟨v2, rfl, _, hb2⟩; have HB2 := Lib.hid hb2; have k0 := (HF0.out _ hb2).2.1; have k1 := (HF0.out _ hb2).2.2.1; have k2 := (HF0.out _ hb2).2.2.2.1; have k3 := (HF0.out _ hb2).2.2.2.2.1; have f2 := (HF0.out _ hb2).2.2.2.2.2.1; have f3 := (HF0.out _ hb2).2.2.2.2.2.2; have l0 := HLB.out _ hb2; have cR := ring_any (HRL.out _ hb2); clear hb2))
    go_step3
    rename_i hK0
    refine hK0 _ _ (hpass _ _ ?_)
    have hc := Hc.out
    refine ⟨.slice none 0 0, [], at_.toNat, s, _, _, _, _, _, _, _, _, _, _, _, _, _, _, _, _, _, _, _, _, _, _, _, _, _, _, _, _, _, _, _, _, _, _, _, _, _, _, _, _, _, _, _, rfl, Lib.hid ⟨by omega, Int.le_refl _, hc.2.2.2, rfl, by simp, ?_, HLG.out _ _ (HB0.out _ HB2.out) l0, ?_⟩⟩
    · rw [Int.toNat_of_nonneg hc.1]; exact HF0.out _ HB2.out
    · exact ⟨[], owns_nil_r _ _ _ _, fun j l h => by simp at h⟩
  · rintro a' w' ⟨v, pre, a, q, u7, u8, u11, u12, u13, u14, u15, u16, u17, u18, u19, u20, u21, u22, u23, u24, u25, u26, u27, u28, u29, u30, u31, u32, u33, u34, u35, u36, u37, u38, u39, u40, u41, u42, u43, u44, u45, u46, u47, u48, u49, u50, u51, rfl, HA⟩
    obtain ⟨ha, hq0, hq1, hF, hpl, hV, hL, hO⟩ := HA.out
    have HV := Lib.hid hV
    have HF := Lib.hid hF
    have HPL := Lib.hid hpl
    have HO := Lib.hid hO
    have HQ := Lib.hid (And.intro hq0 hq1)
    have k0 := hV.2.1
    have k1 := hV.2.2.1
    have hq64 : I64 q := by have := Hc.out; unfold I64; omega
    by_cases hno : q = 1073741824 ∨ txAt Z a q = none
    · have HFF : Hid (findF Z at_.toNat s = (pre, a, q)) := Lib.hid (by
        rcases hno with h | h
        · rw [hF, findF_end (by omega), List.append_nil]
        · rw [hF, findF_none h, List.append_nil])
      have cT := txNone_any a q ha hq64 hL hno
      clear HA ha hq0 hq1 hF hpl hV hL hO hno hq64
      go_wp2_with (go_at_call 37; refine cT.mono ?_; rintro e w3 ⟨rfl, hb3⟩; have HV3 := Lib.hid (HV.out.later hb3); have HO3 := Lib.hid (HO.out.later hb3); have k4 := HV3.out.2.1; have k5 := HV3.out.2.2.1; have k2 := HV3.out.2.2.2.1; have k3 := HV3.out.2.2.2.2.1; have f3 := HV3.out.2.2.2.2.2.2; clear hb3)
      obtain ⟨oa, oc, rfl, hfin⟩ := HFIN.out w3 v pre a q HFF.out HV3.out HO3.out
      have HFI := Lib.hid hfin
      clear hfin
      go_region
      all_goals
        go_wp2_with fail
        simp only [Exit.jump]
        refine bodyPost_ret (v := .tuple #[.slice oa pre.length oc, .agg #[.int .i64 (a : Int), .int .i64 q], .int .i64 0]) ?_ rfl HFI.out
        rw [results_tct rfl]
        go_simp
        try rfl
    · have hq2 : q ≠ 1073741824 := fun h => hno (Or.inl h)
      obtain ⟨l, hl⟩ : ∃ l, txAt Z a q = some l := by
        cases h : txAt Z a q with
        | none => exact absurd (Or.inr h) hno
        | some l => exact ⟨l, rfl⟩
      have cT := txSome_any a q ha hq64 hq2 hL l hl
      have hln := (tx_some hl).2.2.2
      have HLN := Lib.hid hln
      have HQ3 : Hid (q < 1073741824) := Lib.hid (by omega)
      have HF2 : Hid (findF Z at_.toNat s = ((pre ++ [l]) ++ (findF Z ((a + (l.length + 2)) % 40) (q + 1)).1, (findF Z ((a + (l.length + 2)) % 40) (q + 1)).2)) := Lib.hid (by rw [hF, findF_some hl HQ3.out, List.append_assoc]; rfl)
      obtain ⟨j, hj⟩ : ∃ j, (a + (l.length + 2)) % 40 = j := ⟨_, rfl⟩
      rw [hj] at HF2
      have HJ40 : Hid (j < 40) := Lib.hid (by omega)
      have i1 : (a : Int) < 40 := by omega
      have i20 : (l.length : Int) ≤ 20 := by omega
      have i00 : (0 : Int) ≤ (l.length : Int) := by omega
      have iq : q < 1073741824 := HQ3.out
      have iq0 : 1 ≤ q := by have := Hc.out; omega
      have x3 : Int.tmod ((a : Int) + (l.length : Int) + 2) 40 = (j : Int) := by rw [IntWalk.rem_in _ _ (by omega)]; omega
      obtain ⟨xs, ho, hxs⟩ := hO
      have HOW := Lib.hid ho
      have HXS := Lib.hid hxs
      have HLT := Lib.hid hV.lt
      have HPB : Hid (pre.length ≤ 1073741824) := Lib.hid (by have := Hc.out; omega)
      clear HA ha hq0 hq1 hF hpl hV hL hno hq64 hq2 hl hln hj ho hxs
      go_wp2_with (first
        | (go_at_call 37; refine cT.mono ?_; rintro e w3 ⟨g3, c3, rfl, hW3, hb3⟩; have HV3 := Lib.hid (HV.out.later hb3); have HW3 := Lib.hid hW3; have B3 := Lib.hid hb3; clear hb3 hW3)
        | (refine wp_append_at elemWs rfl (.tmp 37) (.tmp 39) rfl (w1.heap.size + 2) pre.length v xs rfl ((owns_later_r HOW.out B3.out).alloc _) ⟨w3.heap.size, 0, none⟩ 1 1 [.slice (some ⟨g3, 0, none⟩) l.length c3] rfl (by decide) rfl (news_f w3 [.slice (some ⟨g3, 0, none⟩) l.length c3] _) (by intro u hu; simp only [List.mem_cons, List.mem_nil_iff, or_false] at hu; rcases hu with rfl; rfl) (by have := HPB.out; omega) (by have := HLT.out; have := B3.out.size; simp; omega) ?_; intro v9 w9 hown9 hg9 hb9 hv9; have HL9 : Hid (LOwn (w1.heap.size + 2) w9 v9 (pre ++ [l])) := Lib.hid (LOwn.snoc HOW.out HXS.out B3.out HLT.out HW3.out hown9 hg9 hv9); have HV9 : Hid (FVar w1 (a : Int) q w9) := Lib.hid ((HV3.out.later ((Below.refl _ _).alloc (Nat.le_refl _) _)).under hb9 (by omega)); have k0 := HV9.out.2.1; have k1 := HV9.out.2.2.1; have f0 := HV9.out.2.2.2.2.2.1; clear hown9 hg9 hb9 hv9))
      have HVF := FVar.set (a' := (j : Int)) (s' := q + 1) HV9.out
      have hq9 := HQ.out
      go_step3
      refine ⟨rfl, ⟨⟨v9, pre ++ [l], j, q + 1, _, _, _, _, _, _, _, _, _, _, _, _, _, _, _, _, _, _, _, _, _, _, _, _, _, _, _, _, _, _, _, _, _, _, _, _, _, _, _, _, _, _, _, rfl, Lib.hid ⟨HJ40.out, by omega, by omega, HF2.out, ?_, HVF, HLC.out _ HVF.1, HL9.out.keeps ((Keeps.set _ ⟨w1.heap.size, 0, none⟩ _).trans (Keeps.set _ ⟨w1.heap.size, 1, none⟩ _)) (by show w1.heap.size < w1.heap.size + 2; omega)⟩⟩, ?_⟩⟩
      · rw [List.length_append]
        have := HPL.out
        simp
        omega
      · rw [seqOf_eq HVF, seqOf_eq HV.out]
        have := HQ3.out
        omega

end Go.Proofs.Ytpmggbdmoopkfaa
