/-
  Proved here: up to three extents need no block, seventeen need one, eighteen two and thirty-two three; one fresh block less is too few. No conditions.
-/
import Derived.Test.YtmgmlebkmdpddaaAwake13
namespace Go.Proofs.Ytmgmlebkmdpddaa.chainFew
open Go.ChangeShapes Go.WideShapes Go.ChangeAt Go.RowKit
open Go.ChangeMaps (open_string shut_string)
set_option linter.unusedVariables false
set_option linter.unusedSimpArgs false

theorem eis3C {base : Nat} {w : World} {v : Value} {xs : List EX} (h : RowX base w v xs) (hn : xs.length ≤ 1000) : ∃ ao cap, v = .slice ao xs.length cap ∧ EIs w ao xs.length xs ∧ (ao = none → cap = 0) ∧ xs.length ≤ cap ∧ ∃ b, 0 < xs.length → ao = some ⟨b, 0, none⟩ := by
  obtain ⟨vs, h1, h2⟩ := h
  have h3 := h1.2
  obtain ⟨ao, cap, rfl⟩ := owns_shape_r h1
  refine ⟨ao, cap, rfl, h2.eis h1 hn, ?_, ?_, ?_⟩
  · rintro rfl
    rcases h3 with ⟨h, _⟩ | ⟨g, cap', cur, h, hg, _⟩
    · simp only [Value.slice.injEq] at h; exact h.2.2
    · cases h
  · rcases h3 with ⟨h, h0⟩ | ⟨g, cap', cur, h, hg, _, hc, _⟩
    · omega
    · simp only [Value.slice.injEq] at h
      omega
  · rcases h3 with ⟨h, h0⟩ | ⟨g, cap', cur, h, hg, _⟩
    · exact ⟨0, fun h1 => absurd h0 (by omega)⟩
    · simp only [Value.slice.injEq] at h
      exact ⟨g, fun _ => h.1⟩

def threeF : List Int := [470, 471, 472]
theorem few_apart {f : Int} {k K : Nat} (hk : k < 33) (h0 : 59 ≤ f) (h1 : f ≤ 358) : ∀ z ∈ threeF.take K, ¬ z ∈ trimL (fewP f k) := by
  intro z hz hm
  have h2 : z ∈ threeF := List.mem_of_mem_take hz
  have h3 := few_mem k f z (trim_mem hm)
  simp only [threeF, List.mem_cons, List.not_mem_nil, or_false] at h2
  omega
theorem few_plan {w : World} {ao bo : Option Addr} {b k cap c K : Nat} {f : Int} (hk : k < 33) (h0 : 59 ≤ f) (h1 : f ≤ 358) (hE : EIs w ao k (fewX 0 f k)) (hnil : ao = none → cap = 0) (hao : 0 < k → ao = some ⟨b, 0, none⟩) (hcap : k ≤ cap) (hF : IArg w bo K c (threeF.take K)) (hK : (K : Int) = chNeed k) (hK3 : K ≤ 3) :
    Calls Try.prog 8 #[.slice ao k cap, .slice bo K c] w fun e w' => ∃ xo xc g, e = .returned (.tuple #[nodeC (.slice xo (min 3 k) xc) 2 (if K = 0 then 0 else 470), .slice (some ⟨g, 0, none⟩) K K, .int .i64 0]) ∧ Below w.heap.size w w' := by
  rw [← few_from k 0 f (by omega)] at hE
  refine (chPlan_ok (l := fewP f k) (fs := threeF.take K) (b := b) (off := 0) hE (few_ok (by omega) h0 (by omega)) hnil hao hcap hF hK (by omega) (Nat.le_refl _) ?_ ?_ ?_).mono ?_
  · rw [List.take_take, Nat.min_self]
    match K, hK3 with
    | 0, _ => decide
    | 1, _ => decide
    | 2, _ => decide
    | 3, _ => decide
  · rw [List.take_take, Nat.min_self]
    match K, hK3 with
    | 0, _ => decide
    | 1, _ => decide
    | 2, _ => decide
    | 3, _ => decide
  · rw [List.take_take, Nat.min_self]
    exact few_apart hk h0 h1
  · rintro e w' ⟨xo, xc, g, B0, rfl, _, _, _, hb⟩
    refine ⟨xo, xc, g, ?_, hb⟩
    match K, hK3 with
    | 0, _ => rfl
    | 1, _ => rfl
    | 2, _ => rfl
    | 3, _ => rfl
theorem few_few {w : World} {ao bo : Option Addr} {k cap m c K : Nat} {f : Int} {fs : List Int} (hk : k < 33) (h0 : 59 ≤ f) (h1 : f ≤ 358) (hE : EIs w ao k (fewX 0 f k)) (hF : IArg w bo m c fs) (hK : (K : Int) = chNeed k) (hm : m < K) :
    Calls Try.prog 8 #[.slice ao k cap, .slice bo m c] w fun e w' => e = .returned (.tuple #[.agg #[.int .i64 0, .int .i64 0, .int .i64 0, .int .i64 0, .int .i64 0, .int .i64 0, .int .i64 0, .int .i64 0, .int .i64 0, .int .i64 0, .slice none 0 0, .int .i64 0], .slice none 0 0, .int .i64 6]) ∧ Below w.heap.size w w' := by
  rw [← few_from k 0 f (by omega)] at hE
  exact chPlan_few hE (few_ok (by omega) h0 (by omega)) hF hK (by omega) hm
theorem few_plan1 {w : World} {ao bo : Option Addr} {b k cap c K : Nat} {f : Int} (hk : k < 33) (h0 : 59 ≤ f) (h1 : f ≤ 358) (hE : EIs w ao k (fewX 0 f k)) (hnil : ao = none → cap = 0) (hao : 0 < k → ao = some ⟨b, 0, none⟩) (hcap : k ≤ cap) (hF : IArg w bo K c (threeF.take K)) (hK : (K : Int) = chNeed k) (hK3 : K ≤ 3) (hK1 : 1 ≤ K) (h3 : 3 ≤ k) :
    Calls Try.prog 8 #[.slice ao k cap, .slice bo K c] w fun e w' => ∃ xo xc g, e = .returned (.tuple #[.agg #[.int .i64 0, .int .i64 2, .int .i64 0, .int .i64 0, .int .i64 0, .int .i64 0, .int .i64 0, .int .i64 0, .int .i64 0, .int .i64 0, .slice xo 3 xc, .int .i64 470], .slice (some ⟨g, 0, none⟩) K K, .int .i64 0]) ∧ Below w.heap.size w w' := by
  refine (few_plan hk h0 h1 hE hnil hao hcap hF hK hK3).mono ?_
  rintro e w' ⟨xo, xc, g, rfl, hb⟩
  exact ⟨xo, xc, g, by rw [Nat.min_eq_left h3, if_neg (by omega)]; rfl, hb⟩
theorem few_plan0 {w : World} {ao bo : Option Addr} {b k cap c : Nat} {f : Int} (hk : k < 33) (h0 : 59 ≤ f) (h1 : f ≤ 358) (hE : EIs w ao k (fewX 0 f k)) (hnil : ao = none → cap = 0) (hao : 0 < k → ao = some ⟨b, 0, none⟩) (hcap : k ≤ cap) (hF : IArg w bo 0 c []) (h3 : k ≤ 3) :
    Calls Try.prog 8 #[.slice ao k cap, .slice bo 0 c] w fun e w' => ∃ xo xc g, e = .returned (.tuple #[.agg #[.int .i64 0, .int .i64 2, .int .i64 0, .int .i64 0, .int .i64 0, .int .i64 0, .int .i64 0, .int .i64 0, .int .i64 0, .int .i64 0, .slice xo k xc, .int .i64 0], .slice (some ⟨g, 0, none⟩) (0 : Nat) (0 : Nat), .int .i64 0]) ∧ Below w.heap.size w w' := by
  refine (few_plan (K := 0) hk h0 h1 hE hnil hao hcap hF (by unfold chNeed; rw [if_pos (by omega)]; rfl) (by decide)).mono ?_
  rintro e w' ⟨xo, xc, g, rfl, hb⟩
  exact ⟨xo, xc, g, by rw [Nat.min_eq_right h3]; rfl, hb⟩
set_option maxRecDepth 100000 in
set_option maxHeartbeats 12800000 in
theorem walk (a0 : Int) (a1 : Int) (w : World) (w0 : (Lit.int .u16 a0).wf = true) (w1 : (Lit.int .u8 a1).wf = true) :
    Calls Try.prog 4 #[.int .u16 a0, .int .u8 a1] w fun e w' => e = .returned (.bool true) ∧ Below w.heap.size w w' := by
  have hw0 := w0
  have hw1 := w1
  simp [Lit.wf, IntKind.min, IntKind.max, IntKind.bits, IntKind.signed] at hw0 hw1
  obtain ⟨k, hk⟩ : ∃ k : Nat, a1 % 33 = (k : Int) := ⟨(a1 % 33).toNat, by omega⟩
  have u1 : wrap64 a0 = a0 := by unfold wrap64; omega
  have u0 : a0.tmod 300 = a0 % 300 := Int.tmod_eq_emod_of_nonneg hw0.1
  have hk33 : k < 33 := by omega
  have hr0 : 0 ≤ a0 % 300 := by omega
  have hr1 : a0 % 300 ≤ 299 := by omega
  have HKM := Lib.hid hk
  have HO0 : Hid (RowX w.heap.size (w.alloc (.cells #[] 33)) (.slice (some ⟨w.heap.size, 0, none⟩) 0 0) (fewX 0 (59 + a0 % 300) 0)) := Lib.hid ⟨[], World.ownsRow_made (base := w.heap.size) (e := 33) (size := 2) w #[] 0 (Nat.le_refl _) (by decide) rfl, CellsE.nil⟩
  have HB0 : Hid (Below w.heap.size w (w.alloc (.cells #[] 33))) := Lib.hid ((Below.refl _ _).alloc (Nat.le_refl _) _)
  have HU0 := Lib.hid u0
  have HU1 := Lib.hid u1
  clear w0 w1 u0 u1 hk
  go_enter Try.func4, Try.ntmps4
  go_wp2_with fail
  go_loopw [5, 7] (fun lv iv wr => ∃ i : Nat, iv = .int .i64 (i : Int) ∧ i ≤ k ∧ Hid (RowX w.heap.size wr lv (fewX 0 (59 + a0 % 300) i)) ∧ Hid (Below w.heap.size w wr)) (fun _ iv _ => k - (intOf iv).toNat)
  case atStart => exact ⟨0, rfl, Nat.zero_le _, HO0, HB0⟩
  case round =>
    obtain ⟨i, rfl, hi, HR, HB⟩ := hrel
    by_cases hlt : i < k
    · have u0 := HU0.out
      have u1 := HU1.out
      have i0 : (0 : Int) ≤ (i : Int) := by omega
      have i1 : (i : Int) < a1 % 33 := by have := HKM.out; omega
      have v1 : wrap64 (2 * (i : Int)) = 2 * (i : Int) := by unfold wrap64; omega
      have v2 : wrap64 (59 + a0 % 300) = 59 + a0 % 300 := by unfold wrap64; omega
      have v3 : wrap64 (59 + a0 % 300 + 2 * (i : Int)) = 59 + a0 % 300 + 2 * (i : Int) := by unfold wrap64; omega
      obtain ⟨vs, ho, hc⟩ := HR.out
      rw [fewX_length] at ho
      have HO := Lib.hid ho
      have HC := Lib.hid hc
      have HSZ : Hid (w.heap.size ≤ wr.heap.size) := Lib.hid HB.out.size
      have HFI : Hid (FI (floatOfInt .f64 (59 + a0 % 300 + 2 * (i : Int))) (59 + a0 % 300 + 2 * (i : Int))) := Lib.hid (fi_ofInt _ (by omega))
      clear ho hc
      go_wp2_with (at_builtin; refine wp_append_r elemX rfl (.tmp 25) (.tmp 38) rfl w.heap.size i _ vs rfl (HO.out.alloc _) ⟨wr.heap.size, 0, none⟩ 1 1 [.int .i64 (2 * (i : Int)), .complex .f64 (floatOfInt .f64 (59 + a0 % 300 + 2 * (i : Int))) 4607182418800017408] rfl rfl (news_r wr [.int .i64 (2 * (i : Int)), .complex .f64 (floatOfInt .f64 (59 + a0 % 300 + 2 * (i : Int))) 4607182418800017408] _) (by intro u hu; simp only [List.mem_cons, List.not_mem_nil, or_false] at hu; rcases hu with rfl | rfl <;> rfl) (by omega) (by have := HSZ.out; rw [World.size_alloc]; omega) ?_; intro v5 w5 hown5 hg5 hb5; have HO5 := Lib.hid hown5; have HB5 := Lib.hid ((HB.out.alloc HSZ.out _).trans hb5); clear hown5 hg5 hb5)
      go_roundw
      case rel => exact ⟨i + 1, by go_num, by omega, Lib.hid (by
        rw [fewX_snoc]
        refine ⟨vs ++ [.int .i64 (2 * (i : Int)), .complex .f64 (floatOfInt .f64 (59 + a0 % 300 + 2 * (i : Int))) 4607182418800017408], by rw [List.length_append, fewX_length]; exact HO5.out, ?_⟩
        have := CellsE.snoc (x := ⟨0 + 2 * (i : Int), 59 + a0 % 300 + 2 * (i : Int), 1⟩) HC.out HFI.out fi_1
        rw [show (0 : Int) + 2 * (i : Int) = 2 * (i : Int) by omega] at this ⊢
        exact this), HB5⟩
      case measure => simp [intOf]; omega
    · obtain rfl : i = k := by omega
      obtain ⟨ao, cap, rfl, hE, hnil, hcap, b, hao⟩ := eis3C HR.out (by rw [fewX_length]; omega)
      rw [fewX_length] at hE hcap hao ⊢
      have HE := Lib.hid hE
      have HNIL := Lib.hid hnil
      have HAO := Lib.hid hao
      have HCAP := Lib.hid hcap
      have HF : Hid (IArg (wr.alloc (.cells #[.int .i64 470, .int .i64 471, .int .i64 472] 3)) (some ⟨wr.heap.size, 0, none⟩) 3 3 threeF) := Lib.hid (iarg_of_range (zs := threeF) (cap := 3) (fun j v hj => by rw [Nat.zero_add, World.cell?_alloc_new]; have h : [Value.int .i64 470, .int .i64 471, .int .i64 472][j]? = some v := hj; simpa using h) (fun z hz => by simp only [threeF, List.mem_cons, List.not_mem_nil, or_false] at hz; exact ⟨by omega, by omega⟩) (by decide) (by decide))
      have HBN : Hid (Below wr.heap.size wr (wr.alloc (.cells #[.int .i64 470, .int .i64 471, .int .i64 472] 3))) := Lib.hid ((Below.refl _ _).alloc (Nat.le_refl _) _)
      have hkm := HKM.out
      clear hE hnil hao hcap hw1 hw0
      by_cases c1 : i ≤ 3
      · have k0 : ¬ (3 : Int) < a1 % 33 := by omega
        have k1 : ¬ (17 : Int) < a1 % 33 := by omega
        have k2 : ¬ (31 : Int) < a1 % 33 := by omega
        have k3 : ¬ (3 : Int) < (i : Int) := by omega
        have k4 : ¬ (17 : Int) < (i : Int) := by omega
        have k5 : ¬ (31 : Int) < (i : Int) := by omega
        go_wp2_with (first
          | (go_at_call 6; refine (awake13_any _).mono ?_; rintro e w5 ⟨rfl, hb5⟩; have HB5 := Lib.hid (HBV.out.trans (hb5.mono HBV.out.size)); have d10 := cell_later hb5 C10.out; have d11 := cell_later hb5 C11.out; clear hb5)
          | (go_at_call 8; refine (few_plan0 hk33 (by omega) (by omega) (HE.out.later HBN.out) HNIL.out HAO.out HCAP.out (HF.out.take (k := 0) (by decide)) (by omega)).mono ?_; rintro e w3 ⟨xo, xc, g, rfl, hb3⟩; have HB3 := Lib.hid (HBN.out.trans (hb3.mono HBN.out.size)); have HBV : Hid (Below wr.heap.size wr (w3.alloc (.cells #[.int .i64 0, .int .i64 2, .int .i64 0, .int .i64 0, .int .i64 0, .int .i64 0, .int .i64 0, .int .i64 0, .int .i64 0, .int .i64 0, .slice xo i xc, .int .i64 0] 37))) := Lib.hid (HB3.out.alloc HB3.out.size _); have C10 : Hid ((w3.alloc (.cells #[.int .i64 0, .int .i64 2, .int .i64 0, .int .i64 0, .int .i64 0, .int .i64 0, .int .i64 0, .int .i64 0, .int .i64 0, .int .i64 0, .slice xo i xc, .int .i64 0] 37)).cell? ⟨w3.heap.size, 10, none⟩ = some (.slice xo i xc)) := Lib.hid (by rw [World.cell?_alloc_new]; rfl); have C11 : Hid ((w3.alloc (.cells #[.int .i64 0, .int .i64 2, .int .i64 0, .int .i64 0, .int .i64 0, .int .i64 0, .int .i64 0, .int .i64 0, .int .i64 0, .int .i64 0, .slice xo i xc, .int .i64 0] 37)).cell? ⟨w3.heap.size, 11, none⟩ = some (.int .i64 0)) := Lib.hid (by rw [World.cell?_alloc_new]; rfl); clear hb3))
        all_goals go_ret
        all_goals exact ⟨by first | rfl | (simp; omega), HB.out.trans (HB5.out.mono HB.out.size)⟩
      · by_cases c2 : i ≤ 17
        · have HK : Hid (((1 : Nat) : Int) = chNeed (i : Int)) := Lib.hid (by unfold chNeed; split <;> omega)
          have k0 : (3 : Int) < a1 % 33 := by omega
          have k1 : ¬ (17 : Int) < a1 % 33 := by omega
          have k2 : ¬ (31 : Int) < a1 % 33 := by omega
          have k3 : (3 : Int) < (i : Int) := by omega
          have k4 : ¬ (17 : Int) < (i : Int) := by omega
          have k5 : ¬ (31 : Int) < (i : Int) := by omega
          go_wp2_with (first
            | (go_at_call 6; refine (awake13_any _).mono ?_; rintro e w5 ⟨rfl, hb5⟩; have hb6 := (show Below w4.heap.size w4 (w4.alloc (.cells #[.int .i64 0, .int .i64 0, .int .i64 0, .int .i64 0, .int .i64 0, .int .i64 0, .int .i64 0, .int .i64 0, .int .i64 0, .int .i64 0, .slice none 0 0, .int .i64 0] 37)) from (Below.refl _ _).alloc (Nat.le_refl _) _).trans (hb5.mono (by simp)); have HB5 := Lib.hid (HB4.out.trans (hb6.mono HB4.out.size)); have d10 := cell_later hb6 D10.out; have d11 := cell_later hb6 D11.out; clear hb5 hb6)
            | (go_at_call 8; refine (few_few (K := 1) (m := 0) hk33 (by omega) (by omega) (HE.out.later HBV.out) ((HF.out.take (k := 0) (by decide)).later (Below.refl _ _ |>.trans (HNV.out))) HK.out (by decide)).mono ?_; rintro e w4 ⟨rfl, hb4⟩; have HB4 := Lib.hid (HBV.out.trans (hb4.mono HBV.out.size)); have D10 := Lib.hid (cell_later hb4 C10.out); have D11 := Lib.hid (cell_later hb4 C11.out); clear hb4)
            | (go_at_call 8; refine (few_plan1 (K := 1) hk33 (by omega) (by omega) (HE.out.later HBN.out) HNIL.out HAO.out HCAP.out (HF.out.take (k := 1) (by decide)) HK.out (by decide) (by decide) (by omega)).mono ?_; rintro e w3 ⟨xo, xc, g, rfl, hb3⟩; have HNV : Hid (Below (wr.alloc (.cells #[.int .i64 470, .int .i64 471, .int .i64 472] 3)).heap.size (wr.alloc (.cells #[.int .i64 470, .int .i64 471, .int .i64 472] 3)) (w3.alloc (.cells #[.int .i64 0, .int .i64 2, .int .i64 0, .int .i64 0, .int .i64 0, .int .i64 0, .int .i64 0, .int .i64 0, .int .i64 0, .int .i64 0, .slice xo 3 xc, .int .i64 470] 37))) := Lib.hid (hb3.alloc hb3.size _); have HB3 := Lib.hid (HBN.out.trans (hb3.mono HBN.out.size)); have HBV : Hid (Below wr.heap.size wr (w3.alloc (.cells #[.int .i64 0, .int .i64 2, .int .i64 0, .int .i64 0, .int .i64 0, .int .i64 0, .int .i64 0, .int .i64 0, .int .i64 0, .int .i64 0, .slice xo 3 xc, .int .i64 470] 37))) := Lib.hid (HB3.out.alloc HB3.out.size _); have C10 : Hid ((w3.alloc (.cells #[.int .i64 0, .int .i64 2, .int .i64 0, .int .i64 0, .int .i64 0, .int .i64 0, .int .i64 0, .int .i64 0, .int .i64 0, .int .i64 0, .slice xo 3 xc, .int .i64 470] 37)).cell? ⟨w3.heap.size, 10, none⟩ = some (.slice xo 3 xc)) := Lib.hid (by rw [World.cell?_alloc_new]; rfl); have C11 : Hid ((w3.alloc (.cells #[.int .i64 0, .int .i64 2, .int .i64 0, .int .i64 0, .int .i64 0, .int .i64 0, .int .i64 0, .int .i64 0, .int .i64 0, .int .i64 0, .slice xo 3 xc, .int .i64 470] 37)).cell? ⟨w3.heap.size, 11, none⟩ = some (.int .i64 470)) := Lib.hid (by rw [World.cell?_alloc_new]; rfl); clear hb3))
          all_goals go_ret
          all_goals exact ⟨by first | rfl | (simp; omega), HB.out.trans (HB5.out.mono HB.out.size)⟩
        · by_cases c3 : i ≤ 31
          · have HK : Hid (((2 : Nat) : Int) = chNeed (i : Int)) := Lib.hid (by unfold chNeed; split <;> omega)
            have k0 : (3 : Int) < a1 % 33 := by omega
            have k1 : (17 : Int) < a1 % 33 := by omega
            have k2 : ¬ (31 : Int) < a1 % 33 := by omega
            have k3 : (3 : Int) < (i : Int) := by omega
            have k4 : (17 : Int) < (i : Int) := by omega
            have k5 : ¬ (31 : Int) < (i : Int) := by omega
            go_wp2_with (first
              | (go_at_call 6; refine (awake13_any _).mono ?_; rintro e w5 ⟨rfl, hb5⟩; have hb6 := (show Below w4.heap.size w4 (w4.alloc (.cells #[.int .i64 0, .int .i64 0, .int .i64 0, .int .i64 0, .int .i64 0, .int .i64 0, .int .i64 0, .int .i64 0, .int .i64 0, .int .i64 0, .slice none 0 0, .int .i64 0] 37)) from (Below.refl _ _).alloc (Nat.le_refl _) _).trans (hb5.mono (by simp)); have HB5 := Lib.hid (HB4.out.trans (hb6.mono HB4.out.size)); have d10 := cell_later hb6 D10.out; have d11 := cell_later hb6 D11.out; clear hb5 hb6)
              | (go_at_call 8; refine (few_few (K := 2) (m := 1) hk33 (by omega) (by omega) (HE.out.later HBV.out) ((HF.out.take (k := 1) (by decide)).later (Below.refl _ _ |>.trans (HNV.out))) HK.out (by decide)).mono ?_; rintro e w4 ⟨rfl, hb4⟩; have HB4 := Lib.hid (HBV.out.trans (hb4.mono HBV.out.size)); have D10 := Lib.hid (cell_later hb4 C10.out); have D11 := Lib.hid (cell_later hb4 C11.out); clear hb4)
              | (go_at_call 8; refine (few_plan1 (K := 2) hk33 (by omega) (by omega) (HE.out.later HBN.out) HNIL.out HAO.out HCAP.out (HF.out.take (k := 2) (by decide)) HK.out (by decide) (by decide) (by omega)).mono ?_; rintro e w3 ⟨xo, xc, g, rfl, hb3⟩; have HNV : Hid (Below (wr.alloc (.cells #[.int .i64 470, .int .i64 471, .int .i64 472] 3)).heap.size (wr.alloc (.cells #[.int .i64 470, .int .i64 471, .int .i64 472] 3)) (w3.alloc (.cells #[.int .i64 0, .int .i64 2, .int .i64 0, .int .i64 0, .int .i64 0, .int .i64 0, .int .i64 0, .int .i64 0, .int .i64 0, .int .i64 0, .slice xo 3 xc, .int .i64 470] 37))) := Lib.hid (hb3.alloc hb3.size _); have HB3 := Lib.hid (HBN.out.trans (hb3.mono HBN.out.size)); have HBV : Hid (Below wr.heap.size wr (w3.alloc (.cells #[.int .i64 0, .int .i64 2, .int .i64 0, .int .i64 0, .int .i64 0, .int .i64 0, .int .i64 0, .int .i64 0, .int .i64 0, .int .i64 0, .slice xo 3 xc, .int .i64 470] 37))) := Lib.hid (HB3.out.alloc HB3.out.size _); have C10 : Hid ((w3.alloc (.cells #[.int .i64 0, .int .i64 2, .int .i64 0, .int .i64 0, .int .i64 0, .int .i64 0, .int .i64 0, .int .i64 0, .int .i64 0, .int .i64 0, .slice xo 3 xc, .int .i64 470] 37)).cell? ⟨w3.heap.size, 10, none⟩ = some (.slice xo 3 xc)) := Lib.hid (by rw [World.cell?_alloc_new]; rfl); have C11 : Hid ((w3.alloc (.cells #[.int .i64 0, .int .i64 2, .int .i64 0, .int .i64 0, .int .i64 0, .int .i64 0, .int .i64 0, .int .i64 0, .int .i64 0, .int .i64 0, .slice xo 3 xc, .int .i64 470] 37)).cell? ⟨w3.heap.size, 11, none⟩ = some (.int .i64 470)) := Lib.hid (by rw [World.cell?_alloc_new]; rfl); clear hb3))
            all_goals go_ret
            all_goals exact ⟨by first | rfl | (simp; omega), HB.out.trans (HB5.out.mono HB.out.size)⟩
          · have HK : Hid (((3 : Nat) : Int) = chNeed (i : Int)) := Lib.hid (by unfold chNeed; split <;> omega)
            have k0 : (3 : Int) < a1 % 33 := by omega
            have k1 : (17 : Int) < a1 % 33 := by omega
            have k2 : (31 : Int) < a1 % 33 := by omega
            have k3 : (3 : Int) < (i : Int) := by omega
            have k4 : (17 : Int) < (i : Int) := by omega
            have k5 : (31 : Int) < (i : Int) := by omega
            go_wp2_with (first
              | (go_at_call 6; refine (awake13_any _).mono ?_; rintro e w5 ⟨rfl, hb5⟩; have hb6 := (show Below w4.heap.size w4 (w4.alloc (.cells #[.int .i64 0, .int .i64 0, .int .i64 0, .int .i64 0, .int .i64 0, .int .i64 0, .int .i64 0, .int .i64 0, .int .i64 0, .int .i64 0, .slice none 0 0, .int .i64 0] 37)) from (Below.refl _ _).alloc (Nat.le_refl _) _).trans (hb5.mono (by simp)); have HB5 := Lib.hid (HB4.out.trans (hb6.mono HB4.out.size)); have d10 := cell_later hb6 D10.out; have d11 := cell_later hb6 D11.out; clear hb5 hb6)
              | (go_at_call 8; refine (few_few (K := 3) (m := 2) hk33 (by omega) (by omega) (HE.out.later HBV.out) ((HF.out.take (k := 2) (by decide)).later (Below.refl _ _ |>.trans (HNV.out))) HK.out (by decide)).mono ?_; rintro e w4 ⟨rfl, hb4⟩; have HB4 := Lib.hid (HBV.out.trans (hb4.mono HBV.out.size)); have D10 := Lib.hid (cell_later hb4 C10.out); have D11 := Lib.hid (cell_later hb4 C11.out); clear hb4)
              | (go_at_call 8; refine (few_plan1 (K := 3) hk33 (by omega) (by omega) (HE.out.later HBN.out) HNIL.out HAO.out HCAP.out (HF.out.take (k := 3) (by decide)) HK.out (by decide) (by decide) (by omega)).mono ?_; rintro e w3 ⟨xo, xc, g, rfl, hb3⟩; have HNV : Hid (Below (wr.alloc (.cells #[.int .i64 470, .int .i64 471, .int .i64 472] 3)).heap.size (wr.alloc (.cells #[.int .i64 470, .int .i64 471, .int .i64 472] 3)) (w3.alloc (.cells #[.int .i64 0, .int .i64 2, .int .i64 0, .int .i64 0, .int .i64 0, .int .i64 0, .int .i64 0, .int .i64 0, .int .i64 0, .int .i64 0, .slice xo 3 xc, .int .i64 470] 37))) := Lib.hid (hb3.alloc hb3.size _); have HB3 := Lib.hid (HBN.out.trans (hb3.mono HBN.out.size)); have HBV : Hid (Below wr.heap.size wr (w3.alloc (.cells #[.int .i64 0, .int .i64 2, .int .i64 0, .int .i64 0, .int .i64 0, .int .i64 0, .int .i64 0, .int .i64 0, .int .i64 0, .int .i64 0, .slice xo 3 xc, .int .i64 470] 37))) := Lib.hid (HB3.out.alloc HB3.out.size _); have C10 : Hid ((w3.alloc (.cells #[.int .i64 0, .int .i64 2, .int .i64 0, .int .i64 0, .int .i64 0, .int .i64 0, .int .i64 0, .int .i64 0, .int .i64 0, .int .i64 0, .slice xo 3 xc, .int .i64 470] 37)).cell? ⟨w3.heap.size, 10, none⟩ = some (.slice xo 3 xc)) := Lib.hid (by rw [World.cell?_alloc_new]; rfl); have C11 : Hid ((w3.alloc (.cells #[.int .i64 0, .int .i64 2, .int .i64 0, .int .i64 0, .int .i64 0, .int .i64 0, .int .i64 0, .int .i64 0, .int .i64 0, .int .i64 0, .slice xo 3 xc, .int .i64 470] 37)).cell? ⟨w3.heap.size, 11, none⟩ = some (.int .i64 470)) := Lib.hid (by rw [World.cell?_alloc_new]; rfl); clear hb3))
            all_goals go_ret
            all_goals exact ⟨by first | rfl | (simp; omega), HB.out.trans (HB5.out.mono HB.out.size)⟩

/-! ### The law's step -/
set_option maxRecDepth 100000 in
theorem lifted (os : Os) (started : os.Started) (H : Type) (enc : TypeId × Value → H) :
    ReturnsInHanded {} Try.checked os 4 .any (Rows.chainFewSpec.pre6 enc Try.prog Try.f4 Rows.chainFewRow.domain false) (Rows.chainFewSpec.post enc Try.prog Try.f4 false true false false) := by
  refine returnsInHanded_of_change_sized (C := Try.checked) own started (by kernel_rfl) Try.func4
    (ChangeSpec.witness6 (enc := enc) (C := Try.checked) false ⟨#[], #[.int .u16 0, .int .u8 0], []⟩ 8 (by kernel_rfl) (by kernel_rfl) (by kernel_rfl) (by kernel_rfl)) ?_
  intro W base args ds gs before hval0 hW hcnd hsz0 _
  have hsz : (DataW.weightsEach Try.prog (Try.f4.params.toList ++ Rows.chainFewSpec.plain.varTypes Try.prog) (ds ++ gs)).all (· ≤ reachBytes) = true := hsz0
  clear hsz0
  have hval : ∀ (j : Nat) t v, Try.f4.params[j]? = some t → args[j]? = some v → Value.okWide Try.prog W .any base t v := hval0
  have hW' := hW
  obtain ⟨p, q, hA0, hV, rfl, hfz, hnd⟩ := hW
  have hA : DataW.TrodAll enc Try.prog W 0 (fun _ => true) true Try.f4.params.toList args.toList ds p := hA0
  rw [Try.params4] at hA hval hsz
  obtain ⟨v0, vs0, d0, ds0, p0, q0, hargs, rfl, rfl, h0, r0⟩ := trodAll_cons hA
  obtain ⟨v1, vs1, d1, ds1, p1, q1, rfl, rfl, rfl, h1, r1⟩ := trodAll_cons r0
  obtain ⟨rfl, rfl, rfl⟩ := trodAll_nil r1
  obtain rfl : args = #[v0, v1] := by cases args; simp_all
  obtain ⟨rfl, rfl⟩ := trodVars_none hV
  have k0 := h0
  have lt0 : ∀ x ∈ p0, x.block < W.heap.size := by obtain ⟨m, hm⟩ := k0; exact DataW.trod_lt m _ _ _ hm
  obtain ⟨a0, rfl, _, _, w0⟩ := open_int Try.underlying28 (hval 0 28 v0 rfl rfl) h0
  have k1 := h1
  have lt1 : ∀ x ∈ p1, x.block < W.heap.size := by obtain ⟨m, hm⟩ := k1; exact DataW.trod_lt m _ _ _ hm
  obtain ⟨a1, rfl, _, _, w1⟩ := open_int Try.underlying5 (hval 1 5 v1 rfl rfl) h1
  clear hA0 hval0
  refine (walk a0 a1 W w0 w1).mono fun e W' ⟨he, bel⟩ => ?_
  subst he
  exact ⟨_, rfl, _, _, _, [], _, [], hW', trodAll_mk1 (shut_bool Try.underlying4 _), (trodAll_cons_mk (Below.trod laidOut (by kernel_rfl) (of_decide_eq_true (by kernel_rfl)) k0 bel lt0) (trodAll_cons_mk (Below.trod laidOut (by kernel_rfl) (of_decide_eq_true (by kernel_rfl)) k1 bel lt1) trodAll_mk0)), rfl, bel.frame _, fun h => by cases h⟩

theorem over : Rows.chainFewRow.holds Try.pinned (OpenSpec.ofChange Rows.chainFewSpec) :=
  OpenClaim.holds_of_wide 4 Try.f4 rfl rfl rfl rfl rfl rfl rfl ⟨rfl, rfl, rfl, rfl, rfl⟩ rfl rfl rfl rfl rfl (by kernel_rfl) Try.func4 (by kernel_rfl)
    (of_decide_eq_true (by kernel_rfl)) (by unfold Func.isWrapper; first | (rw [if_pos (by decide +kernel)]; kernel_rfl) | (rw [if_neg (by decide +kernel)]; exact ⟨rfl, rfl⟩))
    (fun os started H enc _ => lifted os started H enc)

/-- The statement. -/
theorem proved : Rows.ChainFewSaid := over
end Go.Proofs.Ytmgmlebkmdpddaa.chainFew
