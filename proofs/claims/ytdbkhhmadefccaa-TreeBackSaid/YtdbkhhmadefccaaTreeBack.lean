/-
  Proved here: what was planned is read as it was, whatever other blocks there are. No conditions.
-/
import Derived.Test.YtdbkhhmadefccaaAwake11
import Derived.Test.YtdbkhhmadefccaaTrTrim
import Derived.Test.YtdbkhhmadefccaaTrZeros
import Derived.Test.YtdbkhhmadefccaaTrApp
namespace Go.Proofs.Ytdbkhhmadefccaa.treeBack
open Go.ChangeShapes Go.WideShapes Go.ChangeAt Go.RowKit
open Go.ChangeMaps (open_string shut_string)
set_option linter.unusedVariables false
set_option linter.unusedSimpArgs false

theorem need_len {zs fs : List Int} (h : planErr zs fs = 0) : (writesP zs fs).length = needP zs ∧ needP zs ≤ fs.length ∧ needP zs ≤ 5 := by
  obtain ⟨hp, hf⟩ := plan_ok h
  obtain ⟨hn, hd, ha⟩ := fresh_ok hf
  have := congrArg List.length (keys_plan hn)
  rw [List.length_map, List.length_take, Nat.min_eq_left hn] at this
  refine ⟨this, hn, ?_⟩
  rw [← usedN_need]
  exact usedN_le _ 5

set_option maxRecDepth 100000 in
set_option maxHeartbeats 6400000 in
theorem way_bad (a0 a1 : Option Addr) (len0 cap0 len1 cap1 : Nat) (z0 z1 : List Int) (v2 : Value) (w : World) (h0 : IArg w a0 len0 cap0 z0) (h1 : IArg w a1 len1 cap1 z1) (hE : planErr z0 z1 ≠ 0) :
    Calls Try.prog 5 #[.slice a0 len0 cap0, .slice a1 len1 cap1, v2] w fun e w' => e = .returned (.bool true) ∧ Below w.heap.size w w' := by
  have HC1 : Hid (Calls Try.prog 11 #[.slice a0 len0 cap0, .slice a1 len1 cap1] w fun e w' => ∃ v k, e = .returned (.tuple #[node0, .slice v 0 k, .int .i64 (planErr z0 z1)]) ∧ Below w.heap.size w w') := Lib.hid ((Plan_any a0 a1 len0 cap0 len1 cap1 z0 z1 w h0 h1).mono fun e w' h => by
    unfold PlanEnd planNode planWs at h
    rw [if_neg hE, if_neg hE] at h
    obtain ⟨v, rfl, hw, hb⟩ := h
    obtain ⟨wa, wc, rfl, hwi, _⟩ := hw.wis (by simp)
    exact ⟨wa, wc, rfl, hb⟩)
  generalize planErr z0 z1 = E at *
  have b1 : (E == 0) = false := by simpa using hE
  have b2 : (E != 0) = true := by simp [bne, b1]
  clear h0 h1
  unfold node0 nodeV nodeCs at *
  go_enter Try.func5, Try.ntmps5
  go_wp2_with (first
    | (go_at_call 11; refine HC1.out.mono ?_; rintro e w3 ⟨v3, k3, rfl, hb3⟩; have HB3 := Lib.hid (hb3.alloc hb3.size (.cells (nodeCs 0 0 0 0 0 0 0).toArray 32)); clear hb3)
    | (go_at_call 9; have gt := HB4; clear gt; refine (awake11_any _).mono ?_; rintro e w6 ⟨rfl, hb6⟩; have HB5 := Lib.hid (HB4.out.trans (hb6.mono HB4.out.size)); clear hb6)
    | (go_at_call 9; refine (awake11_any _).mono ?_; rintro e w6 ⟨rfl, hb6⟩; have HB4 := Lib.hid (HB3.out.trans (hb6.mono HB3.out.size)); clear hb6))
  go_ret
  exact ⟨rfl, HB5.out⟩
set_option maxRecDepth 100000 in
set_option maxHeartbeats 12800000 in
theorem way_ok (a0 a1 a2 : Option Addr) (len0 cap0 len1 cap1 len2 cap2 : Nat) (z0 z1 : List Int) (b2 : List (Int × List Int)) (w : World) (h0 : IArg w a0 len0 cap0 z0) (h1 : IArg w a1 len1 cap1 z1) (h2 : WIs w a2 len2 b2) (h2n : a2 = none → len2 = 0 ∧ cap2 = 0) (h2c : len2 ≤ 4398046510976) (hE : planErr z0 z1 = 0) :
    Calls Try.prog 5 #[.slice a0 len0 cap0, .slice a1 len1 cap1, .slice a2 len2 cap2] w fun e w' => e = .returned (.bool true) ∧ Below w.heap.size w w' := by
  obtain ⟨hn1, hn2, hn3⟩ := need_len hE
  have hp := (plan_ok hE).1
  have hl96 : z0.length ≤ 96 := by unfold ptrsOk at hp; rw [Bool.and_eq_true, decide_eq_true_eq] at hp; exact hp.1
  have hcap1 := h1.2.2.2
  rw [h1.len] at hn2
  have HC1 : Hid (Calls Try.prog 11 #[.slice a0 len0 cap0, .slice a1 len1 cap1] w fun e w' => ∃ v k, e = .returned (.tuple #[nodeV 1 (z0.getD 0 0) (z0.getD 1 0) (z0.getD 2 0) (z0.getD 3 0) (singleP z0 z1) (doubleP z0 z1), .slice v (needP z0) k, .int .i64 0]) ∧ (WIs w' v (needP z0) (writesP z0 z1) ∧ (v = none → needP z0 = 0 ∧ k = 0)) ∧ Below w.heap.size w w') := Lib.hid ((Plan_any a0 a1 len0 cap0 len1 cap1 z0 z1 w h0 h1).mono fun e w' h => by
    unfold PlanEnd planNode planWs at h
    rw [if_pos hE, if_pos hE, hE] at h
    obtain ⟨v, rfl, hw, hb⟩ := h
    obtain ⟨wa, wc, rfl, hwi, hz, _⟩ := hw.wis (by omega)
    rw [hn1] at hwi hz ⊢
    exact ⟨wa, wc, rfl, ⟨hwi, hz⟩, hb⟩)
  have HC2 : Hid (∀ W, Below w.heap.size w W → Calls Try.prog 7 #[.slice a0 len0 cap0] W fun e w' => e = .returned (.tuple #[.int .i64 ((needP z0 : Nat) : Int), .int .i64 0]) ∧ Below W.heap.size W w') := Lib.hid (fun W hW => (Need_any a0 len0 cap0 z0 W (h0.later hW)).mono (fun e w' h => by
    unfold needOut needErr at h
    rw [hp, if_pos rfl, if_pos rfl] at h
    exact h))
  have HC3 : Hid (∀ W ao m c, WIs W ao m (writesP z0 z1 ++ b2) → Calls Try.prog 15 #[nodeV 1 (z0.getD 0 0) (z0.getD 1 0) (z0.getD 2 0) (z0.getD 3 0) (singleP z0 z1) (doubleP z0 z1), .slice ao m c] W fun e w' => ∃ v l k u l2 k2, e = .returned (.tuple #[.slice v l k, .slice u l2 k2, .int .i64 0]) ∧ (IArg w' v l k (trimL z0) ∧ IArg w' u l2 k2 (z1.take (needP z0))) ∧ Below W.heap.size W w') := Lib.hid (fun W ao m c hW => (ReadPlan_any hE h0.2.1 h1.2.1 hW).mono (fun e w' h => by
    obtain ⟨v, u, rfl, hv, hu, hb⟩ := h
    obtain ⟨va, vc, rfl, hva, _⟩ := hv
    obtain ⟨ua, uc, rfl, hua, _⟩ := hu
    exact ⟨va, _, vc, ua, _, uc, rfl, ⟨hva, hua⟩, hb⟩))
  have HC4 : Hid (∀ W, Below w.heap.size w W → Calls Try.prog 17 #[.slice a0 len0 cap0] W fun e w' => ∃ v l k, e = .returned (.slice v l k) ∧ IArg w' v l k (trimL z0) ∧ Below W.heap.size W w') := Lib.hid (fun W hW => (Trim_any a0 len0 cap0 z0 W (h0.later hW) (by have := h0.len; omega)).mono (fun e w' h => by
    obtain ⟨v, rfl, hv, hb⟩ := h
    obtain ⟨va, vc, rfl, hva, _⟩ := hv
    exact ⟨va, _, vc, rfl, hva, hb⟩))
  have H1 : Hid (IArg w a1 (needP z0) cap1 (z1.take (needP z0))) := Lib.hid (h1.takeAny hn2)
  have H2 := Lib.hid h2
  have H2N := Lib.hid h2n
  have H2C := Lib.hid h2c
  have HN5' := Lib.hid hn3
  generalize needP z0 = N at *
  generalize writesP z0 z1 = ws at *
  generalize z0.getD 0 0 = x0 at *
  generalize z0.getD 1 0 = x1 at *
  generalize z0.getD 2 0 = x2 at *
  generalize z0.getD 3 0 = x3 at *
  generalize singleP z0 z1 = s at *
  generalize doubleP z0 z1 = t at *
  generalize trimL z0 = tz at *
  generalize z1.take N = fz at *
  have m1 : (N : Int) ≤ (cap1 : Int) := by omega
  have m2 : (0 : Int) ≤ (N : Int) := by omega
  have HNW := Lib.hid hn1
  clear h0 h1 h2 h2n h2c hE hp hl96 hcap1 hn1 hn2 hn3
  unfold nodeV nodeCs at *
  go_enter Try.func5, Try.ntmps5
  go_wp2_with (first
    | (go_at_call 11; refine HC1.out.mono ?_; rintro e w3 ⟨v3, k3, rfl, ⟨hw3, hw3n⟩, hb3⟩; have HW3 := Lib.hid hw3; have HW3N := Lib.hid hw3n; have HB30 := Lib.hid hb3; have HB3 := Lib.hid (hb3.alloc hb3.size (.cells (nodeCs 1 x0 x1 x2 x3 s t).toArray 32)); clear hb3 hw3 hw3n)
    | (go_at_call 9; refine (awake11_any _).mono ?_; rintro e w4 ⟨rfl, hb4⟩; have HB34 := Lib.hid hb4; have HB4 := Lib.hid (HB3.out.trans (hb4.mono HB3.out.size)); clear hb4)
    | (go_at_call 7; refine (HC2.out _ HB4.out).mono ?_; rintro e w5 ⟨rfl, hb5⟩; have HB35 := Lib.hid (HB34.out.trans (hb5.mono HB34.out.size)); have HB5 := Lib.hid (HB4.out.trans (hb5.mono HB4.out.size)); clear hb5))
  have HN5 : Hid (w5.drew.rangeAt w3.heap.size 0 (nodeCs 1 x0 x1 x2 x3 s t)) := Lib.hid (by
    intro j v hj
    rw [Nat.zero_add]
    show w5.cell? _ = _
    refine cell_later HB35.out ?_
    rw [World.cell?_alloc_new]
    unfold nodeCs at hj
    simpa using hj)
  have HW5 : Hid (WIs w5 v3 N ws) := Lib.hid ((HW3.out.later ((Below.refl _ _).alloc (Nat.le_refl _) (.cells (nodeCs 1 x0 x1 x2 x3 s t).toArray 32))).later HB35.out)
  have HLT : Hid (w3.heap.size < w5.heap.size) := Lib.hid (by have := HB35.out.size; rw [World.size_alloc] at this; omega)
  obtain ⟨fsN, hfN⟩ := uNode
  refine wp_region_held_drew (S := fun W => W.rangeAt w3.heap.size 0 (nodeCs 1 x0 x1 x2 x3 s t)) (by kernel_rfl) HN5.out (fun hHeld => ?_)
  refine wpAnyH_take (i := 0) (oi := { dst := some 40, op := .load 32 (.tmp 7), type := 32, pos := "law.go:77", after := #[], guard := none }) rfl (by kernel_rfl) (by kernel_rfl) (by kernel_rfl) (fun _ _ _ h => h) (yieldsIf_load_mid (by rfl) _ _ rfl _ _ rfl _ _ (fun W h => h) hfN rfl (iNode _ rfl)) (by assumption) ?_
  try simp only [Act.put, List.setIfInBounds_toArray, List.set_cons_zero, List.set_cons_succ]
  refine wpAnyH_take (i := 2) (oi := ⟨some 42, _, _, _, _, _⟩) (v := .slice v3 N k3) rfl (by kernel_rfl) (by kernel_rfl) (by kernel_rfl) (fun _ _ _ h => h) (Or.inl ⟨by kernel_rfl, fun w _ => rfl⟩) (by assumption) ?_
  try simp only [Act.put, List.setIfInBounds_toArray, List.set_cons_zero, List.set_cons_succ]
  refine wpAnyH_take (i := 4) (oi := ⟨some 44, _, _, _, _, _⟩) (v := .slice a2 len2 cap2) rfl (by kernel_rfl) (by kernel_rfl) (by kernel_rfl) (fun _ _ _ h => h) (Or.inl ⟨by kernel_rfl, fun w _ => rfl⟩) (by assumption) ?_
  try simp only [Act.put, List.setIfInBounds_toArray, List.set_cons_zero, List.set_cons_succ]
  refine wpAnyH_ready (rs := [1]) (by kernel_rfl) (by simp) ?_
  refine AllReadyH.cons rfl (fun K hK => ?_) AllReadyH.nil
  go_simp
  refine hK.out _ _ ?_ (fun hHeld1 => ?_)
  · exact fun j v hj => cell_later ((Below.refl _ _).alloc (Nat.le_refl _) _) (hHeld j v hj)
  clear hK K
  try simp only [Act.put, List.setIfInBounds_toArray, List.set_cons_zero, List.set_cons_succ]
  refine wpAnyH_ready (rs := [3]) (by kernel_rfl) (by simp) ?_
  refine AllReadyH.cons rfl (fun K hK => ?_) AllReadyH.nil
  rw [if_pos (by rfl)]
  refine op_append_known (.tmp 41) (.tmp 42) 33 33 rfl (.slice (some ⟨w5.drew.heap.size, 0, none⟩) 0 0) (.slice v3 N k3) rfl rfl (fun v' w' => (∃ ys, RowW w5 ys ws ∧ w'.ownsRow w5.heap.size 64 2 v' (0 + N) ([] ++ ys)) ∧ Below w5.heap.size (w5.drew.alloc (.cells #[] 64)) w')
    (run_append_wrs _ w5 ((Below.refl _ _).drew.alloc (Nat.le_refl _) _) _ w5.heap.size 0 _ [] (World.ownsRow_made (base := w5.heap.size) (e := 64) (size := 2) w5.drew #[] 0 (Nat.le_refl _) (by decide) rfl) v3 N k3 ws HW5.out HW3N.out (by have := HN5'.out; omega) (by rw [World.size_alloc]; exact Nat.le_succ _)) ?_
  rintro v6 w6 ⟨⟨ys, hy, ho6⟩, hb6⟩
  rw [Nat.zero_add, List.nil_append] at ho6
  have HY := Lib.hid hy
  have HO6 := Lib.hid ho6
  have HB6 := Lib.hid (((Below.refl w5.heap.size w5).drew.alloc (Nat.le_refl _) _).trans hb6)
  clear hy ho6 hb6
  refine hK.out _ _ ?_ (fun hHeld2 => ?_)
  · exact fun j v hj => by rw [HB6.out.cell (p := ⟨w3.heap.size, 0 + j, none⟩) HLT.out]; exact hHeld j v hj
  clear hK K
  try simp only [Act.put, List.setIfInBounds_toArray, List.set_cons_zero, List.set_cons_succ]
  refine wpAnyH_ready (rs := [5]) (by kernel_rfl) (by simp) ?_
  refine AllReadyH.cons rfl (fun K hK => ?_) AllReadyH.nil
  rw [if_pos (by rfl)]
  refine op_append_known (.tmp 43) (.tmp 44) 33 33 rfl v6 (.slice a2 len2 cap2) rfl rfl (fun v' w' => (∃ zs, RowW w5 zs b2 ∧ w'.ownsRow w5.heap.size 64 2 v' (N + len2) (ys ++ zs)) ∧ Below w5.heap.size w6 w')
    (run_append_wrs _ w5 HB6.out _ w5.heap.size N v6 _ HO6.out a2 len2 cap2 b2 (H2.out.later HB5.out) H2N.out (by have := HN5'.out; have := H2C.out; omega) HB6.out.size) ?_
  rintro v7 w7 ⟨⟨qs, hq, ho7⟩, hb7⟩
  have HB7 := Lib.hid (HB6.out.trans hb7)
  obtain ⟨u7, k7, hv7⟩ := owns_shape_r ho7
  have HW7 : Hid (WIs w7 u7 (N + len2) (ws ++ b2)) := Lib.hid (RowW.wis ((HY.out.append hq).later HB7.out) (by rw [hv7] at ho7; exact ho7) (by have := HN5'.out; have := H2C.out; omega))
  subst hv7
  clear hq ho7 hb7
  refine hK.out _ _ ?_ (fun hHeld3 => ?_)
  · exact fun j v hj => by rw [HB7.out.cell (p := ⟨w3.heap.size, 0 + j, none⟩) HLT.out]; exact hHeld j v hj
  clear hK K
  try simp only [Act.put, List.setIfInBounds_toArray, List.set_cons_zero, List.set_cons_succ]
  refine wpAnyH_ready (rs := [6]) (by kernel_rfl) (by simp) ?_
  refine AllReadyH.cons rfl (fun K hK => ?_) AllReadyH.nil
  go_simp
  go_at_call 15
  unfold nodeCs
  ((with_reducible refine (HC3.out _ _ _ _ HW7.out).mono ?_))
  rintro e w8 ⟨v8, l8, k8, u8, l9, k9, rfl, ⟨hp8, hq8⟩, hb8⟩
  obtain rfl : N = l9 := by rw [← hq8.len, H1.out.len]
  have HP8 := Lib.hid hp8
  have HQ8 := Lib.hid hq8
  have HB8 := Lib.hid (HB7.out.trans (hb8.mono HB7.out.size))
  clear hp8 hq8 hb8
  try (go_wp2_with fail)
  refine hK.out _ _ ?_ (fun hHeld4 => ?_)
  · exact fun j v hj => by rw [HB8.out.cell (p := ⟨w3.heap.size, 0 + j, none⟩) HLT.out]; exact hHeld j v hj
  clear hK K
  try simp only [Act.put, List.setIfInBounds_toArray, List.set_cons_zero, List.set_cons_succ]
  refine wpAnyH_take (i := 7) (oi := ⟨some 39, _, _, _, _, _⟩) (v := .tuple #[.slice v8 l8 k8, .slice u8 N k9, .int .i64 0]) rfl (by kernel_rfl) (by kernel_rfl) (by kernel_rfl) (fun _ _ _ h => h) (Or.inl ⟨by kernel_rfl, fun w _ => rfl⟩) (by assumption) ?_
  try simp only [Act.put, List.setIfInBounds_toArray, List.set_cons_zero, List.set_cons_succ]
  refine wpAnyH_take (i := 8) (oi := ⟨some 47, _, _, _, _, _⟩) (v := .slice v8 l8 k8) rfl (by kernel_rfl) (by kernel_rfl) (by kernel_rfl) (fun _ _ _ h => h) (Or.inl ⟨by kernel_rfl, fun w _ => rfl⟩) (by assumption) ?_
  try simp only [Act.put, List.setIfInBounds_toArray, List.set_cons_zero, List.set_cons_succ]
  refine wpAnyH_take (i := 9) (oi := ⟨some 48, _, _, _, _, _⟩) (v := .slice u8 N k9) rfl (by kernel_rfl) (by kernel_rfl) (by kernel_rfl) (fun _ _ _ h => h) (Or.inl ⟨by kernel_rfl, fun w _ => rfl⟩) (by assumption) ?_
  try simp only [Act.put, List.setIfInBounds_toArray, List.set_cons_zero, List.set_cons_succ]
  refine wpAnyH_take (i := 10) (oi := ⟨some 49, _, _, _, _, _⟩) (v := .int .i64 0) rfl (by kernel_rfl) (by kernel_rfl) (by kernel_rfl) (fun _ _ _ h => h) (Or.inl ⟨by kernel_rfl, fun w _ => rfl⟩) (by assumption) ?_
  try simp only [Act.put, List.setIfInBounds_toArray, List.set_cons_zero, List.set_cons_succ]
  refine wpAnyH_take (i := 11) (oi := ⟨some 12, _, _, _, _, _⟩) (v := .slice v8 l8 k8) rfl (by kernel_rfl) (by kernel_rfl) (by kernel_rfl) (fun _ _ _ h => h) (Or.inl ⟨by kernel_rfl, fun w _ => rfl⟩) (by assumption) ?_
  try simp only [Act.put, List.setIfInBounds_toArray, List.set_cons_zero, List.set_cons_succ]
  refine wpAnyH_take (i := 12) (oi := ⟨some 13, _, _, _, _, _⟩) (v := .slice u8 N k9) rfl (by kernel_rfl) (by kernel_rfl) (by kernel_rfl) (fun _ _ _ h => h) (Or.inl ⟨by kernel_rfl, fun w _ => rfl⟩) (by assumption) ?_
  try simp only [Act.put, List.setIfInBounds_toArray, List.set_cons_zero, List.set_cons_succ]
  refine wpAnyH_take (i := 13) (oi := ⟨some 14, _, _, _, _, _⟩) (v := .int .i64 0) rfl (by kernel_rfl) (by kernel_rfl) (by kernel_rfl) (fun _ _ _ h => h) (Or.inl ⟨by kernel_rfl, fun w _ => rfl⟩) (by assumption) ?_
  try simp only [Act.put, List.setIfInBounds_toArray, List.set_cons_zero, List.set_cons_succ]
  refine wpAnyH_done (by kernel_rfl) ?_ _
  have HB80 := Lib.hid (HB5.out.trans (HB8.out.mono HB5.out.size))
  go_wp2_with (first
    | (go_at_call 17; refine (HC4.out _ HB80.out).mono ?_; rintro e w9 ⟨vt, lt, kt, rfl, ht, hb9⟩; have HP9 := Lib.hid (HP8.out.later hb9); obtain rfl : l8 = lt := by rw [← ht.len, HP8.out.len]
       have HT9 := Lib.hid ht; have HB89 := Lib.hid hb9; have HB9 := Lib.hid (HB80.out.trans (hb9.mono HB80.out.size)); clear ht hb9)
    | (go_at_call 16; have gt := HB10; clear gt; refine (ints_true u8 a1 N k9 cap1 fz _ (HQ8.out.later HB810.out) (H1.out.later HB10.out)).mono ?_; rintro e w11 ⟨rfl, hb11⟩; have HB11 := Lib.hid (HB10.out.trans (hb11.mono HB10.out.size)); clear hb11)
    | (go_at_call 16; refine (ints_true v8 vt l8 k8 kt tz _ HP9.out HT9.out).mono ?_; rintro e w10 ⟨rfl, hb10⟩; have HB810 := Lib.hid (HB89.out.trans (hb10.mono HB89.out.size)); have HB10 := Lib.hid (HB9.out.trans (hb10.mono HB9.out.size)); clear hb10))
  go_ret
  exact ⟨rfl, HB11.out⟩
set_option maxRecDepth 100000 in
set_option maxHeartbeats 6400000 in
theorem walk (a0 : Option Addr) (len0 cap0 : Nat) (z0 : List Int) (a1 : Option Addr) (len1 cap1 : Nat) (z1 : List Int) (a2 : Option Addr) (len2 cap2 : Nat) (b2 : List (Int × List Int)) (w : World) (w0 : IArg w a0 len0 cap0 z0 ∧ cap0 ≤ 17592186043904) (w1 : IArg w a1 len1 cap1 z1 ∧ cap1 ≤ 17592186043904) (w2 : WIs w a2 len2 b2 ∧ (a2 = none → len2 = 0 ∧ cap2 = 0) ∧ len2 ≤ cap2 ∧ cap2 ≤ 4398046510976) :
    Calls Try.prog 5 #[.slice a0 len0 cap0, .slice a1 len1 cap1, .slice a2 len2 cap2] w fun e w' => e = .returned (.bool true) ∧ Below w.heap.size w w' := by
  by_cases hE : planErr z0 z1 = 0
  · exact way_ok a0 a1 a2 len0 cap0 len1 cap1 len2 cap2 z0 z1 b2 w w0.1 w1.1 w2.1 w2.2.1 (Nat.le_trans w2.2.2.1 w2.2.2.2) hE
  · exact way_bad a0 a1 len0 cap0 len1 cap1 z0 z1 _ w w0.1 w1.1 hE

/-! ### The law's step -/
set_option maxRecDepth 100000 in
theorem lifted (os : Os) (started : os.Started) (H : Type) (enc : TypeId × Value → H) :
    ReturnsInHanded {} Try.checked os 5 .any (Rows.treeBackSpec.pre6 enc Try.prog Try.f5 Rows.treeBackRow.domain false) (Rows.treeBackSpec.post enc Try.prog Try.f5 false true false false) := by
  refine returnsInHanded_of_change_sized (C := Try.checked) own started (by kernel_rfl) Try.func5
    (ChangeSpec.witness6 (enc := enc) (C := Try.checked) false ⟨#[], #[.slice none 0 0, .slice none 0 0, .slice none 0 0], []⟩ 8 (by kernel_rfl) (by kernel_rfl) (by kernel_rfl) (by kernel_rfl)) ?_
  intro W base args ds gs before hval0 hW hcnd hsz0 _
  have hsz : (DataW.weightsEach Try.prog (Try.f5.params.toList ++ Rows.treeBackSpec.plain.varTypes Try.prog) (ds ++ gs)).all (· ≤ reachBytes) = true := hsz0
  clear hsz0
  have hval : ∀ (j : Nat) t v, Try.f5.params[j]? = some t → args[j]? = some v → Value.okWide Try.prog W .any base t v := hval0
  have hW' := hW
  obtain ⟨p, q, hA0, hV, rfl, hfz, hnd⟩ := hW
  have hA : DataW.TrodAll enc Try.prog W 0 (fun _ => true) true Try.f5.params.toList args.toList ds p := hA0
  rw [Try.params5] at hA hval hsz
  obtain ⟨v0, vs0, d0, ds0, p0, q0, hargs, rfl, rfl, h0, r0⟩ := trodAll_cons hA
  obtain ⟨v1, vs1, d1, ds1, p1, q1, rfl, rfl, rfl, h1, r1⟩ := trodAll_cons r0
  obtain ⟨v2, vs2, d2, ds2, p2, q2, rfl, rfl, rfl, h2, r2⟩ := trodAll_cons r1
  obtain ⟨rfl, rfl, rfl⟩ := trodAll_nil r2
  obtain rfl : args = #[v0, v1, v2] := by cases args; simp_all
  obtain ⟨rfl, rfl⟩ := trodVars_none hV
  have k0 := h0
  have lt0 : ∀ x ∈ p0, x.block < W.heap.size := by obtain ⟨m, hm⟩ := k0; exact DataW.trod_lt m _ _ _ hm
  obtain ⟨a0, len0, cap0, rfl⟩ := okWide_slice Try.underlying22 (hval 0 22 v0 rfl rfl)
  obtain ⟨z0, w0⟩ := open_nums_arg k0 (weights_ofT hsz (j := 0) rfl rfl)
  have k1 := h1
  have lt1 : ∀ x ∈ p1, x.block < W.heap.size := by obtain ⟨m, hm⟩ := k1; exact DataW.trod_lt m _ _ _ hm
  obtain ⟨a1, len1, cap1, rfl⟩ := okWide_slice Try.underlying22 (hval 1 22 v1 rfl rfl)
  obtain ⟨z1, w1⟩ := open_nums_arg k1 (weights_ofT hsz (j := 1) rfl rfl)
  have k2 := h2
  have lt2 : ∀ x ∈ p2, x.block < W.heap.size := by obtain ⟨m, hm⟩ := k2; exact DataW.trod_lt m _ _ _ hm
  obtain ⟨a2, len2, cap2, rfl⟩ := okWide_slice Try.underlying33 (hval 2 33 v2 rfl rfl)
  obtain ⟨b2, w2⟩ := open_wrs_arg k2 (weights_ofT hsz (j := 2) rfl rfl)
  clear hA0 hval0
  refine (walk a0 len0 cap0 z0 a1 len1 cap1 z1 a2 len2 cap2 b2 W w0 w1 w2).mono fun e W' ⟨he, bel⟩ => ?_
  subst he
  exact ⟨_, rfl, _, _, _, [], _, [], hW', trodAll_mk1 (shut_bool Try.underlying4 _), (trodAll_cons_mk (Below.trod laidOut (by kernel_rfl) (of_decide_eq_true (by kernel_rfl)) k0 bel lt0) (trodAll_cons_mk (Below.trod laidOut (by kernel_rfl) (of_decide_eq_true (by kernel_rfl)) k1 bel lt1) (trodAll_cons_mk (Below.trod laidOut (by kernel_rfl) (of_decide_eq_true (by kernel_rfl)) k2 bel lt2) trodAll_mk0))), rfl, bel.frame _, fun h => by cases h⟩

theorem over : Rows.treeBackRow.holds Try.pinned (OpenSpec.ofChange Rows.treeBackSpec) :=
  OpenClaim.holds_of_wide 5 Try.f5 rfl rfl rfl rfl rfl rfl rfl ⟨rfl, rfl, rfl, rfl, rfl⟩ rfl rfl rfl rfl rfl (by kernel_rfl) Try.func5 (by kernel_rfl)
    (of_decide_eq_true (by kernel_rfl)) (by unfold Func.isWrapper; first | (rw [if_pos (by decide +kernel)]; kernel_rfl) | (rw [if_neg (by decide +kernel)]; exact ⟨rfl, rfl⟩))
    (fun os started H enc _ => lifted os started H enc)

/-- The statement. -/
theorem proved : Rows.TreeBackSaid := over
end Go.Proofs.Ytdbkhhmadefccaa.treeBack
