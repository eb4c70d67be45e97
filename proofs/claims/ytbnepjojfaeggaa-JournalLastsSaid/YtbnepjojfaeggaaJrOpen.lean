/-
  Proved here: what the landed journal's Open answers.
  The conditions stand at each theorem.
-/
import Derived.Test.YtbnepjojfaeggaaJrGrp
import Derived.Test.YtbnepjojfaeggaaJrOnce
namespace Go.Proofs.Ytbnepjojfaeggaa
open Go.RowKit
set_option linter.unusedVariables false
set_option linter.unusedSimpArgs false

theorem look_on {D : DM} (hE : lookE D = 0) : D.off = false ∧ 64 ≤ D.n := by
  unfold lookE at hE
  split at hE
  · cases hE
  · next h =>
    split at hE
    · cases hE
    · next h2 => exact ⟨by cases h3 : D.off with | false => rfl | true => exact absurd h3 h2, by omega⟩
set_option maxRecDepth 100000 in
set_option maxHeartbeats 3200000 in
theorem opens_ok {w : World} {a : Addr} {F : Nat → Prop} {D : DM} (hD : DI w a F D) (hE : lookE D = 0) (hsm : smallD D) : Calls Try.prog 17 #[.pointer (some a)] w fun e w' => ∃ F' p, e = .returned (.tuple #[.pointer p, .int .i64 (openJ D).2.2]) ∧ DI w' a F' (openJ D).1 ∧ Grew F F' w w' ∧
    ((openJ D).2.1 = none → p = none) ∧ (∀ s, (openJ D).2.1 = some s → ∃ j G, p = some j ∧ JI2 w' j a G s ∧ (∀ k, G k → w.heap.size ≤ k) ∧ ∀ k, G k → ¬ F' k) := by
  have cL := look_any hD
  unfold HandedL at cL
  obtain ⟨hok, hn480, hn1⟩ := DI.ok' hD
  obtain ⟨hoff, hn64⟩ := look_on hE
  obtain ⟨hW, hR, a0, ha0, e1, e2, e3, _⟩ := look_open hn64 hoff hok hE
  obtain ⟨ha, hha⟩ : ∃ x, (lookH D).1 = x := ⟨_, rfl⟩
  obtain ⟨hs, hhs⟩ : ∃ x, (lookH D).2 = x := ⟨_, rfl⟩
  rw [hha] at e1
  rw [hhs] at e2 e3
  rw [hha, hhs, hE] at cL
  have HSD : Hid (0 ≤ ha ∧ ha ≤ 39 ∧ 1 ≤ hs ∧ hs ≤ 1073741824) := Lib.hid (by omega)
  have HG : Hid (openG D = [[], lookW D, [(1, headBlock ⟨ha, hs⟩)]]) := Lib.hid (by unfold openG; rw [hha, hhs])
  obtain ⟨E, hEE⟩ : ∃ E, (writeP D (openG D)).2 = E := ⟨_, rfl⟩
  have HO : Hid (openJ D = if E ≠ 0 then ((writeP D (openG D)).1, none, E) else ((writeP D (openG D)).1, some ⟨ha, hs, false⟩, 0)) := Lib.hid (by unfold openJ; rw [if_neg (by rw [hE]; decide), hEE, hha, hhs])
  have HEE := Lib.hid hEE
  have hHB : ∀ W : World, Calls Try.prog 36 #[.agg #[.int .i64 ha, .int .i64 hs]] W fun e w' => ∃ ao c, e = .returned (.agg #[.int .i64 1, .slice ao 64 c]) ∧ Fresh w' W.heap.size (.slice ao 64 c) (headBlock ⟨ha, hs⟩) ∧ Below W.heap.size W w' := fun W => headBlock_any W ⟨ha, hs⟩ (by unfold PHead.in64 i64w; have := HSD.out; dsimp only; omega) (by unfold PHead.sound; rw [decide_eq_true_eq]; exact HSD.out)
  have HH := Lib.hid hHB
  clear hHB
  have HD := Lib.hid hD
  have HS := Lib.hid hsm
  have HWL := Lib.hid (lookW_len D)
  obtain ⟨n1, hn1'⟩ : ∃ x, (lookR D).length = x := ⟨_, rfl⟩
  obtain ⟨n2, hn2'⟩ : ∃ x, (lookW D).length = x := ⟨_, rfl⟩
  have HN2 := Lib.hid hn2'
  clear hW hR e1 e2 e3 hha hhs hEE hD hsm hE hok hn480 hn1 hoff hn64 ha0
  go_enter Try.func17, Try.ntmps17
  go_wp2_with (go_at_call 33; refine cL.mono ?_; rintro e w1 ⟨bv, wv, B, T, rfl, hbo, hBT, hwa, hb1⟩; obtain ⟨bo, bc, rfl⟩ := owns_shape_r hbo.choose_spec.1; obtain ⟨wo, wc, rfl⟩ := owns_shape_r hwa.2.choose_spec.1; rw [hn1', hn2']; obtain ⟨W1, hW1⟩ : ∃ W1, w1.alloc (.cells #[.slice bo n1 bc, .slice wo n2 wc, .int .i64 ha, .int .i64 hs] 86) = W1 := ⟨_, rfl⟩; have HWA := Lib.hid hwa; have HBT := Lib.hid hBT; have HB1 := Lib.hid hb1; have hv := v4_new w1 (.slice bo n1 bc) (.slice wo n2 wc) (.int .i64 ha) (.int .i64 hs) 86; rw [hW1] at hv; have HV := Lib.hid hv; have HBW1 : Hid (Below w1.heap.size w1 W1) := Lib.hid (by rw [← hW1]; exact (Below.refl _ _).alloc (Nat.le_refl _) _); have HBW : Hid (Below w.heap.size w W1) := Lib.hid (hb1.trans (HBW1.out.mono hb1.size)); clear hv hbo hBT hwa hb1)
  refine wp_region_held_drew (S := fun W => W.cell? ⟨w1.heap.size, 1, none⟩ = some (.slice wo n2 wc) ∧ W.cell? ⟨w1.heap.size, 2, none⟩ = some (.int .i64 ha) ∧ W.cell? ⟨w1.heap.size, 3, none⟩ = some (.int .i64 hs)) (by kernel_rfl) ⟨HV.out.2.1, HV.out.2.2.1, HV.out.2.2.2.1⟩ (fun hHeld => ?_)
  refine wpAnyH_take (i := 0) (oi := ⟨some 14, _, _, _, _, _⟩) (v := .pointer (some a)) rfl (by kernel_rfl) (by kernel_rfl) (by kernel_rfl) (fun _ _ _ h => h) (Or.inl ⟨by kernel_rfl, fun w _ => rfl⟩) (by assumption) ?_
  try simp only [Act.put, List.setIfInBounds_toArray, List.set_cons_zero, List.set_cons_succ]
  refine wpAnyH_take (i := 1) (oi := ⟨some 15, _, _, _, _, _⟩) (v := .pointer (some ⟨w1.heap.size, 1, none⟩)) rfl (by kernel_rfl) (by kernel_rfl) (by kernel_rfl) (fun _ _ _ h => h) (Or.inl ⟨by kernel_rfl, by intro w _; go_simp; (try omega)⟩) (by assumption) ?_
  try simp only [Act.put, List.setIfInBounds_toArray, List.set_cons_zero, List.set_cons_succ]
  refine wpAnyH_take (i := 2) (oi := ⟨some 16, _, _, _, _, _⟩) (v := .slice wo n2 wc) rfl (by kernel_rfl) (by kernel_rfl) (by kernel_rfl) (fun _ _ _ h => h) (Or.inl ⟨by kernel_rfl, by intro w hSw; obtain ⟨s1, s2, s3⟩ := hSw; go_simp⟩) (by assumption) ?_
  try simp only [Act.put, List.setIfInBounds_toArray, List.set_cons_zero, List.set_cons_succ]
  refine wpAnyH_take (i := 3) (oi := ⟨some 17, _, _, _, _, _⟩) (v := .pointer (some ⟨w1.heap.size, 2, none⟩)) rfl (by kernel_rfl) (by kernel_rfl) (by kernel_rfl) (fun _ _ _ h => h) (Or.inl ⟨by kernel_rfl, by intro w _; go_simp; (try omega)⟩) (by assumption) ?_
  try simp only [Act.put, List.setIfInBounds_toArray, List.set_cons_zero, List.set_cons_succ]
  refine wpAnyH_take (i := 4) (oi := ⟨some 18, _, _, _, _, _⟩) (v := .agg #[.int .i64 ha, .int .i64 hs]) rfl (by kernel_rfl) (by kernel_rfl) (by kernel_rfl) (fun _ _ _ h => h) (Or.inl ⟨by kernel_rfl, by intro w hSw; obtain ⟨s1, s2, s3⟩ := hSw; go_simp⟩) (by assumption) ?_
  try simp only [Act.put, List.setIfInBounds_toArray, List.set_cons_zero, List.set_cons_succ]
  refine wpAnyH_ready (rs := [5]) (by kernel_rfl) (by simp) ?_
  refine AllReadyH.cons (o := ⟨some 19, _, _, _, _, _⟩) rfl (fun K hK => ?_) AllReadyH.nil
  go_simp
  go_at_call 36
  refine (HH.out W1.drew).mono ?_
  rintro e w2 ⟨ao2, c2, rfl, hf2, hb2⟩
  have HB2 := Lib.hid ((HBW.out.drew).trans (hb2.mono HBW.out.size))
  have hv2 := (HV.out.kept (w' := W1.drew) rfl).later hb2
  have HV2 := Lib.hid hv2
  have HF2 := Lib.hid hf2
  have HB12 := Lib.hid hb2
  clear hf2 hb2 hv2
  obtain ⟨V2, hV2⟩ : ∃ V2, w2.alloc (.cells #[.int .i64 1, .slice ao2 64 c2] 48) = V2 := ⟨_, rfl⟩
  refine hK.out _ _ ?_ (fun hHeld1 => ?_)
  · exact ⟨HV2.out.2.1, HV2.out.2.2.1, HV2.out.2.2.2.1⟩
  clear hK K
  try simp only [Act.put, List.setIfInBounds_toArray, List.set_cons_zero, List.set_cons_succ]
  refine wpAnyH_ready (rs := [6]) (by kernel_rfl) (by simp) ?_
  refine AllReadyH.cons (o := ⟨some 20, _, _, _, _, _⟩) rfl (fun K hK => ?_) AllReadyH.nil
  go_simp
  have HBV2 : Hid (Below w2.heap.size w2 V2) := Lib.hid (by rw [← hV2]; exact (Below.refl _ _).alloc (Nat.le_refl _) _)
  have HV22 := Lib.hid (HV2.out.later HBV2.out)
  have HL2 : Hid (ListIs V2 (fun k => w.heap.size ≤ k ∧ k < V2.heap.size) (some ⟨w2.heap.size, 0, none⟩) 1 [(1, headBlock ⟨ha, hs⟩)]) := Lib.hid (by
    have h0 : headBlock ⟨ha, hs⟩ ≠ [] := fun h => by have := headBlock_length ⟨ha, hs⟩; rw [h] at this; cases this
    obtain ⟨_, hA, hn⟩ := HF2.out.inb h0
    have hsz : V2.heap.size = w2.heap.size + 1 := by rw [← hV2, World.size_alloc]
    have h1 := HBW.out.size
    have h2 : W1.heap.size ≤ w2.heap.size := HB12.out.size
    rw [← hV2]
    refine list_one hA (by decide) (fun b' o s e => ?_) ?_
    · have h3 := hn b' o s e
      have h4 : W1.drew.heap.size = W1.heap.size := rfl
      rw [hV2, hsz]
      omega
    · rw [hV2, hsz]
      omega)
  clear hV2
  refine hK.out _ _ ?_ (fun hHeld2 => ?_)
  · exact ⟨HV22.out.2.1, HV22.out.2.2.1, HV22.out.2.2.2.1⟩
  clear hK K
  try simp only [Act.put, List.setIfInBounds_toArray, List.set_cons_zero, List.set_cons_succ]
  refine wpAnyH_ready (rs := [7]) (by kernel_rfl) (by simp) ?_
  refine AllReadyH.cons (o := ⟨some 21, _, _, _, _, _⟩) rfl (fun K hK => ?_) AllReadyH.nil
  go_simp
  go_at_call 35
  refine (group_any V2 _ 1 1).mono ?_
  rintro e w3 ⟨rfl, rfl⟩
  obtain ⟨V3, hV3⟩ : ∃ V3, w3.alloc (.cells #[.slice none 0 0, .slice wo n2 wc, .slice (some ⟨w2.heap.size, 0, none⟩) 1 1] 27) = V3 := ⟨_, rfl⟩
  refine hK.out _ _ ?_ (fun hHeld3 => ?_)
  · exact ⟨HV22.out.2.1, HV22.out.2.2.1, HV22.out.2.2.2.1⟩
  clear hK K
  try simp only [Act.put, List.setIfInBounds_toArray, List.set_cons_zero, List.set_cons_succ]
  refine wpAnyH_ready (rs := [8]) (by kernel_rfl) (by simp) ?_
  refine AllReadyH.cons (o := ⟨some 22, _, _, _, _, _⟩) rfl (fun K hK => ?_) AllReadyH.nil
  go_simp
  have HBV3 : Hid (Below w3.heap.size w3 V3) := Lib.hid (by rw [← hV3]; exact (Below.refl _ _).alloc (Nat.le_refl _) _)
  have HV33 := Lib.hid (HV22.out.later HBV3.out)
  have HB3 : Hid (Below w.heap.size w V3) := Lib.hid ((HB2.out.trans (HBV2.out.mono HB2.out.size)).trans (HBV3.out.mono (Nat.le_trans HB2.out.size HBV2.out.size)))
  have HG3 : Hid (GsIs V3 (fun k => w.heap.size ≤ k ∧ k < V3.heap.size) (some ⟨w3.heap.size, 0, none⟩) 3 (openG D)) := Lib.hid (by
    have hsz : V3.heap.size = w3.heap.size + 1 := by rw [← hV3, World.size_alloc]
    have h1 := HB2.out.size
    have h2 := HBV2.out.size
    have hb1 : Below w1.heap.size w1 w3 := (HBW1.out.drew.trans ((HB12.out.mono (Nat.le_trans HBW1.out.size (Nat.le_refl _))))).trans (HBV2.out.mono (Nat.le_trans HBW1.out.size HB12.out.size))
    obtain ⟨wo2, wc2, e, hLw⟩ := HWA.out.list (by have := HWL.out; omega)
    simp only [Value.slice.injEq, true_and] at e
    obtain ⟨rfl, rfl⟩ := e
    rw [HN2.out] at hLw
    rw [HG.out, ← hV3]
    refine gs_three (list_none _ _) ((hLw.later hb1).wide (fun k hk => ?_)) (HL2.out.wide (fun k hk => ?_)) ?_
    · rw [hV3, hsz]
      have h3 := hb1.size
      have h4 := HBT.out.2.1
      omega
    · rw [hV3, hsz]
      omega
    · rw [hV3, hsz]
      omega)
  clear hV3
  refine hK.out _ _ ?_ (fun hHeld4 => ?_)
  · exact ⟨HV33.out.2.1, HV33.out.2.2.1, HV33.out.2.2.2.1⟩
  clear hK K
  try simp only [Act.put, List.setIfInBounds_toArray, List.set_cons_zero, List.set_cons_succ]
  refine wpAnyH_ready (rs := [9]) (by kernel_rfl) (by simp) ?_
  refine AllReadyH.cons (o := ⟨some 23, _, _, _, _, _⟩) rfl (fun K hK => ?_) AllReadyH.nil
  go_simp
  go_at_call 34
  refine (jwrite_any (diskOk.later HD.out HB3.out) HG3.out (fun k hk => ⟨hk.2, fun hf => by have := diskOk.lt HD.out k hf; have := hk.1; omega⟩) HS.out (fun g hg => by
    rw [HG.out] at hg
    simp only [List.mem_cons, List.not_mem_nil, or_false] at hg
    have := HWL.out
    rcases hg with rfl | rfl | rfl
    · exact Nat.zero_le _
    · omega
    · show 1 ≤ 1000000000; decide)).mono ?_
  rintro e w4 ⟨F4, rfl, hD4, hg4⟩
  rw [HEE.out]
  have hq3 : w1.heap.size < V3.heap.size := HV33.out.lt
  have hqF : ¬ F w1.heap.size := fun hf => by have := diskOk.lt HD.out _ hf; have := HB1.out.size; omega
  have HV4 := Lib.hid (HV33.out.kept (grew_kept hg4 hq3 hqF))
  have HD4 := Lib.hid hD4
  have HG4 : Hid (Grew F F4 w w4) := Lib.hid ((Grew.of_below HB3.out).trans hg4)
  clear hD4 hg4 hq3 hqF
  refine hK.out _ _ ?_ (fun hHeld5 => ?_)
  · exact ⟨HV4.out.2.1, HV4.out.2.2.1, HV4.out.2.2.2.1⟩
  clear hK K
  try simp only [Act.put, List.setIfInBounds_toArray, List.set_cons_zero, List.set_cons_succ]
  refine wpAnyH_take (i := 10) (oi := ⟨some 5, _, _, _, _, _⟩) (v := .int .i64 E) rfl (by kernel_rfl) (by kernel_rfl) (by kernel_rfl) (fun _ _ _ h => h) (Or.inl ⟨by kernel_rfl, fun w _ => rfl⟩) (by assumption) ?_
  try simp only [Act.put, List.setIfInBounds_toArray, List.set_cons_zero, List.set_cons_succ]
  refine wpAnyH_done (by kernel_rfl) ?_ _
  have x2 := HV4.out.2.2.1
  have x3 := HV4.out.2.2.2.1
  by_cases hz : E = 0
  · subst hz
    go_wp2_with fail
    go_ret2
    rw [HO.out, if_neg (by decide)]
    obtain ⟨VJ, hVJ⟩ : ∃ VJ, w4.alloc (.cells #[.pointer (some a), .int .i64 ha, .int .i64 hs, .bool false] 93) = VJ := ⟨_, rfl⟩
    have hbJ : Below w4.heap.size w4 VJ := by rw [← hVJ]; exact (Below.refl _ _).alloc (Nat.le_refl _) _
    have hvJ := v4_new w4 (.pointer (some a)) (.int .i64 ha) (.int .i64 hs) (.bool false) 93
    rw [hVJ] at hvJ ⊢
    refine ⟨F4, _, rfl, diskOk.later HD4.out hbJ, HG4.out.trans (Grew.of_below hbJ), (fun h => by cases h), (fun s hs => ?_)⟩
    cases hs
    exact ⟨_, _, rfl, ⟨⟨w4.heap.size, rfl, rfl, hvJ⟩, HSD.out⟩, (fun k hk => by rw [hk]; exact HG4.out.2.2.2.1), fun k hk hf => by have := diskOk.lt HD4.out k hf; rw [hk] at this; omega⟩
  · have hb2 : (E != 0) = true := by simp [hz]
    go_wp2_with fail
    go_ret2
    rw [HO.out, if_pos hz]
    exact ⟨F4, none, rfl, HD4.out, HG4.out, (fun _ => rfl), (fun s hs => by cases hs)⟩
end Go.Proofs.Ytbnepjojfaeggaa
