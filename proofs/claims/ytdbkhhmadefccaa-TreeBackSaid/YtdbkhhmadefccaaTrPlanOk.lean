/-
  Proved here: what the landed tree's Plan answers where there are fresh blocks enough.
  The conditions stand at each theorem.
-/
import Derived.Test.YtdbkhhmadefccaaTrPlanW
namespace Go.Proofs.Ytdbkhhmadefccaa
open Go.RowKit
set_option linter.unusedVariables false
set_option linter.unusedSimpArgs false

theorem split_i64 {zs : List Int} (h : ∀ z ∈ zs, I64 z) : ∀ z ∈ splitL zs, I64 z := by
  intro z hz
  obtain ⟨j, hj, rfl⟩ := List.mem_iff_getElem.1 hz
  have e : (splitL zs)[j] = (splitL zs).getD j 0 := by rw [List.getD_eq_getElem?_getD, List.getElem?_eq_getElem hj]; rfl
  rw [e, split_get]
  have hg : ∀ k, I64 (zs.getD k 0) := fun k => by
    by_cases hk : k < zs.length
    · rw [List.getD_eq_getElem?_getD, List.getElem?_eq_getElem hk]
      exact h _ (List.getElem_mem _)
    · rw [getD_behind _ _ (by omega)]
      exact ⟨by decide, by decide⟩
  split
  · exact hg _
  · split
    · exact ⟨by decide, by decide⟩
    · split
      · exact hg _
      · exact ⟨by decide, by decide⟩

theorem partP_four (zs : List Int) : partP zs 0 4 = [zs.getD 0 0, zs.getD 1 0, zs.getD 2 0, zs.getD 3 0] := rfl

theorem fresh_nz {zs fs : List Int} (hn : needP zs ≤ fs.length) (hd : ∀ x ∈ fs.take (needP zs), dataP x = true) : ∀ i, i < needP zs → nzB (fs.getD i 0) = true := fun i hi => by
  have hm : fs.getD i 0 ∈ fs.take (needP zs) := by
    rw [List.getD_eq_getElem?_getD, List.getElem?_eq_getElem (show i < fs.length by omega)]
    exact List.mem_of_getElem? (i := i) (by rw [List.getElem?_take, if_pos hi, List.getElem?_eq_getElem]; rfl)
  have := hd _ hm
  unfold dataP at this
  unfold nzB
  simp only [decide_eq_true_eq] at this ⊢
  omega

theorem own_small {zs fs : List Int} (hn : needP zs ≤ fs.length) (hd : ∀ x ∈ fs.take (needP zs), dataP x = true) : ∀ x ∈ ownP zs fs, x = 0 ∨ dataP x = true := fun x hx => by
  by_cases h0 : x = 0
  · exact Or.inl h0
  · right
    have e := numbers_plan (fresh_nz hn hd)
    rw [keys_plan hn] at e
    apply hd
    rw [← e]
    exact List.mem_filter.2 ⟨hx, by simpa [nzB] using h0⟩

theorem planL_small {zs fs : List Int} (hp : ptrsOk zs = true) (hn : needP zs ≤ fs.length) (hd : ∀ x ∈ fs.take (needP zs), dataP x = true) : ∀ x ∈ planL zs fs, 0 ≤ x ∧ x ≤ 65535 := by
  have hown : ∀ k, 0 ≤ (ownP zs fs).getD k 0 ∧ (ownP zs fs).getD k 0 ≤ 65535 := fun k => by
    by_cases hk : k < (ownP zs fs).length
    · have hm : (ownP zs fs).getD k 0 ∈ ownP zs fs := by rw [List.getD_eq_getElem?_getD, List.getElem?_eq_getElem hk]; exact List.getElem_mem _
      rcases own_small hn hd _ hm with h | h
      · rw [h]; decide
      · unfold dataP at h
        simp only [decide_eq_true_eq] at h
        omega
    · rw [getD_behind _ _ (by omega)]; decide
  have hzs : ∀ k, 0 ≤ zs.getD k 0 ∧ zs.getD k 0 ≤ 65535 := fun k => by
    by_cases hk : k < zs.length
    · have hm : zs.getD k 0 ∈ zs := by rw [List.getD_eq_getElem?_getD, List.getElem?_eq_getElem hk]; exact List.getElem_mem _
      unfold ptrsOk apartL at hp
      simp only [Bool.and_eq_true, List.all_eq_true] at hp
      have := hp.2.1 _ hm
      unfold okP at this
      simp only [decide_eq_true_eq] at this
      omega
    · rw [getD_behind _ _ (by omega)]; decide
  intro x hx
  obtain ⟨j, hj, rfl⟩ := List.mem_iff_getElem.1 hx
  have e : (planL zs fs)[j] = (planL zs fs).getD j 0 := by rw [List.getD_eq_getElem?_getD, List.getElem?_eq_getElem hj]; rfl
  rw [planL_length] at hj
  rw [e]
  by_cases h1 : 34 ≤ j ∧ j < 37
  · rw [planL_get, if_pos h1]; exact hown _
  · by_cases h2 : j < 154
    · rw [planL_low h2 h1, split_get]
      split
      · exact hzs _
      · split
        · decide
        · first
          | exact hzs _
          | (split
             · exact hzs _
             · decide)
    · have := planL_own (zs := zs) (fs := fs) (show j - 154 < 5 by omega)
      rw [show 154 + (j - 154) = j by omega] at this
      rw [this]
      exact hown _

theorem plan_cells {zs fs : List Int} {g : Nat} {W : World} (h : ChartAt W g (planL zs fs)) : (W.cell? ⟨g, 0, none⟩ = some (.int .i64 (zs.getD 0 0)) ∧ W.cell? ⟨g, 1, none⟩ = some (.int .i64 (zs.getD 1 0)) ∧ W.cell? ⟨g, 2, none⟩ = some (.int .i64 (zs.getD 2 0)) ∧ W.cell? ⟨g, 3, none⟩ = some (.int .i64 (zs.getD 3 0))) ∧ W.cell? ⟨g, 154, none⟩ = some (.int .i64 (singleP zs fs)) ∧ W.cell? ⟨g, 155, none⟩ = some (.int .i64 (doubleP zs fs)) := by
  have hc : ∀ j, j < 159 → W.cell? ⟨g, j, none⟩ = some (.int .i64 ((planL zs fs).getD j 0)) := fun j hj => by
    have := h.2 j _ (ints_get (x := (planL zs fs).getD j 0) (by rw [List.getD_eq_getElem?_getD, List.getElem?_eq_getElem (by rw [planL_length]; exact hj)]; rfl))
    rwa [Nat.zero_add] at this
  have hd : ∀ j, j < 4 → W.cell? ⟨g, j, none⟩ = some (.int .i64 (zs.getD j 0)) := fun j hj => by
    have e : (planL zs fs).getD j 0 = zs.getD j 0 := by rw [planL_low (by omega) (by omega), split_get, if_pos (by omega)]
    rw [hc j (by omega), e]
  have o0 := planL_own (zs := zs) (fs := fs) (show 0 < 5 by decide)
  have o1 := planL_own (zs := zs) (fs := fs) (show 1 < 5 by decide)
  refine ⟨⟨hd 0 (by decide), hd 1 (by decide), hd 2 (by decide), hd 3 (by decide)⟩, ?_, ?_⟩
  · rw [hc 154 (by decide), o0]; rfl
  · rw [hc 155 (by decide), o1]; rfl

/-- The end of Plan: the node, and the blocks. -/
def PlanDone (base : Nat) (w0 : World) (zs fs : List Int) (e : Ending) (w : World) : Prop :=
  ∃ v, e = .returned (.tuple #[nodeV 1 (zs.getD 0 0) (zs.getD 1 0) (zs.getD 2 0) (zs.getD 3 0) (singleP zs fs) (doubleP zs fs), v, .int .i64 0]) ∧ WOwn base w v (writesP zs fs) ∧ Below base w0 w

set_option maxRecDepth 100000 in
set_option maxHeartbeats 12800000 in
theorem PlanOk_any {ao bo : Option Addr} {len cap n c : Nat} {zs fs : List Int} {w : World} (K : PlanKit w ao bo len cap n c zs fs) (hn : needP zs ≤ n) (hE : freshErr fs (needP zs) zs = 0) :
    Calls Try.prog 11 #[.slice ao len cap, .slice bo n c] w (PlanDone w.heap.size w zs fs) := by
  have HN := Lib.hid (fun W hW => K.need (W := W) hW)
  have HT := Lib.hid (made_node w)
  have HB0 : Hid (Below w.heap.size w (w.alloc (.cells zeroN 32))) := Lib.hid ((Below.refl _ _).alloc (Nat.le_refl _) _)
  have hfl := K.f.len
  have hzl := K.a.len
  have h96 : zs.length ≤ 96 := by have := K.ok; unfold ptrsOk at this; rw [Bool.and_eq_true, decide_eq_true_eq] at this; exact this.1
  have hn5 : needP zs ≤ 5 := by
    unfold needP underN
    cases someP zs 4 30 <;> cases someP zs 34 30 <;> cases someP zs 64 30 <;> cases someP zs 94 30 <;> decide
  have hcap := K.f.2.2.2
  have hfo := fresh_ok hE
  rw [freshErr_eq (by omega)] at hE
  have HOWN : Hid (∀ W, Below w.heap.size w W → IArg W bo (needP zs) c (fs.take (needP zs))) := Lib.hid (fun W hW => (K.f.later hW).takeAny hn)
  have HC : Hid (∀ W, Below w.heap.size w W → Calls Try.prog 23 #[.slice bo (needP zs) c, .int .i64 0] W fun e w' => e = .returned (.bool (decide ((0 : Int) ∈ fs.take (needP zs)))) ∧ W = w') := Lib.hid (fun W hW => Contains_any bo _ c _ 0 W (HOWN.out W hW))
  have HAP : Hid (∀ W, Below w.heap.size w W → Calls Try.prog 18 #[.slice (some ⟨W.heap.size, 0, none⟩) (2 : Nat) (2 : Nat)] (W.alloc (.cells #[.slice ao len cap, .slice bo (needP zs) c] 22)) fun e w' => e = .returned (.bool (apartL (zs ++ fs.take (needP zs)))) ∧ Below (W.alloc (.cells #[.slice ao len cap, .slice bo (needP zs) c] 22)).heap.size (W.alloc (.cells #[.slice ao len cap, .slice bo (needP zs) c] 22)) w') := Lib.hid (fun W hW => by
    have h := apart_any W.heap.size 0 2 2 [zs, fs.take (needP zs)] _ rfl (lists_two (K.a.later hW) (HOWN.out W hW) 22) (by
      show zs.length + ((fs.take (needP zs)).length + 0) ≤ 10000
      rw [List.length_take]
      omega) (by decide)
    rw [show [zs, fs.take (needP zs)].flatten = zs ++ fs.take (needP zs) from by simp] at h
    exact h)
  have HSP : Hid (∀ W, Below w.heap.size w W → Calls Try.prog 19 #[.slice ao len cap] W fun e w' => ∃ g, e = .returned (.pointer (some ⟨g, 0, none⟩)) ∧ OwnV W.heap.size W g (ints (splitL zs)) w') := Lib.hid (fun W hW => split_any ao len cap zs W (K.a.later hW))
  have HPL : Hid (∀ W W5 g, Below w.heap.size w W → OwnV W.heap.size W g (ints (splitL zs)) W5 → Calls Try.prog 24 #[.pointer (some ⟨g, 0, none⟩), .slice bo (needP zs) c] W5 fun e w' => e = .returned (.tuple #[]) ∧ OwnV W.heap.size W g (ints (planL zs fs)) w') := Lib.hid (fun W W5 g hW hO => place_any g (splitL zs) W W5 hO (split_length zs) (split_i64 K.a.2.1) bo _ c _ (HOWN.out W hW) (by rw [usedN_need]; exact Nat.le_refl _))
  have HMEM : Hid (∀ x ∈ planL zs fs, 0 ≤ x ∧ x ≤ 65535) := Lib.hid (planL_small K.ok hfo.1 hfo.2.1)
  have HBK : Hid (∀ g W, ChartAt W g (planL zs fs) → Calls Try.prog 25 #[.pointer (some ⟨g, 0, none⟩)] W fun e w' => ∃ v, e = .returned v ∧ WOwn W.heap.size w' v (writesP zs fs) ∧ Below W.heap.size W w') := Lib.hid (fun g W hC => by
    have h := blocks_any g (planL zs fs) W hC HMEM.out
    rw [plan_blocks (fresh_nz hfo.1 hfo.2.1)] at h
    exact h)
  have HLD : Hid (∀ g W, ChartAt W g (planL zs fs) → (W.cell? ⟨g, 0, none⟩ = some (.int .i64 (zs.getD 0 0)) ∧ W.cell? ⟨g, 1, none⟩ = some (.int .i64 (zs.getD 1 0)) ∧ W.cell? ⟨g, 2, none⟩ = some (.int .i64 (zs.getD 2 0)) ∧ W.cell? ⟨g, 3, none⟩ = some (.int .i64 (zs.getD 3 0))) ∧ W.cell? ⟨g, 154, none⟩ = some (.int .i64 (singleP zs fs)) ∧ W.cell? ⟨g, 155, none⟩ = some (.int .i64 (doubleP zs fs))) := Lib.hid (fun g W h => plan_cells h)
  have HPLN : Hid ((planL zs fs).length = 159) := Lib.hid (planL_length zs fs)
  have i1 : ¬ (n : Int) < (needP zs : Int) := by omega
  have i2 : (needP zs : Int) ≤ (c : Int) := by omega
  have i3 : needP zs ≤ c := by omega
  have i4 : (0 : Int) ≤ (needP zs : Int) := by omega
  have hB : apartL (zs ++ fs.take (needP zs)) = true := hfo.2.2
  have hD : decide ((0 : Int) ∈ fs.take (needP zs)) = false := by
    rw [hB] at hE
    cases hd : decide ((0 : Int) ∈ fs.take (needP zs)) with
    | false => rfl
    | true => rw [hd] at hE; exact absurd hE (by decide)
  rw [hB] at HAP
  rw [hD] at HC
  unfold zeroN nodeCs at HT HB0
  unfold PlanDone
  generalize zs.getD 0 0 = x0 at *
  generalize zs.getD 1 0 = x1 at *
  generalize zs.getD 2 0 = x2 at *
  generalize zs.getD 3 0 = x3 at *
  generalize singleP zs fs = s at *
  generalize doubleP zs fs = t at *
  generalize planL zs fs = M at *
  generalize splitL zs = L at *
  generalize writesP zs fs = ws at *
  generalize needP zs = N at *
  clear K hfl hzl h96 hn5 hfo hE hB hD HOWN HMEM
  go_enter Try.func11, Try.ntmps11
  go_wp2_with (first
        | (go_at_call 7; refine (HN.out _ HB0.out).mono ?_; rintro e w2 ⟨rfl, hb⟩; have HB2 := Lib.hid hb; have HB3 := Lib.hid (HB0.out.trans (hb.mono HB0.out.size)); clear hb)
        | (go_at_call 23; refine (HC.out _ HB3.out).mono ?_; rintro e w3 ⟨rfl, rfl⟩)
        | (go_at_call 18; refine (HAP.out _ HB3.out).mono ?_; rintro e w4 ⟨rfl, hb⟩; have HB4 := Lib.hid (HB3.out.trans (((((Below.refl _ _).alloc (Nat.le_refl _) _)).trans (hb.mono (by simp))).mono HB3.out.size)); have HB24 := Lib.hid (HB2.out.trans (((((Below.refl _ _).alloc (Nat.le_refl _) _)).trans (hb.mono (by simp))).mono HB2.out.size)); clear hb)
        | (go_at_call 19; refine (HSP.out _ HB4.out).mono ?_; rintro e w5 ⟨g, rfl, ho⟩; have HO5 := Lib.hid ho; clear ho)
        | (go_at_call 24; refine (HPL.out _ _ _ HB4.out HO5.out).mono ?_; rintro e w6 ⟨rfl, ho⟩; have HO6 := Lib.hid ho; clear ho))
  have HC6 : Hid (ChartAt w6 g M) := Lib.hid (chart_of_own HO6.out HPLN.out)
  have HK : Hid (∀ W, Below w6.heap.size w6 W → W.cell? ⟨g, 0, none⟩ = some (.int .i64 x0) ∧ W.cell? ⟨g, 1, none⟩ = some (.int .i64 x1) ∧ W.cell? ⟨g, 2, none⟩ = some (.int .i64 x2) ∧ W.cell? ⟨g, 3, none⟩ = some (.int .i64 x3) ∧ W.cell? ⟨g, 154, none⟩ = some (.int .i64 s) ∧ W.cell? ⟨g, 155, none⟩ = some (.int .i64 t)) := Lib.hid (fun W hW => by
    obtain ⟨⟨c0, c1, c2, c3⟩, c4, c5⟩ := HLD.out g w6 HC6.out
    exact ⟨cell_later hW c0, cell_later hW c1, cell_later hW c2, cell_later hW c3, cell_later hW c4, cell_later hW c5⟩)
  go_region_held3 (fun W => W.cell? ⟨g, 0, none⟩ = some (.int .i64 x0) ∧ W.cell? ⟨g, 1, none⟩ = some (.int .i64 x1) ∧ W.cell? ⟨g, 2, none⟩ = some (.int .i64 x2) ∧ W.cell? ⟨g, 3, none⟩ = some (.int .i64 x3) ∧ W.cell? ⟨g, 154, none⟩ = some (.int .i64 s) ∧ W.cell? ⟨g, 155, none⟩ = some (.int .i64 t)) (first | exact HK.out _ ((Below.refl _ _).drew) | exact HK.out _ (((Below.refl _ _).drew).alloc (Nat.le_refl _) _) | exact HK.out _ (((Below.refl _ _).alloc (Nat.le_refl _) _).drew)) (fail)
  obtain ⟨W7, hW7⟩ : ∃ W7, W7 = (w6.alloc (.cells (nodeCs 1 x0 x1 x2 x3 s t).toArray 32)).drew := ⟨_, rfl⟩
  have HN7 : Hid (W7.rangeAt w6.heap.size 0 (nodeCs 1 x0 x1 x2 x3 s t)) := Lib.hid (by
    rw [hW7]
    intro j v hj
    rw [Nat.zero_add]
    show (w6.alloc _).cell? _ = _
    rw [World.cell?_alloc_new]
    simpa using hj)
  have HB7 : Hid (Below w6.heap.size w6 W7) := Lib.hid (by rw [hW7]; exact ((Below.refl _ _).alloc (Nat.le_refl _) _).drew)
  unfold nodeCs at hW7
  rw [← hW7]
  clear hW7
  go_wp2_with fail
  obtain ⟨fsN, hfN⟩ := uNode
  refine wp_region_held_drew (S := fun W => W.rangeAt w6.heap.size 0 (nodeCs 1 x0 x1 x2 x3 s t)) (by kernel_rfl) HN7.out (fun hHeld => ?_)
  refine wpAnyH_take (i := 0) (oi := { dst := some 59, op := .load 32 (.tmp 11), type := 32, pos := "tree.go:70", after := #[], guard := none }) rfl (by kernel_rfl) (by kernel_rfl) (by kernel_rfl) (fun _ _ _ h => h) (yieldsIf_load_mid (by rfl) _ _ rfl _ _ rfl _ _ (fun W h => h) hfN rfl (iNode _ rfl)) (by assumption) ?_
  simp only [Act.put, List.setIfInBounds_toArray, List.set_cons_zero, List.set_cons_succ]
  refine wpAnyH_ready (rs := [1]) (by kernel_rfl) (by simp) ?_
  refine AllReadyH.cons rfl (fun K hK => ?_) AllReadyH.nil
  go_simp
  refine hK.out _ _ ?_ (fun hHeld2 => ?_)
  · exact hHeld
  clear hK K
  try simp only [Act.put, List.setIfInBounds_toArray, List.set_cons_zero, List.set_cons_succ]
  refine wpAnyH_ready (rs := [2]) (by kernel_rfl) (by simp) ?_
  refine AllReadyH.cons rfl (fun K hK => ?_) AllReadyH.nil
  go_simp
  go_at_call 25
  refine (HBK.out g _ ((HC6.out.later HB7.out).later (Below.refl _ _).drew)).mono ?_
  rintro e w8 ⟨v8, rfl, hw8, hb8⟩
  have HW8 := Lib.hid hw8
  have HB8 := Lib.hid hb8
  clear hw8 hb8
  try (go_wp2_with fail)
  refine hK.out _ _ ?_ (fun hHeld3 => ?_)
  · exact fun j v hj => cell_later HB8.out (hHeld j v hj)
  clear hK K
  try simp only [Act.put, List.setIfInBounds_toArray, List.set_cons_zero, List.set_cons_succ]
  have HW80 : Hid (Below w.heap.size w w8) := Lib.hid ((((HB4.out.trans (HO6.out.2.2.2.mono HB4.out.size)).trans (HB7.out.mono (by have h1 := HB4.out.size; have h2 := HO6.out.2.2.2.size; omega))).drew).trans (HB8.out.mono (by have h1 := HB4.out.size; have h2 := HO6.out.2.2.2.size; have h3 := HB7.out.size; show _ ≤ W7.heap.size; omega)))
  have HTH : Hid (w8.there w.heap.size 0 (nodeCs 1 x0 x1 x2 x3 s t).toArray.size) := Lib.hid (by
    have h1 := (HB24.out.trans (HO6.out.2.2.2.mono HB24.out.size))
    have h2 := h1.trans (HB7.out.mono h1.size)
    have h3 := h2.drew.trans (HB8.out.mono h2.size)
    exact there_later h3 HT.out.1 (by simp))
  refine wpAnyH_ready (rs := [3]) (by kernel_rfl) (by simp) ?_
  refine AllReadyH.cons rfl (fun K hK => ?_) AllReadyH.nil
  rw [if_pos (by rfl)]
  refine wp_store_mid _ _ _ rfl _ _ (nodeCs 1 x0 x1 x2 x3 s t).toArray rfl rfl HTH.out (iNodeA 1 x0 x1 x2 x3 s t) (all_oneCell_toArray (node_one 1 x0 x1 x2 x3 s t)) ?_
  refine hK.out _ _ ?_ (fun hHeld4 => ?_)
  · exact World.rangeAt_setCells_apart hHeld3 _ _ _ (Or.inl (by have h1 := HB4.out.size; have h2 := HO6.out.2.2.2.size; have h3 := HB0.out.size; have h5 := HB24.out.size; simp at h3 h5; omega))
  clear hK K
  try simp only [Act.put, List.setIfInBounds_toArray, List.set_cons_zero, List.set_cons_succ]
  refine wpAnyH_ready (rs := [4]) (by kernel_rfl) (by simp) ?_
  refine AllReadyH.cons rfl (fun K hK => ?_) AllReadyH.nil
  go_simp
  refine hK.out _ _ ?_ (fun hHeld5 => ?_)
  · exact hHeld4
  clear hK K
  try simp only [Act.put, List.setIfInBounds_toArray, List.set_cons_zero, List.set_cons_succ]
  refine wpAnyH_ready (rs := [5]) (by kernel_rfl) (by simp) ?_
  refine AllReadyH.cons rfl (fun K hK => ?_) AllReadyH.nil
  go_simp
  refine hK.out _ _ ?_ (fun hHeld6 => ?_)
  · exact hHeld4
  clear hK K
  try simp only [Act.put, List.setIfInBounds_toArray, List.set_cons_zero, List.set_cons_succ]
  refine wpAnyH_done (by kernel_rfl) ?_ _
  go_wp2_with fail
  refine bodyPost_ret (v := .tuple #[nodeV 1 x0 x1 x2 x3 s t, v8, .int .i64 0]) ?_ rfl ⟨v8, rfl, ?_, ?_⟩
  · exact node_end rfl _ _ _ _ _ _ _ _ _ _ _ _ _ rfl rfl rfl HTH.out rfl
  · refine WOwn.mono (WOwn.keeps HW8.out (Keeps.sets _ _ _ _) ?_) ?_
    all_goals (have h1 := HB4.out.size; have h2 := HO6.out.2.2.2.size; have h3 := HB0.out.size; have h5 := HB24.out.size; have h6 := HB7.out.size; simp at h3 h5; show _ ≤ W7.heap.size; omega)
  · exact below_cells _ (Nat.le_refl _) _ _ _ HW80.out

end Go.Proofs.Ytdbkhhmadefccaa
