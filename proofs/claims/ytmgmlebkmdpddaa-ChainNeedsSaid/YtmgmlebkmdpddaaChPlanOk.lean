/-
  Proved here: what the landed chain's Plan answers where fresh blocks are enough and fine.
  The conditions stand at each theorem.
-/
import Derived.Test.YtmgmlebkmdpddaaChPlan
namespace Go.Proofs.Ytmgmlebkmdpddaa
open Go.RowKit Go.Shelf
set_option linter.unusedVariables false
set_option linter.unusedSimpArgs false
attribute [local go_sem] Oper.semAt_some

set_option maxRecDepth 100000 in
set_option maxHeartbeats 6400000 in
theorem chPlan_ok {w : World} {ao bo : Option Addr} {b off n cap m c K : Nat} {l fs : List Int} (hE : EIs w ao n (fromE 0 l)) (hok : ptrsOk l = true) (hnil : ao = none → cap = 0) (hao : 0 < n → ao = some ⟨b, off, none⟩) (hcap : n ≤ cap)
    (hF : IArg w bo m c fs) (hK : (K : Int) = chNeed n) (hn : n ≤ 96) (hm : K ≤ m) (hd : (fs.take K).all dataD = true) (hnd : (fs.take K).Nodup) (hdis : ∀ z ∈ fs.take K, ¬ z ∈ trimL l) :
    Calls Try.prog 8 #[.slice ao n cap, .slice bo m c] w fun e w' => ∃ ao' cap' g B0, e = .returned (.tuple #[nodeC (.slice ao' (min 3 n) cap') 2 (stC (fromE 0 l) fs ((downs K K).map (·.1))).2, .slice (some ⟨g, 0, none⟩) K K, .int .i64 0]) ∧ EIs w' ao' (min 3 n) ((fromE 0 l).take (min 3 n)) ∧ (ao' = none → cap' = 0) ∧ (∀ j, j < K → SlotC w' g B0 j ((stC (fromE 0 l) fs ((downs K K).map (·.1))).1 j)) ∧ Below w.heap.size w w' := by
  obtain ⟨st, hst⟩ : ∃ st, stC (fromE 0 l) fs ((downs K K).map (·.1)) = st := ⟨_, rfl⟩
  rw [hst]
  have HST := Lib.hid hst
  clear hst
  have cN := chNeed_any (n : Int)
  rw [if_neg (by omega), if_neg (by omega), ← hK] at cN
  have HT : Hid (∀ W, Below w.heap.size w W → Calls Try.prog 10 #[.slice ao n cap] W fun e w' => ∃ v, e = .returned (.tuple #[v, .int .i64 0]) ∧ FreshI w' W.heap.size v (trimL l) ∧ Below W.heap.size W w') := Lib.hid (fun W hW => To_any (cap := cap) (hE.later hW) hok)
  have BA : Hid (∀ (cs : Array Value) (T : TypeId), Below w.heap.size w (w.alloc (.cells cs T))) := Lib.hid (fun cs T => (Below.refl _ _).alloc (Nat.le_refl _) _)
  have k1 : (K : Int) ≤ (m : Int) := by omega
  have k0 : (0 : Int) ≤ (K : Int) := by omega
  have hmc := hF.2.2.2
  have k2 : (K : Int) ≤ (c : Int) := by omega
  have HX := Lib.hid hE
  have HK := Lib.hid hK
  have HD := Lib.hid hd
  have HND := Lib.hid hnd
  have HDIS := Lib.hid hdis
  have HNIL := Lib.hid hnil
  have HAO := Lib.hid hao
  have HF := Lib.hid hF
  have hKK : K ≤ 7 := by unfold chNeed at hK; split at hK <;> omega
  have HKK : Hid (0 < K → 14 * K + 3 < n + 14) := Lib.hid (fun h => by unfold chNeed at hK; split at hK <;> omega)
  have HFINE := Lib.hid (from_fine hok)
  have hmk := fun (W : World) => run_make_writes W K (by omega)
  clear hE hok hF hK hd hnd hdis hnil hao
  refine (callsIn_wide (n := 3)).1 (callsIn_of_wp_marks Try.func8 rfl trivial ?_ rfl)
  refine wpIn_wide.2 ?_
  simp only [Try.ntmps8, List.size_toArray, List.length_cons, List.length_nil, Nat.reduceAdd, Nat.reduceSub, Array.replicate_succ, Array.replicate_zero, List.push_toArray, List.append_toArray, List.nil_append, List.cons_append]
  go_wp2_with (first
    | (go_at_call 14; refine (pieces_any ao n cap _).mono ?_; rintro e w8 ⟨rfl, hw8⟩; have HW8 := Lib.hid hw8; clear hw8)
    | (go_at_call 13; refine (chApart_true (((HF.out.takeG hm).later BW3.out).later (BX.out _ _)) (HV3.out.later (BX.out _ _)) HND.out HDIS.out).mono ?_; rintro e w6 ⟨rfl, rfl⟩)
    | (go_at_call 11; refine (containsElse_any (((HF.out.takeG hm).later BW3.out).later (BX.out _ _))).mono ?_; rintro e w5 ⟨rfl, rfl⟩; rw [HD.out])
    | (go_at_call 5; refine (cN _).mono ?_; rintro e w4 ⟨rfl, rfl⟩)
    | (go_at_call 10; refine (HT.out _ (BA.out _ _)).mono ?_; rintro e w3 ⟨v3, rfl, hf3, hb3⟩; obtain ⟨po, pc, rfl, hv3, _⟩ := hf3; obtain ⟨A0, HA0, HB3⟩ : ∃ A0, Hid (A0 = w.alloc (.cells (nodeCs (.slice none 0 0) 0 0).toArray 37)) ∧ Hid (Below A0.heap.size A0 w3) := ⟨_, Lib.hid rfl, Lib.hid hb3⟩; have HV3 := Lib.hid hv3; have BW3 := Lib.hid ((BA.out _ _).trans (hb3.mono (BA.out _ _).size)); have BX : Hid (∀ (cs : Array Value) (T : TypeId), Below w3.heap.size w3 (w3.alloc (.cells cs T))) := Lib.hid (fun cs T => (Below.refl _ _).alloc (Nat.le_refl _) _); clear hb3 hv3))
  have BA0 : Hid (Below w.heap.size w A0) := Lib.hid (by rw [HA0.out]; exact BA.out _ _)
  have hA0 := BA0.out.size
  have h30 := HB3.out.size
  have hst := plan_start A0 w3 HB3.out bo K c 34 54 38 3 29 (.slice ao n cap) w8 HW8.out
  obtain ⟨hI0, hlist, hsz⟩ := hst
  have HI0 := Lib.hid hI0
  have HLIST := Lib.hid hlist
  have HSZ := Lib.hid hsz
  have hBW : Below A0.heap.size A0 w8 := hI0.bel
  clear hI0 hlist HW8
  refine (wpIn_wide (n := 3)).1 ?_
  refine wpIn_rangeFunc_ownG (α := Fin K) rfl (by decide) (gf := 21) (lb := #[.pointer (some ⟨w3.heap.size + 1 + 1 + 1 + 1, 0, none⟩)]) rfl trivial (enters_of Try.func21 (by kernel_rfl) rfl)
    (pieces_stops (3 - 1) (by decide) (w3.heap.size + 1 + 1 + 1 + 1) b off n cap K ao HAO.out hn hcap HK.out w8 (by omega) HLIST.out) keepsC_t keepsC_b (Below.refl _ _) (fun _ => rfl)
    (fun pre W => PlanI A0 w3.heap.size (w3.heap.size + 1 + 1) (w3.heap.size + 1 + 1 + 1) (w3.heap.size + 1) K c bo w8.heap.size (stC (fromE 0 l) fs (pre.map (·.1))) W)
    (fun _ _ _ => False)
    (PlanI.from hBW.size _)
    (fun _ _ _ _ _ hs _ _ => hs)
    HI0.out ?a1 ?assign ?body ?done ?stop
  case assign =>
    intro l x W K hK
    unfold pieceV
    gi_wp2
    exact hK
  case stop =>
    rintro D c pre W _ _ h _
    exact h.elim
  case body =>
    rintro l' pre x W hI hlen
    gi_wp2
    have hxK : x.1 < K := x.2
    obtain ⟨xi, hxi⟩ : ∃ xi : Nat, x.1 = xi := ⟨_, rfl⟩
    have hmap : (pre ++ [x]).map (·.1) = pre.map (·.1) ++ [xi] := by rw [List.map_append]; show _ ++ [x.1] = _; rw [hxi]
    have HMAP := Lib.hid hmap
    rw [hxi] at hxK ⊢
    have hq : 14 * K + 3 < n + 14 := HKK.out (by omega)
    have q0 : 3 + 14 * xi < n := by omega
    obtain rfl := HAO.out (by omega)
    obtain ⟨fb, fo, y, rfl, hy, hc1, hyI⟩ := HF.out.at (show xi < m by omega)
    have HNI := Lib.hid (stC_i64 (xs := fromE 0 l) HF.out.2.1 (pre.map (·.1)))
    have HFB : Hid (fb < w3.heap.size) := Lib.hid (Nat.lt_of_lt_of_le (World.block_lt_of_cell? w _ hc1) BW3.out.size)
    have HY : Hid (fs.getD xi 0 = y) := Lib.hid (by rw [List.getD_eq_getElem?_getD, hy]; rfl)
    have HYI := Lib.hid hyI
    have HI := Lib.hid hI
    obtain ⟨s, hs⟩ : ∃ s, stC (fromE 0 l) fs (pre.map (·.1)) = s := ⟨_, rfl⟩
    have HSS := Lib.hid hs
    rw [hs] at HI HNI
    obtain ⟨s1, s2⟩ := s
    simp only at HNI
    have i0 : (0 : Int) ≤ (xi : Int) := by omega
    have i1 : (xi : Int) < (K : Int) := by omega
    have i2 : xi < K := by omega
    have HCW : Hid (∀ W', Below W.heap.size W W' → Calls Try.prog 15 #[.slice (some ⟨b, off + (3 + 14 * xi) * 2, none⟩) (min 14 (n - (3 + 14 * xi))) (cap - (3 + 14 * xi)), .int .i64 s2] W' (Gives W'.heap.size W' (chBlock (pieceX (fromE 0 l) xi) s2))) := Lib.hid (fun W' hW' =>
      chWrite_any s2 (((HX.out.later (BA0.out.trans (HI.out.bel.mono BA0.out.size))).later hW').piece (k := 14) (by omega)) (fun x hx => HFINE.out x (List.mem_of_mem_drop (List.mem_of_mem_take hx))) HNI.out)
    have HKEEP : Hid (∀ W', Below W.heap.size W W' → W'.cell? ⟨w3.heap.size, 0, none⟩ = some (.slice (some ⟨fb, fo, none⟩) K c) ∧ W'.cell? ⟨w3.heap.size + 1 + 1, 0, none⟩ = some (.slice (some ⟨w3.heap.size + 1, 0, none⟩) K K) ∧ W'.cell? ⟨w3.heap.size + 1 + 1 + 1, 0, none⟩ = some (.int .i64 s2) ∧ W'.cell? ⟨fb, fo + xi, none⟩ = some (.int .i64 y)) := Lib.hid (fun W' hW' =>
      ⟨cell_later hW' HI.out.own, cell_later hW' HI.out.blk, cell_later hW' HI.out.nxt, cell_later hW' (cell_later (BA0.out.trans (HI.out.bel.mono BA0.out.size)) hc1)⟩)
    clear hmap hxi hI hs hy hc1 hyI hq
    refine wpIn_region_round (S := fun W' => W'.cell? ⟨w3.heap.size, 0, none⟩ = some (.slice (some ⟨fb, fo, none⟩) K c) ∧ W'.cell? ⟨w3.heap.size + 1 + 1, 0, none⟩ = some (.slice (some ⟨w3.heap.size + 1, 0, none⟩) K K) ∧ W'.cell? ⟨w3.heap.size + 1 + 1 + 1, 0, none⟩ = some (.int .i64 s2) ∧ W'.cell? ⟨fb, fo + xi, none⟩ = some (.int .i64 y)) (by kernel_rfl) (by kernel_rfl) (fun ⟨_, _, h⟩ => h) (HKEEP.out _ (Below.refl _ _).drew) (fun hHeld => ?_)
    refine wpAnyH_take (i := 0) (oi := ⟨some 55, _, _, _, _, _⟩) (v := ?_) rfl (by kernel_rfl) (by kernel_rfl) (by kernel_rfl) (fun _ _ _ h => h) (Or.inl ⟨by rfl, ?_⟩) (by assumption) ?_
    rotate_left 1
    · (intro w hSw; (try dsimp only at hSw); go_simp); try (with_reducible rfl)
    try simp only [Act.put, List.setIfInBounds_toArray, List.set_cons_zero, List.set_cons_succ]
    refine wpAnyH_take (i := 1) (oi := ⟨some 56, _, _, _, _, _⟩) (v := ?_) rfl (by kernel_rfl) (by kernel_rfl) (by kernel_rfl) (fun _ _ _ h => h) (Or.inl ⟨by rfl, ?_⟩) (by assumption) ?_
    rotate_left 1
    · (intro w hSw; (try dsimp only at hSw); go_simp); try (with_reducible rfl)
    try simp only [Act.put, List.setIfInBounds_toArray, List.set_cons_zero, List.set_cons_succ]
    refine wpAnyH_take (i := 2) (oi := ⟨some 57, _, _, _, _, _⟩) (v := ?_) rfl (by kernel_rfl) (by kernel_rfl) (by kernel_rfl) (fun _ _ _ h => h) (Or.inl ⟨by rfl, ?_⟩) (by assumption) ?_
    rotate_left 1
    · (intro w hSw; (try dsimp only at hSw); go_simp); try (with_reducible rfl)
    try simp only [Act.put, List.setIfInBounds_toArray, List.set_cons_zero, List.set_cons_succ]
    refine wpAnyH_take (i := 3) (oi := ⟨some 58, _, _, _, _, _⟩) (v := ?_) rfl (by kernel_rfl) (by kernel_rfl) (by kernel_rfl) (fun _ _ _ h => h) (Or.inl ⟨by rfl, ?_⟩) (by assumption) ?_
    rotate_left 1
    · (intro w hSw; (try dsimp only at hSw); go_simp); try (with_reducible rfl)
    try simp only [Act.put, List.setIfInBounds_toArray, List.set_cons_zero, List.set_cons_succ]
    refine wpAnyH_take (i := 4) (oi := ⟨some 59, _, _, _, _, _⟩) (v := ?_) rfl (by kernel_rfl) (by kernel_rfl) (by kernel_rfl) (fun _ _ _ h => h) (Or.inl ⟨by rfl, ?_⟩) (by assumption) ?_
    rotate_left 1
    · (intro w hSw; (try dsimp only at hSw); go_simp); try (with_reducible rfl)
    try simp only [Act.put, List.setIfInBounds_toArray, List.set_cons_zero, List.set_cons_succ]
    refine wpAnyH_take (i := 5) (oi := ⟨some 60, _, _, _, _, _⟩) (v := ?_) rfl (by kernel_rfl) (by kernel_rfl) (by kernel_rfl) (fun _ _ _ h => h) (Or.inl ⟨by rfl, ?_⟩) (by assumption) ?_
    rotate_left 1
    · (intro w hSw; (try dsimp only at hSw); go_simp); try (with_reducible rfl)
    try simp only [Act.put, List.setIfInBounds_toArray, List.set_cons_zero, List.set_cons_succ]
    refine wpAnyH_take (i := 6) (oi := ⟨some 61, _, _, _, _, _⟩) (v := ?_) rfl (by kernel_rfl) (by kernel_rfl) (by kernel_rfl) (fun _ _ _ h => h) (Or.inl ⟨by rfl, ?_⟩) (by assumption) ?_
    rotate_left 1
    · (intro w hSw; (try dsimp only at hSw); go_simp); try (with_reducible rfl)
    try simp only [Act.put, List.setIfInBounds_toArray, List.set_cons_zero, List.set_cons_succ]
    refine wpAnyH_take (i := 7) (oi := ⟨some 62, _, _, _, _, _⟩) (v := ?_) rfl (by kernel_rfl) (by kernel_rfl) (by kernel_rfl) (fun _ _ _ h => h) (Or.inl ⟨by rfl, ?_⟩) (by assumption) ?_
    rotate_left 1
    · (intro w hSw; (try dsimp only at hSw); go_simp); try (with_reducible rfl)
    try simp only [Act.put, List.setIfInBounds_toArray, List.set_cons_zero, List.set_cons_succ]
    clear hHeld
    have hHeld := HKEEP.out _ (Below.refl _ _).drew
    refine wpAnyH_ready (rs := [8]) (by kernel_rfl) (by simp) ?_
    refine AllReadyH.cons rfl (fun Kc hKc => ?_) AllReadyH.nil
    go_simp
    go_wp2_with (go_at_call 15; refine (HCW.out _ (Below.refl _ _).drew).mono ?_; rintro e w5 ⟨v5, rfl, hf5, hb5⟩; obtain ⟨ao5, c5, rfl, _⟩ := fresh_form hf5; have HF5 := Lib.hid hf5; have HB5 : Hid (Below W.heap.size W w5) := Lib.hid ((Below.refl _ _).drew.trans hb5); clear hf5 hb5)
    refine hKc.out _ _ (HKEEP.out _ HB5.out) (fun hHeld => ?_)
    clear hKc Kc
    refine wpAnyH_take (i := 9) (oi := ⟨some 64, _, _, _, _, _⟩) (v := ?_) rfl (by kernel_rfl) (by kernel_rfl) (by kernel_rfl) (fun _ _ _ h => h) (Or.inl ⟨by rfl, ?_⟩) (by assumption) ?_
    rotate_left 1
    · (intro w hSw; (try dsimp only at hSw); go_simp); try (with_reducible rfl)
    try simp only [Act.put, List.setIfInBounds_toArray, List.set_cons_zero, List.set_cons_succ]
    refine wpAnyH_take (i := 10) (oi := ⟨some 65, _, _, _, _, _⟩) (v := ?_) rfl (by kernel_rfl) (by kernel_rfl) (by kernel_rfl) (fun _ _ _ h => h) (Or.inl ⟨by rfl, ?_⟩) (by assumption) ?_
    rotate_left 1
    · (intro w hSw; (try dsimp only at hSw); go_simp); try (with_reducible rfl)
    try simp only [Act.put, List.setIfInBounds_toArray, List.set_cons_zero, List.set_cons_succ]
    obtain ⟨⟨y0, hy0⟩, y1, hy1⟩ := ((HI.out.later HB5.out).cells xi i2).there
    obtain ⟨z0, z1⟩ := (HI.out.later HB5.out).gf xi i2
    refine wpAnyH_ready (rs := [11]) (by kernel_rfl) (by simp) ?_
    refine AllReadyH.cons rfl (fun Kc hKc => ?_) AllReadyH.nil
    go_simp
    have hfb := HFB.out
    have hh := HKEEP.out _ HB5.out
    refine hKc.out _ _ (by
      rw [set_far _ (blk_ne (by show w3.heap.size ≠ w3.heap.size + 1; omega)), set_far _ (blk_ne (by show w3.heap.size ≠ w3.heap.size + 1; omega)), set_far _ (blk_ne (by show w3.heap.size + 1 + 1 ≠ w3.heap.size + 1; omega)), set_far _ (blk_ne (by show w3.heap.size + 1 + 1 ≠ w3.heap.size + 1; omega)), set_far _ (blk_ne (by show w3.heap.size + 1 + 1 + 1 ≠ w3.heap.size + 1; omega)), set_far _ (blk_ne (by show w3.heap.size + 1 + 1 + 1 ≠ w3.heap.size + 1; omega)), set_far _ (blk_ne (by show fb ≠ w3.heap.size + 1; omega)), set_far _ (blk_ne (by show fb ≠ w3.heap.size + 1; omega))]
      exact hh) (fun hHeld => ?_)
    clear hKc Kc hh
    refine wpAnyH_done (by kernel_rfl) ?_ _
    have HWX : Hid (((w5.setCell ⟨w3.heap.size + 1, xi * 2, none⟩ (.int .i64 y)).setCell ⟨w3.heap.size + 1, xi * 2 + 1, none⟩ (.slice ao5 (chBlock (pieceX (fromE 0 l) xi) s2).length c5)).frozen? ⟨w3.heap.size + 1 + 1 + 1, 0, none⟩ = false) := Lib.hid (by rw [World.frozen?_setCell, World.frozen?_setCell]; exact (HI.out.later HB5.out).nf)
    obtain ⟨W6, hW6⟩ : ∃ W6, (w5.setCell ⟨w3.heap.size + 1, xi * 2, none⟩ (.int .i64 y)).setCell ⟨w3.heap.size + 1, xi * 2 + 1, none⟩ (.slice ao5 (chBlock (pieceX (fromE 0 l) xi) s2).length c5) = W6 := ⟨_, rfl⟩
    rw [hW6] at hHeld HWX ⊢
    have HW6 := Lib.hid hW6
    obtain ⟨b1, b2, b3, b4⟩ := hHeld
    have b5 := HWX.out
    clear hW6 hy0 hy1 z0 z1
    gi_wp2
    have h7 := plan_step (fs := fs) HI.out HB5.out i2 (Fresh.datC HF5.out) (by omega) (by omega) (by omega) (by omega) (by omega) (by have := HSZ.out; omega) (by have := HSZ.out; omega) (by omega) (by omega) (B := w3.heap.size + 1 + 1 + 1 + 1) (by omega) (by omega) (W6.setCell ⟨w3.heap.size + 1 + 1 + 1, 0, none⟩ (.int .i64 y)) (by rw [HY.out, HW6.out])
    refine ⟨h7.2.1, h7.2.2, ?_⟩
    show PlanI _ _ _ _ _ _ _ _ _ (stC (fromE 0 l) fs ((pre ++ [x]).map (·.1))) _
    rw [HMAP.out, stC_snoc, HSS.out]
    exact h7.1
  case done =>
    rintro D ys W hD rfl hI hK
    have HI := Lib.hid hI
    rw [HST.out] at HI
    have hnx := HI.out.nxt
    have hbk := HI.out.blk
    have m3 : (3 : Int) ≤ (n : Int) → (3 : Int) ≤ (cap : Int) := fun h => by omega
    have m4 : (n : Int) ≤ (cap : Int) := by omega
    have HXW : Hid (EIs W ao n (fromE 0 l)) := Lib.hid (HX.out.later (BA0.out.trans (HI.out.bel.mono BA0.out.size)))
    have HTH : Hid (∀ w9, Below A0.heap.size A0 w9 → w9.there w.heap.size 0 12) := Lib.hid (fun w9 h9 => by rw [HA0.out] at h9; exact there_laterC h9 rfl)
    clear hI
    by_cases h3 : 3 ≤ n
    · have o3 : (3 : Int) ≤ (n : Int) := by omega
      have o4 := m3 o3
      have HMN : Hid (min 3 n = 3) := Lib.hid (by omega)
      go_wp2_with (first
        | (go_at_call 16; refine (cloneX_any ao 3 cap _ W (HXW.out.takeG (k := 3) (by omega)) HNIL.out).mono ?_; rintro e w9 ⟨v9, rfl, hr9, hb9⟩; obtain ⟨ao9, c9, rfl, hE9, hg9, hn9⟩ := hr9.eis2 (by rw [List.length_take]; omega); have HL9 : Hid (((fromE 0 l).take 3).length = 3) := Lib.hid (by rw [List.length_take, HX.out.1]; omega); rw [HL9.out] at hE9 ⊢; have HE9 := Lib.hid hE9; have HG9 := Lib.hid hg9; have HN9 := Lib.hid hn9; have HB9 := Lib.hid hb9; clear hr9 hE9 hg9 hn9 hb9))
      all_goals (try (exfalso; omega))
      have HK9 : Hid (∀ w' : World, (∀ p : Addr, p.block ≠ w.heap.size → w'.cell? p = w9.cell? p) → w'.cell? ⟨w3.heap.size + 1 + 1, 0, none⟩ = some (.slice (some ⟨w3.heap.size + 1, 0, none⟩) K K) ∧ w'.cell? ⟨w3.heap.size + 1 + 1 + 1, 0, none⟩ = some (.int .i64 st.2)) := Lib.hid (fun w' h' =>
        ⟨(h' _ (by show w3.heap.size + 1 + 1 ≠ w.heap.size; omega)).trans (cell_later HB9.out HI.out.blk), (h' _ (by show w3.heap.size + 1 + 1 + 1 ≠ w.heap.size; omega)).trans (cell_later HB9.out HI.out.nxt)⟩)
      clear hnx hbk
      refine wp_calm ?_
      refine wp_region_held_drew (S := fun w' => w'.cell? ⟨w3.heap.size + 1 + 1, 0, none⟩ = some (.slice (some ⟨w3.heap.size + 1, 0, none⟩) K K) ∧ w'.cell? ⟨w3.heap.size + 1 + 1 + 1, 0, none⟩ = some (.int .i64 st.2)) (by kernel_rfl) (HK9.out _ (fun _ _ => rfl)) (fun hHeld => ?_)
      refine wpAnyH_take (i := 0) (oi := ⟨some 76, _, _, _, _, _⟩) (v := ?_) rfl (by kernel_rfl) (by kernel_rfl) (by kernel_rfl) (fun _ _ _ h => h) (Or.inl ⟨by rfl, ?_⟩) (by assumption) ?_
      rotate_left 1
      · (intro w hSw; (try dsimp only at hSw); go_simp); try (with_reducible rfl)
      try simp only [Act.put, List.setIfInBounds_toArray, List.set_cons_zero, List.set_cons_succ]
      refine wpAnyH_take (i := 1) (oi := ⟨some 77, _, _, _, _, _⟩) (v := ?_) rfl (by kernel_rfl) (by kernel_rfl) (by kernel_rfl) (fun _ _ _ h => h) (Or.inl ⟨by rfl, ?_⟩) (by assumption) ?_
      rotate_left 1
      · (intro w hSw; (try dsimp only at hSw); go_simp); try (with_reducible rfl)
      try simp only [Act.put, List.setIfInBounds_toArray, List.set_cons_zero, List.set_cons_succ]
      refine wpAnyH_take (i := 2) (oi := ⟨some 78, _, _, _, _, _⟩) (v := ?_) rfl (by kernel_rfl) (by kernel_rfl) (by kernel_rfl) (fun _ _ _ h => h) (Or.inl ⟨by rfl, ?_⟩) (by assumption) ?_
      rotate_left 1
      · (intro w hSw; (try dsimp only at hSw); go_simp); try (with_reducible rfl)
      try simp only [Act.put, List.setIfInBounds_toArray, List.set_cons_zero, List.set_cons_succ]
      refine wpAnyH_take (i := 3) (oi := ⟨some 79, _, _, _, _, _⟩) (v := ?_) rfl (by kernel_rfl) (by kernel_rfl) (by kernel_rfl) (fun _ _ _ h => h) (Or.inl ⟨by rfl, ?_⟩) (by assumption) ?_
      rotate_left 1
      · (intro w hSw; (try dsimp only at hSw); go_simp); try (with_reducible rfl)
      try simp only [Act.put, List.setIfInBounds_toArray, List.set_cons_zero, List.set_cons_succ]
      refine wpAnyH_ready (rs := [4]) (by kernel_rfl) (by simp) ?_
      refine AllReadyH.cons (o := ⟨none, _, _, _, _, _⟩) rfl (fun Kc hKc => ?_) AllReadyH.nil
      rw [if_pos (by rfl)]
      refine op_store_node (.tmp 4) (.tmp 78) rfl w.heap.size (.slice ao9 3 c9) 2 st.2 rfl rfl rfl (HTH.out _ (HI.out.bel.trans ((HB9.out.trans (Below.refl _ _).drew).mono HI.out.bel.size))) ?_
      intro w10 hr10 hb10 hk10
      try simp only [Act.put, List.setIfInBounds_toArray, List.set_cons_zero, List.set_cons_succ]
      refine hKc.out _ _ (HK9.out _ (fun p hp => hk10.cell hp)) (fun hHeld => ?_)
      clear hKc Kc
      have HR10 := Lib.hid hr10
      have HB10 := Lib.hid hb10
      have HKP10 := Lib.hid hk10
      clear hr10 hb10 hk10
      refine wpAnyH_take (i := 5) (oi := ⟨some 5, _, _, _, _, _⟩) (v := ?_) rfl (by kernel_rfl) (by kernel_rfl) (by kernel_rfl) (fun _ _ _ h => h) (Or.inl ⟨by rfl, ?_⟩) (by assumption) ?_
      rotate_left 1
      · (intro w hSw; (try dsimp only at hSw); go_simp); try (with_reducible rfl)
      try simp only [Act.put, List.setIfInBounds_toArray, List.set_cons_zero, List.set_cons_succ]
      refine wpAnyH_take (i := 6) (oi := ⟨some 6, _, _, _, _, _⟩) (v := ?_) rfl (by kernel_rfl) (by kernel_rfl) (by kernel_rfl) (fun _ _ _ h => h) (Or.inl ⟨by rfl, ?_⟩) (by assumption) ?_
      rotate_left 1
      · (intro w hSw; (try dsimp only at hSw); go_simp); try (with_reducible rfl)
      try simp only [Act.put, List.setIfInBounds_toArray, List.set_cons_zero, List.set_cons_succ]
      refine wpAnyH_done (by kernel_rfl) ?_ _
      refine calm_normal ?_
      go_wp2_with fail
      have hw8 := HSZ.out
      have hDW : D < W.heap.size := (Array.getElem?_eq_some_iff.1 hK).1
      have hWl : w8.heap.size ≤ W.heap.size := HI.out.lt
      have hK10 : w10.heap[D]? = some (.deferred (some [])) := by
        rw [HKP10.out.2 D (by omega)]
        exact (HB9.out.block D hDW).trans hK
      have hcell : ∀ (p : Addr) u, w10.cell? p = some u → (w10.putObj D (.deferred none)).cell? p = some u := fun p u h => cell_kept h (grownBy_putObj' _ D (.deferred none)) (fun r e => by cases e; exact ⟨_, hK10, rfl⟩)
      have hc10 : ∀ (p : Addr) u, p.block ≠ w.heap.size → w9.cell? p = some u → (w10.putObj D (.deferred none)).cell? p = some u := fun p u hp hu => hcell _ _ ((HKP10.out.cell hp).trans hu)
      refine ⟨by simp, .inl ⟨_, _, rfl, run_takeDeferred hK10, ?_⟩⟩
      refine ⟨_, results_node rfl rfl (fun j v hj => hcell _ _ (HR10.out j v hj)), ao9, c9, w3.heap.size + 1, w8.heap.size, by rw [HMN.out]; rfl, ?_, HN9.out, ?_, ?_⟩
      · rw [HMN.out]
        exact HE9.out.of_cells HG9.out (fun p u hp hu => hc10 p u (by omega) hu)
      · exact fun j hj => ((HI.out.later HB9.out).cells j hj).of_cells (fun u o _ hu => hc10 _ u (by show w3.heap.size + 1 ≠ w.heap.size; omega) hu) (fun p u hp hu => hc10 p u (by omega) hu)
      · have b1 := BA0.out.trans (HI.out.bel.mono BA0.out.size)
        have b2 := b1.trans ((HB9.out.trans (Below.refl _ _).drew).mono b1.size)
        exact (b2.trans HB10.out).trans (belowK_b (w := w) (Nat.le_refl _) w10 D _ _ (by omega) hK10 rfl rfl)
    · have o3 : (n : Int) < 3 := by omega
      have HMN : Hid (min 3 n = n) := Lib.hid (by omega)
      go_wp2_with (first
        | (go_at_call 16; refine (cloneX_any ao n cap _ W (HXW.out.takeG (k := n) (by omega)) HNIL.out).mono ?_; rintro e w9 ⟨v9, rfl, hr9, hb9⟩; obtain ⟨ao9, c9, rfl, hE9, hg9, hn9⟩ := hr9.eis2 (by rw [List.length_take]; omega); have HL9 : Hid (((fromE 0 l).take n).length = n) := Lib.hid (by rw [List.length_take, HX.out.1]; omega); rw [HL9.out] at hE9 ⊢; have HE9 := Lib.hid hE9; have HG9 := Lib.hid hg9; have HN9 := Lib.hid hn9; have HB9 := Lib.hid hb9; clear hr9 hE9 hg9 hn9 hb9))
      all_goals (try (exfalso; omega))
      have HK9 : Hid (∀ w' : World, (∀ p : Addr, p.block ≠ w.heap.size → w'.cell? p = w9.cell? p) → w'.cell? ⟨w3.heap.size + 1 + 1, 0, none⟩ = some (.slice (some ⟨w3.heap.size + 1, 0, none⟩) K K) ∧ w'.cell? ⟨w3.heap.size + 1 + 1 + 1, 0, none⟩ = some (.int .i64 st.2)) := Lib.hid (fun w' h' =>
        ⟨(h' _ (by show w3.heap.size + 1 + 1 ≠ w.heap.size; omega)).trans (cell_later HB9.out HI.out.blk), (h' _ (by show w3.heap.size + 1 + 1 + 1 ≠ w.heap.size; omega)).trans (cell_later HB9.out HI.out.nxt)⟩)
      clear hnx hbk
      refine wp_calm ?_
      refine wp_region_held_drew (S := fun w' => w'.cell? ⟨w3.heap.size + 1 + 1, 0, none⟩ = some (.slice (some ⟨w3.heap.size + 1, 0, none⟩) K K) ∧ w'.cell? ⟨w3.heap.size + 1 + 1 + 1, 0, none⟩ = some (.int .i64 st.2)) (by kernel_rfl) (HK9.out _ (fun _ _ => rfl)) (fun hHeld => ?_)
      refine wpAnyH_take (i := 0) (oi := ⟨some 76, _, _, _, _, _⟩) (v := ?_) rfl (by kernel_rfl) (by kernel_rfl) (by kernel_rfl) (fun _ _ _ h => h) (Or.inl ⟨by rfl, ?_⟩) (by assumption) ?_
      rotate_left 1
      · (intro w hSw; (try dsimp only at hSw); go_simp); try (with_reducible rfl)
      try simp only [Act.put, List.setIfInBounds_toArray, List.set_cons_zero, List.set_cons_succ]
      refine wpAnyH_take (i := 1) (oi := ⟨some 77, _, _, _, _, _⟩) (v := ?_) rfl (by kernel_rfl) (by kernel_rfl) (by kernel_rfl) (fun _ _ _ h => h) (Or.inl ⟨by rfl, ?_⟩) (by assumption) ?_
      rotate_left 1
      · (intro w hSw; (try dsimp only at hSw); go_simp); try (with_reducible rfl)
      try simp only [Act.put, List.setIfInBounds_toArray, List.set_cons_zero, List.set_cons_succ]
      refine wpAnyH_take (i := 2) (oi := ⟨some 78, _, _, _, _, _⟩) (v := ?_) rfl (by kernel_rfl) (by kernel_rfl) (by kernel_rfl) (fun _ _ _ h => h) (Or.inl ⟨by rfl, ?_⟩) (by assumption) ?_
      rotate_left 1
      · (intro w hSw; (try dsimp only at hSw); go_simp); try (with_reducible rfl)
      try simp only [Act.put, List.setIfInBounds_toArray, List.set_cons_zero, List.set_cons_succ]
      refine wpAnyH_take (i := 3) (oi := ⟨some 79, _, _, _, _, _⟩) (v := ?_) rfl (by kernel_rfl) (by kernel_rfl) (by kernel_rfl) (fun _ _ _ h => h) (Or.inl ⟨by rfl, ?_⟩) (by assumption) ?_
      rotate_left 1
      · (intro w hSw; (try dsimp only at hSw); go_simp); try (with_reducible rfl)
      try simp only [Act.put, List.setIfInBounds_toArray, List.set_cons_zero, List.set_cons_succ]
      refine wpAnyH_ready (rs := [4]) (by kernel_rfl) (by simp) ?_
      refine AllReadyH.cons (o := ⟨none, _, _, _, _, _⟩) rfl (fun Kc hKc => ?_) AllReadyH.nil
      rw [if_pos (by rfl)]
      refine op_store_node (.tmp 4) (.tmp 78) rfl w.heap.size (.slice ao9 n c9) 2 st.2 rfl rfl rfl (HTH.out _ (HI.out.bel.trans ((HB9.out.trans (Below.refl _ _).drew).mono HI.out.bel.size))) ?_
      intro w10 hr10 hb10 hk10
      try simp only [Act.put, List.setIfInBounds_toArray, List.set_cons_zero, List.set_cons_succ]
      refine hKc.out _ _ (HK9.out _ (fun p hp => hk10.cell hp)) (fun hHeld => ?_)
      clear hKc Kc
      have HR10 := Lib.hid hr10
      have HB10 := Lib.hid hb10
      have HKP10 := Lib.hid hk10
      clear hr10 hb10 hk10
      refine wpAnyH_take (i := 5) (oi := ⟨some 5, _, _, _, _, _⟩) (v := ?_) rfl (by kernel_rfl) (by kernel_rfl) (by kernel_rfl) (fun _ _ _ h => h) (Or.inl ⟨by rfl, ?_⟩) (by assumption) ?_
      rotate_left 1
      · (intro w hSw; (try dsimp only at hSw); go_simp); try (with_reducible rfl)
      try simp only [Act.put, List.setIfInBounds_toArray, List.set_cons_zero, List.set_cons_succ]
      refine wpAnyH_take (i := 6) (oi := ⟨some 6, _, _, _, _, _⟩) (v := ?_) rfl (by kernel_rfl) (by kernel_rfl) (by kernel_rfl) (fun _ _ _ h => h) (Or.inl ⟨by rfl, ?_⟩) (by assumption) ?_
      rotate_left 1
      · (intro w hSw; (try dsimp only at hSw); go_simp); try (with_reducible rfl)
      try simp only [Act.put, List.setIfInBounds_toArray, List.set_cons_zero, List.set_cons_succ]
      refine wpAnyH_done (by kernel_rfl) ?_ _
      refine calm_normal ?_
      go_wp2_with fail
      have hw8 := HSZ.out
      have hDW : D < W.heap.size := (Array.getElem?_eq_some_iff.1 hK).1
      have hWl : w8.heap.size ≤ W.heap.size := HI.out.lt
      have hK10 : w10.heap[D]? = some (.deferred (some [])) := by
        rw [HKP10.out.2 D (by omega)]
        exact (HB9.out.block D hDW).trans hK
      have hcell : ∀ (p : Addr) u, w10.cell? p = some u → (w10.putObj D (.deferred none)).cell? p = some u := fun p u h => cell_kept h (grownBy_putObj' _ D (.deferred none)) (fun r e => by cases e; exact ⟨_, hK10, rfl⟩)
      have hc10 : ∀ (p : Addr) u, p.block ≠ w.heap.size → w9.cell? p = some u → (w10.putObj D (.deferred none)).cell? p = some u := fun p u hp hu => hcell _ _ ((HKP10.out.cell hp).trans hu)
      refine ⟨by simp, .inl ⟨_, _, rfl, run_takeDeferred hK10, ?_⟩⟩
      refine ⟨_, results_node rfl rfl (fun j v hj => hcell _ _ (HR10.out j v hj)), ao9, c9, w3.heap.size + 1, w8.heap.size, by rw [HMN.out]; rfl, ?_, HN9.out, ?_, ?_⟩
      · rw [HMN.out]
        exact HE9.out.of_cells HG9.out (fun p u hp hu => hc10 p u (by omega) hu)
      · exact fun j hj => ((HI.out.later HB9.out).cells j hj).of_cells (fun u o _ hu => hc10 _ u (by show w3.heap.size + 1 ≠ w.heap.size; omega) hu) (fun p u hp hu => hc10 p u (by omega) hu)
      · have b1 := BA0.out.trans (HI.out.bel.mono BA0.out.size)
        have b2 := b1.trans ((HB9.out.trans (Below.refl _ _).drew).mono b1.size)
        exact (b2.trans HB10.out).trans (belowK_b (w := w) (Nat.le_refl _) w10 D _ _ (by omega) hK10 rfl rfl)

end Go.Proofs.Ytmgmlebkmdpddaa
