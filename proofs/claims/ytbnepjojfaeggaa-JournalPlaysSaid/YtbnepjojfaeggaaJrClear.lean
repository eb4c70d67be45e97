/-
  Proved here: what the landed journal's clearHead answers.
  The conditions stand at each theorem.
-/
import Derived.Test.YtbnepjojfaeggaaJrGrp
namespace Go.Proofs.Ytbnepjojfaeggaa
open Go.RowKit
set_option linter.unusedVariables false
set_option linter.unusedSimpArgs false

set_option maxRecDepth 100000 in
set_option maxHeartbeats 3200000 in
theorem clear_any {w : World} {j a : Addr} {F G : Nat → Prop} {D : DM} {s : JS} (hD : DI w a F D) (hJ : JI2 w j a G s) (hFG : ∀ k, F k → ¬ G k) (hsm : smallD D) :
    Calls Try.prog 49 #[.pointer (some j)] w fun e w' => ∃ F', e = .returned (.int .i64 (clearP D s).2) ∧ DI w' a F' (clearP D s).1 ∧ Grew F F' w w' := by
  obtain ⟨⟨q, rfl, rfl, hv⟩, h0, h39, _⟩ := hJ
  obtain ⟨x, seq, gone⟩ := s
  have h0 : 0 ≤ x := h0
  have h39 : x ≤ 39 := h39
  have hv : V4 w q (.pointer (some a)) (.int .i64 x) (.int .i64 seq) (.bool gone) := hv
  obtain ⟨A, hA⟩ : ∃ A, logA x.toNat = A := ⟨_, rfl⟩
  have HAI : Hid (0 ≤ A ∧ A < 59) := Lib.hid (by rw [← hA]; exact logA_in2 _)
  have HA : Hid (-9223372036854775808 ≤ A ∧ A ≤ 9223372036854775807) := Lib.hid (by have := HAI.out; omega)
  have hcl : ∀ W : World, Calls Try.prog 51 #[.agg #[.int .i64 x, .int .i64 seq]] W fun e w' => ∃ g, e = .returned (.agg #[.int .i64 A, .slice (some ⟨g, 0, none⟩) 64 64]) ∧ Own W.heap.size W g zeros64 w' := fun W => by
    have h := cleared_any W x.toNat (by omega) seq
    rw [show ((x.toNat : Nat) : Int) = x by omega] at h
    rw [← hA]
    exact h
  obtain ⟨e1, he1⟩ : ∃ e, diskErr D A = e := ⟨_, rfl⟩
  obtain ⟨Z, hZ⟩ : ∃ Z, diskOut D A = Z := ⟨_, rfl⟩
  have HCP : Hid (clearP D ⟨x, seq, gone⟩ = if e1 ≠ 0 then (D, e1) else if isBeg Z = true then writeP D [[(A, zeros64)]] else (D, 0)) := Lib.hid (by
    unfold clearP
    dsimp only
    rw [hA, he1, hZ])
  have hfd : ∀ (x : Int) (v : Value) (w : World), (Instr.field 48 (.agg #[.int .i64 x, v]) 0).run Try.prog w = .ok (.int .i64 x) w := fun _ _ _ => by kernel_rfl
  have HC := Lib.hid hcl
  have HE := Lib.hid he1
  have HZ := Lib.hid hZ
  have HV := Lib.hid hv
  have HD := Lib.hid hD
  have HS := Lib.hid hsm
  have HQF : Hid (¬ F q) := Lib.hid (fun hf => hFG q hf rfl)
  clear hcl he1 hZ hv hD hsm hFG hA h0 h39
  go_enter Try.func49, Try.ntmps49
  go_wp2_with fail
  refine wp_region_held_drew (S := fun W => W.cell? ⟨q, 0, none⟩ = some (.pointer (some a)) ∧ W.cell? ⟨q, 1, none⟩ = some (.int .i64 x) ∧ W.cell? ⟨q, 2, none⟩ = some (.int .i64 seq)) (by kernel_rfl) ⟨HV.out.1, HV.out.2.1, HV.out.2.2.1⟩ (fun hHeld => ?_)
  refine wpAnyH_take (i := 0) (oi := ⟨some 8, _, _, _, _, _⟩) (v := .pointer (some ⟨q, 0, none⟩)) rfl (by kernel_rfl) (by kernel_rfl) (by kernel_rfl) (fun _ _ _ h => h) (Or.inl ⟨by kernel_rfl, fun w _ => rfl⟩) (by assumption) ?_
  try simp only [Act.put, List.setIfInBounds_toArray, List.set_cons_zero, List.set_cons_succ]
  refine wpAnyH_take (i := 1) (oi := ⟨some 9, _, _, _, _, _⟩) (v := .pointer (some ⟨q, 0, none⟩)) rfl (by kernel_rfl) (by kernel_rfl) (by kernel_rfl) (fun _ _ _ h => h) (Or.inl ⟨by kernel_rfl, by intro w _; go_simp; (try omega)⟩) (by assumption) ?_
  try simp only [Act.put, List.setIfInBounds_toArray, List.set_cons_zero, List.set_cons_succ]
  refine wpAnyH_take (i := 2) (oi := ⟨some 10, _, _, _, _, _⟩) (v := .pointer (some ⟨q, 0, none⟩)) rfl (by kernel_rfl) (by kernel_rfl) (by kernel_rfl) (fun _ _ _ h => h) (Or.inl ⟨by kernel_rfl, by intro w _; go_simp; (try omega)⟩) (by assumption) ?_
  try simp only [Act.put, List.setIfInBounds_toArray, List.set_cons_zero, List.set_cons_succ]
  refine wpAnyH_take (i := 3) (oi := ⟨some 11, _, _, _, _, _⟩) (v := .pointer (some a)) rfl (by kernel_rfl) (by kernel_rfl) (by kernel_rfl) (fun _ _ _ h => h) (Or.inl ⟨by kernel_rfl, by intro w hSw; obtain ⟨s1, s2, s3⟩ := hSw; go_simp⟩) (by assumption) ?_
  try simp only [Act.put, List.setIfInBounds_toArray, List.set_cons_zero, List.set_cons_succ]
  refine wpAnyH_take (i := 4) (oi := ⟨some 12, _, _, _, _, _⟩) (v := .pointer (some ⟨q, 0, none⟩)) rfl (by kernel_rfl) (by kernel_rfl) (by kernel_rfl) (fun _ _ _ h => h) (Or.inl ⟨by kernel_rfl, fun w _ => rfl⟩) (by assumption) ?_
  try simp only [Act.put, List.setIfInBounds_toArray, List.set_cons_zero, List.set_cons_succ]
  refine wpAnyH_take (i := 5) (oi := ⟨some 13, _, _, _, _, _⟩) (v := .pointer (some ⟨q, 0, none⟩)) rfl (by kernel_rfl) (by kernel_rfl) (by kernel_rfl) (fun _ _ _ h => h) (Or.inl ⟨by kernel_rfl, by intro w _; go_simp; (try omega)⟩) (by assumption) ?_
  try simp only [Act.put, List.setIfInBounds_toArray, List.set_cons_zero, List.set_cons_succ]
  refine wpAnyH_take (i := 6) (oi := ⟨some 14, _, _, _, _, _⟩) (v := .pointer (some ⟨q, 1, none⟩)) rfl (by kernel_rfl) (by kernel_rfl) (by kernel_rfl) (fun _ _ _ h => h) (Or.inl ⟨by kernel_rfl, by intro w _; go_simp; (try omega)⟩) (by assumption) ?_
  try simp only [Act.put, List.setIfInBounds_toArray, List.set_cons_zero, List.set_cons_succ]
  refine wpAnyH_take (i := 7) (oi := ⟨some 15, _, _, _, _, _⟩) (v := .agg #[.int .i64 x, .int .i64 seq]) rfl (by kernel_rfl) (by kernel_rfl) (by kernel_rfl) (fun _ _ _ h => h) (Or.inl ⟨by kernel_rfl, by intro w hSw; obtain ⟨s1, s2, s3⟩ := hSw; go_simp⟩) (by assumption) ?_
  try simp only [Act.put, List.setIfInBounds_toArray, List.set_cons_zero, List.set_cons_succ]
  refine wpAnyH_ready (rs := [8]) (by kernel_rfl) (by simp) ?_
  refine AllReadyH.cons (o := ⟨some 16, _, _, _, _, _⟩) rfl (fun K hK => ?_) AllReadyH.nil
  go_simp
  go_at_call 51
  refine (HC.out w.drew).mono ?_
  rintro e w2 ⟨g2, rfl, hO2⟩
  have HB2 := Lib.hid ((Below.refl w.heap.size w).drew.trans hO2.2.2.2.2)
  have HV2 := Lib.hid (HV.out.later HB2.out)
  clear hO2
  refine hK.out _ _ ?_ (fun hHeld1 => ?_)
  · exact ⟨HV2.out.1, HV2.out.2.1, HV2.out.2.2.1⟩
  clear hK K
  try simp only [Act.put, List.setIfInBounds_toArray, List.set_cons_zero, List.set_cons_succ]
  refine wpAnyH_take (i := 9) (oi := ⟨some 17, _, _, _, _, _⟩) (v := .int .i64 A) rfl (by kernel_rfl) (by kernel_rfl) (by kernel_rfl) (fun _ _ _ h => h) (Or.inl ⟨by kernel_rfl, by intro w _; go_simp; (try omega)⟩) (by assumption) ?_
  try simp only [Act.put, List.setIfInBounds_toArray, List.set_cons_zero, List.set_cons_succ]
  refine wpAnyH_ready (rs := [10]) (by kernel_rfl) (by simp) ?_
  refine AllReadyH.cons (o := ⟨some 18, _, _, _, _, _⟩) rfl (fun K hK => ?_) AllReadyH.nil
  go_simp
  go_at_call 38
  refine (diskOk.get A (diskOk.later HD.out HB2.out) HA.out).mono ?_
  rintro e w3 ⟨v3, rfl, hf3, hb3⟩
  rw [HE.out]
  rw [HZ.out] at hf3
  obtain ⟨ao3, c3, rfl, hA3⟩ := fresh_form hf3
  have HA3 := Lib.hid hA3
  have HB3 := Lib.hid (HB2.out.trans (hb3.mono HB2.out.size))
  have HV3 := Lib.hid (HV2.out.later hb3)
  clear hf3 hb3 hA3
  refine hK.out _ _ ?_ (fun hHeld2 => ?_)
  · exact ⟨HV3.out.1, HV3.out.2.1, HV3.out.2.2.1⟩
  clear hK K
  try simp only [Act.put, List.setIfInBounds_toArray, List.set_cons_zero, List.set_cons_succ]
  refine wpAnyH_take (i := 11) (oi := ⟨some 7, _, _, _, _, _⟩) (v := .tuple #[.slice ao3 Z.length c3, .int .i64 e1]) rfl (by kernel_rfl) (by kernel_rfl) (by kernel_rfl) (fun _ _ _ h => h) (Or.inl ⟨by kernel_rfl, fun w _ => rfl⟩) (by assumption) ?_
  try simp only [Act.put, List.setIfInBounds_toArray, List.set_cons_zero, List.set_cons_succ]
  refine wpAnyH_take (i := 12) (oi := ⟨some 19, _, _, _, _, _⟩) (v := .slice ao3 Z.length c3) rfl (by kernel_rfl) (by kernel_rfl) (by kernel_rfl) (fun _ _ _ h => h) (Or.inl ⟨by kernel_rfl, by intro w _; go_simp; (try omega)⟩) (by assumption) ?_
  try simp only [Act.put, List.setIfInBounds_toArray, List.set_cons_zero, List.set_cons_succ]
  refine wpAnyH_take (i := 13) (oi := ⟨some 20, _, _, _, _, _⟩) (v := .int .i64 e1) rfl (by kernel_rfl) (by kernel_rfl) (by kernel_rfl) (fun _ _ _ h => h) (Or.inl ⟨by kernel_rfl, by intro w _; go_simp; (try omega)⟩) (by assumption) ?_
  try simp only [Act.put, List.setIfInBounds_toArray, List.set_cons_zero, List.set_cons_succ]
  refine wpAnyH_take (i := 14) (oi := ⟨some 3, _, _, _, _, _⟩) (v := .slice ao3 Z.length c3) rfl (by kernel_rfl) (by kernel_rfl) (by kernel_rfl) (fun _ _ _ h => h) (Or.inl ⟨by kernel_rfl, fun w _ => rfl⟩) (by assumption) ?_
  try simp only [Act.put, List.setIfInBounds_toArray, List.set_cons_zero, List.set_cons_succ]
  refine wpAnyH_take (i := 15) (oi := ⟨some 4, _, _, _, _, _⟩) (v := .int .i64 e1) rfl (by kernel_rfl) (by kernel_rfl) (by kernel_rfl) (fun _ _ _ h => h) (Or.inl ⟨by kernel_rfl, fun w _ => rfl⟩) (by assumption) ?_
  try simp only [Act.put, List.setIfInBounds_toArray, List.set_cons_zero, List.set_cons_succ]
  refine wpAnyH_done (by kernel_rfl) ?_ _
  by_cases hz : e1 = 0
  · subst hz
    have cB := lBegins_any ao3 Z.length c3 Z w3 HA3.out
    obtain ⟨sq, hsq⟩ : ∃ x, (getBeg Z).seq = x := ⟨_, rfl⟩
    cases hb : isBeg Z with
    | false =>
      have hbe : getBegErr Z = 2 := by unfold getBegErr; rw [hb, if_neg (by decide)]
      unfold HandedD at cB
      rw [hbe, hsq] at cB
      go_wp2_with (go_at_call 64; refine cB.mono ?_; rintro e w4 ⟨v4, rfl, ⟨ao4, c4, rfl, _, _⟩, hb4⟩; have HB4 := Lib.hid (HB3.out.trans (hb4.mono HB3.out.size)); clear hb4)
      go_ret
      rw [HCP.out, if_neg (by decide), hb, if_neg (by decide)]
      have hbx := HB4.out.alloc HB4.out.size (.cells #[.int .i64 sq, .slice ao4 (getBeg Z).to.length c4] 72)
      exact ⟨F, rfl, diskOk.later HD.out hbx, Grew.of_below hbx⟩
    | true =>
      have hbe : getBegErr Z = 0 := by unfold getBegErr; rw [hb, if_pos rfl]
      unfold HandedD at cB
      rw [hbe, hsq] at cB
      go_wp2_with (go_at_call 64; refine cB.mono ?_; rintro e w4 ⟨v4, rfl, ⟨ao4, c4, rfl, _, _⟩, hb4⟩; obtain ⟨W4, hW4⟩ : ∃ W, w4.alloc (.cells #[.int .i64 sq, .slice ao4 (getBeg Z).to.length c4] 72) = W := ⟨_, rfl⟩; have HBW4 : Hid (Below w4.heap.size w4 W4) := Lib.hid (by rw [← hW4]; exact (Below.refl _ _).alloc (Nat.le_refl _) _); have HB4 := Lib.hid ((HB3.out.trans (hb4.mono HB3.out.size)).trans (HBW4.out.mono (Nat.le_trans HB3.out.size hb4.size))); have HV4 := Lib.hid ((HV3.out.later hb4).later HBW4.out); clear hb4)
      refine wp_region_held_drew (S := fun W => W.cell? ⟨q, 0, none⟩ = some (.pointer (some a)) ∧ W.cell? ⟨q, 1, none⟩ = some (.int .i64 x) ∧ W.cell? ⟨q, 2, none⟩ = some (.int .i64 seq)) (by kernel_rfl) ⟨HV4.out.1, HV4.out.2.1, HV4.out.2.2.1⟩ (fun hHeld => ?_)
      refine wpAnyH_take (i := 0) (oi := ⟨some 31, _, _, _, _, _⟩) (v := .pointer (some ⟨q, 0, none⟩)) rfl (by kernel_rfl) (by kernel_rfl) (by kernel_rfl) (fun _ _ _ h => h) (Or.inl ⟨by kernel_rfl, fun w _ => rfl⟩) (by assumption) ?_
      try simp only [Act.put, List.setIfInBounds_toArray, List.set_cons_zero, List.set_cons_succ]
      refine wpAnyH_take (i := 1) (oi := ⟨some 32, _, _, _, _, _⟩) (v := .pointer (some ⟨q, 0, none⟩)) rfl (by kernel_rfl) (by kernel_rfl) (by kernel_rfl) (fun _ _ _ h => h) (Or.inl ⟨by kernel_rfl, by intro w _; go_simp; (try omega)⟩) (by assumption) ?_
      try simp only [Act.put, List.setIfInBounds_toArray, List.set_cons_zero, List.set_cons_succ]
      refine wpAnyH_take (i := 2) (oi := ⟨some 33, _, _, _, _, _⟩) (v := .pointer (some ⟨q, 0, none⟩)) rfl (by kernel_rfl) (by kernel_rfl) (by kernel_rfl) (fun _ _ _ h => h) (Or.inl ⟨by kernel_rfl, by intro w _; go_simp; (try omega)⟩) (by assumption) ?_
      try simp only [Act.put, List.setIfInBounds_toArray, List.set_cons_zero, List.set_cons_succ]
      refine wpAnyH_take (i := 3) (oi := ⟨some 34, _, _, _, _, _⟩) (v := .pointer (some a)) rfl (by kernel_rfl) (by kernel_rfl) (by kernel_rfl) (fun _ _ _ h => h) (Or.inl ⟨by kernel_rfl, by intro w hSw; obtain ⟨s1, s2, s3⟩ := hSw; go_simp⟩) (by assumption) ?_
      try simp only [Act.put, List.setIfInBounds_toArray, List.set_cons_zero, List.set_cons_succ]
      refine wpAnyH_take (i := 4) (oi := ⟨some 35, _, _, _, _, _⟩) (v := .pointer (some ⟨q, 0, none⟩)) rfl (by kernel_rfl) (by kernel_rfl) (by kernel_rfl) (fun _ _ _ h => h) (Or.inl ⟨by kernel_rfl, fun w _ => rfl⟩) (by assumption) ?_
      try simp only [Act.put, List.setIfInBounds_toArray, List.set_cons_zero, List.set_cons_succ]
      refine wpAnyH_take (i := 5) (oi := ⟨some 36, _, _, _, _, _⟩) (v := .pointer (some ⟨q, 0, none⟩)) rfl (by kernel_rfl) (by kernel_rfl) (by kernel_rfl) (fun _ _ _ h => h) (Or.inl ⟨by kernel_rfl, by intro w _; go_simp; (try omega)⟩) (by assumption) ?_
      try simp only [Act.put, List.setIfInBounds_toArray, List.set_cons_zero, List.set_cons_succ]
      refine wpAnyH_take (i := 6) (oi := ⟨some 37, _, _, _, _, _⟩) (v := .pointer (some ⟨q, 1, none⟩)) rfl (by kernel_rfl) (by kernel_rfl) (by kernel_rfl) (fun _ _ _ h => h) (Or.inl ⟨by kernel_rfl, by intro w _; go_simp; (try omega)⟩) (by assumption) ?_
      try simp only [Act.put, List.setIfInBounds_toArray, List.set_cons_zero, List.set_cons_succ]
      refine wpAnyH_take (i := 7) (oi := ⟨some 38, _, _, _, _, _⟩) (v := .agg #[.int .i64 x, .int .i64 seq]) rfl (by kernel_rfl) (by kernel_rfl) (by kernel_rfl) (fun _ _ _ h => h) (Or.inl ⟨by kernel_rfl, by intro w hSw; obtain ⟨s1, s2, s3⟩ := hSw; go_simp⟩) (by assumption) ?_
      try simp only [Act.put, List.setIfInBounds_toArray, List.set_cons_zero, List.set_cons_succ]
      refine wpAnyH_ready (rs := [8]) (by kernel_rfl) (by simp) ?_
      refine AllReadyH.cons (o := ⟨some 39, _, _, _, _, _⟩) rfl (fun K hK => ?_) AllReadyH.nil
      go_simp
      go_at_call 51
      refine (HC.out W4.drew).mono ?_
      rintro e w5 ⟨g5, rfl, hO5⟩
      have HBW5 : Hid (Below W4.heap.size W4 w5) := Lib.hid ((Below.refl _ _).drew.trans hO5.2.2.2.2)
      have HB5 := Lib.hid (HB4.out.trans (HBW5.out.mono HB4.out.size))
      have HV5 := Lib.hid (HV4.out.later HBW5.out)
      have HO5 := Lib.hid hO5
      clear hO5
      obtain ⟨V5, hV5⟩ : ∃ V, w5.alloc (.cells #[.int .i64 A, .slice (some ⟨g5, 0, none⟩) 64 64] 48) = V := ⟨_, rfl⟩
      refine hK.out _ _ ?_ (fun hHeld1 => ?_)
      · exact ⟨HV5.out.1, HV5.out.2.1, HV5.out.2.2.1⟩
      clear hK K
      try simp only [Act.put, List.setIfInBounds_toArray, List.set_cons_zero, List.set_cons_succ]
      refine wpAnyH_ready (rs := [9]) (by kernel_rfl) (by simp) ?_
      refine AllReadyH.cons (o := ⟨some 40, _, _, _, _, _⟩) rfl (fun K hK => ?_) AllReadyH.nil
      go_simp
      have HBV5 : Hid (Below w5.heap.size w5 V5) := Lib.hid (by rw [← hV5]; exact (Below.refl _ _).alloc (Nat.le_refl _) _)
      have HV6 := Lib.hid (HV5.out.later HBV5.out)
      have HL5 : Hid (ListIs V5 (fun k => w.heap.size ≤ k ∧ k < V5.heap.size) (some ⟨w5.heap.size, 0, none⟩) 1 [(A, zeros64)]) := Lib.hid (by
        have hsz : V5.heap.size = w5.heap.size + 1 := by rw [← hV5, World.size_alloc]
        have h1 := HB4.out.size
        have h2 := HBW5.out.size
        have h3 := own_lt64 HO5.out rfl
        have h4 : W4.heap.size ≤ g5 := HO5.out.2.2.2.1
        rw [← hV5]
        refine list_one (own_arg HO5.out rfl) HA.out (fun b' o s e => ?_) ?_
        · cases e
          rw [hV5, hsz]
          omega
        · rw [hV5, hsz]
          omega)
      clear hV5
      refine hK.out _ _ ?_ (fun hHeld2 => ?_)
      · exact ⟨HV6.out.1, HV6.out.2.1, HV6.out.2.2.1⟩
      clear hK K
      try simp only [Act.put, List.setIfInBounds_toArray, List.set_cons_zero, List.set_cons_succ]
      refine wpAnyH_ready (rs := [10]) (by kernel_rfl) (by simp) ?_
      refine AllReadyH.cons (o := ⟨some 41, _, _, _, _, _⟩) rfl (fun K hK => ?_) AllReadyH.nil
      go_simp
      go_at_call 35
      refine (group_any V5 _ 1 1).mono ?_
      rintro e w6 ⟨rfl, rfl⟩
      obtain ⟨V6, hV6⟩ : ∃ V, w6.alloc (.cells #[.slice (some ⟨w5.heap.size, 0, none⟩) 1 1] 27) = V := ⟨_, rfl⟩
      refine hK.out _ _ ?_ (fun hHeld3 => ?_)
      · exact ⟨HV6.out.1, HV6.out.2.1, HV6.out.2.2.1⟩
      clear hK K
      try simp only [Act.put, List.setIfInBounds_toArray, List.set_cons_zero, List.set_cons_succ]
      refine wpAnyH_ready (rs := [11]) (by kernel_rfl) (by simp) ?_
      refine AllReadyH.cons (o := ⟨some 42, _, _, _, _, _⟩) rfl (fun K hK => ?_) AllReadyH.nil
      go_simp
      have HBV6 : Hid (Below w6.heap.size w6 V6) := Lib.hid (by rw [← hV6]; exact (Below.refl _ _).alloc (Nat.le_refl _) _)
      have HV7 := Lib.hid (HV6.out.later HBV6.out)
      have HB6 := Lib.hid (HB5.out.trans (HBV5.out.mono HB5.out.size))
      have HB7 := Lib.hid (HB6.out.trans (HBV6.out.mono HB6.out.size))
      have HG6 : Hid (GsIs V6 (fun k => w.heap.size ≤ k ∧ k < V6.heap.size) (some ⟨w6.heap.size, 0, none⟩) 1 [[(A, zeros64)]]) := Lib.hid (by
        have hsz : V6.heap.size = w6.heap.size + 1 := by rw [← hV6, World.size_alloc]
        have h1 := HB6.out.size
        rw [← hV6]
        refine gs_one (HL5.out.wide (fun k hk => ?_)) ?_
        · rw [hV6, hsz]
          omega
        · rw [hV6, hsz]
          omega)
      clear hV6
      refine hK.out _ _ ?_ (fun hHeld4 => ?_)
      · exact ⟨HV7.out.1, HV7.out.2.1, HV7.out.2.2.1⟩
      clear hK K
      try simp only [Act.put, List.setIfInBounds_toArray, List.set_cons_zero, List.set_cons_succ]
      refine wpAnyH_ready (rs := [12]) (by kernel_rfl) (by simp) ?_
      refine AllReadyH.cons (o := ⟨some 43, _, _, _, _, _⟩) rfl (fun K hK => ?_) AllReadyH.nil
      go_simp
      go_at_call 34
      refine (jwrite_any (diskOk.later HD.out HB7.out) HG6.out (fun k hk => ⟨hk.2, fun hf => by have := diskOk.lt HD.out k hf; have := hk.1; omega⟩) HS.out (fun g hg => by
        rw [List.mem_singleton.1 hg]
        show 1 ≤ 1000000000; decide)).mono ?_
      rintro e w8 ⟨F8, rfl, hD8, hg8⟩
      have HV8 := Lib.hid (HV7.out.kept (grew_kept hg8 HV7.out.lt HQF.out))
      have HD8 := Lib.hid hD8
      have HG8 : Hid (Grew F F8 w w8) := Lib.hid ((Grew.of_below HB7.out).trans hg8)
      clear hD8 hg8
      refine hK.out _ _ ?_ (fun hHeld5 => ?_)
      · exact ⟨HV8.out.1, HV8.out.2.1, HV8.out.2.2.1⟩
      clear hK K
      try simp only [Act.put, List.setIfInBounds_toArray, List.set_cons_zero, List.set_cons_succ]
      refine wpAnyH_take (i := 13) (oi := ⟨some 2, _, _, _, _, _⟩) (v := .int .i64 (writeP D [[(A, zeros64)]]).2) rfl (by kernel_rfl) (by kernel_rfl) (by kernel_rfl) (fun _ _ _ h => h) (Or.inl ⟨by kernel_rfl, fun w _ => rfl⟩) (by assumption) ?_
      try simp only [Act.put, List.setIfInBounds_toArray, List.set_cons_zero, List.set_cons_succ]
      refine wpAnyH_done (by kernel_rfl) ?_ _
      go_wp2_with fail
      go_ret
      rw [HCP.out, if_neg (by decide), if_pos hb]
      exact ⟨F8, rfl, HD8.out, HG8.out⟩
  · have hb2 : (e1 != 0) = true := by simp [hz]
    go_wp2_with fail
    go_ret
    rw [HCP.out, if_pos hz]
    exact ⟨F, rfl, diskOk.later HD.out HB3.out, Grew.of_below HB3.out⟩
end Go.Proofs.Ytbnepjojfaeggaa
