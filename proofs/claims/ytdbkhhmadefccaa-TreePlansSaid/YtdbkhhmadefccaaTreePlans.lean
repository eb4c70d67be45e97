/-
  Proved here: the map of any pointers, out of any fresh blocks, is what the document's own answer says. No conditions.
-/
import Derived.Test.YtdbkhhmadefccaaAwake11
import Derived.Test.YtdbkhhmadefccaaTrIn
import Derived.Test.YtdbkhhmadefccaaTrRefR
namespace Go.Proofs.Ytdbkhhmadefccaa.treePlans
open Go.ChangeShapes Go.WideShapes Go.ChangeAt Go.RowKit
open Go.ChangeMaps (open_string shut_string)
set_option linter.unusedVariables false
set_option linter.unusedSimpArgs false

theorem RPlan_any (ao bo : Option Addr) (len cap n c : Nat) (zs fs : List Int) (w : World) (hA : IArg w ao len cap zs) (hF : IArg w bo n c fs) : Calls Try.prog 12 #[.slice ao len cap, .slice bo n c] w (RPlanEnd w zs fs) := by
  by_cases hp : ptrsOk zs = true
  · by_cases h0 : freshErr fs (needP zs) zs = 0
    · exact RPlanOk_any ao bo len cap n c zs fs w hA hF (by unfold planErr; rw [if_pos hp]; exact h0)
    · exact RPlanFresh_any ao bo len cap n c zs fs w hA hF hp h0
  · exact RPlanArg_any ao bo len cap n c zs fs w hA (by simpa using hp)

theorem ws_len (zs fs : List Int) : (planWs zs fs).length ≤ 1000 := by
  unfold planWs
  split
  · unfold writesP
    have h : ∀ b p xs, (whenW b p xs).length ≤ 1 := fun b p xs => by unfold whenW; split <;> simp
    have h1 := h (someP zs 4 30) (singleP zs fs) (partP zs 4 30)
    have h2 := h (doubleB zs) (doubleP zs fs) [under0 zs fs, under1 zs fs, under2 zs fs]
    have h3 := h (someP zs 34 30) (under0 zs fs) (partP zs 34 30)
    have h4 := h (someP zs 64 30) (under1 zs fs) (partP zs 64 30)
    have h5 := h (someP zs 94 30) (under2 zs fs) (partP zs 94 30)
    simp only [List.length_append]
    omega
  · simp

theorem node_later {W X : World} {f p q r u s t : Int} {T : TypeId} (hb : Below (W.alloc (.cells (nodeCs f p q r u s t).toArray T)).heap.size (W.alloc (.cells (nodeCs f p q r u s t).toArray T)) X) :
    X.cell? ⟨W.heap.size, 0, none⟩ = some (.int .i64 0) ∧ X.cell? ⟨W.heap.size, 1, none⟩ = some (.int .i64 f) ∧ X.cell? ⟨W.heap.size, 2, none⟩ = some (.int .i64 0) ∧ X.cell? ⟨W.heap.size, 3, none⟩ = some (.int .i64 0) ∧ X.cell? ⟨W.heap.size, 4, none⟩ = some (.int .i64 p) ∧ X.cell? ⟨W.heap.size, 5, none⟩ = some (.int .i64 q) ∧ X.cell? ⟨W.heap.size, 6, none⟩ = some (.int .i64 r) ∧ X.cell? ⟨W.heap.size, 7, none⟩ = some (.int .i64 u) ∧ X.cell? ⟨W.heap.size, 8, none⟩ = some (.int .i64 s) ∧ X.cell? ⟨W.heap.size, 9, none⟩ = some (.int .i64 t) ∧ X.cell? ⟨W.heap.size, 10, none⟩ = some (.slice none 0 0) ∧ X.cell? ⟨W.heap.size, 11, none⟩ = some (.int .i64 0) := by
  refine node_cells (fun j v hj => ?_)
  rw [Nat.zero_add]
  refine cell_later hb ?_
  rw [World.cell?_alloc_new]
  simpa using hj
set_option maxRecDepth 100000 in
set_option maxHeartbeats 6400000 in
theorem walk (a0 : Option Addr) (len0 cap0 : Nat) (z0 : List Int) (a1 : Option Addr) (len1 cap1 : Nat) (z1 : List Int) (w : World) (w0 : IArg w a0 len0 cap0 z0 ∧ cap0 ≤ 17592186043904) (w1 : IArg w a1 len1 cap1 z1 ∧ cap1 ≤ 17592186043904) :
    Calls Try.prog 4 #[.slice a0 len0 cap0, .slice a1 len1 cap1] w fun e w' => e = .returned (.bool true) ∧ Below w.heap.size w w' := by
  obtain ⟨hA0, -⟩ := w0
  obtain ⟨hA1, -⟩ := w1
  obtain ⟨f, p, q, r, u, s, t, hN⟩ := planNode_form z0 z1
  have HC1 : Hid (Calls Try.prog 11 #[.slice a0 len0 cap0, .slice a1 len1 cap1] w fun e w' => ∃ v k, e = .returned (.tuple #[nodeV f p q r u s t, .slice v (planWs z0 z1).length k, .int .i64 (planErr z0 z1)]) ∧ WIs w' v (planWs z0 z1).length (planWs z0 z1) ∧ Below w.heap.size w w') := Lib.hid ((Plan_any a0 a1 len0 cap0 len1 cap1 z0 z1 w hA0 hA1).mono fun e w' h => by
    unfold PlanEnd at h
    obtain ⟨v, rfl, hw, hb⟩ := h
    obtain ⟨wa, wc, rfl, hwi, _⟩ := hw.wis (ws_len z0 z1)
    exact ⟨wa, wc, by rw [hN], hwi, hb⟩)
  have HC2 : Hid (∀ W, Below w.heap.size w W → Calls Try.prog 12 #[.slice a0 len0 cap0, .slice a1 len1 cap1] W fun e w' => ∃ v k, e = .returned (.tuple #[nodeV f p q r u s t, .slice v (planWs z0 z1).length k, .int .i64 (planErr z0 z1)]) ∧ WIs w' v (planWs z0 z1).length (planWs z0 z1) ∧ Below W.heap.size W w') := Lib.hid (fun W hW => (RPlan_any a0 a1 len0 cap0 len1 cap1 z0 z1 W (hA0.later hW) (hA1.later hW)).mono fun e w' h => by
    unfold RPlanEnd at h
    rw [hN] at h
    exact h)
  have HS := Lib.hid (fun W => sameN_true f p q r u s t W)
  generalize planWs z0 z1 = ws at *
  generalize planErr z0 z1 = E at *
  clear hA0 hA1 hN
  unfold nodeV nodeCs at *
  go_enter Try.func4, Try.ntmps4
  go_wp2_with (first
    | (go_at_call 11; refine HC1.out.mono ?_; rintro e w3 ⟨v3, k3, rfl, hw3, hb3⟩; have HW3 := Lib.hid hw3; have HB3 := Lib.hid (hb3.alloc hb3.size (.cells (nodeCs f p q r u s t).toArray 32)); clear hw3 hb3)
    | (go_at_call 12; refine (HC2.out _ HB3.out).mono ?_; rintro e w4 ⟨v4, k4, rfl, hw4, hb4⟩; have HW4 := Lib.hid hw4; have HB34 := Lib.hid (hb4.alloc hb4.size (.cells (nodeCs f p q r u s t).toArray 32)); have HB4 := Lib.hid (HB3.out.trans (HB34.out.mono HB3.out.size)); clear hw4 hb4)
    | (go_at_call 9; refine (awake11_any _).mono ?_; rintro e w6 ⟨rfl, hb6⟩; have HB46 := Lib.hid hb6; have HB36 := Lib.hid (HB34.out.trans (HB46.out.mono HB34.out.size)); have HB6 := Lib.hid (HB4.out.trans (hb6.mono HB4.out.size)); obtain ⟨p0, p1, p2, p3, p4, p5, p6, p7, p8, p9, p10, p11⟩ := node_later (W := w3) (f := f) (p := p) (q := q) (r := r) (u := u) (s := s) (t := t) HB36.out; obtain ⟨q0, q1, q2, q3, q4, q5, q6, q7, q8, q9, q10, q11⟩ := node_later (W := w4) (f := f) (p := p) (q := q) (r := r) (u := u) (s := s) (t := t) HB46.out; clear hb6)
    | (go_at_call 13; refine (HS.out _).mono ?_; rintro e w7 ⟨rfl, hb7⟩; have HB7 := Lib.hid (HB6.out.trans (hb7.mono HB6.out.size)); have HX3 := Lib.hid ((HW3.out.later ((Below.refl _ _).alloc (Nat.le_refl _) (.cells (nodeCs f p q r u s t).toArray 32))).later (HB36.out.trans (hb7.mono HB36.out.size))); have HX4 := Lib.hid ((HW4.out.later ((Below.refl _ _).alloc (Nat.le_refl _) (.cells (nodeCs f p q r u s t).toArray 32))).later (HB46.out.trans (hb7.mono HB46.out.size))); clear hb7)
    | (go_at_call 14; refine (writes_true v3 v4 ws.length k3 k4 ws _ HX3.out HX4.out).mono ?_; rintro e w8 ⟨rfl, hb8⟩; have HB8 := Lib.hid (HB7.out.trans (hb8.mono HB7.out.size)); clear hb8))
  go_ret
  exact ⟨rfl, HB8.out⟩

/-! ### The law's step -/
set_option maxRecDepth 100000 in
theorem lifted (os : Os) (started : os.Started) (H : Type) (enc : TypeId × Value → H) :
    ReturnsInHanded {} Try.checked os 4 .any (Rows.treePlansSpec.pre6 enc Try.prog Try.f4 Rows.treePlansRow.domain false) (Rows.treePlansSpec.post enc Try.prog Try.f4 false true false false) := by
  refine returnsInHanded_of_change_sized (C := Try.checked) own started (by kernel_rfl) Try.func4
    (ChangeSpec.witness6 (enc := enc) (C := Try.checked) false ⟨#[], #[.slice none 0 0, .slice none 0 0], []⟩ 8 (by kernel_rfl) (by kernel_rfl) (by kernel_rfl) (by kernel_rfl)) ?_
  intro W base args ds gs before hval0 hW hcnd hsz0 _
  have hsz : (DataW.weightsEach Try.prog (Try.f4.params.toList ++ Rows.treePlansSpec.plain.varTypes Try.prog) (ds ++ gs)).all (· ≤ reachBytes) = true := hsz0
  clear hsz0
  have hval : ∀ (j : Nat) t v, Try.f4.params[j]? = some t → args[j]? = some v → Value.okWide Try.prog W .any base t v := hval0
  have hW' := hW
  obtain ⟨p, q, hA0, hV, rfl, hfz, hnd⟩ := hW
  have hA : DataW.TrodAll enc Try.prog W 0 (fun _ => true) true Try.f4.params.toList args.toList ds p := hA0
  rw [Try.params4] at hA hval hsz
  obtain ⟨v0, vs0, d0, ds0, p0, q0, hargs, rfl, rfl, h0, r0⟩ := trodAll_cons hA
  obtain ⟨v1, vs1, d1, ds1, p1, q1, rfl, rfl, rfl, h1, r1⟩ := trodAll_cons r0
  obtain ⟨rfl, rfl, rfl⟩ := trodAll_nil r1
  obtain rfl : args = #[v0, v1] := by cases args; simp_all
  obtain ⟨rfl, rfl⟩ := trodVars_none hV
  have k0 := h0
  have lt0 : ∀ x ∈ p0, x.block < W.heap.size := by obtain ⟨m, hm⟩ := k0; exact DataW.trod_lt m _ _ _ hm
  obtain ⟨a0, len0, cap0, rfl⟩ := okWide_slice Try.underlying22 (hval 0 22 v0 rfl rfl)
  obtain ⟨z0, w0⟩ := open_nums_arg k0 (weights_ofT hsz (j := 0) rfl rfl)
  have k1 := h1
  have lt1 : ∀ x ∈ p1, x.block < W.heap.size := by obtain ⟨m, hm⟩ := k1; exact DataW.trod_lt m _ _ _ hm
  obtain ⟨a1, len1, cap1, rfl⟩ := okWide_slice Try.underlying22 (hval 1 22 v1 rfl rfl)
  obtain ⟨z1, w1⟩ := open_nums_arg k1 (weights_ofT hsz (j := 1) rfl rfl)
  clear hA0 hval0
  refine (walk a0 len0 cap0 z0 a1 len1 cap1 z1 W w0 w1).mono fun e W' ⟨he, bel⟩ => ?_
  subst he
  exact ⟨_, rfl, _, _, _, [], _, [], hW', trodAll_mk1 (shut_bool Try.underlying4 _), (trodAll_cons_mk (Below.trod laidOut (by kernel_rfl) (of_decide_eq_true (by kernel_rfl)) k0 bel lt0) (trodAll_cons_mk (Below.trod laidOut (by kernel_rfl) (of_decide_eq_true (by kernel_rfl)) k1 bel lt1) trodAll_mk0)), rfl, bel.frame _, fun h => by cases h⟩

theorem over : Rows.treePlansRow.holds Try.pinned (OpenSpec.ofChange Rows.treePlansSpec) :=
  OpenClaim.holds_of_wide 4 Try.f4 rfl rfl rfl rfl rfl rfl rfl ⟨rfl, rfl, rfl, rfl, rfl⟩ rfl rfl rfl rfl rfl (by kernel_rfl) Try.func4 (by kernel_rfl)
    (of_decide_eq_true (by kernel_rfl)) (by unfold Func.isWrapper; first | (rw [if_pos (by decide +kernel)]; kernel_rfl) | (rw [if_neg (by decide +kernel)]; exact ⟨rfl, rfl⟩))
    (fun os started H enc _ => lifted os started H enc)

/-- The statement. -/
theorem proved : Rows.TreePlansSaid := over
end Go.Proofs.Ytdbkhhmadefccaa.treePlans
