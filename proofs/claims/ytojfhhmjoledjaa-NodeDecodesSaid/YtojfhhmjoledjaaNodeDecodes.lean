/-
  Proved here: any bytes are read as a node as the document's own reading does. No conditions.
-/
import Derived.Test.YtojfhhmjoledjaaAwake09
import Derived.Test.YtojfhhmjoledjaaNSameR
namespace Go.Proofs.Ytojfhhmjoledjaa.nodeDecodes
open Go.ChangeShapes Go.WideShapes Go.ChangeAt Go.RowKit
open Go.ChangeMaps (open_string shut_string)
set_option linter.unusedVariables false

set_option maxHeartbeats 3200000 in
theorem walk (a0 : Option Addr) (len0 cap0 : Nat) (z0 : List Int) (w : World) (w0 : IsRow .u8 w a0 len0 cap0 z0) (rch0 : cap0 ≤ 140737488351232) :
    Calls Try.prog 3 #[.slice a0 len0 cap0] w fun e w' => e = .returned (.bool true) ∧ Below w.heap.size w w' := by
  have hA := w0.arg rch0
  obtain ⟨zs, HZ⟩ : ∃ zs, Hid (zs = z0.take len0) := ⟨_, Lib.hid rfl⟩
  rw [← HZ.out] at hA
  clear w0 HZ rch0
  have c1 := fun W (h : Below w.heap.size w W) => ndec_any a0 len0 cap0 zs W (hA.later h)
  have c2 := fun W (h : Below w.heap.size w W) => rdec_any a0 len0 cap0 zs W (hA.later h)
  rw [(rdec_eq hA.1.2.2.1).1, (rdec_eq hA.1.2.2.1).2] at c2
  clear hA
  generalize decErr zs = E0 at *
  generalize decN zs = S0 at *
  obtain ⟨k, f, l, z, d0, d1, d2, d3, s, t, x, c⟩ := S0
  have cS := fun W xo m xc xo2 xc2 (h1 : XIs W xo m x) (h2 : XIs W xo2 m x) => rsame9_true (c1 := xc) (c2 := xc2) ⟨k, f, l, z, d0, d1, d2, d3, s, t, x, c⟩ W h1 h2
  unfold PNode.val at *
  have C1 := Lib.hid c1
  have C2 := Lib.hid c2
  have CS := Lib.hid cS
  clear c1 c2 cS
  have B0 := Lib.hid (Below.refl w.heap.size w)
  go_enter Try.func3, Try.ntmps3
  go_wp2_with (first
    | (go_at_call 4; refine (C1.out _ B0.out).mono ?_; rintro e2 w2 ⟨xo, m, xc, rfl, hX2, _, hb2⟩; have B2 := Lib.hid ((B0.out.trans (hb2.mono B0.out.size)).alloc hb2.size (.cells #[.int .i64 k, .int .i64 f, .int .i64 l, .int .i64 z, .int .i64 d0, .int .i64 d1, .int .i64 d2, .int .i64 d3, .int .i64 s, .int .i64 t, .slice xo m xc, .int .i64 c] 26)); have HX2 := Lib.hid (hX2.later ((Below.refl _ _).alloc (Nat.le_refl _) (.cells #[.int .i64 k, .int .i64 f, .int .i64 l, .int .i64 z, .int .i64 d0, .int .i64 d1, .int .i64 d2, .int .i64 d3, .int .i64 s, .int .i64 t, .slice xo m xc, .int .i64 c] 26))); clear hX2 hb2)
    | (go_at_call 5; refine (C2.out _ B2.out).mono ?_; rintro e2 w3 ⟨yo, m2, yc, rfl, hX3, hb3⟩; have hm : m2 = m := hX3.1.symm.trans HX2.out.1; subst hm; have K3 := Lib.hid (hb3.alloc hb3.size (.cells #[.int .i64 k, .int .i64 f, .int .i64 l, .int .i64 z, .int .i64 d0, .int .i64 d1, .int .i64 d2, .int .i64 d3, .int .i64 s, .int .i64 t, .slice yo m2 yc, .int .i64 c] 26)); have HX3 := Lib.hid (hX3.later ((Below.refl _ _).alloc (Nat.le_refl _) (.cells #[.int .i64 k, .int .i64 f, .int .i64 l, .int .i64 z, .int .i64 d0, .int .i64 d1, .int .i64 d2, .int .i64 d3, .int .i64 s, .int .i64 t, .slice yo m2 yc, .int .i64 c] 26))); have B3 := Lib.hid (B2.out.trans (K3.out.mono B2.out.size)); clear hX3 hb3)
    | (go_at_call 6; refine (awake09_any _).mono ?_; rintro e2 w5 ⟨rfl, hb5⟩; have B5 := Lib.hid (B3.out.trans (hb5.mono B3.out.size)); have mm := K3.out.trans (hb5.mono K3.out.size); have HX5 := Lib.hid (HX2.out.later mm); have HY5 := Lib.hid (HX3.out.later hb5); have p0 := cell_later mm (made_at9 w2 _ _ 0 (.int .i64 k) rfl); have p1 := cell_later mm (made_at9 w2 _ _ 1 (.int .i64 f) rfl); have p2 := cell_later mm (made_at9 w2 _ _ 2 (.int .i64 l) rfl); have p3 := cell_later mm (made_at9 w2 _ _ 3 (.int .i64 z) rfl); have p4 := cell_later mm (made_at9 w2 _ _ 4 (.int .i64 d0) rfl); have p5 := cell_later mm (made_at9 w2 _ _ 5 (.int .i64 d1) rfl); have p6 := cell_later mm (made_at9 w2 _ _ 6 (.int .i64 d2) rfl); have p7 := cell_later mm (made_at9 w2 _ _ 7 (.int .i64 d3) rfl); have p8 := cell_later mm (made_at9 w2 _ _ 8 (.int .i64 s) rfl); have p9 := cell_later mm (made_at9 w2 _ _ 9 (.int .i64 t) rfl); have p10 := cell_later mm (made_at9 w2 _ _ 10 (.slice xo m2 xc) rfl); have p11 := cell_later mm (made_at9 w2 _ _ 11 (.int .i64 c) rfl); have q0 := cell_later hb5 (made_at9 w3 _ _ 0 (.int .i64 k) rfl); have q1 := cell_later hb5 (made_at9 w3 _ _ 1 (.int .i64 f) rfl); have q2 := cell_later hb5 (made_at9 w3 _ _ 2 (.int .i64 l) rfl); have q3 := cell_later hb5 (made_at9 w3 _ _ 3 (.int .i64 z) rfl); have q4 := cell_later hb5 (made_at9 w3 _ _ 4 (.int .i64 d0) rfl); have q5 := cell_later hb5 (made_at9 w3 _ _ 5 (.int .i64 d1) rfl); have q6 := cell_later hb5 (made_at9 w3 _ _ 6 (.int .i64 d2) rfl); have q7 := cell_later hb5 (made_at9 w3 _ _ 7 (.int .i64 d3) rfl); have q8 := cell_later hb5 (made_at9 w3 _ _ 8 (.int .i64 s) rfl); have q9 := cell_later hb5 (made_at9 w3 _ _ 9 (.int .i64 t) rfl); have q10 := cell_later hb5 (made_at9 w3 _ _ 10 (.slice yo m2 yc) rfl); have q11 := cell_later hb5 (made_at9 w3 _ _ 11 (.int .i64 c) rfl); clear mm hb5)
    | (go_at_call 7; refine (CS.out _ _ _ _ _ _ HX5.out HY5.out).mono ?_; rintro e2 w6 ⟨rfl, hb6⟩; have B6 := Lib.hid (B5.out.trans (hb6.mono B5.out.size)); clear hb6))
  go_ret
  exact ⟨rfl, B6.out⟩

/-! ### THE ROW's STEP: WRITTEN OUT: LEAVE IT -/
set_option maxRecDepth 100000 in
theorem lifted (os : Os) (started : os.Started) (H : Type) (enc : TypeId × Value → H) :
    ReturnsInHanded {} Try.checked os 3 .any (Rows.nodeDecodesSpec.pre6 enc Try.prog Try.f3 Rows.nodeDecodesRow.domain false) (Rows.nodeDecodesSpec.post enc Try.prog Try.f3 false true false false) := by
  refine returnsInHanded_of_change_sized (C := Try.checked) own started (by kernel_rfl) Try.func3
    (ChangeSpec.witness6 (enc := enc) (C := Try.checked) false ⟨#[], #[.slice none 0 0], []⟩ 8 (by kernel_rfl) (by kernel_rfl) (by kernel_rfl) (by kernel_rfl)) ?_
  intro W base args ds gs before hval0 hW hcnd hsz0 _
  have hsz : (DataW.weightsEach Try.prog (Try.f3.params.toList ++ Rows.nodeDecodesSpec.plain.varTypes Try.prog) (ds ++ gs)).all (· ≤ reachBytes) = true := hsz0
  clear hsz0
  have hval : ∀ (j : Nat) t v, Try.f3.params[j]? = some t → args[j]? = some v → Value.okWide Try.prog W .any base t v := hval0
  have hW' := hW
  obtain ⟨p, q, hA0, hV, rfl, hfz, hnd⟩ := hW
  have hA : DataW.TrodAll enc Try.prog W 0 (fun _ => true) true Try.f3.params.toList args.toList ds p := hA0
  rw [Try.params3] at hA hval hsz
  obtain ⟨v0, vs0, d0, ds0, p0, q0, hargs, rfl, rfl, h0, r0⟩ := trodAll_cons hA
  obtain ⟨rfl, rfl, rfl⟩ := trodAll_nil r0
  obtain rfl : args = #[v0] := by cases args; simp_all
  obtain ⟨rfl, rfl⟩ := trodVars_none hV
  obtain ⟨a0, len0, cap0, rfl⟩ := okWide_slice Try.underlying22 (hval 0 22 v0 rfl rfl)
  have k0 := h0
  have lt0 : ∀ x ∈ p0, x.block < W.heap.size := by obtain ⟨m, hm⟩ := k0; exact DataW.trod_lt m _ _ _ hm
  obtain ⟨z0, w0, rch0⟩ := open_bytes k0 (fun e s hd => sized_slice hsz (j := 0) (t := 22) (e := 5) rfl (by rw [hd]; rfl) Try.underlying22)
  clear hA0 hval0
  refine (walk a0 len0 cap0 z0 W w0 rch0).mono fun e W' ⟨he, bel⟩ => ?_
  subst he
  exact ⟨_, rfl, _, _, _, [], _, [], hW', trodAll_mk1 (shut_bool Try.underlying4 _), (trodAll_cons_mk (Below.trod laidOut (by kernel_rfl) (of_decide_eq_true (by kernel_rfl)) k0 bel lt0) trodAll_mk0), rfl, bel.frame _, fun h => by cases h⟩

theorem over : Rows.nodeDecodesRow.holds Try.pinned (OpenSpec.ofChange Rows.nodeDecodesSpec) :=
  OpenClaim.holds_of_wide 3 Try.f3 rfl rfl rfl rfl rfl rfl rfl ⟨rfl, rfl, rfl, rfl, rfl⟩ rfl rfl rfl rfl rfl (by kernel_rfl) Try.func3 (by kernel_rfl)
    (of_decide_eq_true (by kernel_rfl)) (by unfold Func.isWrapper; first | (rw [if_pos (by decide +kernel)]; kernel_rfl) | (rw [if_neg (by decide +kernel)]; exact ⟨rfl, rfl⟩))
    (fun os started H enc _ => lifted os started H enc)

/-- THE STATEMENT -/
theorem proved : Rows.NodeDecodesSaid := over
end Go.Proofs.Ytojfhhmjoledjaa.nodeDecodes
