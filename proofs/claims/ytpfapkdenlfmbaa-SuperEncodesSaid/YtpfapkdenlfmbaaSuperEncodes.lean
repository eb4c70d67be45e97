/-
  Proved here: any Super, and any Head, is made a block, or is refused, as the document's own making does. No conditions.
-/
import Derived.Test.YtpfapkdenlfmbaaAwake08
import Derived.Test.YtpfapkdenlfmbaaRef08
import Derived.Test.YtpfapkdenlfmbaaSupIn
namespace Go.Proofs.Ytpfapkdenlfmbaa.superEncodes
open Go.ChangeShapes Go.WideShapes Go.ChangeAt Go.RowKit
open Go.ChangeMaps (open_string shut_string)
set_option linter.unusedVariables false
set_option linter.unusedSimpArgs false

set_option maxHeartbeats 1600000 in
theorem walk (s0 : PSup) (s1 : PHead) (w : World) (w0 : s0.in64) (w1 : s1.in64) :
    Calls Try.prog 3 #[s0.val, s1.val] w fun e w' => e = .returned (.bool true) ∧ Below w.heap.size w w' := by
  have c1 := fun W => supOk.enc s0 W w0
  have c2 := fun W => enc08_any s0 W w0
  have c3 := fun W => supOk.put s1 W w1
  have c4 := fun W => put08_any s1 W w1
  clear w0 w1
  generalize supOut s0 = O0 at *
  generalize supErr s0 = E0 at *
  generalize headOut s1 = O1 at *
  generalize headErr s1 = E1 at *
  obtain ⟨a, b, c, d, e⟩ := s0
  obtain ⟨g, h⟩ := s1
  have HM := Lib.hid (fun w5 => made_two (w := w) (w5 := w5) (T0 := 23) (T1 := 25) (c0 := #[.int .i64 a, .int .i64 b, .int .i64 c, .int .i64 d, .int .i64 e]) (c1 := #[.int .i64 g, .int .i64 h]))
  unfold PSup.val PHead.val at *
  go_enter Try.func3, Try.ntmps3
  go_wp2_with (first
    | (go_at_call 7; refine (c1 _).mono ?_; rintro e2 w2 ⟨v2, rfl, hf2, hb2⟩; have B2 := Lib.hid hb2; have F2 := Lib.hid hf2; obtain ⟨t0, t1, t2⟩ := HM.out _ hb2; have r0 := t0 0 _ rfl; have r1 := t0 1 _ rfl; have r2 := t0 2 _ rfl; have r3 := t0 3 _ rfl; have r4 := t0 4 _ rfl; clear t0 t1 t2 hf2 hb2)
    | (go_at_call 8; refine (c2 _).mono ?_; rintro e2 w3 ⟨v3, rfl, hf3, hb3⟩; have B3 := Lib.hid (B2.out.trans (hb3.mono B2.out.size)); have F3 := Lib.hid hf3; have G2 := Lib.hid (F2.out.later hb3); obtain ⟨t0, t1, t2⟩ := HM.out _ B3.out; have q0 := t1 0 _ rfl; have q1 := t1 1 _ rfl; clear t0 t1 t2 hf3 hb3)
    | (go_at_call 9; refine (c3 _).mono ?_; rintro e2 w4 ⟨v4, rfl, hf4, hb4⟩; have B4 := Lib.hid (B3.out.trans (hb4.mono B3.out.size)); have F4 := Lib.hid hf4; have G3 := Lib.hid (And.intro (G2.out.later hb4) (F3.out.later hb4)); obtain ⟨t0, t1, t2⟩ := HM.out _ B4.out; have u0 := t1 0 _ rfl; have u1 := t1 1 _ rfl; clear t0 t1 t2 hf4 hb4)
    | (go_at_call 10; refine (c4 _).mono ?_; rintro e2 w5 ⟨v5, rfl, hf5, hb5⟩; have B5 := Lib.hid (B4.out.trans (hb5.mono B4.out.size)); have F5 := Lib.hid hf5; have G4 := Lib.hid (And.intro (G3.out.1.later hb5) (And.intro (G3.out.2.later hb5) (F4.out.later hb5))); clear hf5 hb5)
    | (go_at_call 11; refine (awake08_any _).mono ?_; rintro e2 w6 ⟨rfl, hb6⟩; have B6 := Lib.hid (HM.out _ (B5.out.trans (hb6.mono B5.out.size))).2.2; have k1 := fresh_str (G4.out.1.later hb6); have k2 := fresh_str (G4.out.2.1.later hb6); have k3 := fresh_str (G4.out.2.2.later hb6); have k4 := fresh_str (F5.out.later hb6); clear hb6))
  go_ret
  exact ⟨rfl, B6.out⟩

/-! ### The law's step -/
set_option maxRecDepth 100000 in
theorem lifted (os : Os) (started : os.Started) (H : Type) (enc : TypeId × Value → H) :
    ReturnsInHanded {} Try.checked os 3 .any (Rows.superEncodesSpec.pre6 enc Try.prog Try.f3 Rows.superEncodesRow.domain false) (Rows.superEncodesSpec.post enc Try.prog Try.f3 false true false false) := by
  refine returnsInHanded_of_change_sized (C := Try.checked) own started (by kernel_rfl) Try.func3
    (ChangeSpec.witness6 (enc := enc) (C := Try.checked) false ⟨#[], #[.agg #[.int .i64 0, .int .i64 0, .int .i64 0, .int .i64 0, .int .i64 0], .agg #[.int .i64 0, .int .i64 0]], []⟩ 8 (by kernel_rfl) (by kernel_rfl) (by kernel_rfl) (by kernel_rfl)) ?_
  intro W base args ds gs before hval0 hW hcnd hsz0 _
  have hsz : (DataW.weightsEach Try.prog (Try.f3.params.toList ++ Rows.superEncodesSpec.plain.varTypes Try.prog) (ds ++ gs)).all (· ≤ reachBytes) = true := hsz0
  clear hsz0
  have hval : ∀ (j : Nat) t v, Try.f3.params[j]? = some t → args[j]? = some v → Value.okWide Try.prog W .any base t v := hval0
  have hW' := hW
  obtain ⟨p, q, hA0, hV, rfl, hfz, hnd⟩ := hW
  have hA : DataW.TrodAll enc Try.prog W 0 (fun _ => true) true Try.f3.params.toList args.toList ds p := hA0
  rw [Try.params3] at hA hval hsz
  obtain ⟨v0, vs0, d0, ds0, p0, q0, hargs, rfl, rfl, h0, r0⟩ := trodAll_cons hA
  obtain ⟨v1, vs1, d1, ds1, p1, q1, rfl, rfl, rfl, h1, r1⟩ := trodAll_cons r0
  obtain ⟨rfl, rfl, rfl⟩ := trodAll_nil r1
  obtain rfl : args = #[v0, v1] := by cases args; simp_all
  obtain ⟨rfl, rfl⟩ := trodVars_none hV
  have k0 := h0
  have lt0 : ∀ x ∈ p0, x.block < W.heap.size := by obtain ⟨m, hm⟩ := k0; exact DataW.trod_lt m _ _ _ hm
  obtain ⟨s0, rfl, w0⟩ := open_sup (hval 0 23 v0 rfl rfl) h0
  have k1 := h1
  have lt1 : ∀ x ∈ p1, x.block < W.heap.size := by obtain ⟨m, hm⟩ := k1; exact DataW.trod_lt m _ _ _ hm
  obtain ⟨s1, rfl, w1⟩ := open_head (hval 1 25 v1 rfl rfl) h1
  clear hA0 hval0
  refine (walk s0 s1 W w0 w1).mono fun e W' ⟨he, bel⟩ => ?_
  subst he
  exact ⟨_, rfl, _, _, _, [], _, [], hW', trodAll_mk1 (shut_bool Try.underlying4 _), (trodAll_cons_mk (Below.trod laidOut (by kernel_rfl) (of_decide_eq_true (by kernel_rfl)) k0 bel lt0) (trodAll_cons_mk (Below.trod laidOut (by kernel_rfl) (of_decide_eq_true (by kernel_rfl)) k1 bel lt1) trodAll_mk0)), rfl, bel.frame _, fun h => by cases h⟩

theorem over : Rows.superEncodesRow.holds Try.pinned (OpenSpec.ofChange Rows.superEncodesSpec) :=
  OpenClaim.holds_of_wide 3 Try.f3 rfl rfl rfl rfl rfl rfl rfl ⟨rfl, rfl, rfl, rfl, rfl⟩ rfl rfl rfl rfl rfl (by kernel_rfl) Try.func3 (by kernel_rfl)
    (of_decide_eq_true (by kernel_rfl)) (by unfold Func.isWrapper; first | (rw [if_pos (by decide +kernel)]; kernel_rfl) | (rw [if_neg (by decide +kernel)]; exact ⟨rfl, rfl⟩))
    (fun os started H enc _ => lifted os started H enc)

/-- The statement. -/
theorem proved : Rows.SuperEncodesSaid := over
end Go.Proofs.Ytpfapkdenlfmbaa.superEncodes
