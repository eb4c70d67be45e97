/-
  Proved here: any last block is made, and any block read, as the document says; of a log that answers so. No other conditions.
-/
import Derived.Test.YtpmggbdmoopkfaaAwake15
import Derived.Test.YtpmggbdmoopkfaaLogLand
import Derived.WalkKit
namespace Go.Proofs.Ytpmggbdmoopkfaa.logEnds
open Go.ChangeShapes Go.WideShapes Go.ChangeAt Go.RowKit
open Go.ChangeMaps (open_string shut_string)
set_option linter.unusedVariables false
set_option linter.unusedSimpArgs false

set_option maxRecDepth 100000 in
set_option maxHeartbeats 6400000 in
theorem walk (a0 : Int) (a1 : Int) (a2 : Option Addr) (len2 cap2 : Nat) (z2 : List Int) (w : World) (w0 : (Lit.int .i64 a0).wf = true) (w1 : (Lit.int .i64 a1).wf = true) (w2 : IsRow .u8 w a2 len2 cap2 z2) (rch2 : cap2 ≤ 140737488351232) :
    Calls Try.prog 4 #[.int .i64 a0, .int .i64 a1, .slice a2 len2 cap2] w fun e w' => e = .returned (.bool true) ∧ Below w.heap.size w w' := by
  have A2 := w2.arg rch2
  have HA2 := Lib.hid A2
  have i0 := wf_i64 w0
  have i1 := wf_i64 w1
  have HI := Lib.hid (And.intro i0 i1)
  clear A2 i0 i1 w0 w1 w2 rch2
  generalize z2.take len2 = zs at HA2
  have cL := logOk.fin a0 a1 w HI.out.1 HI.out.2
  have cR := fun W => REnd_any a0 a1 W
  have cM := fun W (hW : Below w.heap.size w W) => logOk.fins _ _ _ _ W (HA2.out.later hW)
  have cN := fun W (hW : Below w.heap.size w W) => REnds_any a2 len2 cap2 zs W (HA2.out.later hW).1
  have cA := fun W => awake15 logOk W
  have HEq := Lib.hid (str_eq (l := endOut a0 a1) (m := endOut a0 a1))
  generalize endOut a0 a1 = O at *
  generalize endErr a0 a1 = E at *
  generalize getEndErr zs = eE at *
  generalize getEndSeq zs = eS at *
  generalize getEndCount zs = eC at *
  go_enter Try.func4, Try.ntmps4
  go_wp2_with (first
    | (go_at_call 15; refine cL.mono ?_; rintro e w3 ⟨v3, rfl, hf3, hb3⟩; have B3 := Lib.hid hb3; have F3 := Lib.hid hf3; clear hf3 hb3)
    | (go_at_call 16; refine (cR _).mono ?_; rintro e w4 ⟨v4, rfl, hf4, hb4⟩; have B4 := Lib.hid (B3.out.trans (hb4.mono B3.out.size)); have F4 := Lib.hid hf4; have G3 := Lib.hid (F3.out.later hb4); clear hf4 hb4)
    | (go_at_call 17; refine (cM _ B4.out).mono ?_; rintro e w5 ⟨rfl, hb5⟩; have B5 := Lib.hid (B4.out.trans (hb5.mono B4.out.size)); have G3 := Lib.hid (G3.out.later hb5); have F4 := Lib.hid (F4.out.later hb5); clear hb5)
    | (go_at_call 18; refine (cN _ B5.out).mono ?_; rintro e w6 ⟨rfl, hb6⟩; have B6 := Lib.hid (B5.out.trans (hb6.mono B5.out.size)); have G3 := Lib.hid (G3.out.later hb6); have F4 := Lib.hid (F4.out.later hb6); clear hb6)
    | (go_at_call 13; refine (cA _).mono ?_; rintro e w7 ⟨rfl, hb7⟩; have B7 := Lib.hid (B6.out.trans (hb7.mono B6.out.size)); have k1 := fresh_str (G3.out.later hb7); have k2 := fresh_str (F4.out.later hb7); clear hb7))
  go_ret
  exact ⟨rfl, B7.out⟩

/-! ### The law's step -/
set_option maxRecDepth 100000 in
theorem lifted (os : Os) (started : os.Started) (H : Type) (enc : TypeId × Value → H) :
    ReturnsInHanded {} Try.checked os 4 .any (Rows.logEndsSpec.pre6 enc Try.prog Try.f4 Rows.logEndsRow.domain false) (Rows.logEndsSpec.post enc Try.prog Try.f4 false true false false) := by
  refine returnsInHanded_of_change_sized (C := Try.checked) own started (by kernel_rfl) Try.func4
    (ChangeSpec.witness6 (enc := enc) (C := Try.checked) false ⟨#[], #[.int .i64 0, .int .i64 0, .slice none 0 0], []⟩ 8 (by kernel_rfl) (by kernel_rfl) (by kernel_rfl) (by kernel_rfl)) ?_
  intro W base args ds gs before hval0 hW hcnd hsz0 _
  have hsz : (DataW.weightsEach Try.prog (Try.f4.params.toList ++ Rows.logEndsSpec.plain.varTypes Try.prog) (ds ++ gs)).all (· ≤ reachBytes) = true := hsz0
  clear hsz0
  have hval : ∀ (j : Nat) t v, Try.f4.params[j]? = some t → args[j]? = some v → Value.okWide Try.prog W .any base t v := hval0
  have hW' := hW
  obtain ⟨p, q, hA0, hV, rfl, hfz, hnd⟩ := hW
  have hA : DataW.TrodAll enc Try.prog W 0 (fun _ => true) true Try.f4.params.toList args.toList ds p := hA0
  rw [Try.params4] at hA hval hsz
  obtain ⟨v0, vs0, d0, ds0, p0, q0, hargs, rfl, rfl, h0, r0⟩ := trodAll_cons hA
  obtain ⟨v1, vs1, d1, ds1, p1, q1, rfl, rfl, rfl, h1, r1⟩ := trodAll_cons r0
  obtain ⟨v2, vs2, d2, ds2, p2, q2, rfl, rfl, rfl, h2, r2⟩ := trodAll_cons r1
  obtain ⟨rfl, rfl, rfl⟩ := trodAll_nil r2
  obtain rfl : args = #[v0, v1, v2] := by cases args; simp_all
  obtain ⟨rfl, rfl⟩ := trodVars_none hV
  have k0 := h0
  have lt0 : ∀ x ∈ p0, x.block < W.heap.size := by obtain ⟨m, hm⟩ := k0; exact DataW.trod_lt m _ _ _ hm
  obtain ⟨a0, rfl, _, _, w0⟩ := open_int Try.underlying3 (hval 0 3 v0 rfl rfl) h0
  have k1 := h1
  have lt1 : ∀ x ∈ p1, x.block < W.heap.size := by obtain ⟨m, hm⟩ := k1; exact DataW.trod_lt m _ _ _ hm
  obtain ⟨a1, rfl, _, _, w1⟩ := open_int Try.underlying3 (hval 1 3 v1 rfl rfl) h1
  have k2 := h2
  have lt2 : ∀ x ∈ p2, x.block < W.heap.size := by obtain ⟨m, hm⟩ := k2; exact DataW.trod_lt m _ _ _ hm
  obtain ⟨a2, len2, cap2, rfl⟩ := okWide_slice Try.underlying25 (hval 2 25 v2 rfl rfl)
  obtain ⟨z2, w2, rch2⟩ := open_bytes k2 (fun e s hd => sized_slice hsz (j := 2) (t := 25) (e := 5) rfl (by rw [hd]; rfl) Try.underlying25)
  clear hA0 hval0
  refine (walk a0 a1 a2 len2 cap2 z2 W w0 w1 w2 rch2).mono fun e W' ⟨he, bel⟩ => ?_
  subst he
  exact ⟨_, rfl, _, _, _, [], _, [], hW', trodAll_mk1 (shut_bool Try.underlying4 _), (trodAll_cons_mk (Below.trod laidOut (by kernel_rfl) (of_decide_eq_true (by kernel_rfl)) k0 bel lt0) (trodAll_cons_mk (Below.trod laidOut (by kernel_rfl) (of_decide_eq_true (by kernel_rfl)) k1 bel lt1) (trodAll_cons_mk (Below.trod laidOut (by kernel_rfl) (of_decide_eq_true (by kernel_rfl)) k2 bel lt2) trodAll_mk0))), rfl, bel.frame _, fun h => by cases h⟩

theorem over : Rows.logEndsRow.holds Try.pinned (OpenSpec.ofChange Rows.logEndsSpec) :=
  OpenClaim.holds_of_wide 4 Try.f4 rfl rfl rfl rfl rfl rfl rfl ⟨rfl, rfl, rfl, rfl, rfl⟩ rfl rfl rfl rfl rfl (by kernel_rfl) Try.func4 (by kernel_rfl)
    (of_decide_eq_true (by kernel_rfl)) (by unfold Func.isWrapper; first | (rw [if_pos (by decide +kernel)]; kernel_rfl) | (rw [if_neg (by decide +kernel)]; exact ⟨rfl, rfl⟩))
    (fun os started H enc _ => lifted os started H enc)

/-- The statement. -/
theorem proved : Rows.LogEndsSaid := over
end Go.Proofs.Ytpmggbdmoopkfaa.logEnds
