/-
  Proved here: any entries as a block, as the document's own answer says. No conditions.
-/
import Derived.Test.YtkpgefjbhimmgaaAwake10
import Derived.Test.YtkpgefjbhimmgaaEntRefE
import Derived.Test.YtkpgefjbhimmgaaEntIn
namespace Go.Proofs.Ytkpgefjbhimmgaa.entryEncodes
open Go.ChangeShapes Go.WideShapes Go.ChangeAt Go.RowKit
open Go.ChangeMaps (open_string shut_string)
set_option linter.unusedVariables false
set_option linter.unusedSimpArgs false

set_option maxHeartbeats 1600000 in
theorem walk (a0 : Option Addr) (len0 cap0 : Nat) (e0 : List PEnt) (w : World) (w0 : EntArg w a0 len0 cap0 e0) :
    Calls Try.prog 3 #[.slice a0 len0 cap0] w fun e w' => e = .returned (.bool true) ∧ Below w.heap.size w w' := by
  have c1 := fun W (h : Below w.heap.size w W) => eenc_any a0 len0 cap0 e0 W (w0.later h)
  have c2 := fun W (h : Below w.heap.size w W) => renc_any a0 len0 cap0 e0 W (w0.later h)
  unfold EncDone at c1 c2
  generalize entOut e0 = O at *
  generalize entErr e0 = E at *
  have C1 := Lib.hid c1
  have C2 := Lib.hid c2
  have B0 := Lib.hid (Below.refl w.heap.size w)
  clear c1 c2 w0
  go_enter Try.func3, Try.ntmps3
  go_wp2_with (first | (go_at_call 12; refine (C1.out _ B0.out).mono ?_; rintro e2 w2 ⟨v2, rfl, hf2, hb2⟩; have F2 := Lib.hid hf2; have B2 := Lib.hid hb2; clear hf2 hb2) | (go_at_call 13; refine (C2.out _ B2.out).mono ?_; rintro e2 w3 ⟨v3, rfl, hf3, hb3⟩; have F3 := Lib.hid hf3; have F23 := Lib.hid (F2.out.later hb3); have B3 := Lib.hid (B2.out.trans (hb3.mono B2.out.size)); clear hf3 hb3) | (go_at_call 14; refine (awake10_any _).mono ?_; rintro e2 w5 ⟨rfl, hb5⟩; have B5 := Lib.hid (B3.out.trans (hb5.mono B3.out.size)); have q2 := fresh_str (F23.out.later hb5); have q3 := fresh_str (F3.out.later hb5); clear hb5))
  go_ret
  exact ⟨by simp, B5.out⟩

/-! ### The law's step -/
set_option maxRecDepth 100000 in
theorem lifted (os : Os) (started : os.Started) (H : Type) (enc : TypeId × Value → H) :
    ReturnsInHanded {} Try.checked os 3 .any (Rows.entryEncodesSpec.pre6 enc Try.prog Try.f3 Rows.entryEncodesRow.domain false) (Rows.entryEncodesSpec.post enc Try.prog Try.f3 false true false false) := by
  refine returnsInHanded_of_change_sized (C := Try.checked) own started (by kernel_rfl) Try.func3
    (ChangeSpec.witness6 (enc := enc) (C := Try.checked) false ⟨#[], #[.slice none 0 0], []⟩ 8 (by kernel_rfl) (by kernel_rfl) (by kernel_rfl) (by kernel_rfl)) ?_
  intro W base args ds gs before hval0 hW hcnd hsz0 _
  have hsz : (DataW.weightsEach Try.prog (Try.f3.params.toList ++ Rows.entryEncodesSpec.plain.varTypes Try.prog) (ds ++ gs)).all (· ≤ reachBytes) = true := hsz0
  clear hsz0
  have hval : ∀ (j : Nat) t v, Try.f3.params[j]? = some t → args[j]? = some v → Value.okWide Try.prog W .any base t v := hval0
  have hW' := hW
  obtain ⟨p, q, hA0, hV, rfl, hfz, hnd⟩ := hW
  have hA : DataW.TrodAll enc Try.prog W 0 (fun _ => true) true Try.f3.params.toList args.toList ds p := hA0
  rw [Try.params3] at hA hval hsz
  obtain ⟨v0, vs0, d0, ds0, p0, q0, hargs, rfl, rfl, h0, r0⟩ := trodAll_cons hA
  obtain ⟨rfl, rfl, rfl⟩ := trodAll_nil r0
  obtain rfl : args = #[v0] := by cases args; simp_all
  obtain ⟨rfl, rfl⟩ := trodVars_none hV
  have k0 := h0
  have lt0 : ∀ x ∈ p0, x.block < W.heap.size := by obtain ⟨m, hm⟩ := k0; exact DataW.trod_lt m _ _ _ hm
  obtain ⟨a0, len0, cap0, rfl⟩ := okWide_slice Try.underlying22 (hval 0 22 v0 rfl rfl)
  obtain ⟨e0, w0⟩ := open_ents_arg k0 (weights_of hsz (j := 0) rfl rfl)
  clear hA0 hval0
  refine (walk a0 len0 cap0 e0 W w0).mono fun e W' ⟨he, bel⟩ => ?_
  subst he
  exact ⟨_, rfl, _, _, _, [], _, [], hW', trodAll_mk1 (shut_bool Try.underlying4 _), (trodAll_cons_mk (Below.trod laidOut (by kernel_rfl) (of_decide_eq_true (by kernel_rfl)) k0 bel lt0) trodAll_mk0), rfl, bel.frame _, fun h => by cases h⟩

theorem over : Rows.entryEncodesRow.holds Try.pinned (OpenSpec.ofChange Rows.entryEncodesSpec) :=
  OpenClaim.holds_of_wide 3 Try.f3 rfl rfl rfl rfl rfl rfl rfl ⟨rfl, rfl, rfl, rfl, rfl⟩ rfl rfl rfl rfl rfl (by kernel_rfl) Try.func3 (by kernel_rfl)
    (of_decide_eq_true (by kernel_rfl)) (by unfold Func.isWrapper; first | (rw [if_pos (by decide +kernel)]; kernel_rfl) | (rw [if_neg (by decide +kernel)]; exact ⟨rfl, rfl⟩))
    (fun os started H enc _ => lifted os started H enc)

/-- The statement. -/
theorem proved : Rows.EntryEncodesSaid := over
end Go.Proofs.Ytkpgefjbhimmgaa.entryEncodes
