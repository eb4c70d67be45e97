/-
  Proved here: the landed extents of any pointers are the document's own. No conditions.
-/
import Derived.Test.YtmkibjppnlmehaaAwake12
import Derived.Test.YtmkibjppnlmehaaTrIn
import Derived.Test.YtmkibjppnlmehaaTrRefA
import Derived.Test.YtmkibjppnlmehaaRef12
namespace Go.Proofs.Ytmkibjppnlmehaa.extentFrom
open Go.ChangeShapes Go.WideShapes Go.ChangeAt Go.RowKit
open Go.ChangeMaps (open_string shut_string)
set_option linter.unusedVariables false
set_option linter.unusedSimpArgs false

set_option maxRecDepth 100000 in
set_option maxHeartbeats 3200000 in
theorem walk (a0 : Option Addr) (len0 cap0 : Nat) (z0 : List Int) (w : World) (w0 : IArg w a0 len0 cap0 z0 ∧ cap0 ≤ 17592186043904) :
    Calls Try.prog 3 #[.slice a0 len0 cap0] w fun e w' => e = .returned (.bool true) ∧ Below w.heap.size w w' := by
  obtain ⟨hA, -⟩ := w0
  have HC1 := Lib.hid (fun W (h : Below w.heap.size w W) => From_any a0 len0 cap0 z0 W (hA.later h))
  have HC2 := Lib.hid (fun W (h : Below w.heap.size w W) => RPointers_any a0 len0 cap0 z0 W (hA.later h))
  have HC3 := Lib.hid (fun W (h : Below w.heap.size w W) (hok : ptrsOk z0 = true) => RFrom_any a0 len0 cap0 z0 W (hA.later h) hok)
  clear hA
  have B0 := Lib.hid (Below.refl w.heap.size w)
  cases hp : ptrsOk z0 with
  | true =>
    rw [hp] at HC1 HC2
    simp only [if_true] at HC1
    have HOK := Lib.hid hp
    have HL : Hid (z0.length ≤ 1000) := Lib.hid (by unfold ptrsOk at hp; rw [Bool.and_eq_true, decide_eq_true_eq] at hp; omega)
    clear hp
    go_enter Try.func3, Try.ntmps3
    go_wp2_with (first
      | (go_at_call 9; refine (sameE_true HE2b.out HE5.out).mono ?_; rintro e w6 ⟨rfl, hb⟩; have B7 := Lib.hid (B5.out.trans (hb.mono B5.out.size)); clear hb)
      | (go_at_call 10; refine (HC3.out _ B4.out HOK.out).mono ?_; rintro e w5 ⟨v, n, vs, rfl, ho, hc, hb⟩; obtain ⟨ao5, c5, rfl, he⟩ := (show OutE w5 w4.heap.size v z0 from ⟨n, vs, ho, hc⟩).out HL.out; have HE5 := Lib.hid he; have HE2b := Lib.hid (HE4.out.later hb); have B5 := Lib.hid (B4.out.trans (hb.mono B4.out.size)); clear ho hc hb he)
      | (go_at_call 8; refine (awake12_any _).mono ?_; rintro e w4 ⟨rfl, hb⟩; have HE4 := Lib.hid (HE3.out.later hb); have B4 := Lib.hid (B3.out.trans (hb.mono B3.out.size)); clear hb)
      | (go_at_call 7; refine (HC2.out _ B2.out).mono ?_; rintro e w3 ⟨rfl, hb⟩; have HE3 := Lib.hid (HE2.out.later hb); have B3 := Lib.hid (B2.out.trans (hb.mono B2.out.size)); clear hb)
      | (go_at_call 6; refine (HC1.out _ B0.out).mono ?_; rintro e w2 ⟨v, rfl, ho, hb⟩; obtain ⟨ao2, c2, rfl, he⟩ := ho.out HL.out; have HE2 := Lib.hid he; have B2 := Lib.hid (B0.out.trans (hb.mono B0.out.size)); clear ho hb he))
    go_ret
    exact ⟨rfl, B7.out⟩
  | false =>
    rw [hp] at HC1 HC2
    simp only [Bool.false_eq_true, if_false] at HC1
    clear hp
    go_enter Try.func3, Try.ntmps3
    go_wp2_with (first
      | (go_at_call 8; refine (awake12_any _).mono ?_; rintro e w4 ⟨rfl, hb⟩; have B4 := Lib.hid (B3.out.trans (hb.mono B3.out.size)); clear hb)
      | (go_at_call 7; refine (HC2.out _ B2.out).mono ?_; rintro e w3 ⟨rfl, hb⟩; have B3 := Lib.hid (B2.out.trans (hb.mono B2.out.size)); clear hb)
      | (go_at_call 6; refine (HC1.out _ B0.out).mono ?_; rintro e w2 ⟨v, rfl, ho, hb⟩; obtain ⟨ao2, c2, rfl, he⟩ := ho.out (by decide); rw [show (fromE 0 []).length = 0 from rfl]; have B2 := Lib.hid (B0.out.trans (hb.mono B0.out.size)); clear ho hb he))
    go_ret
    exact ⟨rfl, B4.out⟩

/-! ### The law's step -/
set_option maxRecDepth 100000 in
theorem lifted (os : Os) (started : os.Started) (H : Type) (enc : TypeId × Value → H) :
    ReturnsInHanded {} Try.checked os 3 .any (Rows.extentFromSpec.pre6 enc Try.prog Try.f3 Rows.extentFromRow.domain false) (Rows.extentFromSpec.post enc Try.prog Try.f3 false true false false) := by
  refine returnsInHanded_of_change_sized (C := Try.checked) own started (by kernel_rfl) Try.func3
    (ChangeSpec.witness6 (enc := enc) (C := Try.checked) false ⟨#[], #[.slice none 0 0], []⟩ 8 (by kernel_rfl) (by kernel_rfl) (by kernel_rfl) (by kernel_rfl)) ?_
  intro W base args ds gs before hval0 hW hcnd hsz0 _
  have hsz : (DataW.weightsEach Try.prog (Try.f3.params.toList ++ Rows.extentFromSpec.plain.varTypes Try.prog) (ds ++ gs)).all (· ≤ reachBytes) = true := hsz0
  clear hsz0
  have hval : ∀ (j : Nat) t v, Try.f3.params[j]? = some t → args[j]? = some v → Value.okWide Try.prog W .any base t v := hval0
  have hW' := hW
  obtain ⟨p, q, hA0, hV, rfl, hfz, hnd⟩ := hW
  have hA : DataW.TrodAll enc Try.prog W 0 (fun _ => true) true Try.f3.params.toList args.toList ds p := hA0
  rw [Try.params3] at hA hval hsz
  obtain ⟨v0, vs0, d0, ds0, p0, q0, hargs, rfl, rfl, h0, r0⟩ := trodAll_cons hA
  obtain ⟨rfl, rfl, rfl⟩ := trodAll_nil r0
  obtain rfl : args = #[v0] := by cases args; simp_all
  obtain ⟨rfl, rfl⟩ := trodVars_none hV
  have k0 := h0
  have lt0 : ∀ x ∈ p0, x.block < W.heap.size := by obtain ⟨m, hm⟩ := k0; exact DataW.trod_lt m _ _ _ hm
  obtain ⟨a0, len0, cap0, rfl⟩ := okWide_slice Try.underlying22 (hval 0 22 v0 rfl rfl)
  obtain ⟨z0, w0⟩ := open_nums_arg k0 (weights_ofT hsz (j := 0) rfl rfl)
  clear hA0 hval0
  refine (walk a0 len0 cap0 z0 W w0).mono fun e W' ⟨he, bel⟩ => ?_
  subst he
  exact ⟨_, rfl, _, _, _, [], _, [], hW', trodAll_mk1 (shut_bool Try.underlying4 _), (trodAll_cons_mk (Below.trod laidOut (by kernel_rfl) (of_decide_eq_true (by kernel_rfl)) k0 bel lt0) trodAll_mk0), rfl, bel.frame _, fun h => by cases h⟩

theorem over : Rows.extentFromRow.holds Try.pinned (OpenSpec.ofChange Rows.extentFromSpec) :=
  OpenClaim.holds_of_wide 3 Try.f3 rfl rfl rfl rfl rfl rfl rfl ⟨rfl, rfl, rfl, rfl, rfl⟩ rfl rfl rfl rfl rfl (by kernel_rfl) Try.func3 (by kernel_rfl)
    (of_decide_eq_true (by kernel_rfl)) (by unfold Func.isWrapper; first | (rw [if_pos (by decide +kernel)]; kernel_rfl) | (rw [if_neg (by decide +kernel)]; exact ⟨rfl, rfl⟩))
    (fun os started H enc _ => lifted os started H enc)

/-- The statement. -/
theorem proved : Rows.ExtentFromSaid := over
end Go.Proofs.Ytmkibjppnlmehaa.extentFrom
