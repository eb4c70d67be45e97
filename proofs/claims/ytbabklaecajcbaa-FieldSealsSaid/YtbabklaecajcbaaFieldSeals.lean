/-
  Proved here: field.Seal and field.Sealed of any bytes answer what the document's own reckoning answers, and what was sealed is sealed. No conditions.
-/
import Derived.Test.YtbabklaecajcbaaAwake04
import Derived.Deep.RegionWith
namespace Go.Proofs.Ytbabklaecajcbaa.fieldSeals
open Go.ChangeShapes Go.WideShapes Go.ChangeAt Go.RowKit
open Go.ChangeMaps (open_string shut_string)
set_option linter.unusedVariables false

set_option maxHeartbeats 6400000 in
theorem walk (a0 : Option Addr) (len0 cap0 : Nat) (z0 : List Int) (w : World) (w0 : IsRow .u8 w a0 len0 cap0 z0) (rch0 : cap0 ≤ 140737488351232) :
    Calls Try.prog 6 #[.slice a0 len0 cap0] w fun e w' => e = .returned (.bool true) ∧ Below w.heap.size w w' := by
  have hA := w0.arg rch0
  obtain ⟨zs, HZ⟩ : ∃ zs, Hid (zs = z0.take len0) := ⟨_, Lib.hid rfl⟩
  rw [← HZ.out] at hA
  clear w0 HZ
  have cF := fSeal_any a0 len0 cap0 zs w hA
  have HA := Lib.hid hA
  have HSD := Lib.hid (fun w2 (h : Below w.heap.size w w2) => fSealed_any a0 len0 cap0 zs w2 (hA.later h))
  have HL := Lib.hid hA.1.1
  clear hA
  by_cases h64 : len0 = 64
  · subst h64
    have HSR := Lib.hid (fun w2 (h : Below w.heap.size w w2) => Seal04_any a0 64 cap0 zs w2 (HA.out.later h))
    have HDR := Lib.hid (fun w2 (h : Below w.heap.size w w2) => Sealed04_any a0 64 cap0 zs w2 (HA.out.later h))
    have hO : sealOut sumS zs = sealOf sumS zs := by unfold sealOut; rw [if_pos HL.out]
    rw [hO, show sealErr 64 = 0 from rfl] at cF
    clear hO
    have HQ : Hid (sealedB (sealOf sumS zs) = true) := Lib.hid (sealedB_sealOf HL.out)
    have HLL : Hid ((sealOf sumS zs).length = 64) := Lib.hid (sealOf_length HL.out)
    generalize sealOf sumS zs = L at *
    generalize sealedB zs = B at *
    go_enter Try.func6, Try.ntmps6
    go_wp2_with fail
    refine cF.mono ?_
    rintro e w2 ⟨v2, rfl, hf2, hb2⟩
    have HB2 := Lib.hid hb2
    obtain ⟨ao2, cp2, hv2, hA2, _⟩ := hf2
    rw [HLL.out] at hv2 hA2
    rw [hv2]
    have HSC := Lib.hid (fun w3 (h : Below w2.heap.size w2 w3) => fSealed_any ao2 64 cp2 L w3 (hA2.later h))
    have HQ' := HQ.out
    rw [HQ'] at HSC
    have HB := Lib.hid (fun w3 (h : Below w2.heap.size w2 w3) => HB2.out.trans (h.mono HB2.out.size))
    have hb0 : Below w2.heap.size w2 w2.drew := (Below.refl _ _).drew
    have hC2 := hA2.1
    clear hv2 hA2 hb2 cF HQ'
    go_wp2_with fail
    have hC : ∀ w3, Below w2.heap.size w2 w3 → (convert 22 9 (.slice ao2 64 cp2)).run Try.prog w3 = .ok (.string (str L)) w3 := fun w3 h => str_bytes (hC2.later h)
    have hC := Lib.hid hC
    clear hC2
    go_region_with (first | (go_at_call 12; refine (awake04_any _).mono ?_; rintro e w3 ⟨rfl, hb3⟩; have h3 := hb0.trans (hb3.mono hb0.size); have s1 := hC.out _ h3; clear hb3) | (go_at_call 19; refine (HSR.out _ (HB.out _ (by assumption))).mono ?_; rintro e w4 ⟨v4, rfl, hf4, hb4⟩; have h4 := h3.trans (hb4.mono h3.size); have s3 := fresh_str hf4; have s2 := hC.out _ h4; clear hb4 hf4) | (go_at_call 20; refine (HDR.out _ (HB.out _ (by assumption))).mono ?_; rintro e w6 ⟨rfl, hb6⟩; have h6 := h5.trans (hb6.mono h5.size); clear hb6) | (go_at_call 18; first | ((with_reducible refine (HSD.out _ (HB.out _ (by assumption))).mono ?_); rintro e w5 ⟨rfl, hb5⟩; have h5 := h4.trans (hb5.mono h4.size); clear hb5) | ((with_reducible refine (HSC.out _ (by assumption)).mono ?_); rintro e w7 ⟨rfl, hb7⟩; have h7 := h6.trans (hb7.mono h6.size); clear hb7)))
    all_goals (go_wp2_with fail; go_ret; exact ⟨rfl, HB.out _ (by assumption)⟩)
  · have hne : ((len0 : Int) != 64) = true := by simp; omega
    have hO : sealOut sumS zs = [] := by unfold sealOut; rw [if_neg (by rw [HL.out]; exact h64)]
    have hE : sealErr len0 = 2 := by unfold sealErr; rw [if_neg h64]
    have HD : Hid (sealedB zs = false) := Lib.hid (by
      unfold sealedB
      rw [HL.out]
      simp [h64])
    rw [hO, hE] at cF
    clear hO hE
    go_enter Try.func6, Try.ntmps6
    go_wp2_with fail
    refine cF.mono ?_
    rintro e w2 ⟨v2, rfl, hf2, hb2⟩
    have HB2 := Lib.hid hb2
    obtain ⟨ao2, cp2, hv2, hA2, _⟩ := hf2
    rw [hv2]
    clear hv2 hA2 hb2 cF
    go_wp2_with fail
    refine (awake04_any _).mono ?_
    rintro e w3 ⟨rfl, hb3⟩
    have HB3 := Lib.hid (HB2.out.trans (hb3.mono HB2.out.size))
    clear hb3
    go_wp2_with fail
    have cD := HSD.out w3 HB3.out
    rw [HD.out] at cD
    refine cD.mono ?_
    rintro e w4 ⟨rfl, hb4⟩
    have HB4 := Lib.hid (HB3.out.trans (hb4.mono HB3.out.size))
    clear hb4 cD
    go_wp2_with fail
    go_ret
    exact ⟨rfl, HB4.out⟩

/-! ### THE ROW's STEP: WRITTEN OUT: LEAVE IT -/
set_option maxRecDepth 100000 in
theorem lifted (os : Os) (started : os.Started) (H : Type) (enc : TypeId × Value → H) :
    ReturnsInHanded {} Try.checked os 6 .any (Rows.fieldSealsSpec.pre6 enc Try.prog Try.f6 Rows.fieldSealsRow.domain false) (Rows.fieldSealsSpec.post enc Try.prog Try.f6 false true false false) := by
  refine returnsInHanded_of_change_sized (C := Try.checked) own started (by kernel_rfl) Try.func6
    (ChangeSpec.witness6 (enc := enc) (C := Try.checked) false ⟨#[], #[.slice none 0 0], []⟩ 8 (by kernel_rfl) (by kernel_rfl) (by kernel_rfl) (by kernel_rfl)) ?_
  intro W base args ds gs before hval0 hW hcnd hsz0 _
  have hsz : (DataW.weightsEach Try.prog (Try.f6.params.toList ++ Rows.fieldSealsSpec.plain.varTypes Try.prog) (ds ++ gs)).all (· ≤ reachBytes) = true := hsz0
  clear hsz0
  have hval : ∀ (j : Nat) t v, Try.f6.params[j]? = some t → args[j]? = some v → Value.okWide Try.prog W .any base t v := hval0
  have hW' := hW
  obtain ⟨p, q, hA0, hV, rfl, hfz, hnd⟩ := hW
  have hA : DataW.TrodAll enc Try.prog W 0 (fun _ => true) true Try.f6.params.toList args.toList ds p := hA0
  rw [Try.params6] at hA hval hsz
  obtain ⟨v0, vs0, d0, ds0, p0, q0, hargs, rfl, rfl, h0, r0⟩ := trodAll_cons hA
  obtain ⟨rfl, rfl, rfl⟩ := trodAll_nil r0
  obtain rfl : args = #[v0] := by cases args; simp_all
  obtain ⟨rfl, rfl⟩ := trodVars_none hV
  obtain ⟨a0, len0, cap0, rfl⟩ := okWide_slice Try.underlying22 (hval 0 22 v0 rfl rfl)
  have k0 := h0
  have lt0 : ∀ x ∈ p0, x.block < W.heap.size := by obtain ⟨m, hm⟩ := k0; exact DataW.trod_lt m _ _ _ hm
  obtain ⟨z0, w0, rch0⟩ := open_bytes k0 (fun e s hd => sized_slice hsz (j := 0) (t := 22) (e := 5) rfl (by rw [hd]; rfl) Try.underlying22)
  clear hA0 hval0
  refine (walk a0 len0 cap0 z0 W w0 rch0).mono fun e W' ⟨he, bel⟩ => ?_
  subst he
  exact ⟨_, rfl, _, _, _, [], _, [], hW', trodAll_mk1 (shut_bool Try.underlying4 _), (trodAll_cons_mk (Below.trod laidOut (by kernel_rfl) (of_decide_eq_true (by kernel_rfl)) k0 bel lt0) trodAll_mk0), rfl, bel.frame _, fun h => by cases h⟩

theorem over : Rows.fieldSealsRow.holds Try.pinned (OpenSpec.ofChange Rows.fieldSealsSpec) :=
  OpenClaim.holds_of_wide 6 Try.f6 rfl rfl rfl rfl rfl rfl rfl ⟨rfl, rfl, rfl, rfl, rfl⟩ rfl rfl rfl rfl rfl (by kernel_rfl) Try.func6 (by kernel_rfl)
    (of_decide_eq_true (by kernel_rfl)) (by unfold Func.isWrapper; first | (rw [if_pos (by decide +kernel)]; kernel_rfl) | (rw [if_neg (by decide +kernel)]; exact ⟨rfl, rfl⟩))
    (fun os started H enc _ => lifted os started H enc)

/-- THE STATEMENT -/
theorem proved : Rows.FieldSealsSaid := over
end Go.Proofs.Ytbabklaecajcbaa.fieldSeals
