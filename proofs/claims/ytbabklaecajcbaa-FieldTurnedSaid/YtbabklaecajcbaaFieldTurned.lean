/-
  Proved here: a block that field.Seal sealed and of which one byte of the first 60 is turned into another one is not sealed any more, by field.Sealed. No conditions.
-/
import Derived.Test.YtbabklaecajcbaaAwake04
import Derived.Test.YtbabklaecajcbaaFresh
namespace Go.Proofs.Ytbabklaecajcbaa.fieldTurned
open Go.ChangeShapes Go.WideShapes Go.ChangeAt Go.RowKit
open Go.ChangeMaps (open_string shut_string)
set_option linter.unusedVariables false

theorem leB_inj {a b : Int} (ha : 0 ≤ a ∧ a < 4294967296) (hb : 0 ≤ b ∧ b < 4294967296) (h : leB a 4 = leB b 4) : a = b := by
  simp only [leB, List.nil_append, List.cons_append, List.cons.injEq] at h
  omega

/-- A turned byte ahead of the sum: the sum that is there is another text's. -/
theorem turned_not {zs : List Int} (hl : zs.length = 64) (hz : ∀ z ∈ zs, 0 ≤ z ∧ z ≤ 255) {k : Nat} {y : Int} (hk : k < 60) (hy : 0 ≤ y ∧ y ≤ 255) (hne : y ≠ (sealOf sumS zs)[k]?.getD 0) :
    sealedB ((sealOf sumS zs).set k y) = false := by
  have hL := sealOf_length (sum := sumS) hl
  have hB := sealOf_bytes (sum := sumS) hz
  have ht : (sealOf sumS zs).take 60 = zs.take 60 := by
    rw [sealOf_take hl, List.take_append_of_le_length (by rw [List.length_take]; omega), List.take_take]
    simp
  have h0 : zs.take 60 ++ leB (sumS (zs.take 60)) 4 = sealOf sumS zs := (sealOf_take hl).symm
  unfold sealedB
  rw [decide_eq_false_iff_not]
  rintro ⟨h1, h2⟩
  rw [sealOf_take h1] at h2
  have e1 : ((sealOf sumS zs).set k y).take 60 = (zs.take 60).set k y := by rw [List.take_set, ht]
  have hlen : (zs.take 60).length = 60 := by rw [List.length_take, hl]; rfl
  have hlen2 : ((zs.take 60).set k y).length = 60 := by rw [List.length_set, hlen]
  have e2 : ((sealOf sumS zs).set k y) = (zs.take 60).set k y ++ leB (sumS (zs.take 60)) 4 := by
    rw [← h0, List.set_append_left _ _ (by omega)]
  rw [e1, e2] at h2
  have h3 := leB_inj (sumS_bounds _) (sumS_bounds _) (List.append_cancel_left h2)
  have h4 := (sum_set (zs := zs.take 60) (k := k) (by omega) (fun z hz' => hz z (List.mem_of_mem_take hz')) hy).1 h3
  apply hne
  rw [h4, ← h0, List.getElem?_append_left (by omega)]

set_option maxHeartbeats 400000 in
theorem walk (a0 : Option Addr) (len0 cap0 : Nat) (z0 : List Int) (a1 : Int) (a2 : Int) (w : World) (w0 : IsRow .u8 w a0 len0 cap0 z0) (rch0 : cap0 ≤ 140737488351232) (w1 : (Lit.int .u8 a1).wf = true) (w2 : (Lit.int .u8 a2).wf = true) :
    Calls Try.prog 8 #[.slice a0 len0 cap0, .int .u8 a1, .int .u8 a2] w fun e w' => e = .returned (.bool true) ∧ Below w.heap.size w w' := by
  have hA := w0.arg rch0
  have hw1 := wf_u8 w1
  have hw2 := wf_u8 w2
  obtain ⟨zs, HZ⟩ : ∃ zs, Hid (zs = z0.take len0) := ⟨_, Lib.hid rfl⟩
  rw [← HZ.out] at hA
  clear w0 w1 w2 HZ
  have cF := fSeal_any a0 len0 cap0 zs w hA
  have hl := hA.1.1
  have hz := hA.1.2.2.1
  clear hA
  by_cases h64 : len0 = 64
  · subst h64
    have hO : sealOut sumS zs = sealOf sumS zs := by unfold sealOut; rw [if_pos hl]
    rw [hO, show sealErr 64 = 0 from rfl] at cF
    clear hO
    by_cases hx : a2 = 0
    · subst hx
      clear hl hz
      go_enter Try.func8, Try.ntmps8
      go_wp2_with fail
      refine cF.mono ?_
      rintro e w2 ⟨v2, rfl, hf2, hb2⟩
      have HB2 := Lib.hid hb2
      clear hb2 hf2 cF
      go_wp2_with fail
      refine (awake04_any _).mono ?_
      rintro e w3 ⟨rfl, hb3⟩
      have HB3 := Lib.hid (HB2.out.trans (hb3.mono HB2.out.size))
      clear hb3
      go_wp2_with fail
      refine (awake04_any _).mono ?_
      rintro e w4 ⟨rfl, hb4⟩
      have HB4 := Lib.hid (HB3.out.trans (hb4.mono HB3.out.size))
      clear hb4
      go_wp2_with fail
      go_ret
      exact ⟨rfl, HB4.out⟩
    · have hxb : (a2 == 0) = false := by simp; exact hx
      obtain ⟨k, Hk⟩ : ∃ k : Nat, Hid (a1 % 60 = (k : Int)) := ⟨(a1 % 60).toNat, Lib.hid (by omega)⟩
      have hk60 : k < 60 := by have := Hk.out; omega
      have HLL : Hid ((sealOf sumS zs).length = 64) := Lib.hid (sealOf_length hl)
      have HT : Hid (∀ y : Int, 0 ≤ y ∧ y ≤ 255 → y ≠ (sealOf sumS zs)[k]?.getD 0 → sealedB ((sealOf sumS zs).set k y) = false) := Lib.hid (fun y hy hne => turned_not hl hz hk60 hy hne)
      have HBY : Hid (∀ z ∈ sealOf sumS zs, 0 ≤ z ∧ z ≤ 255) := Lib.hid (sealOf_bytes hz)
      generalize sealOf sumS zs = L at *
      have hxy := xor_u8 (a := L[k]?.getD 0) (b := a2) (HBY.out _ (getD_mem (l := L) (k := k) (by rw [HLL.out]; omega))) hw2
      obtain ⟨y, Hy⟩ : ∃ y, Hid (bits .xor .u8 (L[k]?.getD 0) a2 = y) := ⟨_, Lib.hid rfl⟩
      rw [Hy.out] at hxy
      have HV : Hid (sealedB (L.set k y) = false) := Lib.hid (HT.out y hxy.1 (fun h => hx (hxy.2.1 h)))
      have HYB := Lib.hid hxy.1
      clear hxy hl hz hx
      go_enter Try.func8, Try.ntmps8
      go_wp2_with fail
      refine cF.mono ?_
      rintro e w2 ⟨v2, rfl, hf2, hb2⟩
      have HB2 := Lib.hid hb2
      have HF2 := Lib.hid hf2
      clear hb2 hf2 cF
      go_wp2_with fail
      refine (awake04_any _).mono ?_
      rintro e w3 ⟨rfl, hb3⟩
      have HB3 := Lib.hid (HB2.out.trans (hb3.mono HB2.out.size))
      obtain ⟨g, off, cp, hv, hg, hcell, hfr, hS⟩ := (HF2.out.later hb3).open_at (k := k) (by rw [HLL.out]; omega)
      rw [HLL.out] at hv hS
      have HS := Lib.hid (hS y HYB.out)
      have HB4 := Lib.hid (HB3.out.setCell (p := ⟨g, off + k, none⟩) hg (.int .u8 y))
      rw [hv]
      clear hv hS hb3
      have hmod := Hk.out
      have hyy := Hy.out
      go_wp2_with fail
      have cD := fSealed_any _ _ _ _ _ HS.out
      rw [HV.out] at cD
      refine cD.mono ?_
      rintro e w4 ⟨rfl, hb4⟩
      have HB5 := Lib.hid (HB4.out.trans (hb4.mono HB4.out.size))
      clear hb4 cD hmod hyy hcell hfr
      go_wp2_with fail
      go_ret
      exact ⟨rfl, HB5.out⟩
  · have hE : sealErr len0 = 2 := by unfold sealErr; rw [if_neg h64]
    rw [hE] at cF
    clear hE hl hz
    go_enter Try.func8, Try.ntmps8
    go_wp2_with fail
    refine cF.mono ?_
    rintro e w2 ⟨v2, rfl, hf2, hb2⟩
    have HB2 := Lib.hid hb2
    clear hb2 hf2 cF
    go_wp2_with fail
    refine (awake04_any _).mono ?_
    rintro e w3 ⟨rfl, hb3⟩
    have HB3 := Lib.hid (HB2.out.trans (hb3.mono HB2.out.size))
    clear hb3
    go_wp2_with fail
    refine (awake04_any _).mono ?_
    rintro e w4 ⟨rfl, hb4⟩
    have HB4 := Lib.hid (HB3.out.trans (hb4.mono HB3.out.size))
    clear hb4
    go_wp2_with fail
    go_ret
    exact ⟨rfl, HB4.out⟩

/-! ### THE ROW's STEP: WRITTEN OUT: LEAVE IT -/
set_option maxRecDepth 100000 in
theorem lifted (os : Os) (started : os.Started) (H : Type) (enc : TypeId × Value → H) :
    ReturnsInHanded {} Try.checked os 8 .any (Rows.fieldTurnedSpec.pre6 enc Try.prog Try.f8 Rows.fieldTurnedRow.domain false) (Rows.fieldTurnedSpec.post enc Try.prog Try.f8 false true false false) := by
  refine returnsInHanded_of_change_sized (C := Try.checked) own started (by kernel_rfl) Try.func8
    (ChangeSpec.witness6 (enc := enc) (C := Try.checked) false ⟨#[], #[.slice none 0 0, .int .u8 0, .int .u8 0], []⟩ 8 (by kernel_rfl) (by kernel_rfl) (by kernel_rfl) (by kernel_rfl)) ?_
  intro W base args ds gs before hval0 hW hcnd hsz0 _
  have hsz : (DataW.weightsEach Try.prog (Try.f8.params.toList ++ Rows.fieldTurnedSpec.plain.varTypes Try.prog) (ds ++ gs)).all (· ≤ reachBytes) = true := hsz0
  clear hsz0
  have hval : ∀ (j : Nat) t v, Try.f8.params[j]? = some t → args[j]? = some v → Value.okWide Try.prog W .any base t v := hval0
  have hW' := hW
  obtain ⟨p, q, hA0, hV, rfl, hfz, hnd⟩ := hW
  have hA : DataW.TrodAll enc Try.prog W 0 (fun _ => true) true Try.f8.params.toList args.toList ds p := hA0
  rw [Try.params8] at hA hval hsz
  obtain ⟨v0, vs0, d0, ds0, p0, q0, hargs, rfl, rfl, h0, r0⟩ := trodAll_cons hA
  obtain ⟨v1, vs1, d1, ds1, p1, q1, rfl, rfl, rfl, h1, r1⟩ := trodAll_cons r0
  obtain ⟨v2, vs2, d2, ds2, p2, q2, rfl, rfl, rfl, h2, r2⟩ := trodAll_cons r1
  obtain ⟨rfl, rfl, rfl⟩ := trodAll_nil r2
  obtain rfl : args = #[v0, v1, v2] := by cases args; simp_all
  obtain ⟨rfl, rfl⟩ := trodVars_none hV
  obtain ⟨a0, len0, cap0, rfl⟩ := okWide_slice Try.underlying22 (hval 0 22 v0 rfl rfl)
  have k0 := h0
  have lt0 : ∀ x ∈ p0, x.block < W.heap.size := by obtain ⟨m, hm⟩ := k0; exact DataW.trod_lt m _ _ _ hm
  obtain ⟨z0, w0, rch0⟩ := open_bytes k0 (fun e s hd => sized_slice hsz (j := 0) (t := 22) (e := 5) rfl (by rw [hd]; rfl) Try.underlying22)
  obtain ⟨a1, rfl, rfl, rfl, w1⟩ := open_int Try.underlying5 (hval 1 5 v1 rfl rfl) h1
  obtain ⟨a2, rfl, rfl, rfl, w2⟩ := open_int Try.underlying5 (hval 2 5 v2 rfl rfl) h2
  clear hA0 hval0
  refine (walk a0 len0 cap0 z0 a1 a2 W w0 rch0 w1 w2).mono fun e W' ⟨he, bel⟩ => ?_
  subst he
  exact ⟨_, rfl, _, _, _, [], _, [], hW', trodAll_mk1 (shut_bool Try.underlying4 _), (trodAll_cons_mk (Below.trod laidOut (by kernel_rfl) (of_decide_eq_true (by kernel_rfl)) k0 bel lt0) (trodAll_cons_mk (shut_int Try.underlying5 w1) (trodAll_cons_mk (shut_int Try.underlying5 w2) trodAll_mk0))), rfl, bel.frame _, fun h => by cases h⟩

theorem over : Rows.fieldTurnedRow.holds Try.pinned (OpenSpec.ofChange Rows.fieldTurnedSpec) :=
  OpenClaim.holds_of_wide 8 Try.f8 rfl rfl rfl rfl rfl rfl rfl ⟨rfl, rfl, rfl, rfl, rfl⟩ rfl rfl rfl rfl rfl (by kernel_rfl) Try.func8 (by kernel_rfl)
    (of_decide_eq_true (by kernel_rfl)) (by unfold Func.isWrapper; first | (rw [if_pos (by decide +kernel)]; kernel_rfl) | (rw [if_neg (by decide +kernel)]; exact ⟨rfl, rfl⟩))
    (fun os started H enc _ => lifted os started H enc)

/-- THE STATEMENT -/
theorem proved : Rows.FieldTurnedSaid := over
end Go.Proofs.Ytbabklaecajcbaa.fieldTurned
