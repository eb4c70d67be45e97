/-
  Proved here: two numbers that field.Set sets at places that do not meet may be set in either order. No conditions.
-/
import Derived.Test.YtbabklaecajcbaaAwake04
import Derived.Test.YtbabklaecajcbaaFieldPut
namespace Go.Proofs.Ytbabklaecajcbaa.fieldApart
open Go.ChangeShapes Go.WideShapes Go.ChangeAt Go.RowKit
open Go.ChangeMaps (open_string shut_string)
set_option linter.unusedVariables false

set_option maxHeartbeats 1600000 in
theorem walk (a0 : Option Addr) (len0 cap0 : Nat) (z0 : List Int) (a1 : Int) (a2 : Int) (a3 : Int) (a4 : Int) (a5 : Int) (w : World) (w0 : IsRow .u8 w a0 len0 cap0 z0) (rch0 : cap0 ≤ 140737488351232) (w1 : (Lit.int .i64 a1).wf = true) (w2 : (Lit.int .i64 a2).wf = true) (w3 : (Lit.int .i64 a3).wf = true) (w4 : (Lit.int .i64 a4).wf = true) (w5 : (Lit.int .i64 a5).wf = true) :
    Calls Try.prog 9 #[.slice a0 len0 cap0, .int .i64 a1, .int .i64 a2, .int .i64 a3, .int .i64 a4, .int .i64 a5] w fun e w' => e = .returned (.bool true) ∧ Below w.heap.size w w' := by
  have hA := w0.arg rch0
  have hp := wf_i64 w1
  have hs := wf_i64 w2
  have hn := wf_i64 w3
  have hq := wf_i64 w4
  have hm := wf_i64 w5
  obtain ⟨zs, HZ⟩ : ∃ zs, Hid (zs = z0.take len0) := ⟨_, Lib.hid rfl⟩
  rw [← HZ.out] at hA
  clear w0 w1 w2 w3 w4 w5 HZ
  have hl := hA.1.1
  have cX := fSet_any a0 len0 cap0 zs a1 a2 a3 w hA hp hs hn
  have HY := Lib.hid (fun w2 (h : Below w.heap.size w w2) => fSet_any a0 len0 cap0 zs a4 a2 a5 w2 (hA.later h) hq hs hm)
  have HP := Lib.hid (fun w2 ao cp L (h : Arg w2 ao 64 cp L) => fSet_any ao 64 cp L a4 a2 a5 w2 h hq hs hm)
  have HQ := Lib.hid (fun w2 ao cp L (h : Arg w2 ao 64 cp L) => fSet_any ao 64 cp L a1 a2 a3 w2 h hp hs hn)
  clear hA
  by_cases hx : setErr len0 a1 a2 a3 = 0
  · by_cases hy : setErr len0 a4 a2 a5 = 0
    · have o1 := fErr_ok (setErr_ok hx).1
      have o2 := fErr_ok (setErr_ok hy).1
      have h64 := o1.1
      subst h64
      have HL := Lib.hid hl
      have s1 := o1.2.1
      have s2 := o1.2.2.1
      have p1 := o1.2.2.2.1
      have p2 := o1.2.2.2.2
      have q1 := o2.2.2.2.1
      have q2 := o2.2.2.2.2
      clear o1 o2 hl
      by_cases ht : a1 < a4 + a2 ∧ a4 < a1 + a2
      · obtain ⟨t1, t2⟩ := ht
        have HXE := Lib.hid hx
        have HYE := Lib.hid hy
        rw [hx] at cX
        have HY := Lib.hid (fun w2 h => by have := HY.out w2 h; rw [HYE.out] at this; exact this)
        clear hx hy HP HQ
        go_enter Try.func9, Try.ntmps9
        go_wp2_with fail
        refine cX.mono ?_
        rintro e w2 ⟨v2, rfl, hf2, hb2⟩
        have HB2 := Lib.hid hb2
        have HF2 := Lib.hid hf2
        clear hb2 hf2 cX
        go_wp2_with fail
        refine (HY.out w2 HB2.out).mono ?_
        rintro e w3 ⟨v3, rfl, hf3, hb3⟩
        have HB3 := Lib.hid (HB2.out.trans (hb3.mono HB2.out.size))
        have HF3 := Lib.hid hf3
        have HF4 := Lib.hid (HF2.out.later hb3)
        clear hb3 hf3
        go_wp2_with fail
        refine (awake04_any _).mono ?_
        rintro e w4 ⟨rfl, hb4⟩
        have HB4 := Lib.hid (HB3.out.trans (hb4.mono HB3.out.size))
        have HF5 := Lib.hid (HF4.out.later hb4)
        have HF6 := Lib.hid (HF3.out.later hb4)
        clear hb4
        go_wp2_with fail
        refine (awake04_any _).mono ?_
        rintro e w5 ⟨rfl, hb5⟩
        have HB5 := Lib.hid (HB4.out.trans (hb5.mono HB4.out.size))
        clear hb5
        go_wp2_with fail
        go_ret
        exact ⟨rfl, HB5.out⟩
      · obtain ⟨e1, e2, e3⟩ := set_apart (zs := zs) (by rw [HL.out]; exact hx) (by rw [HL.out]; exact hy) ht
        have hX1 := setOut_length (zs := zs) (by rw [HL.out]; exact hx)
        have hY1 := setOut_length (zs := zs) (by rw [HL.out]; exact hy)
        have HXE := Lib.hid hx
        have HYE := Lib.hid hy
        rw [hx] at cX
        have HY := Lib.hid (fun w2 h => by have := HY.out w2 h; rw [HYE.out] at this; exact this)
        have HX1 := Lib.hid hX1
        have HY1 := Lib.hid hY1
        have HP := Lib.hid (fun w2 ao cp (h : Arg w2 ao 64 cp (setOut zs a1 a2 a3)) => by have := HP.out w2 ao cp _ h; rw [e1] at this; exact this)
        have HQ := Lib.hid (fun w2 ao cp (h : Arg w2 ao 64 cp (setOut zs a4 a2 a5)) => by have := HQ.out w2 ao cp _ h; rw [e2, ← e3] at this; exact this)
        have t1 : (decide (a1 < a4 + a2) && decide (a4 < a1 + a2)) = false := by simp; omega
        clear hx hy e1 e2 e3 hX1 hY1
        generalize setOut (setOut zs a1 a2 a3) a4 a2 a5 = R at *
        generalize setOut zs a1 a2 a3 = X at *
        generalize setOut zs a4 a2 a5 = Y at *
        by_cases t2 : a1 < a4 + a2
        · have t3 : ¬ a4 < a1 + a2 := by omega
          clear t1 ht
          go_enter Try.func9, Try.ntmps9
          go_wp2_with fail
          refine cX.mono ?_
          rintro e w2 ⟨v2, rfl, hf2, hb2⟩
          have HB2 := Lib.hid hb2
          have HF2 := Lib.hid hf2
          clear hb2 hf2 cX
          go_wp2_with fail
          refine (HY.out w2 HB2.out).mono ?_
          rintro e w3 ⟨v3, rfl, hf3, hb3⟩
          have HB3 := Lib.hid (HB2.out.trans (hb3.mono HB2.out.size))
          have HF3 := Lib.hid hf3
          have HF4 := Lib.hid (HF2.out.later hb3)
          clear hb3 hf3
          go_wp2_with fail
          refine (awake04_any _).mono ?_
          rintro e w4 ⟨rfl, hb4⟩
          have HB4 := Lib.hid (HB3.out.trans (hb4.mono HB3.out.size))
          have HF5 := Lib.hid (HF4.out.later hb4)
          have HF6 := Lib.hid (HF3.out.later hb4)
          clear hb4
          obtain ⟨ao5, cp5, hv5, hA5, _⟩ := HF5.out
          obtain ⟨ao6, cp6, hv6, hA6, _⟩ := HF6.out
          rw [HX1.out] at hv5 hA5
          rw [HY1.out] at hv6 hA6
          rw [hv5, hv6]
          have HA5 := Lib.hid hA5
          have HA6 := Lib.hid hA6
          clear hv5 hv6 hA5 hA6
          go_wp2_with fail
          refine (HP.out w4 ao5 cp5 HA5.out).mono ?_
          rintro e w7 ⟨v7, rfl, hf7, hb7⟩
          have HB7 := Lib.hid (HB4.out.trans (hb7.mono HB4.out.size))
          have HF7 := Lib.hid hf7
          have HA8 := Lib.hid (HA6.out.later hb7)
          clear hf7 hb7
          go_wp2_with fail
          refine (HQ.out w7 ao6 cp6 HA8.out).mono ?_
          rintro e w8 ⟨v8, rfl, hf8, hb8⟩
          have HB8 := Lib.hid (HB7.out.trans (hb8.mono HB7.out.size))
          have c7 := fresh_str (HF7.out.later hb8)
          have c8 := fresh_str hf8
          clear hf8 hb8
          go_wp2_with fail
          go_ret
          exact ⟨rfl, HB8.out⟩
        · clear t1 ht
          go_enter Try.func9, Try.ntmps9
          go_wp2_with fail
          refine cX.mono ?_
          rintro e w2 ⟨v2, rfl, hf2, hb2⟩
          have HB2 := Lib.hid hb2
          have HF2 := Lib.hid hf2
          clear hb2 hf2 cX
          go_wp2_with fail
          refine (HY.out w2 HB2.out).mono ?_
          rintro e w3 ⟨v3, rfl, hf3, hb3⟩
          have HB3 := Lib.hid (HB2.out.trans (hb3.mono HB2.out.size))
          have HF3 := Lib.hid hf3
          have HF4 := Lib.hid (HF2.out.later hb3)
          clear hb3 hf3
          go_wp2_with fail
          refine (awake04_any _).mono ?_
          rintro e w4 ⟨rfl, hb4⟩
          have HB4 := Lib.hid (HB3.out.trans (hb4.mono HB3.out.size))
          have HF5 := Lib.hid (HF4.out.later hb4)
          have HF6 := Lib.hid (HF3.out.later hb4)
          clear hb4
          obtain ⟨ao5, cp5, hv5, hA5, _⟩ := HF5.out
          obtain ⟨ao6, cp6, hv6, hA6, _⟩ := HF6.out
          rw [HX1.out] at hv5 hA5
          rw [HY1.out] at hv6 hA6
          rw [hv5, hv6]
          have HA5 := Lib.hid hA5
          have HA6 := Lib.hid hA6
          clear hv5 hv6 hA5 hA6
          go_wp2_with fail
          refine (HP.out w4 ao5 cp5 HA5.out).mono ?_
          rintro e w7 ⟨v7, rfl, hf7, hb7⟩
          have HB7 := Lib.hid (HB4.out.trans (hb7.mono HB4.out.size))
          have HF7 := Lib.hid hf7
          have HA8 := Lib.hid (HA6.out.later hb7)
          clear hf7 hb7
          go_wp2_with fail
          refine (HQ.out w7 ao6 cp6 HA8.out).mono ?_
          rintro e w8 ⟨v8, rfl, hf8, hb8⟩
          have HB8 := Lib.hid (HB7.out.trans (hb8.mono HB7.out.size))
          have c7 := fresh_str (HF7.out.later hb8)
          have c8 := fresh_str hf8
          clear hf8 hb8
          go_wp2_with fail
          go_ret
          exact ⟨rfl, HB8.out⟩
    · have HYE := Lib.hid hy
      have HXE := Lib.hid hx
      rw [hx] at cX
      obtain ⟨E, HE⟩ : ∃ E, Hid (setErr len0 a4 a2 a5 = E) := ⟨_, Lib.hid rfl⟩
      have HY := Lib.hid (fun w2 h => by have := HY.out w2 h; rw [HE.out] at this; exact this)
      rw [HE.out] at hy
      have hne : (E != 0) = true := by simp; exact hy
      clear hx hy HP HQ hl
      go_enter Try.func9, Try.ntmps9
      go_wp2_with fail
      refine cX.mono ?_
      rintro e w2 ⟨v2, rfl, hf2, hb2⟩
      have HB2 := Lib.hid hb2
      have HF2 := Lib.hid hf2
      clear hb2 hf2 cX
      go_wp2_with fail
      refine (HY.out w2 HB2.out).mono ?_
      rintro e w3 ⟨v3, rfl, hf3, hb3⟩
      have HB3 := Lib.hid (HB2.out.trans (hb3.mono HB2.out.size))
      have HF3 := Lib.hid hf3
      have HF4 := Lib.hid (HF2.out.later hb3)
      clear hb3 hf3
      go_wp2_with fail
      refine (awake04_any _).mono ?_
      rintro e w4 ⟨rfl, hb4⟩
      have HB4 := Lib.hid (HB3.out.trans (hb4.mono HB3.out.size))
      have HF5 := Lib.hid (HF4.out.later hb4)
      have HF6 := Lib.hid (HF3.out.later hb4)
      clear hb4
      go_wp2_with fail
      refine (awake04_any _).mono ?_
      rintro e w5 ⟨rfl, hb5⟩
      have HB5 := Lib.hid (HB4.out.trans (hb5.mono HB4.out.size))
      clear hb5
      go_wp2_with fail
      go_ret
      exact ⟨rfl, HB5.out⟩
  · obtain ⟨E, HE⟩ : ∃ E, Hid (setErr len0 a1 a2 a3 = E) := ⟨_, Lib.hid rfl⟩
    rw [HE.out] at hx cX
    have hne : (E != 0) = true := by simp; exact hx
    clear hx HP HQ hl
    go_enter Try.func9, Try.ntmps9
    go_wp2_with fail
    refine cX.mono ?_
    rintro e w2 ⟨v2, rfl, hf2, hb2⟩
    have HB2 := Lib.hid hb2
    have HF2 := Lib.hid hf2
    clear hb2 hf2 cX
    go_wp2_with fail
    refine (HY.out w2 HB2.out).mono ?_
    rintro e w3 ⟨v3, rfl, hf3, hb3⟩
    have HB3 := Lib.hid (HB2.out.trans (hb3.mono HB2.out.size))
    have HF3 := Lib.hid hf3
    have HF4 := Lib.hid (HF2.out.later hb3)
    clear hb3 hf3
    go_wp2_with fail
    refine (awake04_any _).mono ?_
    rintro e w4 ⟨rfl, hb4⟩
    have HB4 := Lib.hid (HB3.out.trans (hb4.mono HB3.out.size))
    have HF5 := Lib.hid (HF4.out.later hb4)
    have HF6 := Lib.hid (HF3.out.later hb4)
    clear hb4
    go_wp2_with fail
    refine (awake04_any _).mono ?_
    rintro e w5 ⟨rfl, hb5⟩
    have HB5 := Lib.hid (HB4.out.trans (hb5.mono HB4.out.size))
    clear hb5
    go_wp2_with fail
    go_ret
    exact ⟨rfl, HB5.out⟩

/-! ### THE ROW's STEP: WRITTEN OUT: LEAVE IT -/
set_option maxRecDepth 100000 in
theorem lifted (os : Os) (started : os.Started) (H : Type) (enc : TypeId × Value → H) :
    ReturnsInHanded {} Try.checked os 9 .any (Rows.fieldApartSpec.pre6 enc Try.prog Try.f9 Rows.fieldApartRow.domain false) (Rows.fieldApartSpec.post enc Try.prog Try.f9 false true false false) := by
  refine returnsInHanded_of_change_sized (C := Try.checked) own started (by kernel_rfl) Try.func9
    (ChangeSpec.witness6 (enc := enc) (C := Try.checked) false ⟨#[], #[.slice none 0 0, .int .i64 0, .int .i64 0, .int .i64 0, .int .i64 0, .int .i64 0], []⟩ 8 (by kernel_rfl) (by kernel_rfl) (by kernel_rfl) (by kernel_rfl)) ?_
  intro W base args ds gs before hval0 hW hcnd hsz0 _
  have hsz : (DataW.weightsEach Try.prog (Try.f9.params.toList ++ Rows.fieldApartSpec.plain.varTypes Try.prog) (ds ++ gs)).all (· ≤ reachBytes) = true := hsz0
  clear hsz0
  have hval : ∀ (j : Nat) t v, Try.f9.params[j]? = some t → args[j]? = some v → Value.okWide Try.prog W .any base t v := hval0
  have hW' := hW
  obtain ⟨p, q, hA0, hV, rfl, hfz, hnd⟩ := hW
  have hA : DataW.TrodAll enc Try.prog W 0 (fun _ => true) true Try.f9.params.toList args.toList ds p := hA0
  rw [Try.params9] at hA hval hsz
  obtain ⟨v0, vs0, d0, ds0, p0, q0, hargs, rfl, rfl, h0, r0⟩ := trodAll_cons hA
  obtain ⟨v1, vs1, d1, ds1, p1, q1, rfl, rfl, rfl, h1, r1⟩ := trodAll_cons r0
  obtain ⟨v2, vs2, d2, ds2, p2, q2, rfl, rfl, rfl, h2, r2⟩ := trodAll_cons r1
  obtain ⟨v3, vs3, d3, ds3, p3, q3, rfl, rfl, rfl, h3, r3⟩ := trodAll_cons r2
  obtain ⟨v4, vs4, d4, ds4, p4, q4, rfl, rfl, rfl, h4, r4⟩ := trodAll_cons r3
  obtain ⟨v5, vs5, d5, ds5, p5, q5, rfl, rfl, rfl, h5, r5⟩ := trodAll_cons r4
  obtain ⟨rfl, rfl, rfl⟩ := trodAll_nil r5
  obtain rfl : args = #[v0, v1, v2, v3, v4, v5] := by cases args; simp_all
  obtain ⟨rfl, rfl⟩ := trodVars_none hV
  obtain ⟨a0, len0, cap0, rfl⟩ := okWide_slice Try.underlying22 (hval 0 22 v0 rfl rfl)
  have k0 := h0
  have lt0 : ∀ x ∈ p0, x.block < W.heap.size := by obtain ⟨m, hm⟩ := k0; exact DataW.trod_lt m _ _ _ hm
  obtain ⟨z0, w0, rch0⟩ := open_bytes k0 (fun e s hd => sized_slice hsz (j := 0) (t := 22) (e := 5) rfl (by rw [hd]; rfl) Try.underlying22)
  obtain ⟨a1, rfl, rfl, rfl, w1⟩ := open_int Try.underlying3 (hval 1 3 v1 rfl rfl) h1
  obtain ⟨a2, rfl, rfl, rfl, w2⟩ := open_int Try.underlying3 (hval 2 3 v2 rfl rfl) h2
  obtain ⟨a3, rfl, rfl, rfl, w3⟩ := open_int Try.underlying3 (hval 3 3 v3 rfl rfl) h3
  obtain ⟨a4, rfl, rfl, rfl, w4⟩ := open_int Try.underlying3 (hval 4 3 v4 rfl rfl) h4
  obtain ⟨a5, rfl, rfl, rfl, w5⟩ := open_int Try.underlying3 (hval 5 3 v5 rfl rfl) h5
  clear hA0 hval0
  refine (walk a0 len0 cap0 z0 a1 a2 a3 a4 a5 W w0 rch0 w1 w2 w3 w4 w5).mono fun e W' ⟨he, bel⟩ => ?_
  subst he
  exact ⟨_, rfl, _, _, _, [], _, [], hW', trodAll_mk1 (shut_bool Try.underlying4 _), (trodAll_cons_mk (Below.trod laidOut (by kernel_rfl) (of_decide_eq_true (by kernel_rfl)) k0 bel lt0) (trodAll_cons_mk (shut_int Try.underlying3 w1) (trodAll_cons_mk (shut_int Try.underlying3 w2) (trodAll_cons_mk (shut_int Try.underlying3 w3) (trodAll_cons_mk (shut_int Try.underlying3 w4) (trodAll_cons_mk (shut_int Try.underlying3 w5) trodAll_mk0)))))), rfl, bel.frame _, fun h => by cases h⟩

theorem over : Rows.fieldApartRow.holds Try.pinned (OpenSpec.ofChange Rows.fieldApartSpec) :=
  OpenClaim.holds_of_wide 9 Try.f9 rfl rfl rfl rfl rfl rfl rfl ⟨rfl, rfl, rfl, rfl, rfl⟩ rfl rfl rfl rfl rfl (by kernel_rfl) Try.func9 (by kernel_rfl)
    (of_decide_eq_true (by kernel_rfl)) (by unfold Func.isWrapper; first | (rw [if_pos (by decide +kernel)]; kernel_rfl) | (rw [if_neg (by decide +kernel)]; exact ⟨rfl, rfl⟩))
    (fun os started H enc _ => lifted os started H enc)

/-- THE STATEMENT -/
theorem proved : Rows.FieldApartSaid := over
end Go.Proofs.Ytbabklaecajcbaa.fieldApart
