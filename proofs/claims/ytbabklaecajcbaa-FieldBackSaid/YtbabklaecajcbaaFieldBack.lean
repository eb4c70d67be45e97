/-
  Proved here: what field.Set has set field.Get gets, and no other byte of the block is changed. No conditions.
-/
import Derived.Test.YtbabklaecajcbaaAwake04
import Derived.Test.YtbabklaecajcbaaFieldPut
import Derived.Deep.QuietTactic
import Derived.BigQuiet
namespace Go.Proofs.Ytbabklaecajcbaa.fieldBack
open Go.ChangeShapes Go.WideShapes Go.ChangeAt Go.RowKit
open Go.ChangeMaps (open_string shut_string)
set_option linter.unusedVariables false

set_option maxHeartbeats 1600000 in
theorem walk (a0 : Option Addr) (len0 cap0 : Nat) (z0 : List Int) (a1 : Int) (a2 : Int) (a3 : Int) (a4 : Int) (w : World) (w0 : IsRow .u8 w a0 len0 cap0 z0) (rch0 : cap0 ≤ 140737488351232) (w1 : (Lit.int .i64 a1).wf = true) (w2 : (Lit.int .i64 a2).wf = true) (w3 : (Lit.int .i64 a3).wf = true) (w4 : (Lit.int .i64 a4).wf = true) :
    Calls Try.prog 7 #[.slice a0 len0 cap0, .int .i64 a1, .int .i64 a2, .int .i64 a3, .int .i64 a4] w fun e w' => e = .returned (.bool true) ∧ Below w.heap.size w w' := by
  have hA := w0.arg rch0
  have hp := wf_i64 w1
  have hs := wf_i64 w2
  have hn := wf_i64 w3
  have hq := wf_i64 w4
  obtain ⟨zs, HZ⟩ : ∃ zs, Hid (zs = z0.take len0) := ⟨_, Lib.hid rfl⟩
  rw [← HZ.out] at hA
  clear w0 w1 w2 w3 w4 HZ
  have hl := hA.1.1
  have cX := fSet_any a0 len0 cap0 zs a1 a2 a3 w hA hp hs hn
  have HGB := Lib.hid (fun w2 (h : Below w.heap.size w w2) => fGet_any a0 len0 cap0 zs a4 1 w2 (hA.later h) hq (by decide))
  have HGC := Lib.hid (fun w2 ao cp L (h : Arg w2 ao 64 cp L) => fGet_any ao 64 cp L a1 a2 w2 h hp hs)
  have HGD := Lib.hid (fun w2 ao cp L (h : Arg w2 ao 64 cp L) => fGet_any ao 64 cp L a4 1 w2 h hq (by decide))
  by_cases hx : setErr len0 a1 a2 a3 = 0
  · have o1 := fErr_ok (setErr_ok hx).1
    have h64 := o1.1
    subst h64
    have s1 := o1.2.1
    have s2 := o1.2.2.1
    have p1 := o1.2.2.2.1
    have p2 := o1.2.2.2.2
    have hx' : setErr zs.length a1 a2 a3 = 0 := by rw [hl]; exact hx
    have HX1 := Lib.hid (setOut_length hx')
    have hget := get_set hx'
    have hfe := (setErr_ok hx).1
    have HO : Hid (∀ i : Nat, ¬ (a1 ≤ i ∧ (i : Int) < a1 + a2) → (setOut zs a1 a2 a3).getD i 0 = zs.getD i 0) := Lib.hid (fun i hi => set_other hx' hi)
    have HGO : Hid (¬ (a1 ≤ a4 ∧ a4 < a1 + a2) → getOut (setOut zs a1 a2 a3) a4 1 = getOut zs a4 1) := Lib.hid (fun h => get_other hx' h)
    obtain ⟨b, ob, rfl, hcb⟩ := hA.1.2.2.2.resolve_left (by decide)
    have HCB : Hid (∀ w2, Below w.heap.size w w2 → ∀ j, j < 64 → w2.cell? ⟨b, ob + j, none⟩ = some (.int .u8 (zs.getD j 0))) := Lib.hid (fun w2 h j hj => cell_later h (hcb j hj))
    have HGC := Lib.hid (fun w2 ao cp (h : Arg w2 ao 64 cp (setOut zs a1 a2 a3)) => by have := HGC.out w2 ao cp _ h; rw [hget, hfe] at this; exact this)
    rw [hx] at cX
    have HGD := Lib.hid (fun w2 ao cp (h : Arg w2 ao 64 cp (setOut zs a1 a2 a3)) => HGD.out w2 ao cp _ h)
    clear hA o1 hl hx hx' hget hfe hcb
    generalize setOut zs a1 a2 a3 = L at *
    generalize fErr 64 a4 1 = E at *
    go_enter Try.func7, Try.ntmps7
    go_wp2_with fail
    refine cX.mono ?_
    rintro e w2 ⟨v2, rfl, hf2, hb2⟩
    have HB2 := Lib.hid hb2
    have HF2 := Lib.hid hf2
    clear hb2 hf2 cX
    go_wp2_with fail
    refine (awake04_any _).mono ?_
    rintro e w3 ⟨rfl, hb3⟩
    have HB3 := Lib.hid (HB2.out.trans (hb3.mono HB2.out.size))
    obtain ⟨ao, cp, hv, hAL, hor⟩ := HF2.out.later hb3
    rw [HX1.out] at hv hAL hor
    obtain ⟨g, og, hao, hcg⟩ := hAL.1.2.2.2.resolve_left (by decide)
    subst hao
    rw [hv]
    have HAL := Lib.hid hAL
    have HCG : Hid (∀ w4, Below w3.heap.size w3 w4 → ∀ j, j < 64 → w4.cell? ⟨g, og + j, none⟩ = some (.int .u8 (L.getD j 0))) := Lib.hid (fun w4 h j hj => cell_later h (hcg j hj))
    clear hv hAL hor hcg hb3
    go_wp2_with fail
    refine (HGC.out w3 _ cp HAL.out).mono ?_
    rintro e w' ⟨rfl, rfl⟩
    go_wp2_with fail
    have HW0 : Hid (Below w3.heap.size w3 w3) := Lib.hid (Below.refl _ _)
    go_loopw [15] (fun iv wr => ∃ k : Nat, k ≤ 64 ∧ iv = .int .i64 k ∧ Hid (Below w3.heap.size w3 wr)) (fun iv _ => 64 - (intOf iv).toNat)
    case atStart => exact ⟨0, by decide, rfl, HW0⟩
    case round =>
      obtain ⟨k, hk, rfl, HW⟩ := hrel
      by_cases hlt : k < 64
      · have hc1 := HCG.out wr HW.out k hlt
        have hc2 := HCB.out wr (HB3.out.trans (HW.out.mono HB3.out.size)) k hlt
        have hd : Hid (∀ n, Below w3.heap.size w3 (wr.drewN n)) := Lib.hid (fun n => below_drewN HW.out n)
        have g0 : (0 : Int) ≤ (k : Int) := by omega
        have g1 : (k : Int) < 64 := by omega
        by_cases hin : a1 ≤ (k : Int) ∧ (k : Int) < a1 + a2
        · obtain ⟨i1, i2⟩ := hin
          have j1 : decide ((k : Int) < a1) = false := by simpa using i1
          have j2 : decide (a1 + a2 ≤ (k : Int)) = false := by simpa using i2
          go_wp2_with fail
          go_quiet (fail)
          go_wp2_with fail
          exact ⟨⟨k + 1, by omega, by go_num, Lib.hid (hd.out _)⟩, by simp [intOf]; omega⟩
        · rw [HO.out k hin] at hc1
          obtain ⟨x, HX⟩ : ∃ x, Hid (zs.getD k 0 = x) := ⟨_, Lib.hid rfl⟩
          rw [HX.out] at hc1 hc2
          by_cases hlo : (k : Int) < a1
          · go_wp2_with fail
            go_quiet (fail)
            go_wp2_with fail
            exact ⟨⟨k + 1, by omega, by go_num, Lib.hid (hd.out _)⟩, by simp [intOf]; omega⟩
          · have hhi : a1 + a2 ≤ (k : Int) := by omega
            have j1 : decide ((k : Int) < a1) = false := by simpa using hlo
            have hw : IntKind.i64.wrap (a1 + a2) = a1 + a2 := IntWalk.i64_in _ (by omega)
            go_wp2_with fail
            go_quiet (fail)
            go_wp2_with fail
            exact ⟨⟨k + 1, by omega, by go_num, Lib.hid (hd.out _)⟩, by simp [intOf]; omega⟩
      · have hk64 : k = 64 := by omega
        subst hk64
        have HBW := Lib.hid (HB3.out.trans (HW.out.mono HB3.out.size))
        have cB := HGB.out wr HBW.out
        have cC := HGD.out wr _ cp (HAL.out.later HW.out)
        have hGO := HGO.out
        obtain ⟨X, HX⟩ : ∃ X, Hid (getOut zs a4 1 = X) := ⟨_, Lib.hid rfl⟩
        obtain ⟨Y, HY⟩ : ∃ Y, Hid (getOut L a4 1 = Y) := ⟨_, Lib.hid rfl⟩
        rw [HX.out] at cB hGO
        rw [HY.out] at cC hGO
        by_cases hXY : X = Y
        · have hb : (X == Y) = true := by simp; exact hXY
          clear hGO hXY
          go_wp2_with (go_at_call 13; first | ((with_reducible refine cB.mono ?_); rintro e w' ⟨rfl, rfl⟩) | ((with_reducible refine cC.mono ?_); rintro e w' ⟨rfl, rfl⟩))
          go_ret
          exact ⟨rfl, HBW.out⟩
        · have hb : (X == Y) = false := by simp; exact hXY
          have hin : a1 ≤ a4 ∧ a4 < a1 + a2 := Decidable.byContradiction (fun h => hXY (hGO h).symm)
          obtain ⟨i1, i2⟩ := hin
          clear hGO hXY
          go_wp2_with (go_at_call 13; first | ((with_reducible refine cB.mono ?_); rintro e w' ⟨rfl, rfl⟩) | ((with_reducible refine cC.mono ?_); rintro e w' ⟨rfl, rfl⟩))
          go_ret
          exact ⟨rfl, HBW.out⟩
  · obtain ⟨E, HE⟩ : ∃ E, Hid (setErr len0 a1 a2 a3 = E) := ⟨_, Lib.hid rfl⟩
    have hO : setOut zs a1 a2 a3 = [] := setOut_err (by rw [hl]; exact hx)
    rw [hO, HE.out] at cX
    rw [HE.out] at hx
    have hne : (E != 0) = true := by simp; exact hx
    clear hx hl hA hO HGB HGC HGD
    go_enter Try.func7, Try.ntmps7
    go_wp2_with fail
    refine cX.mono ?_
    rintro e w2 ⟨v2, rfl, hf2, hb2⟩
    have HB2 := Lib.hid hb2
    obtain ⟨ao2, cp2, hv2, _, _⟩ := hf2
    rw [hv2]
    clear hv2 hb2 cX
    go_wp2_with fail
    refine (awake04_any _).mono ?_
    rintro e w3 ⟨rfl, hb3⟩
    have HB3 := Lib.hid (HB2.out.trans (hb3.mono HB2.out.size))
    clear hb3
    go_wp2_with fail
    refine (awake04_any _).mono ?_
    rintro e w4 ⟨rfl, hb4⟩
    have HB4 := Lib.hid (HB3.out.trans (hb4.mono HB3.out.size))
    clear hb4
    go_wp2_with fail
    go_ret
    exact ⟨rfl, HB4.out⟩

/-! ### THE ROW's STEP: WRITTEN OUT: LEAVE IT -/
set_option maxRecDepth 100000 in
theorem lifted (os : Os) (started : os.Started) (H : Type) (enc : TypeId × Value → H) :
    ReturnsInHanded {} Try.checked os 7 .any (Rows.fieldBackSpec.pre6 enc Try.prog Try.f7 Rows.fieldBackRow.domain false) (Rows.fieldBackSpec.post enc Try.prog Try.f7 false true false false) := by
  refine returnsInHanded_of_change_sized (C := Try.checked) own started (by kernel_rfl) Try.func7
    (ChangeSpec.witness6 (enc := enc) (C := Try.checked) false ⟨#[], #[.slice none 0 0, .int .i64 0, .int .i64 0, .int .i64 0, .int .i64 0], []⟩ 8 (by kernel_rfl) (by kernel_rfl) (by kernel_rfl) (by kernel_rfl)) ?_
  intro W base args ds gs before hval0 hW hcnd hsz0 _
  have hsz : (DataW.weightsEach Try.prog (Try.f7.params.toList ++ Rows.fieldBackSpec.plain.varTypes Try.prog) (ds ++ gs)).all (· ≤ reachBytes) = true := hsz0
  clear hsz0
  have hval : ∀ (j : Nat) t v, Try.f7.params[j]? = some t → args[j]? = some v → Value.okWide Try.prog W .any base t v := hval0
  have hW' := hW
  obtain ⟨p, q, hA0, hV, rfl, hfz, hnd⟩ := hW
  have hA : DataW.TrodAll enc Try.prog W 0 (fun _ => true) true Try.f7.params.toList args.toList ds p := hA0
  rw [Try.params7] at hA hval hsz
  obtain ⟨v0, vs0, d0, ds0, p0, q0, hargs, rfl, rfl, h0, r0⟩ := trodAll_cons hA
  obtain ⟨v1, vs1, d1, ds1, p1, q1, rfl, rfl, rfl, h1, r1⟩ := trodAll_cons r0
  obtain ⟨v2, vs2, d2, ds2, p2, q2, rfl, rfl, rfl, h2, r2⟩ := trodAll_cons r1
  obtain ⟨v3, vs3, d3, ds3, p3, q3, rfl, rfl, rfl, h3, r3⟩ := trodAll_cons r2
  obtain ⟨v4, vs4, d4, ds4, p4, q4, rfl, rfl, rfl, h4, r4⟩ := trodAll_cons r3
  obtain ⟨rfl, rfl, rfl⟩ := trodAll_nil r4
  obtain rfl : args = #[v0, v1, v2, v3, v4] := by cases args; simp_all
  obtain ⟨rfl, rfl⟩ := trodVars_none hV
  obtain ⟨a0, len0, cap0, rfl⟩ := okWide_slice Try.underlying22 (hval 0 22 v0 rfl rfl)
  have k0 := h0
  have lt0 : ∀ x ∈ p0, x.block < W.heap.size := by obtain ⟨m, hm⟩ := k0; exact DataW.trod_lt m _ _ _ hm
  obtain ⟨z0, w0, rch0⟩ := open_bytes k0 (fun e s hd => sized_slice hsz (j := 0) (t := 22) (e := 5) rfl (by rw [hd]; rfl) Try.underlying22)
  obtain ⟨a1, rfl, rfl, rfl, w1⟩ := open_int Try.underlying3 (hval 1 3 v1 rfl rfl) h1
  obtain ⟨a2, rfl, rfl, rfl, w2⟩ := open_int Try.underlying3 (hval 2 3 v2 rfl rfl) h2
  obtain ⟨a3, rfl, rfl, rfl, w3⟩ := open_int Try.underlying3 (hval 3 3 v3 rfl rfl) h3
  obtain ⟨a4, rfl, rfl, rfl, w4⟩ := open_int Try.underlying3 (hval 4 3 v4 rfl rfl) h4
  clear hA0 hval0
  refine (walk a0 len0 cap0 z0 a1 a2 a3 a4 W w0 rch0 w1 w2 w3 w4).mono fun e W' ⟨he, bel⟩ => ?_
  subst he
  exact ⟨_, rfl, _, _, _, [], _, [], hW', trodAll_mk1 (shut_bool Try.underlying4 _), (trodAll_cons_mk (Below.trod laidOut (by kernel_rfl) (of_decide_eq_true (by kernel_rfl)) k0 bel lt0) (trodAll_cons_mk (shut_int Try.underlying3 w1) (trodAll_cons_mk (shut_int Try.underlying3 w2) (trodAll_cons_mk (shut_int Try.underlying3 w3) (trodAll_cons_mk (shut_int Try.underlying3 w4) trodAll_mk0))))), rfl, bel.frame _, fun h => by cases h⟩

theorem over : Rows.fieldBackRow.holds Try.pinned (OpenSpec.ofChange Rows.fieldBackSpec) :=
  OpenClaim.holds_of_wide 7 Try.f7 rfl rfl rfl rfl rfl rfl rfl ⟨rfl, rfl, rfl, rfl, rfl⟩ rfl rfl rfl rfl rfl (by kernel_rfl) Try.func7 (by kernel_rfl)
    (of_decide_eq_true (by kernel_rfl)) (by unfold Func.isWrapper; first | (rw [if_pos (by decide +kernel)]; kernel_rfl) | (rw [if_neg (by decide +kernel)]; exact ⟨rfl, rfl⟩))
    (fun os started H enc _ => lifted os started H enc)

/-- THE STATEMENT -/
theorem proved : Rows.FieldBackSaid := over
end Go.Proofs.Ytbabklaecajcbaa.fieldBack
