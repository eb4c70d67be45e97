/-
  Proved here: the flags that flags.Count counts and the runs that flags.Down tells are all blocks between the two, and no run touches the next. No conditions.
-/
import Derived.Test.YtlocjhhbkjgocaaAwake05
import Derived.Deep.QuietTactic
import Derived.BigQuiet
namespace Go.Proofs.Ytlocjhhbkjgocaa.flagsAll
open Go.ChangeShapes Go.WideShapes Go.ChangeAt Go.RowKit
open Go.ChangeMaps (open_string shut_string)
set_option linter.unusedVariables false

set_option maxRecDepth 100000 in
set_option maxHeartbeats 1600000 in
theorem walk (a0 : Option Addr) (len0 cap0 : Nat) (z0 : List Int) (a1 : Int) (a2 : Int) (w : World) (w0 : IsRow .u8 w a0 len0 cap0 z0) (rch0 : cap0 ≤ 140737488351232) (w1 : (Lit.int .i64 a1).wf = true) (w2 : (Lit.int .i64 a2).wf = true) :
    Calls Try.prog 6 #[.slice a0 len0 cap0, .int .i64 a1, .int .i64 a2] w fun e w' => e = .returned (.bool true) ∧ Below w.heap.size w w' := by
  have hA := w0.arg rch0
  have hp := wf_i64 w1
  have hq := wf_i64 w2
  obtain ⟨zs, HZ⟩ : ∃ zs, Hid (zs = z0.take len0) := ⟨_, Lib.hid rfl⟩
  rw [← HZ.out] at hA
  clear w0 w1 w2 HZ
  have hl := hA.1.1
  have cX := xDown_any a0 len0 cap0 zs a1 a2 w hA hp hq
  by_cases hE : downErr len0 a1 a2 = 0
  · obtain ⟨k1, k2, k3, k4, k5, k6⟩ := all_sum (zs := zs) (lo := a1) (hi := a2) (by rw [hl]; exact hE)
    have HC1 := Lib.hid (fun w2 (h : Below w.heap.size w w2) => by have := xCount_any a0 len0 cap0 zs a1 w2 (hA.later h) hp; rw [← hl, k1] at this; exact this)
    have HC2 := Lib.hid (fun w2 (h : Below w.heap.size w w2) => by have := xCount_any a0 len0 cap0 zs a2 w2 (hA.later h) hq; rw [← hl, k2] at this; exact this)
    rw [hE] at cX
    have hX0 : 0 ≤ cntOut zs a1 ∧ cntOut zs a1 ≤ 480 := by
      unfold cntOut
      rw [if_pos k1]
      have := cnt_le (flag zs) a1.toNat
      omega
    have hY0 : 0 ≤ cntOut zs a2 ∧ cntOut zs a2 ≤ 480 := by
      unfold cntOut
      rw [if_pos k2]
      have := cnt_le (flag zs) a2.toNat
      omega
    have HRise := Lib.hid (down_rise zs a1 a2)
    have HM := Lib.hid (down_bound (zs := zs) (lo := a1) (hi := a2))
    have hlen := down_length zs a1 a2
    clear hA hE k1 k2
    rw [← hl] at cX ⊢
    clear hl
    generalize cntOut zs a1 = X at *
    generalize cntOut zs a2 = Y at *
    generalize downOut zs a1 a2 = l at *
    generalize zs.length = len at *
    obtain ⟨n, hn⟩ : ∃ n, l.length = n := ⟨_, rfl⟩
    rw [hn] at hlen
    have HN := Lib.hid hn
    have HK3 := Lib.hid k3
    obtain ⟨hX1, hX2⟩ := hX0
    obtain ⟨hY1, hY2⟩ := hY0
    have hsl : sumG l ≤ 960 := by omega
    have HSL := Lib.hid hsl
    clear hn k3 hsl hp hq
    go_enter Try.func6, Try.ntmps6
    go_wp2_with fail
    refine cX.mono ?_
    rintro e w2 ⟨v2, xs, rfl, hf2, hs2, hb2⟩
    have HB2 := Lib.hid hb2
    have HS2 := Lib.hid hs2
    obtain ⟨ao2, c2, hv2, hV2, _, _⟩ := hf2
    rw [hs2.1, HN.out] at hv2 hV2
    have HV2 := Lib.hid hV2
    rw [hv2]
    clear hv2 hV2 hs2 hb2 cX
    go_wp2_with fail
    refine (awake05_any _).mono ?_
    rintro e w3 ⟨rfl, hb3⟩
    have HB23 := Lib.hid hb3
    have HB3 := Lib.hid (HB2.out.trans (hb3.mono HB2.out.size))
    clear hb3
    have cC1 := HC1.out w3 HB3.out
    go_wp2_with fail
    refine cC1.mono ?_
    rintro e w4 ⟨rfl, hb4⟩
    have HB24 := Lib.hid (HB23.out.trans (hb4.mono HB23.out.size))
    have HB4 := Lib.hid (HB3.out.trans (hb4.mono HB3.out.size))
    clear hb4 cC1
    have cC2 := HC2.out w4 HB4.out
    go_wp2_with fail
    refine cC2.mono ?_
    rintro e w5 ⟨rfl, hb5⟩
    have HB25 := Lib.hid (HB24.out.trans (hb5.mono HB24.out.size))
    have HB5 := Lib.hid (HB4.out.trans (hb5.mono HB4.out.size))
    clear hb5 cC2
    have HV5 := Lib.hid (HV2.out.later HB25.out)
    go_wp2_with fail
    have HW0 : Hid (Below w5.heap.size w5 w5) := Lib.hid (Below.refl _ _)
    go_loopw [13, 14] (fun nv iv wr => ∃ i : Nat, i ≤ n ∧ iv = .int .i64 i ∧ nv = .int .i64 (sumG (l.take i) : Nat) ∧ Hid (Below w5.heap.size w5 wr)) (fun _ iv _ => n - (intOf iv).toNat)
    case atStart => exact ⟨0, Nat.zero_le _, rfl, rfl, HW0⟩
    case round =>
      obtain ⟨i, hi, rfl, rfl, HW⟩ := hrel
      have hst := sumG_take_le l i
      have hsl := HSL.out
      by_cases hlt : i < n
      · have hV := HV5.out.later HW.out
        obtain ⟨g, og, hg, hc⟩ := hV.2.2.resolve_left (by omega)
        subst hg
        obtain ⟨x, hx⟩ : ∃ x, xs[i]? = some x := ⟨_, List.getElem?_eq_getElem (by rw [HS2.out.1, HN.out]; exact hlt)⟩
        obtain ⟨p, hp⟩ : ∃ p, l[i]? = some p := ⟨_, List.getElem?_eq_getElem (by rw [HN.out]; exact hlt)⟩
        have hcell := hc i x hx
        obtain ⟨x1, x2, rfl, f1, f2⟩ := HS2.out.2 i x p hx hp
        obtain ⟨b1, b2, _⟩ := HM.out p (List.mem_of_getElem? hp)
        have HT := Lib.hid (sumG_take hp)
        have hst2 := sumG_take_le l (i + 1)
        rw [HT.out] at hst2
        have hv2 := fi_toInt .i64 f2 (by show -9223372036854775808 ≤ (p.2 : Int); omega) (by show (p.2 : Int) ≤ 9223372036854775807; omega)
        have o2 : ∀ w, (convert 40 3 (.float .f64 x2)).run Try.prog w = .ok (.int .i64 (p.2 : Int)) w := fun w => run_convert_float_int w 40 3 .f64 .i64 x2 (p.2 : Int) (by rw [Try.underlying40]; rfl) Try.underlying3 hv2
        have HD : Hid (∀ n, Below w5.heap.size w5 (wr.drewN n)) := Lib.hid (fun n => below_drewN HW.out n)
        obtain ⟨S, HS⟩ : ∃ S, Hid (S = sumG (l.take i)) := ⟨_, Lib.hid rfl⟩
        rw [← HS.out] at hst hst2 HT ⊢
        have i2 : (i : Int) < (n : Int) := by omega
        clear hv2 hV
        rcases Nat.eq_zero_or_pos i with h0 | h0
        · have hd : decide (0 < i) = false := by rw [h0]; rfl
          clear hc hx hp f1 f2 h0
          go_wp2_with fail
          go_quiet (fail)
          clear hd
          go_wp2_with fail
          go_roundw
          case rel => exact ⟨i + 1, by omega, by go_num, by rw [HT.out]; go_num, Lib.hid (HD.out _)⟩
          case measure => simp [intOf]; omega
        · obtain ⟨j, hj⟩ : ∃ j, i = j + 1 := ⟨i - 1, by omega⟩
          obtain ⟨y, hy⟩ : ∃ y, xs[j]? = some y := ⟨_, List.getElem?_eq_getElem (by rw [HS2.out.1, HN.out]; omega)⟩
          obtain ⟨q, hq⟩ : ∃ q, l[j]? = some q := ⟨_, List.getElem?_eq_getElem (by rw [HN.out]; omega)⟩
          have hcell2 := hc j y hy
          obtain ⟨y1, y2, rfl, f3, f4⟩ := HS2.out.2 j y q hy hq
          obtain ⟨d1, d2, _⟩ := HM.out q (List.mem_of_getElem? hq)
          have hr := HRise.out.next (i := j) hq (by rw [← hj]; exact hp)
          obtain ⟨r, hr1, hr2⟩ := fi_add f3 f4 (by omega)
          have o3 : ∀ t w, (binOp .add t (.float .f64 y1) (.float .f64 y2)).run Try.prog w = .ok (.float .f64 r) w := fun t w => run_float_arith w .add t .f64 y1 y2 r hr1
          have o4 := fi_gt f1 hr2 (by omega)
          have hd : decide (0 < i) = true := by simpa using h0
          have hw : IntKind.i64.wrap ((i : Int) - 1) = (j : Int) := by rw [IntWalk.i64_in _ (by omega)]; omega
          have j2 : (j : Int) < (n : Int) := by omega
          clear hc hx hp f1 f2 hy hq f3 f4 hr hr1 hr2 hj
          go_wp2_with fail
          go_quiet (fail)
          clear hd hw
          go_wp2_with fail
          go_roundw
          case rel => exact ⟨i + 1, by omega, by go_num, by rw [HT.out]; go_num, Lib.hid (HD.out _)⟩
          case measure => simp [intOf]; omega
      · have hin : i = n := by omega
        have HT : Hid (sumG (l.take i) = sumG l) := Lib.hid (by rw [hin, ← HN.out, List.take_length])
        rw [HT.out]
        have hk := HK3.out
        subst hin
        generalize sumG l = S at *
        go_wp2_with fail
        go_ret
        exact ⟨rfl, HB5.out.trans (HW.out.mono HB5.out.size)⟩
  · obtain ⟨E, HE⟩ : ∃ E, Hid (downErr len0 a1 a2 = E) := ⟨_, Lib.hid rfl⟩
    rw [HE.out] at cX hE
    have hne : (E != 0) = true := by simp; exact hE
    clear hA hl hE hp hq
    generalize downOut zs a1 a2 = l at *
    go_enter Try.func6, Try.ntmps6
    go_wp2_with fail
    refine cX.mono ?_
    rintro e w2 ⟨v2, xs, rfl, hf2, hs2, hb2⟩
    have HB2 := Lib.hid hb2
    obtain ⟨ao2, c2, hv2, _, _, _⟩ := hf2
    rw [hv2]
    clear hv2 hs2 hb2 cX
    go_wp2_with fail
    refine (awake05_any _).mono ?_
    rintro e w3 ⟨rfl, hb3⟩
    have HB3 := Lib.hid (HB2.out.trans (hb3.mono HB2.out.size))
    clear hb3
    go_wp2_with fail
    refine (awake05_any _).mono ?_
    rintro e w4 ⟨rfl, hb4⟩
    have HB4 := Lib.hid (HB3.out.trans (hb4.mono HB3.out.size))
    clear hb4
    go_wp2_with fail
    go_ret
    exact ⟨rfl, HB4.out⟩

/-! ### THE ROW's STEP: WRITTEN OUT: LEAVE IT -/
set_option maxRecDepth 100000 in
theorem lifted (os : Os) (started : os.Started) (H : Type) (enc : TypeId × Value → H) :
    ReturnsInHanded {} Try.checked os 6 .any (Rows.flagsAllSpec.pre6 enc Try.prog Try.f6 Rows.flagsAllRow.domain false) (Rows.flagsAllSpec.post enc Try.prog Try.f6 false true false false) := by
  refine returnsInHanded_of_change_sized (C := Try.checked) own started (by kernel_rfl) Try.func6
    (ChangeSpec.witness6 (enc := enc) (C := Try.checked) false ⟨#[], #[.slice none 0 0, .int .i64 0, .int .i64 0], []⟩ 8 (by kernel_rfl) (by kernel_rfl) (by kernel_rfl) (by kernel_rfl)) ?_
  intro W base args ds gs before hval0 hW hcnd hsz0 _
  have hsz : (DataW.weightsEach Try.prog (Try.f6.params.toList ++ Rows.flagsAllSpec.plain.varTypes Try.prog) (ds ++ gs)).all (· ≤ reachBytes) = true := hsz0
  clear hsz0
  have hval : ∀ (j : Nat) t v, Try.f6.params[j]? = some t → args[j]? = some v → Value.okWide Try.prog W .any base t v := hval0
  have hW' := hW
  obtain ⟨p, q, hA0, hV, rfl, hfz, hnd⟩ := hW
  have hA : DataW.TrodAll enc Try.prog W 0 (fun _ => true) true Try.f6.params.toList args.toList ds p := hA0
  rw [Try.params6] at hA hval hsz
  obtain ⟨v0, vs0, d0, ds0, p0, q0, hargs, rfl, rfl, h0, r0⟩ := trodAll_cons hA
  obtain ⟨v1, vs1, d1, ds1, p1, q1, rfl, rfl, rfl, h1, r1⟩ := trodAll_cons r0
  obtain ⟨v2, vs2, d2, ds2, p2, q2, rfl, rfl, rfl, h2, r2⟩ := trodAll_cons r1
  obtain ⟨rfl, rfl, rfl⟩ := trodAll_nil r2
  obtain rfl : args = #[v0, v1, v2] := by cases args; simp_all
  obtain ⟨rfl, rfl⟩ := trodVars_none hV
  obtain ⟨a0, len0, cap0, rfl⟩ := okWide_slice Try.underlying22 (hval 0 22 v0 rfl rfl)
  have k0 := h0
  have lt0 : ∀ x ∈ p0, x.block < W.heap.size := by obtain ⟨m, hm⟩ := k0; exact DataW.trod_lt m _ _ _ hm
  obtain ⟨z0, w0, rch0⟩ := open_bytes k0 (fun e s hd => sized_slice hsz (j := 0) (t := 22) (e := 5) rfl (by rw [hd]; rfl) Try.underlying22)
  obtain ⟨a1, rfl, rfl, rfl, w1⟩ := open_int Try.underlying3 (hval 1 3 v1 rfl rfl) h1
  obtain ⟨a2, rfl, rfl, rfl, w2⟩ := open_int Try.underlying3 (hval 2 3 v2 rfl rfl) h2
  clear hA0 hval0
  refine (walk a0 len0 cap0 z0 a1 a2 W w0 rch0 w1 w2).mono fun e W' ⟨he, bel⟩ => ?_
  subst he
  exact ⟨_, rfl, _, _, _, [], _, [], hW', trodAll_mk1 (shut_bool Try.underlying4 _), (trodAll_cons_mk (Below.trod laidOut (by kernel_rfl) (of_decide_eq_true (by kernel_rfl)) k0 bel lt0) (trodAll_cons_mk (shut_int Try.underlying3 w1) (trodAll_cons_mk (shut_int Try.underlying3 w2) trodAll_mk0))), rfl, bel.frame _, fun h => by cases h⟩

theorem over : Rows.flagsAllRow.holds Try.pinned (OpenSpec.ofChange Rows.flagsAllSpec) :=
  OpenClaim.holds_of_wide 6 Try.f6 rfl rfl rfl rfl rfl rfl rfl ⟨rfl, rfl, rfl, rfl, rfl⟩ rfl rfl rfl rfl rfl (by kernel_rfl) Try.func6 (by kernel_rfl)
    (of_decide_eq_true (by kernel_rfl)) (by unfold Func.isWrapper; first | (rw [if_pos (by decide +kernel)]; kernel_rfl) | (rw [if_neg (by decide +kernel)]; exact ⟨rfl, rfl⟩))
    (fun os started H enc _ => lifted os started H enc)

/-- THE STATEMENT -/
theorem proved : Rows.FlagsAllSaid := over
end Go.Proofs.Ytlocjhhbkjgocaa.flagsAll
