/-
  Proved here: choose.Some of as many blocks as are free answers all gaps, and of one more there is no room. No conditions.
-/
import Derived.Test.YtfhfjnfejcggcaaAwake06
namespace Go.Proofs.Ytfhfjnfejcggcaa.chooseAll
open Go.ChangeShapes Go.WideShapes Go.ChangeAt Go.RowKit
open Go.ChangeMaps (open_string shut_string)
set_option linter.unusedVariables false

theorem all_err {len : Nat} {n lo hi : Int} {l : List (Nat × Nat)} (hd : downErr len lo hi = 0) (h1 : 1 ≤ n) (h2 : n ≤ 480) : gapErr len n lo hi = 0 := by
  unfold gapErr
  rw [if_neg (by simp [hd]), if_neg (by omega)]

set_option maxRecDepth 100000 in
set_option maxHeartbeats 3200000 in
theorem walk (a0 : Option Addr) (len0 cap0 : Nat) (z0 : List Int) (a1 : Int) (a2 : Int) (w : World) (w0 : IsRow .u8 w a0 len0 cap0 z0) (rch0 : cap0 ≤ 140737488351232) (w1 : (Lit.int .i64 a1).wf = true) (w2 : (Lit.int .i64 a2).wf = true) :
    Calls Try.prog 8 #[.slice a0 len0 cap0, .int .i64 a1, .int .i64 a2] w fun e w' => e = .returned (.bool true) ∧ Below w.heap.size w w' := by
  have hA := w0.arg rch0
  have hp := wf_i64 w1
  have hq := wf_i64 w2
  obtain ⟨zs, HZ⟩ : ∃ zs, Hid (zs = z0.take len0) := ⟨_, Lib.hid rfl⟩
  rw [← HZ.out] at hA
  clear w0 w1 w2 HZ
  have HA := Lib.hid hA
  have c1 := Down05_any a0 len0 cap0 zs a1 a2 w hA hp hq
  have C2 := Lib.hid (fun (n : Int) w2 (hn : -9223372036854775808 ≤ n ∧ n ≤ 9223372036854775807) (h : Below w.heap.size w w2) => cSome_any a0 len0 cap0 zs n a1 a2 w2 (HA.out.later h) hn hp hq)
  have HG := Lib.hid (fun (n : Int) (hd : downErr len0 a1 a2 = 0) (h1 : 1 ≤ n) (h2 : n ≤ 480) => all_err (l := downOut zs a1 a2) hd h1 h2)
  have HRise := Lib.hid (down_rise zs a1 a2)
  have HM := Lib.hid (down_bound (zs := zs) (lo := a1) (hi := a2))
  have hlen := down_length zs a1 a2
  have hsum : downErr len0 a1 a2 = 0 → sumG (downOut zs a1 a2) ≤ 480 := fun h => by
    have hd : downErr zs.length a1 a2 = 0 := by rw [hA.1.1]; exact h
    have hb := all_sum hd
    have e := gaps_sum (downs zs) (a2.toNat - a1.toNat) a1.toNat a1.toNat (Nat.le_refl _)
    have e2 := cnt_le (downs zs) (a1.toNat + (a2.toNat - a1.toNat))
    unfold downOut
    rw [if_pos hd]
    omega
  have hnil : downErr len0 a1 a2 ≠ 0 → downOut zs a1 a2 = [] := fun h => by
    unfold downOut
    rw [if_neg (by rw [hA.1.1]; exact h)]
  clear hA hp hq HA
  generalize downOut zs a1 a2 = l at *
  generalize downErr len0 a1 a2 = F at *
  have hsum2 : sumG l ≤ 480 := by
    by_cases h : F = 0
    · exact hsum h
    · rw [hnil h]; exact Nat.zero_le _
  have HNil := Lib.hid hnil
  obtain ⟨n, hn⟩ : ∃ n, l.length = n := ⟨_, rfl⟩
  rw [hn] at hlen
  have HN := Lib.hid hn
  have HS := Lib.hid hsum2
  clear hn hsum hnil hsum2
  go_enter Try.func8, Try.ntmps8
  go_wp2_with fail
  refine c1.mono ?_
  rintro e w2 ⟨v2, xs, rfl, hf2, hs2, hb2⟩
  have HB2 := Lib.hid hb2
  have HS2 := Lib.hid hs2
  obtain ⟨ao2, c2, hv2, hV2, _, _⟩ := hf2
  rw [hs2.1, HN.out] at hv2 hV2
  have HV2 := Lib.hid hV2
  rw [hv2]
  clear hv2 hV2 hs2 hb2 c1
  go_wp2_with fail
  go_loop [9, 10] (fun nv iv => ∃ i : Nat, i ≤ n ∧ iv = .int .i64 i ∧ nv = .int .i64 (sumG (l.take i) : Nat)) (fun _ iv => n - (intOf iv).toNat)
  case atStart => exact ⟨0, Nat.zero_le _, rfl, rfl⟩
  case round =>
    obtain ⟨i, hi, rfl, rfl⟩ := hrel
    have hst := sumG_take_le l i
    have hsl := HS.out
    by_cases hlt : i < n
    · obtain ⟨g, og, hg, hc⟩ := HV2.out.2.2.resolve_left (by omega)
      subst hg
      obtain ⟨x, hx⟩ : ∃ x, xs[i]? = some x := ⟨_, List.getElem?_eq_getElem (by rw [HS2.out.1, HN.out]; exact hlt)⟩
      obtain ⟨p, hp⟩ : ∃ p, l[i]? = some p := ⟨_, List.getElem?_eq_getElem (by rw [HN.out]; exact hlt)⟩
      have hcell := hc i x hx
      obtain ⟨x1, x2, rfl, f1, f2⟩ := HS2.out.2 i x p hx hp
      obtain ⟨b1, b2, _⟩ := HM.out p (List.mem_of_getElem? hp)
      have HT := Lib.hid (sumG_take hp)
      have hst2 := sumG_take_le l (i + 1)
      rw [HT.out] at hst2
      have hv2 := fi_toInt .i64 f2 (by show -9223372036854775808 ≤ (p.2 : Int); omega) (by show (p.2 : Int) ≤ 9223372036854775807; omega)
      have o2 : ∀ w, (convert 38 3 (.float .f64 x2)).run Try.prog w = .ok (.int .i64 (p.2 : Int)) w := fun w => run_convert_float_int w 38 3 .f64 .i64 x2 (p.2 : Int) (by rw [Try.underlying38]; rfl) Try.underlying3 hv2
      obtain ⟨S, HSS⟩ : ∃ S, Hid (S = sumG (l.take i)) := ⟨_, Lib.hid rfl⟩
      rw [← HSS.out] at hst hst2 HT ⊢
      have i2 : (i : Int) < (n : Int) := by omega
      clear hv2 hc hx hp f1 f2
      go_wp2_with fail
      go_round
      case rel => exact ⟨i + 1, by omega, by go_num, by rw [HT.out]; go_num⟩
      case measure => simp [intOf]; omega
    · have hin : i = n := by omega
      have HT : Hid (sumG (l.take i) = sumG l) := Lib.hid (by rw [hin, ← HN.out, List.take_length])
      rw [HT.out]
      clear hst
      subst hin
      obtain ⟨S, HSS⟩ : ∃ S, Hid (S = sumG l) := ⟨_, Lib.hid rfl⟩
      rw [← HSS.out] at hsl ⊢
      have hFS : F ≠ 0 → S = 0 := fun h => by rw [HSS.out, HNil.out h]; rfl
      by_cases hF0 : F = 0
      · by_cases hS0 : S = 0
        · subst hS0
          subst hF0
          clear hFS
          rw [show (((0 : Nat) : Int)) = 0 from rfl]
          go_wp2_with fail
          refine (awake06_any _).mono ?_
          rintro e w3 ⟨rfl, hb3⟩
          have HB3 := Lib.hid (HB2.out.trans (hb3.mono HB2.out.size))
          clear hb3
          go_wp2_with fail
          refine (awake06_any _).mono ?_
          rintro e w4 ⟨rfl, hb4⟩
          have HB4 := Lib.hid (HB3.out.trans (hb4.mono HB3.out.size))
          clear hb4
          go_wp2_with fail
          go_ret
          exact ⟨rfl, HB4.out⟩
        · by_cases hS4 : S = 480
          · subst hS4
            subst hF0
            clear hFS hS0
            rw [show (((480 : Nat) : Int)) = 480 from rfl]
            go_wp2_with fail
            refine (awake06_any _).mono ?_
            rintro e w3 ⟨rfl, hb3⟩
            have HB3 := Lib.hid (HB2.out.trans (hb3.mono HB2.out.size))
            clear hb3
            go_wp2_with fail
            refine (awake06_any _).mono ?_
            rintro e w4 ⟨rfl, hb4⟩
            have HB4 := Lib.hid (HB3.out.trans (hb4.mono HB3.out.size))
            clear hb4
            go_wp2_with fail
            go_ret
            exact ⟨rfl, HB4.out⟩
          · have n1 : ((S : Int) == 0) = false := by simp; omega
            have n2 : ((S : Int) == 480) = false := by simp; omega
            have hS1 : 1 ≤ S := by omega
            have hS2 : S < 480 := by omega
            have HO : Hid (someOut (gapErr len0 S a1 a2) l S = l) := Lib.hid (by
              unfold someOut
              rw [HG.out S hF0 (by omega) (by omega), if_pos ⟨rfl, by rw [HSS.out]; exact Nat.le_refl _⟩, HSS.out]
              exact someOf_all HRise.out (fun q hq => (HM.out q hq).2.1))
            have HE : Hid (someErr (gapErr len0 S a1 a2) l S = 0) := Lib.hid (by
              unfold someErr
              rw [HG.out S hF0 (by omega) (by omega), if_pos rfl, if_neg (by rw [HSS.out]; exact Nat.lt_irrefl _)])
            have HE2 : Hid (someErr (gapErr len0 ((S : Int) + 1) a1 a2) l (S + 1) = 6) := Lib.hid (by
              unfold someErr
              rw [HG.out ((S : Int) + 1) hF0 (by omega) (by omega), if_pos rfl, if_pos (by rw [← HSS.out]; exact Nat.lt_succ_self _)])
            subst hF0
            clear hFS hS0 hS4
            go_wp2_with fail
            refine (awake06_any _).mono ?_
            rintro e w3 ⟨rfl, hb3⟩
            have HB23 := Lib.hid hb3
            have HB3 := Lib.hid (HB2.out.trans (hb3.mono HB2.out.size))
            clear hb3
            have c3 := C2.out (S : Int) w3 (by omega) HB3.out
            rw [show Int.toNat (S : Int) = S by omega, HO.out, HE.out] at c3
            go_wp2_with fail
            refine c3.mono ?_
            rintro e w4 ⟨v4, ys, rfl, hf4, hs4, hb4⟩
            have HB34 := Lib.hid (hb4.mono (Nat.le_refl _))
            have HB4 := Lib.hid (HB3.out.trans (hb4.mono HB3.out.size))
            obtain ⟨ao4, c4, hv4, hV4, _, _⟩ := hf4
            rw [hs4.1, HN.out] at hv4 hV4
            have HV4 := Lib.hid hV4
            have HS4 := Lib.hid hs4
            rw [hv4]
            clear hv4 hV4 hs4 hb4 c3
            have c5 := C2.out ((S : Int) + 1) w4 (by omega) HB4.out
            rw [show Int.toNat ((S : Int) + 1) = S + 1 by omega, HE2.out] at c5
            go_wp2_with fail
            refine c5.mono ?_
            rintro e w5 ⟨v5, us, rfl, hf5, hs5, hb5⟩
            have HB45 := Lib.hid (hb5.mono (Nat.le_refl _))
            have HB5 := Lib.hid (HB4.out.trans (hb5.mono HB4.out.size))
            obtain ⟨ao5, c5, hv5, _, _, _⟩ := hf5
            rw [hv5]
            clear hv5 hs5 hb5
            have cS := Same02_any ao4 ao2 i c4 c2 ys xs l w5 (HV4.out.later HB45.out) (HV2.out.later (HB23.out.trans ((HB34.out.trans (HB45.out.mono HB34.out.size)).mono HB23.out.size))) HS4.out HS2.out
            go_wp2_with fail
            refine cS.mono ?_
            rintro e w6 ⟨rfl, hb6⟩
            have HB6 := Lib.hid (HB5.out.trans (hb6.mono HB5.out.size))
            clear hb6 cS
            go_wp2_with fail
            go_ret
            exact ⟨rfl, HB6.out⟩
      · have hS0 := hFS hF0
        have hne : (F != 0) = true := by simp; exact hF0
        subst hS0
        clear hFS hF0
        rw [show (((0 : Nat) : Int)) = 0 from rfl]
        go_wp2_with fail
        refine (awake06_any _).mono ?_
        rintro e w3 ⟨rfl, hb3⟩
        have HB3 := Lib.hid (HB2.out.trans (hb3.mono HB2.out.size))
        clear hb3
        go_wp2_with fail
        refine (awake06_any _).mono ?_
        rintro e w4 ⟨rfl, hb4⟩
        have HB4 := Lib.hid (HB3.out.trans (hb4.mono HB3.out.size))
        clear hb4
        go_wp2_with fail
        go_ret
        exact ⟨rfl, HB4.out⟩

/-! ### THE ROW's STEP: WRITTEN OUT: LEAVE IT -/
set_option maxRecDepth 100000 in
theorem lifted (os : Os) (started : os.Started) (H : Type) (enc : TypeId × Value → H) :
    ReturnsInHanded {} Try.checked os 8 .any (Rows.chooseAllSpec.pre6 enc Try.prog Try.f8 Rows.chooseAllRow.domain false) (Rows.chooseAllSpec.post enc Try.prog Try.f8 false true false false) := by
  refine returnsInHanded_of_change_sized (C := Try.checked) own started (by kernel_rfl) Try.func8
    (ChangeSpec.witness6 (enc := enc) (C := Try.checked) false ⟨#[], #[.slice none 0 0, .int .i64 0, .int .i64 0], []⟩ 8 (by kernel_rfl) (by kernel_rfl) (by kernel_rfl) (by kernel_rfl)) ?_
  intro W base args ds gs before hval0 hW hcnd hsz0 _
  have hsz : (DataW.weightsEach Try.prog (Try.f8.params.toList ++ Rows.chooseAllSpec.plain.varTypes Try.prog) (ds ++ gs)).all (· ≤ reachBytes) = true := hsz0
  clear hsz0
  have hval : ∀ (j : Nat) t v, Try.f8.params[j]? = some t → args[j]? = some v → Value.okWide Try.prog W .any base t v := hval0
  have hW' := hW
  obtain ⟨p, q, hA0, hV, rfl, hfz, hnd⟩ := hW
  have hA : DataW.TrodAll enc Try.prog W 0 (fun _ => true) true Try.f8.params.toList args.toList ds p := hA0
  rw [Try.params8] at hA hval hsz
  obtain ⟨v0, vs0, d0, ds0, p0, q0, hargs, rfl, rfl, h0, r0⟩ := trodAll_cons hA
  obtain ⟨v1, vs1, d1, ds1, p1, q1, rfl, rfl, rfl, h1, r1⟩ := trodAll_cons r0
  obtain ⟨v2, vs2, d2, ds2, p2, q2, rfl, rfl, rfl, h2, r2⟩ := trodAll_cons r1
  obtain ⟨rfl, rfl, rfl⟩ := trodAll_nil r2
  obtain rfl : args = #[v0, v1, v2] := by cases args; simp_all
  obtain ⟨rfl, rfl⟩ := trodVars_none hV
  obtain ⟨a0, len0, cap0, rfl⟩ := okWide_slice Try.underlying22 (hval 0 22 v0 rfl rfl)
  have k0 := h0
  have lt0 : ∀ x ∈ p0, x.block < W.heap.size := by obtain ⟨m, hm⟩ := k0; exact DataW.trod_lt m _ _ _ hm
  obtain ⟨z0, w0, rch0⟩ := open_bytes k0 (fun e s hd => sized_slice hsz (j := 0) (t := 22) (e := 5) rfl (by rw [hd]; rfl) Try.underlying22)
  obtain ⟨a1, rfl, rfl, rfl, w1⟩ := open_int Try.underlying3 (hval 1 3 v1 rfl rfl) h1
  obtain ⟨a2, rfl, rfl, rfl, w2⟩ := open_int Try.underlying3 (hval 2 3 v2 rfl rfl) h2
  clear hA0 hval0
  refine (walk a0 len0 cap0 z0 a1 a2 W w0 rch0 w1 w2).mono fun e W' ⟨he, bel⟩ => ?_
  subst he
  exact ⟨_, rfl, _, _, _, [], _, [], hW', trodAll_mk1 (shut_bool Try.underlying4 _), (trodAll_cons_mk (Below.trod laidOut (by kernel_rfl) (of_decide_eq_true (by kernel_rfl)) k0 bel lt0) (trodAll_cons_mk (shut_int Try.underlying3 w1) (trodAll_cons_mk (shut_int Try.underlying3 w2) trodAll_mk0))), rfl, bel.frame _, fun h => by cases h⟩

theorem over : Rows.chooseAllRow.holds Try.pinned (OpenSpec.ofChange Rows.chooseAllSpec) :=
  OpenClaim.holds_of_wide 8 Try.f8 rfl rfl rfl rfl rfl rfl rfl ⟨rfl, rfl, rfl, rfl, rfl⟩ rfl rfl rfl rfl rfl (by kernel_rfl) Try.func8 (by kernel_rfl)
    (of_decide_eq_true (by kernel_rfl)) (by unfold Func.isWrapper; first | (rw [if_pos (by decide +kernel)]; kernel_rfl) | (rw [if_neg (by decide +kernel)]; exact ⟨rfl, rfl⟩))
    (fun os started H enc _ => lifted os started H enc)

/-- THE STATEMENT -/
theorem proved : Rows.ChooseAllSaid := over
end Go.Proofs.Ytfhfjnfejcggcaa.chooseAll
