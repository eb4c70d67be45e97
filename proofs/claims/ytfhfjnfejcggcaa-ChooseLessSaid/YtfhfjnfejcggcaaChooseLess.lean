/-
  Proved here: where choose.Some and choose.First find room for a number of blocks, choose.Some and choose.Tight find room for a smaller one. No conditions.
-/
import Derived.Test.YtfhfjnfejcggcaaAwake06
namespace Go.Proofs.Ytfhfjnfejcggcaa.chooseLess
open Go.ChangeShapes Go.WideShapes Go.ChangeAt Go.RowKit
open Go.ChangeMaps (open_string shut_string)
set_option linter.unusedVariables false

theorem gapErr_less {len : Nat} {n k lo hi : Int} (h : gapErr len n lo hi = 0) (h1 : 1 ≤ k) (h2 : k ≤ n) : gapErr len k lo hi = 0 := by
  have hb := gap_ok h
  unfold gapErr at h ⊢
  by_cases hd : downErr len lo hi = 0
  · rw [if_neg (by simp [hd]), if_neg (by omega)]
  · rw [if_pos hd] at h; exact absurd h hd

theorem less_err {len : Nat} {n k lo hi : Int} {l : List (Nat × Nat)} (h1 : 1 ≤ k) (h2 : k ≤ n) :
    (someErr (gapErr len n lo hi) l n.toNat = 0 → someErr (gapErr len k lo hi) l k.toNat = 0) ∧ (pickErr (gapErr len n lo hi) (firstGap l n.toNat) = 0 → pickErr (gapErr len k lo hi) (tightGap l k.toNat) = 0) := by
  by_cases hg : gapErr len n lo hi = 0
  · rw [gapErr_less hg h1 h2, hg]
    exact ⟨fun h => less_some (by omega) h, fun h => less_room (by omega) h⟩
  · constructor
    · intro h
      unfold someErr at h
      rw [if_neg hg] at h
      exact absurd h hg
    · intro h
      unfold pickErr at h
      rw [if_neg hg] at h
      exact absurd h hg

set_option maxRecDepth 100000 in
set_option maxHeartbeats 3200000 in
theorem walk (a0 : Option Addr) (len0 cap0 : Nat) (z0 : List Int) (a1 : Int) (a2 : Int) (a3 : Int) (a4 : Int) (w : World) (w0 : IsRow .u8 w a0 len0 cap0 z0) (rch0 : cap0 ≤ 140737488351232) (w1 : (Lit.int .i64 a1).wf = true) (w2 : (Lit.int .i64 a2).wf = true) (w3 : (Lit.int .i64 a3).wf = true) (w4 : (Lit.int .i64 a4).wf = true) :
    Calls Try.prog 7 #[.slice a0 len0 cap0, .int .i64 a1, .int .i64 a2, .int .i64 a3, .int .i64 a4] w fun e w' => e = .returned (.bool true) ∧ Below w.heap.size w w' := by
  have hA := w0.arg rch0
  have hn := wf_i64 w1
  have hk := wf_i64 w2
  have hp := wf_i64 w3
  have hq := wf_i64 w4
  obtain ⟨zs, HZ⟩ : ∃ zs, Hid (zs = z0.take len0) := ⟨_, Lib.hid rfl⟩
  rw [← HZ.out] at hA
  clear w0 w1 w2 w3 w4 HZ
  have HA := Lib.hid hA
  have c1 := cSome_any a0 len0 cap0 zs a1 a3 a4 w hA hn hp hq
  have C2 := Lib.hid (fun w2 (h : Below w.heap.size w w2) => cFirst_any a0 len0 cap0 zs a1 a3 a4 w2 (HA.out.later h) hn hp hq)
  have C3 := Lib.hid (fun w2 (h : Below w.heap.size w w2) => cSome_any a0 len0 cap0 zs a2 a3 a4 w2 (HA.out.later h) hk hp hq)
  have C4 := Lib.hid (fun w2 (h : Below w.heap.size w w2) => cTight_any a0 len0 cap0 zs a2 a3 a4 w2 (HA.out.later h) hk hp hq)
  have HL : Hid (1 ≤ a2 → a2 ≤ a1 → _) := Lib.hid (fun h1 h2 => less_err (len := len0) (n := a1) (k := a2) (lo := a3) (hi := a4) (l := downOut zs a3 a4) h1 h2)
  clear hA hn hk hp hq HA
  generalize someOut (gapErr len0 a1 a3 a4) (downOut zs a3 a4) a1.toNat = l1 at *
  generalize someErr (gapErr len0 a1 a3 a4) (downOut zs a3 a4) a1.toNat = E1 at *
  generalize pickOut (gapErr len0 a1 a3 a4) (firstGap (downOut zs a3 a4) a1.toNat) a1.toNat = X2 at *
  generalize pickErr (gapErr len0 a1 a3 a4) (firstGap (downOut zs a3 a4) a1.toNat) = E2 at *
  generalize someOut (gapErr len0 a2 a3 a4) (downOut zs a3 a4) a2.toNat = l3 at *
  generalize someErr (gapErr len0 a2 a3 a4) (downOut zs a3 a4) a2.toNat = E3 at *
  generalize pickOut (gapErr len0 a2 a3 a4) (tightGap (downOut zs a3 a4) a2.toNat) a2.toNat = X4 at *
  generalize pickErr (gapErr len0 a2 a3 a4) (tightGap (downOut zs a3 a4) a2.toNat) = E4 at *
  by_cases hin : 1 ≤ a2 ∧ a2 ≤ a1
  · obtain ⟨i1, i2⟩ := hin
    obtain ⟨k1, k2⟩ := HL.out i1 i2
    have i3 : ¬ a2 < 1 := by omega
    have i4 : ¬ a1 < a2 := by omega
    have K1 := Lib.hid k1
    have K2 := Lib.hid k2
    clear k1 k2
    go_enter Try.func7, Try.ntmps7
    go_wp2_with fail
    refine c1.mono ?_
    rintro e w2 ⟨v2, xs, rfl, hf2, hs2, hb2⟩
    have HB2 := Lib.hid hb2
    obtain ⟨ao2, c2, hv2, _, _, _⟩ := hf2
    rw [hv2]
    clear hv2 hs2 hb2 c1
    go_wp2_with fail
    refine (C2.out w2 HB2.out).mono ?_
    rintro e w3 ⟨x3, y3, rfl, f3, g3, hb3⟩
    have HB3 := Lib.hid (HB2.out.trans (hb3.mono HB2.out.size))
    clear hb3 f3 g3
    go_wp2_with fail
    refine (awake06_any _).mono ?_
    rintro e w4 ⟨rfl, hb4⟩
    have HB4 := Lib.hid (HB3.out.trans (hb4.mono HB3.out.size))
    clear hb4
    go_wp2_with fail
    refine (C3.out w4 HB4.out).mono ?_
    rintro e w5 ⟨v5, ys, rfl, hf5, hs5, hb5⟩
    have HB5 := Lib.hid (HB4.out.trans (hb5.mono HB4.out.size))
    obtain ⟨ao5, c5, hv5, _, _, _⟩ := hf5
    rw [hv5]
    clear hv5 hs5 hb5
    go_wp2_with fail
    refine (C4.out w5 HB5.out).mono ?_
    rintro e w6 ⟨x6, y6, rfl, f6, g6, hb6⟩
    have HB6 := Lib.hid (HB5.out.trans (hb6.mono HB5.out.size))
    clear hb6 f6 g6
    have k1 := K1.out
    have k2 := K2.out
    clear K1 K2 HL C2 C3 C4
    by_cases h1 : E1 = 0
    · have h3 := k1 h1
      subst h1
      subst h3
      by_cases h2 : E2 = 0
      · have h4 := k2 h2
        subst h2
        subst h4
        clear k1 k2
        go_wp2_with fail
        go_ret
        exact ⟨rfl, HB6.out⟩
      · have n2 : (E2 != 0) = true := by simp; exact h2
        clear k1 k2 h2
        go_wp2_with fail
        go_ret
        exact ⟨rfl, HB6.out⟩
    · have n1 : (E1 != 0) = true := by simp; exact h1
      by_cases h2 : E2 = 0
      · have h4 := k2 h2
        subst h2
        subst h4
        clear k1 k2 h1
        go_wp2_with fail
        go_ret
        exact ⟨rfl, HB6.out⟩
      · have n2 : (E2 != 0) = true := by simp; exact h2
        clear k1 k2 h1 h2
        go_wp2_with fail
        go_ret
        exact ⟨rfl, HB6.out⟩
  · by_cases hlo : a2 < 1
    · clear hin
      go_enter Try.func7, Try.ntmps7
      go_wp2_with fail
      refine c1.mono ?_
      rintro e w2 ⟨v2, xs, rfl, hf2, hs2, hb2⟩
      have HB2 := Lib.hid hb2
      obtain ⟨ao2, c2, hv2, _, _, _⟩ := hf2
      rw [hv2]
      clear hv2 hs2 hb2 c1
      go_wp2_with fail
      refine (C2.out w2 HB2.out).mono ?_
      rintro e w3 ⟨x3, y3, rfl, f3, g3, hb3⟩
      have HB3 := Lib.hid (HB2.out.trans (hb3.mono HB2.out.size))
      clear hb3 f3 g3
      go_wp2_with fail
      refine (awake06_any _).mono ?_
      rintro e w4 ⟨rfl, hb4⟩
      have HB4 := Lib.hid (HB3.out.trans (hb4.mono HB3.out.size))
      clear hb4
      go_wp2_with fail
      refine (awake06_any _).mono ?_
      rintro e w5 ⟨rfl, hb5⟩
      have HB5 := Lib.hid (HB4.out.trans (hb5.mono HB4.out.size))
      clear hb5
      go_wp2_with fail
      go_ret
      exact ⟨rfl, HB5.out⟩
    · have hhi : a1 < a2 := by omega
      clear hin
      go_enter Try.func7, Try.ntmps7
      go_wp2_with fail
      refine c1.mono ?_
      rintro e w2 ⟨v2, xs, rfl, hf2, hs2, hb2⟩
      have HB2 := Lib.hid hb2
      obtain ⟨ao2, c2, hv2, _, _, _⟩ := hf2
      rw [hv2]
      clear hv2 hs2 hb2 c1
      go_wp2_with fail
      refine (C2.out w2 HB2.out).mono ?_
      rintro e w3 ⟨x3, y3, rfl, f3, g3, hb3⟩
      have HB3 := Lib.hid (HB2.out.trans (hb3.mono HB2.out.size))
      clear hb3 f3 g3
      go_wp2_with fail
      refine (awake06_any _).mono ?_
      rintro e w4 ⟨rfl, hb4⟩
      have HB4 := Lib.hid (HB3.out.trans (hb4.mono HB3.out.size))
      clear hb4
      go_wp2_with fail
      refine (awake06_any _).mono ?_
      rintro e w5 ⟨rfl, hb5⟩
      have HB5 := Lib.hid (HB4.out.trans (hb5.mono HB4.out.size))
      clear hb5
      go_wp2_with fail
      go_ret
      exact ⟨rfl, HB5.out⟩

/-! ### THE ROW's STEP: WRITTEN OUT: LEAVE IT -/
set_option maxRecDepth 100000 in
theorem lifted (os : Os) (started : os.Started) (H : Type) (enc : TypeId × Value → H) :
    ReturnsInHanded {} Try.checked os 7 .any (Rows.chooseLessSpec.pre6 enc Try.prog Try.f7 Rows.chooseLessRow.domain false) (Rows.chooseLessSpec.post enc Try.prog Try.f7 false true false false) := by
  refine returnsInHanded_of_change_sized (C := Try.checked) own started (by kernel_rfl) Try.func7
    (ChangeSpec.witness6 (enc := enc) (C := Try.checked) false ⟨#[], #[.slice none 0 0, .int .i64 0, .int .i64 0, .int .i64 0, .int .i64 0], []⟩ 8 (by kernel_rfl) (by kernel_rfl) (by kernel_rfl) (by kernel_rfl)) ?_
  intro W base args ds gs before hval0 hW hcnd hsz0 _
  have hsz : (DataW.weightsEach Try.prog (Try.f7.params.toList ++ Rows.chooseLessSpec.plain.varTypes Try.prog) (ds ++ gs)).all (· ≤ reachBytes) = true := hsz0
  clear hsz0
  have hval : ∀ (j : Nat) t v, Try.f7.params[j]? = some t → args[j]? = some v → Value.okWide Try.prog W .any base t v := hval0
  have hW' := hW
  obtain ⟨p, q, hA0, hV, rfl, hfz, hnd⟩ := hW
  have hA : DataW.TrodAll enc Try.prog W 0 (fun _ => true) true Try.f7.params.toList args.toList ds p := hA0
  rw [Try.params7] at hA hval hsz
  obtain ⟨v0, vs0, d0, ds0, p0, q0, hargs, rfl, rfl, h0, r0⟩ := trodAll_cons hA
  obtain ⟨v1, vs1, d1, ds1, p1, q1, rfl, rfl, rfl, h1, r1⟩ := trodAll_cons r0
  obtain ⟨v2, vs2, d2, ds2, p2, q2, rfl, rfl, rfl, h2, r2⟩ := trodAll_cons r1
  obtain ⟨v3, vs3, d3, ds3, p3, q3, rfl, rfl, rfl, h3, r3⟩ := trodAll_cons r2
  obtain ⟨v4, vs4, d4, ds4, p4, q4, rfl, rfl, rfl, h4, r4⟩ := trodAll_cons r3
  obtain ⟨rfl, rfl, rfl⟩ := trodAll_nil r4
  obtain rfl : args = #[v0, v1, v2, v3, v4] := by cases args; simp_all
  obtain ⟨rfl, rfl⟩ := trodVars_none hV
  obtain ⟨a0, len0, cap0, rfl⟩ := okWide_slice Try.underlying22 (hval 0 22 v0 rfl rfl)
  have k0 := h0
  have lt0 : ∀ x ∈ p0, x.block < W.heap.size := by obtain ⟨m, hm⟩ := k0; exact DataW.trod_lt m _ _ _ hm
  obtain ⟨z0, w0, rch0⟩ := open_bytes k0 (fun e s hd => sized_slice hsz (j := 0) (t := 22) (e := 5) rfl (by rw [hd]; rfl) Try.underlying22)
  obtain ⟨a1, rfl, rfl, rfl, w1⟩ := open_int Try.underlying3 (hval 1 3 v1 rfl rfl) h1
  obtain ⟨a2, rfl, rfl, rfl, w2⟩ := open_int Try.underlying3 (hval 2 3 v2 rfl rfl) h2
  obtain ⟨a3, rfl, rfl, rfl, w3⟩ := open_int Try.underlying3 (hval 3 3 v3 rfl rfl) h3
  obtain ⟨a4, rfl, rfl, rfl, w4⟩ := open_int Try.underlying3 (hval 4 3 v4 rfl rfl) h4
  clear hA0 hval0
  refine (walk a0 len0 cap0 z0 a1 a2 a3 a4 W w0 rch0 w1 w2 w3 w4).mono fun e W' ⟨he, bel⟩ => ?_
  subst he
  exact ⟨_, rfl, _, _, _, [], _, [], hW', trodAll_mk1 (shut_bool Try.underlying4 _), (trodAll_cons_mk (Below.trod laidOut (by kernel_rfl) (of_decide_eq_true (by kernel_rfl)) k0 bel lt0) (trodAll_cons_mk (shut_int Try.underlying3 w1) (trodAll_cons_mk (shut_int Try.underlying3 w2) (trodAll_cons_mk (shut_int Try.underlying3 w3) (trodAll_cons_mk (shut_int Try.underlying3 w4) trodAll_mk0))))), rfl, bel.frame _, fun h => by cases h⟩

theorem over : Rows.chooseLessRow.holds Try.pinned (OpenSpec.ofChange Rows.chooseLessSpec) :=
  OpenClaim.holds_of_wide 7 Try.f7 rfl rfl rfl rfl rfl rfl rfl ⟨rfl, rfl, rfl, rfl, rfl⟩ rfl rfl rfl rfl rfl (by kernel_rfl) Try.func7 (by kernel_rfl)
    (of_decide_eq_true (by kernel_rfl)) (by unfold Func.isWrapper; first | (rw [if_pos (by decide +kernel)]; kernel_rfl) | (rw [if_neg (by decide +kernel)]; exact ⟨rfl, rfl⟩))
    (fun os started H enc _ => lifted os started H enc)

/-- THE STATEMENT -/
theorem proved : Rows.ChooseLessSaid := over
end Go.Proofs.Ytfhfjnfejcggcaa.chooseLess
