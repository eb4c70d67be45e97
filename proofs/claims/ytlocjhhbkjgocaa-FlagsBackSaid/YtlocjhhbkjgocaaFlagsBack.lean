/-
  Proved here: runs whose flags are all down are so again when flags.Mark has marked and unmarked them, and marked they count. No conditions.
-/
import Derived.Test.YtlocjhhbkjgocaaAwake05
namespace Go.Proofs.Ytlocjhhbkjgocaa.flagsBack
open Go.ChangeShapes Go.WideShapes Go.ChangeAt Go.RowKit
open Go.ChangeMaps (open_string shut_string)
set_option linter.unusedVariables false

set_option maxRecDepth 100000 in
set_option maxHeartbeats 1600000 in
theorem walk (a0 : Option Addr) (len0 cap0 : Nat) (z0 : List Int) (a1 : Int) (w : World) (w0 : IsRow .u8 w a0 len0 cap0 z0) (rch0 : cap0 ≤ 140737488351232) (w1 : (Lit.int .u8 a1).wf = true) :
    Calls Try.prog 5 #[.slice a0 len0 cap0, .int .u8 a1] w fun e w' => e = .returned (.bool true) ∧ Below w.heap.size w w' := by
  have hA := w0.arg rch0
  have hw := wf_u8 w1
  obtain ⟨zs, HZ⟩ : ∃ zs, Hid (zs = z0.take len0) := ⟨_, Lib.hid rfl⟩
  rw [← HZ.out] at hA
  clear w0 w1 HZ
  have cX := xDown_any a0 len0 cap0 zs 0 480 w hA (by decide) (by decide)
  have hl := hA.1.1
  have hz := hA.1.2.2.1
  by_cases h60 : len0 = 60
  · subst h60
    have hE : downErr 60 0 480 = 0 := rfl
    rw [hE] at cX
    clear hE
    have HA := Lib.hid hA
    have HL := Lib.hid hl
    have HZ := Lib.hid hz
    clear hA hl hz
    by_cases hnil : downOut zs 0 480 = []
    · rw [hnil] at cX
      clear hnil
      go_enter Try.func5, Try.ntmps5
      go_wp2_with fail
      refine cX.mono ?_
      rintro e w2 ⟨v2, xs, rfl, hf2, hs2, hb2⟩
      have HB2 := Lib.hid hb2
      obtain ⟨ao2, c2, hv2, _, _, _⟩ := hf2
      rw [hs2.1] at hv2
      rw [hv2]
      clear hv2 hs2 hb2 cX
      go_wp2_with fail
      refine (awake05_any _).mono ?_
      rintro e w3 ⟨rfl, hb3⟩
      have HB3 := Lib.hid (HB2.out.trans (hb3.mono HB2.out.size))
      clear hb3
      go_wp2_with fail
      refine (awake05_any _).mono ?_
      rintro e w4 ⟨rfl, hb4⟩
      have HB4 := Lib.hid (HB3.out.trans (hb4.mono HB3.out.size))
      clear hb4
      go_wp2_with fail
      go_ret
      exact ⟨rfl, HB4.out⟩
    · have HM := Lib.hid (down_bound (zs := zs) (lo := 0) (hi := 480))
      have hlen := down_length zs 0 480
      have hpos : 0 < (downOut zs 0 480).length := List.length_pos_iff.2 hnil
      clear hnil
      generalize downOut zs 0 480 = l at *
      obtain ⟨n, hn⟩ : ∃ n, l.length = n := ⟨_, rfl⟩
      rw [hn] at hlen hpos
      have HN := Lib.hid hn
      clear hn
      have hm0 := Int.emod_nonneg a1 (b := (n : Int)) (by omega)
      have hm1 := Int.emod_lt_of_pos a1 (b := (n : Int)) (by omega)
      obtain ⟨k, hk⟩ : ∃ k : Nat, a1 % (n : Int) = k := ⟨(a1 % (n : Int)).toNat, by omega⟩
      rw [hk] at hm0 hm1
      have hkn : k < n := by omega
      obtain ⟨p, hp⟩ : ∃ p, l[k]? = some p := ⟨_, List.getElem?_eq_getElem (by rw [HN.out]; exact hkn)⟩
      obtain ⟨b1, b2, b3⟩ := HM.out p (List.mem_of_getElem? hp)
      have HP := Lib.hid hp
      have HD := Lib.hid b3
      clear HM hp b3
      go_enter Try.func5, Try.ntmps5
      go_wp2_with fail
      refine cX.mono ?_
      rintro e w2 ⟨v2, xs, rfl, hf2, hs2, hb2⟩
      have HB2 := Lib.hid hb2
      have HS2 := Lib.hid hs2
      have HF2 := Lib.hid hf2
      obtain ⟨ao2, c2, hv2, hV2, _, _⟩ := hf2
      rw [hs2.1, HN.out] at hv2 hV2
      have HV2 := Lib.hid hV2
      rw [hv2]
      clear hv2 hV2 hs2 hb2 cX HF2
      go_wp2_with fail
      refine (awake05_any _).mono ?_
      rintro e w3 ⟨rfl, hb3⟩
      have HB3 := Lib.hid (HB2.out.trans (hb3.mono HB2.out.size))
      have hV3 := HV2.out.later hb3
      obtain ⟨g, og, hg, hc⟩ := hV3.2.2.resolve_left (by omega)
      subst hg
      obtain ⟨x, hx⟩ : ∃ x, xs[k]? = some x := ⟨_, List.getElem?_eq_getElem (by rw [HS2.out.1, HN.out]; exact hkn)⟩
      have hcell := hc k x hx
      obtain ⟨x1, x2, rfl, f1, f2⟩ := HS2.out.2 k x p hx HP.out
      have F1 := Lib.hid f1
      have F2 := Lib.hid f2
      clear hV3 hc hx f1 f2 hb3
      have hA4 : Arg (w3.alloc (.cells #[.complex .f64 x1 x2] 37)) a0 60 cap0 zs := HA.out.later (HB3.out.alloc HB3.out.size _)
      have cM := xMark_any a0 cap0 zs true _ 1 x1 x2 p.1 p.2 _ hA4 (one_vals w3 _ _) F1.out F2.out b2 b1
      clear hA4
      go_wp2_with fail
      refine cM.mono ?_
      rintro e w5 ⟨v5, L, rfl, hf5, hM5, hb5⟩
      have HB35 := Lib.hid (((Below.refl w3.heap.size w3).alloc (Nat.le_refl _) (.cells #[.complex .f64 x1 x2] 37)).trans (hb5.mono (by simp)))
      have HB5 := Lib.hid (HB3.out.trans (HB35.out.mono HB3.out.size))
      have HM5 := Lib.hid hM5
      obtain ⟨ao5, c5, hv5, hA5, _⟩ := hf5
      rw [HM5.out.1] at hv5 hA5
      have HA5 := Lib.hid hA5
      rw [hv5]
      clear hv5 hA5 hM5 hb5 cM
      have cM2 := xMark_any ao5 c5 L false _ 1 x1 x2 p.1 p.2 _ (HA5.out.later ((Below.refl w5.heap.size w5).alloc (Nat.le_refl _) (.cells #[.complex .f64 x1 x2] 37))) (one_vals w5 _ _) F1.out F2.out b2 b1
      go_wp2_with fail
      refine cM2.mono ?_
      rintro e w6 ⟨v6, M, rfl, hf6, hM6, hb6⟩
      have HB56 := Lib.hid (((Below.refl w5.heap.size w5).alloc (Nat.le_refl _) (.cells #[.complex .f64 x1 x2] 37)).trans (hb6.mono (by simp)))
      have HB6 := Lib.hid (HB5.out.trans (HB56.out.mono HB5.out.size))
      have hMz := marked_back HL.out HZ.out HD.out HM5.out hM6
      rw [hMz] at hf6
      have HF6 := Lib.hid hf6
      clear hf6 hM6 hb6 cM2 hMz
      have cC1 := xCount_any a0 60 cap0 zs 480 w6 (HA.out.later HB6.out) (by decide)
      rw [show cntErr 60 480 = 0 from rfl] at cC1
      go_wp2_with fail
      refine cC1.mono ?_
      rintro e w7 ⟨rfl, hb7⟩
      have HB67 := Lib.hid hb7
      have HB7 := Lib.hid (HB6.out.trans (hb7.mono HB6.out.size))
      clear hb7 cC1
      have cC2 := xCount_any ao5 60 c5 L 480 w7 (HA5.out.later (HB56.out.trans (HB67.out.mono HB56.out.size))) (by decide)
      rw [show cntErr 60 480 = 0 from rfl] at cC2
      go_wp2_with fail
      refine cC2.mono ?_
      rintro e w8 ⟨rfl, hb8⟩
      have HB8 := Lib.hid (HB7.out.trans (hb8.mono HB7.out.size))
      have s1 := fresh_str (HF6.out.later (HB67.out.trans (hb8.mono HB67.out.size)))
      have s2 := str_bytes (cap := cap0) (HA.out.1.later HB8.out)
      clear hb8 cC2
      have hX : cntOut zs 480 = (cnt (flag zs) 480 : Nat) := by unfold cntOut; rw [HL.out]; rfl
      have hY : cntOut L 480 = (cnt (flag L) 480 : Nat) := by unfold cntOut; rw [HM5.out.1]; rfl
      have hXY := marked_cnt HD.out HM5.out b1
      have hXle := cnt_le (flag zs) 480
      have hsum : cntOut L 480 = cntOut zs 480 + (p.2 : Int) := by rw [hX, hY, hXY]; omega
      have hX0 : 0 ≤ cntOut zs 480 ∧ cntOut zs 480 ≤ 480 := by rw [hX]; omega
      rw [hsum]
      clear hX hY hXY hXle hsum
      generalize cntOut zs 480 = X at *
      have hv2 := fi_toInt .i64 F2.out (by show -9223372036854775808 ≤ (p.2 : Int); omega) (by show (p.2 : Int) ≤ 9223372036854775807; omega)
      have o2 : ∀ w, (convert 40 3 (.float .f64 x2)).run Try.prog w = .ok (.int .i64 (p.2 : Int)) w := fun w => run_convert_float_int w 40 3 .f64 .i64 x2 (p.2 : Int) (by rw [Try.underlying40]; rfl) Try.underlying3 hv2
      obtain ⟨hX0, hX1⟩ := hX0
      clear hv2
      go_wp2_with fail
      go_ret
      exact ⟨rfl, HB8.out⟩
  · have hE : downErr len0 0 480 = 2 := by unfold downErr; rw [if_neg h60]
    rw [hE] at cX
    clear hA hl hz hE
    generalize downOut zs 0 480 = l at *
    go_enter Try.func5, Try.ntmps5
    go_wp2_with fail
    refine cX.mono ?_
    rintro e w2 ⟨v2, xs, rfl, hf2, hs2, hb2⟩
    have HB2 := Lib.hid hb2
    obtain ⟨ao2, c2, hv2, _, _, _⟩ := hf2
    rw [hv2]
    clear hv2 hs2 hb2 cX
    go_wp2_with fail
    refine (awake05_any _).mono ?_
    rintro e w3 ⟨rfl, hb3⟩
    have HB3 := Lib.hid (HB2.out.trans (hb3.mono HB2.out.size))
    clear hb3
    go_wp2_with fail
    refine (awake05_any _).mono ?_
    rintro e w4 ⟨rfl, hb4⟩
    have HB4 := Lib.hid (HB3.out.trans (hb4.mono HB3.out.size))
    clear hb4
    go_wp2_with fail
    go_ret
    exact ⟨rfl, HB4.out⟩

/-! ### THE ROW's STEP: WRITTEN OUT: LEAVE IT -/
set_option maxRecDepth 100000 in
theorem lifted (os : Os) (started : os.Started) (H : Type) (enc : TypeId × Value → H) :
    ReturnsInHanded {} Try.checked os 5 .any (Rows.flagsBackSpec.pre6 enc Try.prog Try.f5 Rows.flagsBackRow.domain false) (Rows.flagsBackSpec.post enc Try.prog Try.f5 false true false false) := by
  refine returnsInHanded_of_change_sized (C := Try.checked) own started (by kernel_rfl) Try.func5
    (ChangeSpec.witness6 (enc := enc) (C := Try.checked) false ⟨#[], #[.slice none 0 0, .int .u8 0], []⟩ 8 (by kernel_rfl) (by kernel_rfl) (by kernel_rfl) (by kernel_rfl)) ?_
  intro W base args ds gs before hval0 hW hcnd hsz0 _
  have hsz : (DataW.weightsEach Try.prog (Try.f5.params.toList ++ Rows.flagsBackSpec.plain.varTypes Try.prog) (ds ++ gs)).all (· ≤ reachBytes) = true := hsz0
  clear hsz0
  have hval : ∀ (j : Nat) t v, Try.f5.params[j]? = some t → args[j]? = some v → Value.okWide Try.prog W .any base t v := hval0
  have hW' := hW
  obtain ⟨p, q, hA0, hV, rfl, hfz, hnd⟩ := hW
  have hA : DataW.TrodAll enc Try.prog W 0 (fun _ => true) true Try.f5.params.toList args.toList ds p := hA0
  rw [Try.params5] at hA hval hsz
  obtain ⟨v0, vs0, d0, ds0, p0, q0, hargs, rfl, rfl, h0, r0⟩ := trodAll_cons hA
  obtain ⟨v1, vs1, d1, ds1, p1, q1, rfl, rfl, rfl, h1, r1⟩ := trodAll_cons r0
  obtain ⟨rfl, rfl, rfl⟩ := trodAll_nil r1
  obtain rfl : args = #[v0, v1] := by cases args; simp_all
  obtain ⟨rfl, rfl⟩ := trodVars_none hV
  obtain ⟨a0, len0, cap0, rfl⟩ := okWide_slice Try.underlying22 (hval 0 22 v0 rfl rfl)
  have k0 := h0
  have lt0 : ∀ x ∈ p0, x.block < W.heap.size := by obtain ⟨m, hm⟩ := k0; exact DataW.trod_lt m _ _ _ hm
  obtain ⟨z0, w0, rch0⟩ := open_bytes k0 (fun e s hd => sized_slice hsz (j := 0) (t := 22) (e := 5) rfl (by rw [hd]; rfl) Try.underlying22)
  obtain ⟨a1, rfl, rfl, rfl, w1⟩ := open_int Try.underlying5 (hval 1 5 v1 rfl rfl) h1
  clear hA0 hval0
  refine (walk a0 len0 cap0 z0 a1 W w0 rch0 w1).mono fun e W' ⟨he, bel⟩ => ?_
  subst he
  exact ⟨_, rfl, _, _, _, [], _, [], hW', trodAll_mk1 (shut_bool Try.underlying4 _), (trodAll_cons_mk (Below.trod laidOut (by kernel_rfl) (of_decide_eq_true (by kernel_rfl)) k0 bel lt0) (trodAll_cons_mk (shut_int Try.underlying5 w1) trodAll_mk0)), rfl, bel.frame _, fun h => by cases h⟩

theorem over : Rows.flagsBackRow.holds Try.pinned (OpenSpec.ofChange Rows.flagsBackSpec) :=
  OpenClaim.holds_of_wide 5 Try.f5 rfl rfl rfl rfl rfl rfl rfl ⟨rfl, rfl, rfl, rfl, rfl⟩ rfl rfl rfl rfl rfl (by kernel_rfl) Try.func5 (by kernel_rfl)
    (of_decide_eq_true (by kernel_rfl)) (by unfold Func.isWrapper; first | (rw [if_pos (by decide +kernel)]; kernel_rfl) | (rw [if_neg (by decide +kernel)]; exact ⟨rfl, rfl⟩))
    (fun os started H enc _ => lifted os started H enc)

/-- THE STATEMENT -/
theorem proved : Rows.FlagsBackSaid := over
end Go.Proofs.Ytlocjhhbkjgocaa.flagsBack
