/-
  Proved here: flags.Up of any bytes and block answers what the document's own reckoning answers. No conditions.
-/
import Derived.Test.YtlocjhhbkjgocaaAwake05
namespace Go.Proofs.Ytlocjhhbkjgocaa.flagsUp
open Go.ChangeShapes Go.WideShapes Go.ChangeAt Go.RowKit
open Go.ChangeMaps (open_string shut_string)
set_option linter.unusedVariables false

set_option maxRecDepth 100000 in
set_option maxHeartbeats 1600000 in
theorem walk (a0 : Option Addr) (len0 cap0 : Nat) (z0 : List Int) (a1 : Int) (w : World) (w0 : IsRow .u8 w a0 len0 cap0 z0) (rch0 : cap0 ≤ 140737488351232) (w1 : (Lit.int .i64 a1).wf = true) :
    Calls Try.prog 3 #[.slice a0 len0 cap0, .int .i64 a1] w fun e w' => e = .returned (.bool true) ∧ Below w.heap.size w w' := by
  have hA := w0.arg rch0
  have hn := wf_i64 w1
  obtain ⟨zs, HZ⟩ : ∃ zs, Hid (zs = z0.take len0) := ⟨_, Lib.hid rfl⟩
  rw [← HZ.out] at hA
  clear w0 w1 HZ
  have cF := xUp_any a0 len0 cap0 zs a1 w hA hn
  have hl := hA.1.1
  by_cases h60 : len0 = 60
  · subst h60
    by_cases hr : a1 < 0 ∨ 480 ≤ a1
    · have hE : upErr 60 a1 = 1 := by unfold upErr; rw [if_pos rfl, if_pos hr]
      have hV : upOut zs a1 = false := by unfold upOut; rw [hl, hE]; rfl
      rw [hE, hV] at cF
      clear hA hl hE hV
      rcases hr with hr | hr
      all_goals
        go_enter Try.func3, Try.ntmps3
        go_wp2_with fail
        refine cF.mono ?_
        rintro e w2 ⟨rfl, hb2⟩
        have HB2 := Lib.hid hb2
        clear hb2
        go_wp2_with fail
        refine (awake05_any _).mono ?_
        rintro e w3 ⟨rfl, hb3⟩
        have HB3 := Lib.hid (HB2.out.trans (hb3.mono HB2.out.size))
        clear hb3
        go_wp2_with fail
        go_ret
        exact ⟨rfl, HB3.out⟩
    · have hE : upErr 60 a1 = 0 := by unfold upErr; rw [if_pos rfl, if_neg hr]
      have hV : upOut zs a1 = flag zs a1.toNat := by unfold upOut; rw [hl, hE]; rfl
      rw [hE, hV] at cF
      obtain ⟨n, hn'⟩ : ∃ n : Nat, a1 = n := ⟨a1.toNat, by omega⟩
      subst hn'
      rw [show Int.toNat (n : Int) = n by omega] at cF
      have hlt : n < 480 := by omega
      have i2 : (n : Int) < 480 := by omega
      have HB := Lib.hid hA.1
      clear hA hl hE hV hr hn
      go_enter Try.func3, Try.ntmps3
      go_wp2_with fail
      refine cF.mono ?_
      rintro e w2 ⟨rfl, hb2⟩
      have HB2 := Lib.hid hb2
      clear hb2 cF
      go_wp2_with fail
      refine (awake05_any _).mono ?_
      rintro e w3 ⟨rfl, hb3⟩
      have HB3 := Lib.hid (HB2.out.trans (hb3.mono HB2.out.size))
      clear hb3
      have cR := Up05_any a0 cap0 zs w3 (HB.out.later HB3.out)
      go_wp2_with fail
      refine cR.mono ?_
      rintro e w4 ⟨v4, rfl, hf4, hb4⟩
      have HB4 := Lib.hid (HB3.out.trans (hb4.mono HB3.out.size))
      obtain ⟨ao4, c4, hv4, hV4, _, _⟩ := hf4
      rw [boolsV_length] at hv4 hV4
      obtain ⟨b4, o4, he4, hc4⟩ := hV4.2.2.resolve_left (by decide)
      subst he4
      have hcell := hc4 n _ (boolsV_at (flag zs) hlt)
      rw [hv4]
      clear hv4 hV4 hc4 hb4 cR
      generalize flag zs n = U at *
      cases U
      all_goals
        go_wp2_with fail
        go_ret
        exact ⟨rfl, HB4.out⟩
  · have hE : upErr len0 a1 = 2 := by unfold upErr; rw [if_neg h60]
    have hV : upOut zs a1 = false := by unfold upOut; rw [hl, hE]; rfl
    have hne : ((len0 : Int) != 60) = true := by simp; omega
    rw [hE, hV] at cF
    clear hA hl hE hV
    go_enter Try.func3, Try.ntmps3
    go_wp2_with fail
    refine cF.mono ?_
    rintro e w2 ⟨rfl, hb2⟩
    have HB2 := Lib.hid hb2
    clear hb2
    go_wp2_with fail
    refine (awake05_any _).mono ?_
    rintro e w3 ⟨rfl, hb3⟩
    have HB3 := Lib.hid (HB2.out.trans (hb3.mono HB2.out.size))
    clear hb3
    go_wp2_with fail
    go_ret
    exact ⟨rfl, HB3.out⟩

/-! ### THE ROW's STEP: WRITTEN OUT: LEAVE IT -/
set_option maxRecDepth 100000 in
theorem lifted (os : Os) (started : os.Started) (H : Type) (enc : TypeId × Value → H) :
    ReturnsInHanded {} Try.checked os 3 .any (Rows.flagsUpSpec.pre6 enc Try.prog Try.f3 Rows.flagsUpRow.domain false) (Rows.flagsUpSpec.post enc Try.prog Try.f3 false true false false) := by
  refine returnsInHanded_of_change_sized (C := Try.checked) own started (by kernel_rfl) Try.func3
    (ChangeSpec.witness6 (enc := enc) (C := Try.checked) false ⟨#[], #[.slice none 0 0, .int .i64 0], []⟩ 8 (by kernel_rfl) (by kernel_rfl) (by kernel_rfl) (by kernel_rfl)) ?_
  intro W base args ds gs before hval0 hW hcnd hsz0 _
  have hsz : (DataW.weightsEach Try.prog (Try.f3.params.toList ++ Rows.flagsUpSpec.plain.varTypes Try.prog) (ds ++ gs)).all (· ≤ reachBytes) = true := hsz0
  clear hsz0
  have hval : ∀ (j : Nat) t v, Try.f3.params[j]? = some t → args[j]? = some v → Value.okWide Try.prog W .any base t v := hval0
  have hW' := hW
  obtain ⟨p, q, hA0, hV, rfl, hfz, hnd⟩ := hW
  have hA : DataW.TrodAll enc Try.prog W 0 (fun _ => true) true Try.f3.params.toList args.toList ds p := hA0
  rw [Try.params3] at hA hval hsz
  obtain ⟨v0, vs0, d0, ds0, p0, q0, hargs, rfl, rfl, h0, r0⟩ := trodAll_cons hA
  obtain ⟨v1, vs1, d1, ds1, p1, q1, rfl, rfl, rfl, h1, r1⟩ := trodAll_cons r0
  obtain ⟨rfl, rfl, rfl⟩ := trodAll_nil r1
  obtain rfl : args = #[v0, v1] := by cases args; simp_all
  obtain ⟨rfl, rfl⟩ := trodVars_none hV
  obtain ⟨a0, len0, cap0, rfl⟩ := okWide_slice Try.underlying22 (hval 0 22 v0 rfl rfl)
  have k0 := h0
  have lt0 : ∀ x ∈ p0, x.block < W.heap.size := by obtain ⟨m, hm⟩ := k0; exact DataW.trod_lt m _ _ _ hm
  obtain ⟨z0, w0, rch0⟩ := open_bytes k0 (fun e s hd => sized_slice hsz (j := 0) (t := 22) (e := 5) rfl (by rw [hd]; rfl) Try.underlying22)
  obtain ⟨a1, rfl, rfl, rfl, w1⟩ := open_int Try.underlying3 (hval 1 3 v1 rfl rfl) h1
  clear hA0 hval0
  refine (walk a0 len0 cap0 z0 a1 W w0 rch0 w1).mono fun e W' ⟨he, bel⟩ => ?_
  subst he
  exact ⟨_, rfl, _, _, _, [], _, [], hW', trodAll_mk1 (shut_bool Try.underlying4 _), (trodAll_cons_mk (Below.trod laidOut (by kernel_rfl) (of_decide_eq_true (by kernel_rfl)) k0 bel lt0) (trodAll_cons_mk (shut_int Try.underlying3 w1) trodAll_mk0)), rfl, bel.frame _, fun h => by cases h⟩

theorem over : Rows.flagsUpRow.holds Try.pinned (OpenSpec.ofChange Rows.flagsUpSpec) :=
  OpenClaim.holds_of_wide 3 Try.f3 rfl rfl rfl rfl rfl rfl rfl ⟨rfl, rfl, rfl, rfl, rfl⟩ rfl rfl rfl rfl rfl (by kernel_rfl) Try.func3 (by kernel_rfl)
    (of_decide_eq_true (by kernel_rfl)) (by unfold Func.isWrapper; first | (rw [if_pos (by decide +kernel)]; kernel_rfl) | (rw [if_neg (by decide +kernel)]; exact ⟨rfl, rfl⟩))
    (fun os started H enc _ => lifted os started H enc)

/-- THE STATEMENT -/
theorem proved : Rows.FlagsUpSaid := over
end Go.Proofs.Ytlocjhhbkjgocaa.flagsUp
