/-
  Proved here: any name taken out of any blocks, as the document's own answer says. No conditions.
-/
import Derived.Test.YtkpgefjbhimmgaaAwake10
import Derived.Test.YtkpgefjbhimmgaaEntRefRem
import Derived.Test.YtkpgefjbhimmgaaEntRemove
import Derived.Test.YtkpgefjbhimmgaaEntSame
import Derived.Test.YtkpgefjbhimmgaaEntIn
namespace Go.Proofs.Ytkpgefjbhimmgaa.entryRemoves
open Go.ChangeShapes Go.WideShapes Go.ChangeAt Go.RowKit
open Go.ChangeMaps (open_string shut_string)
set_option linter.unusedVariables false
set_option linter.unusedSimpArgs false

set_option maxHeartbeats 3200000 in
theorem walk (a0 : Option Addr) (len0 cap0 : Nat) (b0 : List (List PEnt)) (s1 : ByteArray) (w : World) (w0 : BlkArg w a0 len0 cap0 b0) (w1 : s1.size ≤ 140737488351232) :
    Calls Try.prog 8 #[.slice a0 len0 cap0, .string s1] w fun e w' => e = .returned (.bool true) ∧ Below w.heap.size w w' := by
  by_cases hl : 120 < len0
  · have hA := w0.first (k := 120) (by omega)
    have i1 : (120 : Int) < (len0 : Int) := by omega
    have hcap : (120 : Int) ≤ (cap0 : Int) := by have := w0.2.2; omega
    have c1 := fun W (h : Below w.heap.size w W) => eremove_any a0 120 cap0 (b0.take 120) s1 W (hA.later h) w1
    have c2 := fun W (h : Below w.heap.size w W) => rremove_any a0 120 cap0 (b0.take 120) s1 W (hA.later h) w1
    unfold RemDone AddGives at c1 c2
    generalize removeRes (b0.take 120) s1 = R at *
    obtain ⟨r1, r2, r3⟩ := R
    obtain ⟨n, HN⟩ : ∃ n, Hid (r1.length = n) := ⟨_, Lib.hid rfl⟩
    dsimp only at c1 c2
    have C1 := Lib.hid c1
    have C2 := Lib.hid c2
    have B0 := Lib.hid (Below.refl w.heap.size w)
    clear c1 c2 hA w0 w1
    go_enter Try.func8, Try.ntmps8
    go_wp2_with (first | (go_at_call 24; refine (C1.out _ B0.out).mono ?_; rintro e2 w2 ⟨v2, rfl, ⟨a2, d2, rfl, hA2⟩, hb2⟩; rw [HN.out]; rw [HN.out] at hA2; have A2 := Lib.hid hA2; have B2 := Lib.hid (B0.out.trans (hb2.mono B0.out.size)); clear hA2 hb2) | (go_at_call 25; refine (C2.out _ B2.out).mono ?_; rintro e2 w3 ⟨v3, rfl, ⟨a3, d3, rfl, hA3⟩, hb3⟩; rw [HN.out]; rw [HN.out] at hA3; have A3 := Lib.hid hA3; have A23 := Lib.hid (A2.out.later hb3); have B3 := Lib.hid (B2.out.trans (hb3.mono B2.out.size)); clear hA3 hb3) | (go_at_call 14; refine (awake10_any _).mono ?_; rintro e2 w5 ⟨rfl, hb5⟩; have B5 := Lib.hid (B3.out.trans (hb5.mono B3.out.size)); have S1 := Lib.hid (A23.out.later hb5); have S2 := Lib.hid (A3.out.later hb5); clear hb5) | (go_at_call 17; (with_reducible refine (same_true _ _ n _ _ r1 _ S1.out S2.out).mono ?_); rintro e w6 ⟨rfl, hb6⟩; have B6 := Lib.hid (B5.out.trans (hb6.mono B5.out.size)); clear hb6))
    go_ret
    exact ⟨by simp, B6.out⟩
  · have hA := w0
    have i1 : ¬ (120 : Int) < (len0 : Int) := by omega
    have c1 := fun W (h : Below w.heap.size w W) => eremove_any a0 len0 cap0 b0 s1 W (hA.later h) w1
    have c2 := fun W (h : Below w.heap.size w W) => rremove_any a0 len0 cap0 b0 s1 W (hA.later h) w1
    unfold RemDone AddGives at c1 c2
    generalize removeRes b0 s1 = R at *
    obtain ⟨r1, r2, r3⟩ := R
    obtain ⟨n, HN⟩ : ∃ n, Hid (r1.length = n) := ⟨_, Lib.hid rfl⟩
    dsimp only at c1 c2
    have C1 := Lib.hid c1
    have C2 := Lib.hid c2
    have B0 := Lib.hid (Below.refl w.heap.size w)
    clear c1 c2 hA w0 w1
    go_enter Try.func8, Try.ntmps8
    go_wp2_with (first | (go_at_call 24; refine (C1.out _ B0.out).mono ?_; rintro e2 w2 ⟨v2, rfl, ⟨a2, d2, rfl, hA2⟩, hb2⟩; rw [HN.out]; rw [HN.out] at hA2; have A2 := Lib.hid hA2; have B2 := Lib.hid (B0.out.trans (hb2.mono B0.out.size)); clear hA2 hb2) | (go_at_call 25; refine (C2.out _ B2.out).mono ?_; rintro e2 w3 ⟨v3, rfl, ⟨a3, d3, rfl, hA3⟩, hb3⟩; rw [HN.out]; rw [HN.out] at hA3; have A3 := Lib.hid hA3; have A23 := Lib.hid (A2.out.later hb3); have B3 := Lib.hid (B2.out.trans (hb3.mono B2.out.size)); clear hA3 hb3) | (go_at_call 14; refine (awake10_any _).mono ?_; rintro e2 w5 ⟨rfl, hb5⟩; have B5 := Lib.hid (B3.out.trans (hb5.mono B3.out.size)); have S1 := Lib.hid (A23.out.later hb5); have S2 := Lib.hid (A3.out.later hb5); clear hb5) | (go_at_call 17; (with_reducible refine (same_true _ _ n _ _ r1 _ S1.out S2.out).mono ?_); rintro e w6 ⟨rfl, hb6⟩; have B6 := Lib.hid (B5.out.trans (hb6.mono B5.out.size)); clear hb6))
    go_ret
    exact ⟨by simp, B6.out⟩

/-! ### The law's step -/
set_option maxRecDepth 100000 in
theorem lifted (os : Os) (started : os.Started) (H : Type) (enc : TypeId × Value → H) :
    ReturnsInHanded {} Try.checked os 8 .any (Rows.entryRemovesSpec.pre6 enc Try.prog Try.f8 Rows.entryRemovesRow.domain false) (Rows.entryRemovesSpec.post enc Try.prog Try.f8 false true false false) := by
  refine returnsInHanded_of_change_sized (C := Try.checked) own started (by kernel_rfl) Try.func8
    (ChangeSpec.witness6 (enc := enc) (C := Try.checked) false ⟨#[], #[.slice none 0 0, .string ByteArray.empty], []⟩ 8 (by kernel_rfl) (by kernel_rfl) (by kernel_rfl) (by kernel_rfl)) ?_
  intro W base args ds gs before hval0 hW hcnd hsz0 _
  have hsz : (DataW.weightsEach Try.prog (Try.f8.params.toList ++ Rows.entryRemovesSpec.plain.varTypes Try.prog) (ds ++ gs)).all (· ≤ reachBytes) = true := hsz0
  clear hsz0
  have hval : ∀ (j : Nat) t v, Try.f8.params[j]? = some t → args[j]? = some v → Value.okWide Try.prog W .any base t v := hval0
  have hW' := hW
  obtain ⟨p, q, hA0, hV, rfl, hfz, hnd⟩ := hW
  have hA : DataW.TrodAll enc Try.prog W 0 (fun _ => true) true Try.f8.params.toList args.toList ds p := hA0
  rw [Try.params8] at hA hval hsz
  obtain ⟨v0, vs0, d0, ds0, p0, q0, hargs, rfl, rfl, h0, r0⟩ := trodAll_cons hA
  obtain ⟨v1, vs1, d1, ds1, p1, q1, rfl, rfl, rfl, h1, r1⟩ := trodAll_cons r0
  obtain ⟨rfl, rfl, rfl⟩ := trodAll_nil r1
  obtain rfl : args = #[v0, v1] := by cases args; simp_all
  obtain ⟨rfl, rfl⟩ := trodVars_none hV
  have k0 := h0
  have lt0 : ∀ x ∈ p0, x.block < W.heap.size := by obtain ⟨m, hm⟩ := k0; exact DataW.trod_lt m _ _ _ hm
  obtain ⟨a0, len0, cap0, rfl⟩ := okWide_slice Try.underlying33 (hval 0 33 v0 rfl rfl)
  obtain ⟨b0, w0⟩ := open_blks_arg k0 (weights_of hsz (j := 0) rfl rfl)
  have k1 := h1
  have lt1 : ∀ x ∈ p1, x.block < W.heap.size := by obtain ⟨m, hm⟩ := k1; exact DataW.trod_lt m _ _ _ hm
  obtain ⟨s1, rfl, w1⟩ := open_name (hval 1 9 v1 rfl rfl) h1 (weights_of hsz (j := 1) rfl rfl)
  clear hA0 hval0
  refine (walk a0 len0 cap0 b0 s1 W w0 w1).mono fun e W' ⟨he, bel⟩ => ?_
  subst he
  exact ⟨_, rfl, _, _, _, [], _, [], hW', trodAll_mk1 (shut_bool Try.underlying4 _), (trodAll_cons_mk (Below.trod laidOut (by kernel_rfl) (of_decide_eq_true (by kernel_rfl)) k0 bel lt0) (trodAll_cons_mk (Below.trod laidOut (by kernel_rfl) (of_decide_eq_true (by kernel_rfl)) k1 bel lt1) trodAll_mk0)), rfl, bel.frame _, fun h => by cases h⟩

theorem over : Rows.entryRemovesRow.holds Try.pinned (OpenSpec.ofChange Rows.entryRemovesSpec) :=
  OpenClaim.holds_of_wide 8 Try.f8 rfl rfl rfl rfl rfl rfl rfl ⟨rfl, rfl, rfl, rfl, rfl⟩ rfl rfl rfl rfl rfl (by kernel_rfl) Try.func8 (by kernel_rfl)
    (of_decide_eq_true (by kernel_rfl)) (by unfold Func.isWrapper; first | (rw [if_pos (by decide +kernel)]; kernel_rfl) | (rw [if_neg (by decide +kernel)]; exact ⟨rfl, rfl⟩))
    (fun os started H enc _ => lifted os started H enc)

/-- The statement. -/
theorem proved : Rows.EntryRemovesSaid := over
end Go.Proofs.Ytkpgefjbhimmgaa.entryRemoves
