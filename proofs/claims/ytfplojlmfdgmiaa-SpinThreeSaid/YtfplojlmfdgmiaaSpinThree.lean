/-
  Proved here: spin.Join of three texts' sums may be begun at either end. No conditions.
-/
import Derived.Test.YtfplojlmfdgmiaaLaw
namespace Go.Proofs.Ytfplojlmfdgmiaa.spinThree
open Go.ChangeShapes Go.WideShapes Go.ChangeAt Go.RowKit
open Go.ChangeMaps (open_string shut_string)
set_option linter.unusedVariables false

set_option maxHeartbeats 400000 in
theorem walk (a0 : Option Addr) (len0 cap0 : Nat) (z0 : List Int) (a1 : Option Addr) (len1 cap1 : Nat) (z1 : List Int) (a2 : Option Addr) (len2 cap2 : Nat) (z2 : List Int) (w : World) (w0 : IsRow .u8 w a0 len0 cap0 z0) (rch0 : cap0 ≤ 140737488351232) (w1 : IsRow .u8 w a1 len1 cap1 z1) (rch1 : cap1 ≤ 140737488351232) (w2 : IsRow .u8 w a2 len2 cap2 z2) (rch2 : cap2 ≤ 140737488351232) :
    Calls Try.prog 7 #[.slice a0 len0 cap0, .slice a1 len1 cap1, .slice a2 len2 cap2] w fun e w' => e = .returned (.bool true) ∧ Below w.heap.size w w' := by
  have hB0 := w0.bts
  have hB1 := w1.bts
  have hB2 := w2.bts
  have lb1 := w1.len_le
  have lb2 := w2.len_le
  obtain ⟨xs, HX⟩ : ∃ zs, Hid (zs = z0.take len0) := ⟨_, Lib.hid rfl⟩
  obtain ⟨ys, HY⟩ : ∃ zs, Hid (zs = z1.take len1) := ⟨_, Lib.hid rfl⟩
  obtain ⟨zs, HZ⟩ : ∃ zs, Hid (zs = z2.take len2) := ⟨_, Lib.hid rfl⟩
  rw [← HX.out] at hB0
  rw [← HY.out] at hB1
  rw [← HZ.out] at hB2
  have c0 := Sum_any a0 len0 cap0 xs w hB0
  have c1 := Sum_any a1 len1 cap1 ys w hB1
  have c2 := Sum_any a2 len2 cap2 zs w hB2
  have j1 := fun w' => Join_any (sumS xs) (sumS ys) len1 w' (sumS_bounds xs).1 (sumS_bounds xs).2 (sumS_bounds ys).1 (sumS_bounds ys).2 (by omega) (by omega)
  have j3 := fun w' => Join_any (sumS ys) (sumS zs) len2 w' (sumS_bounds ys).1 (sumS_bounds ys).2 (sumS_bounds zs).1 (sumS_bounds zs).2 (by omega) (by omega)
  have j2 := fun w' => Join_any (joinS (sumS xs) (sumS ys) (Int.toNat len1)) (sumS zs) len2 w' (joinS_bounds _ _ _).1 (joinS_bounds _ _ _).2 (sumS_bounds zs).1 (sumS_bounds zs).2 (by omega) (by omega)
  have j4 := fun w' => Join_any (sumS xs) (joinS (sumS ys) (sumS zs) (Int.toNat len2)) ((len1 : Int) + len2) w' (sumS_bounds xs).1 (sumS_bounds xs).2 (joinS_bounds _ _ _).1 (joinS_bounds _ _ _).2 (by omega) (by omega)
  have hJ : joinS (joinS (sumS xs) (sumS ys) (Int.toNat len1)) (sumS zs) (Int.toNat len2) = joinS (sumS xs) (joinS (sumS ys) (sumS zs) (Int.toNat len2)) (Int.toNat ((len1 : Int) + len2)) := by
    have e := join_three xs ys zs
    rw [hB1.1, hB2.1] at e
    have e3 : Int.toNat ((len1 : Int) + len2) = len1 + len2 := by omega
    rw [e3]
    exact e
  rw [← hJ] at j4
  clear hJ w0 w1 w2 hB0 hB1 hB2
  generalize joinS (joinS (sumS xs) (sumS ys) (Int.toNat len1)) (sumS zs) (Int.toNat len2) = J at j2 j4
  generalize joinS (sumS xs) (sumS ys) (Int.toNat len1) = J1 at j1 j2
  generalize joinS (sumS ys) (sumS zs) (Int.toNat len2) = J3 at j3 j4
  generalize sumS xs = X at *
  generalize sumS ys = Y at *
  generalize sumS zs = Z at *
  go_enter Try.func7, Try.ntmps7
  go_wp2_with (go_at_call 11; first | ((with_reducible refine c0.mono ?_); rintro e w' ⟨rfl, rfl⟩) | ((with_reducible refine c1.mono ?_); rintro e w' ⟨rfl, rfl⟩) | ((with_reducible refine c2.mono ?_); rintro e w' ⟨rfl, rfl⟩))
  refine (awake_any _).mono ?_
  rintro e w2 ⟨rfl, hb⟩
  go_wp2_with (go_at_call 15; first | ((with_reducible refine (j1 w2).mono ?_); rintro e w' ⟨rfl, rfl⟩) | ((with_reducible refine (j2 w2).mono ?_); rintro e w' ⟨rfl, rfl⟩) | ((with_reducible refine (j3 w2).mono ?_); rintro e w' ⟨rfl, rfl⟩) | ((with_reducible refine (j4 w2).mono ?_); rintro e w' ⟨rfl, rfl⟩))
  go_ret
  exact ⟨rfl, hb⟩

/-! ### THE ROW's STEP: WRITTEN OUT: LEAVE IT -/
set_option maxRecDepth 100000 in
theorem lifted (os : Os) (started : os.Started) (H : Type) (enc : TypeId × Value → H) :
    ReturnsInHanded {} Try.checked os 7 .any (Rows.spinThreeSpec.pre6 enc Try.prog Try.f7 Rows.spinThreeRow.domain false) (Rows.spinThreeSpec.post enc Try.prog Try.f7 false true false false) := by
  refine returnsInHanded_of_change_sized (C := Try.checked) own started (by kernel_rfl) Try.func7
    (ChangeSpec.witness6 (enc := enc) (C := Try.checked) false ⟨#[], #[.slice none 0 0, .slice none 0 0, .slice none 0 0], []⟩ 8 (by kernel_rfl) (by kernel_rfl) (by kernel_rfl) (by kernel_rfl)) ?_
  intro W base args ds gs before hval0 hW hcnd hsz0 _
  have hsz : (DataW.weightsEach Try.prog (Try.f7.params.toList ++ Rows.spinThreeSpec.plain.varTypes Try.prog) (ds ++ gs)).all (· ≤ reachBytes) = true := hsz0
  clear hsz0
  have hval : ∀ (j : Nat) t v, Try.f7.params[j]? = some t → args[j]? = some v → Value.okWide Try.prog W .any base t v := hval0
  have hW' := hW
  obtain ⟨p, q, hA0, hV, rfl, hfz, hnd⟩ := hW
  have hA : DataW.TrodAll enc Try.prog W 0 (fun _ => true) true Try.f7.params.toList args.toList ds p := hA0
  rw [Try.params7] at hA hval hsz
  obtain ⟨v0, vs0, d0, ds0, p0, q0, hargs, rfl, rfl, h0, r0⟩ := trodAll_cons hA
  obtain ⟨v1, vs1, d1, ds1, p1, q1, rfl, rfl, rfl, h1, r1⟩ := trodAll_cons r0
  obtain ⟨v2, vs2, d2, ds2, p2, q2, rfl, rfl, rfl, h2, r2⟩ := trodAll_cons r1
  obtain ⟨rfl, rfl, rfl⟩ := trodAll_nil r2
  obtain rfl : args = #[v0, v1, v2] := by cases args; simp_all
  obtain ⟨rfl, rfl⟩ := trodVars_none hV
  obtain ⟨a0, len0, cap0, rfl⟩ := okWide_slice Try.underlying23 (hval 0 23 v0 rfl rfl)
  have k0 := h0
  have lt0 : ∀ x ∈ p0, x.block < W.heap.size := by obtain ⟨m, hm⟩ := k0; exact DataW.trod_lt m _ _ _ hm
  obtain ⟨z0, w0, rch0⟩ := open_bytes k0 (fun e s hd => sized_slice hsz (j := 0) (t := 23) (e := 5) rfl (by rw [hd]; rfl) Try.underlying23)
  obtain ⟨a1, len1, cap1, rfl⟩ := okWide_slice Try.underlying23 (hval 1 23 v1 rfl rfl)
  have k1 := h1
  have lt1 : ∀ x ∈ p1, x.block < W.heap.size := by obtain ⟨m, hm⟩ := k1; exact DataW.trod_lt m _ _ _ hm
  obtain ⟨z1, w1, rch1⟩ := open_bytes k1 (fun e s hd => sized_slice hsz (j := 1) (t := 23) (e := 5) rfl (by rw [hd]; rfl) Try.underlying23)
  obtain ⟨a2, len2, cap2, rfl⟩ := okWide_slice Try.underlying23 (hval 2 23 v2 rfl rfl)
  have k2 := h2
  have lt2 : ∀ x ∈ p2, x.block < W.heap.size := by obtain ⟨m, hm⟩ := k2; exact DataW.trod_lt m _ _ _ hm
  obtain ⟨z2, w2, rch2⟩ := open_bytes k2 (fun e s hd => sized_slice hsz (j := 2) (t := 23) (e := 5) rfl (by rw [hd]; rfl) Try.underlying23)
  clear hA0 hval0
  refine (walk a0 len0 cap0 z0 a1 len1 cap1 z1 a2 len2 cap2 z2 W w0 rch0 w1 rch1 w2 rch2).mono fun e W' ⟨he, bel⟩ => ?_
  subst he
  exact ⟨_, rfl, _, _, _, [], _, [], hW', trodAll_mk1 (shut_bool Try.underlying4 _), (trodAll_cons_mk (Below.trod laidOut (by kernel_rfl) (of_decide_eq_true (by kernel_rfl)) k0 bel lt0) (trodAll_cons_mk (Below.trod laidOut (by kernel_rfl) (of_decide_eq_true (by kernel_rfl)) k1 bel lt1) (trodAll_cons_mk (Below.trod laidOut (by kernel_rfl) (of_decide_eq_true (by kernel_rfl)) k2 bel lt2) trodAll_mk0))), rfl, bel.frame _, fun h => by cases h⟩

theorem over : Rows.spinThreeRow.holds Try.pinned (OpenSpec.ofChange Rows.spinThreeSpec) :=
  OpenClaim.holds_of_wide 7 Try.f7 rfl rfl rfl rfl rfl rfl rfl ⟨rfl, rfl, rfl, rfl, rfl⟩ rfl rfl rfl rfl rfl (by kernel_rfl) Try.func7 (by kernel_rfl)
    (of_decide_eq_true (by kernel_rfl)) (by unfold Func.isWrapper; first | (rw [if_pos (by decide +kernel)]; kernel_rfl) | (rw [if_neg (by decide +kernel)]; exact ⟨rfl, rfl⟩))
    (fun os started H enc _ => lifted os started H enc)

/-- THE STATEMENT -/
theorem proved : Rows.SpinThreeSaid := over
end Go.Proofs.Ytfplojlmfdgmiaa.spinThree
