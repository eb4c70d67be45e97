/-
  Proved here: spin.Sum of any bytes is what spin.More reaches byte by byte, and spin.More of no bytes leaves a sum as it is. No conditions.
-/
import Derived.Test.YtfplojlmfdgmiaaLaw
namespace Go.Proofs.Ytfplojlmfdgmiaa.spinBytes
open Go.ChangeShapes Go.WideShapes Go.ChangeAt Go.RowKit
open Go.ChangeMaps (open_string shut_string)
set_option linter.unusedVariables false

set_option maxHeartbeats 400000 in
theorem walk (a0 : Option Addr) (len0 cap0 : Nat) (z0 : List Int) (w : World) (w0 : IsRow .u8 w a0 len0 cap0 z0) (rch0 : cap0 ≤ 140737488351232) :
    Calls Try.prog 8 #[.slice a0 len0 cap0] w fun e w' => e = .returned (.bool true) ∧ Below w.heap.size w w' := by
  have hB := w0.bts
  have lb := w0.len_le
  obtain ⟨zs, HZ⟩ : ∃ zs, Hid (zs = z0.take len0) := ⟨_, Lib.hid rfl⟩
  rw [← HZ.out] at hB
  clear w0
  have c0 := Sum_any none 0 0 [] w ⟨rfl, by decide, by simp, Or.inl rfl⟩
  have hl := hB.1
  have hz := hB.2.2.1
  have HL : Hid (zs.length = len0) := Lib.hid hl
  have HE : Hid (∀ w2, Bts w2 none 0 []) := Lib.hid (fun w2 => ⟨rfl, by decide, by simp, Or.inl rfl⟩)
  have HT : Hid (moreS (sumS zs) [] = sumS zs) := Lib.hid (more_nil_sum zs)
  clear hl
  rcases hB.2.2.2 with rfl | ⟨b, off, rfl, hc⟩
  · have : zs = [] := List.length_eq_zero_iff.1 HL.out
    subst this
    generalize hS : sumS [] = S at *
    have HS : Hid (sumS [] = S) := Lib.hid hS
    clear hS hz
    go_enter Try.func8, Try.ntmps8
    go_wp2_with (go_at_call 11; refine c0.mono ?_; rintro e w' ⟨rfl, rfl⟩)
    go_loop [3, 4] (fun sv i => i = .int .i64 0 ∧ sv = .int .u32 S) (fun _ i => 0 - (intOf i).toNat)
    case atStart => exact ⟨rfl, rfl⟩
    case round =>
      obtain ⟨rfl, rfl⟩ := hrel
      go_wp2_with fail
      refine (awake_any _).mono ?_
      rintro e w2 ⟨rfl, hb⟩
      have cS := Sum_any a0 0 cap0 [] w2 (hB.later hb)
      have cM := More_any S none 0 0 [] w2 (by rw [← HS.out]; exact (sumS_bounds []).1) (by rw [← HS.out]; exact (sumS_bounds []).2) (HE.out w2)
      rw [HS.out] at cS
      rw [HT.out] at cM
      clear hB
      go_wp2_with (first | (go_at_call 11; refine cS.mono ?_; rintro e w' ⟨rfl, rfl⟩) | (go_at_call 13; refine cM.mono ?_; rintro e w' ⟨rfl, rfl⟩))
      go_ret
      exact ⟨rfl, hb⟩
  · go_enter Try.func8, Try.ntmps8
    go_wp2_with (go_at_call 11; refine c0.mono ?_; rintro e w' ⟨rfl, rfl⟩)
    go_loop [3, 4] (fun sv i => ∃ (k : Nat) (S : Int), k ≤ len0 ∧ i = .int .i64 k ∧ sv = .int .u32 S ∧ S = sumS (zs.take k)) (fun _ i => len0 - (intOf i).toNat)
    case atStart => exact ⟨0, _, Nat.zero_le _, rfl, rfl, rfl⟩
    case round =>
      obtain ⟨k, S, hk, rfl, rfl, hS⟩ := hrel
      have HS : Hid (S = sumS (zs.take k)) := Lib.hid hS
      clear hS
      by_cases hlt : k < len0
      · have cM := More_any S (some ⟨b, off + k, none⟩) 1 (cap0 - k) [zs.getD k 0] w (by rw [HS.out]; exact (sumS_bounds _).1) (by rw [HS.out]; exact (sumS_bounds _).2)
          ⟨rfl, by omega, fun z h => by rw [List.mem_singleton.1 h]; exact hz _ (getD_mem (by rw [HL.out]; exact hlt)), Or.inr ⟨_, _, rfl, fun j hj => by
            obtain rfl : j = 0 := by omega
            exact hc k hlt⟩⟩
        have HN : Hid (moreS S [zs.getD k 0] = sumS (zs.take (k + 1))) := Lib.hid (by rw [HS.out, more_sum, take_snoc zs k (by rw [HL.out]; exact hlt)])
        generalize moreS S [zs.getD k 0] = S1 at cM HN
        clear hz hc hB
        go_wp2_with (go_at_call 13; refine cM.mono ?_; rintro e w' ⟨rfl, rfl⟩)
        go_round
        case rel => exact ⟨k + 1, S1, by omega, by go_num, rfl, HN.out⟩
        case measure => simp [intOf]; omega
      · have : k = len0 := by omega
        subst this
        have HS2 : Hid (S = sumS zs) := Lib.hid (by rw [HS.out, List.take_of_length_le (by rw [HL.out]; exact Nat.le_refl _)])
        go_wp2_with fail
        refine (awake_any _).mono ?_
        rintro e w2 ⟨rfl, hb⟩
        have cS := Sum_any (some ⟨b, off, none⟩) k cap0 zs w2 (hB.later hb)
        have cM := More_any S none 0 0 [] w2 (by rw [HS2.out]; exact (sumS_bounds _).1) (by rw [HS2.out]; exact (sumS_bounds _).2) (HE.out w2)
        rw [← HS2.out] at cS
        rw [HS2.out, HT.out, ← HS2.out] at cM
        clear hz hc hB
        go_wp2_with (first | (go_at_call 11; refine cS.mono ?_; rintro e w' ⟨rfl, rfl⟩) | (go_at_call 13; refine cM.mono ?_; rintro e w' ⟨rfl, rfl⟩))
        go_ret
        exact ⟨rfl, hb⟩

/-! ### THE ROW's STEP: WRITTEN OUT: LEAVE IT -/
set_option maxRecDepth 100000 in
theorem lifted (os : Os) (started : os.Started) (H : Type) (enc : TypeId × Value → H) :
    ReturnsInHanded {} Try.checked os 8 .any (Rows.spinBytesSpec.pre6 enc Try.prog Try.f8 Rows.spinBytesRow.domain false) (Rows.spinBytesSpec.post enc Try.prog Try.f8 false true false false) := by
  refine returnsInHanded_of_change_sized (C := Try.checked) own started (by kernel_rfl) Try.func8
    (ChangeSpec.witness6 (enc := enc) (C := Try.checked) false ⟨#[], #[.slice none 0 0], []⟩ 8 (by kernel_rfl) (by kernel_rfl) (by kernel_rfl) (by kernel_rfl)) ?_
  intro W base args ds gs before hval0 hW hcnd hsz0 _
  have hsz : (DataW.weightsEach Try.prog (Try.f8.params.toList ++ Rows.spinBytesSpec.plain.varTypes Try.prog) (ds ++ gs)).all (· ≤ reachBytes) = true := hsz0
  clear hsz0
  have hval : ∀ (j : Nat) t v, Try.f8.params[j]? = some t → args[j]? = some v → Value.okWide Try.prog W .any base t v := hval0
  have hW' := hW
  obtain ⟨p, q, hA0, hV, rfl, hfz, hnd⟩ := hW
  have hA : DataW.TrodAll enc Try.prog W 0 (fun _ => true) true Try.f8.params.toList args.toList ds p := hA0
  rw [Try.params8] at hA hval hsz
  obtain ⟨v0, vs0, d0, ds0, p0, q0, hargs, rfl, rfl, h0, r0⟩ := trodAll_cons hA
  obtain ⟨rfl, rfl, rfl⟩ := trodAll_nil r0
  obtain rfl : args = #[v0] := by cases args; simp_all
  obtain ⟨rfl, rfl⟩ := trodVars_none hV
  obtain ⟨a0, len0, cap0, rfl⟩ := okWide_slice Try.underlying23 (hval 0 23 v0 rfl rfl)
  have k0 := h0
  have lt0 : ∀ x ∈ p0, x.block < W.heap.size := by obtain ⟨m, hm⟩ := k0; exact DataW.trod_lt m _ _ _ hm
  obtain ⟨z0, w0, rch0⟩ := open_bytes k0 (fun e s hd => sized_slice hsz (j := 0) (t := 23) (e := 5) rfl (by rw [hd]; rfl) Try.underlying23)
  clear hA0 hval0
  refine (walk a0 len0 cap0 z0 W w0 rch0).mono fun e W' ⟨he, bel⟩ => ?_
  subst he
  exact ⟨_, rfl, _, _, _, [], _, [], hW', trodAll_mk1 (shut_bool Try.underlying4 _), (trodAll_cons_mk (Below.trod laidOut (by kernel_rfl) (of_decide_eq_true (by kernel_rfl)) k0 bel lt0) trodAll_mk0), rfl, bel.frame _, fun h => by cases h⟩

theorem over : Rows.spinBytesRow.holds Try.pinned (OpenSpec.ofChange Rows.spinBytesSpec) :=
  OpenClaim.holds_of_wide 8 Try.f8 rfl rfl rfl rfl rfl rfl rfl ⟨rfl, rfl, rfl, rfl, rfl⟩ rfl rfl rfl rfl rfl (by kernel_rfl) Try.func8 (by kernel_rfl)
    (of_decide_eq_true (by kernel_rfl)) (by unfold Func.isWrapper; first | (rw [if_pos (by decide +kernel)]; kernel_rfl) | (rw [if_neg (by decide +kernel)]; exact ⟨rfl, rfl⟩))
    (fun os started H enc _ => lifted os started H enc)

/-- THE STATEMENT -/
theorem proved : Rows.SpinBytesSaid := over
end Go.Proofs.Ytfplojlmfdgmiaa.spinBytes
