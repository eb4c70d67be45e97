/-
  Proved here: entries that were written are read as they were, and the other way round. No conditions.
-/
import Derived.Test.YtkpgefjbhimmgaaAwake10
import Derived.Test.YtkpgefjbhimmgaaEntSame
import Derived.Test.YtkpgefjbhimmgaaEntIn
namespace Go.Proofs.Ytkpgefjbhimmgaa.entryRound
open Go.ChangeShapes Go.WideShapes Go.ChangeAt Go.RowKit
open Go.ChangeMaps (open_string shut_string)
set_option linter.unusedVariables false
set_option linter.unusedSimpArgs false

set_option maxHeartbeats 3200000 in
theorem walk (a0 : Option Addr) (len0 cap0 : Nat) (e0 : List PEnt) (a1 : Option Addr) (len1 cap1 : Nat) (z1 : List Int) (w : World) (w0 : EntArg w a0 len0 cap0 e0) (w1 : IsRow .u8 w a1 len1 cap1 z1) (rch1 : cap1 ≤ 140737488351232) :
    Calls Try.prog 10 #[.slice a0 len0 cap0, .slice a1 len1 cap1] w fun e w' => e = .returned (.bool true) ∧ Below w.heap.size w w' := by
  have hA := w1.arg rch1
  obtain ⟨zs, HZ⟩ : ∃ zs, Hid (zs = z1.take len1) := ⟨_, Lib.hid rfl⟩
  rw [← HZ.out] at hA
  have HA := Lib.hid hA
  have HE0 := Lib.hid w0
  have c1 := fun W (h : Below w.heap.size w W) => eenc_any a0 len0 cap0 e0 W (w0.later h)
  have c2 := fun W (h : Below w.heap.size w W) => edec_any a1 len1 cap1 zs W (hA.later h)
  have HL0 : Hid (e0.length = len0) := Lib.hid w0.1.1
  unfold EncDone at c1
  unfold DecDone at c2
  have C1 := Lib.hid c1
  have C2 := Lib.hid c2
  have B0 := Lib.hid (Below.refl w.heap.size w)
  clear c1 c2 hA w0 w1 rch1 HZ
  -- what the second half does, wherever it begins
  have second : True := trivial
  by_cases hs : soundE [e0] = true
  · have HO : Hid (entOut e0 = entBlock e0 ∧ entErr e0 = 0 ∧ (entBlock e0).length = 64 ∧ getEnt (entBlock e0) = e0 ∧ getEntErr (entBlock e0) = 0) := Lib.hid (by
      have h := getEnt_block hs
      unfold entOut entErr
      rw [if_pos hs, if_pos hs]
      exact ⟨rfl, rfl, entBlock_length hs, h.1, h.2⟩)
    have C1' := C1.out
    rw [HO.out.1, HO.out.2.1] at C1'
    have C1'' := Lib.hid C1'
    clear hs C1' second
    have CD : Hid (∀ (W : World) (ao : Option Addr) (cap : Nat), Arg W ao 64 cap (entBlock e0) → Calls Try.prog 15 #[.slice ao (64 : Nat) cap] W fun e w' => ∃ v, e = .returned (.tuple #[v, .int .i64 0]) ∧ EntVal w' v e0 ∧ Below W.heap.size W w') := Lib.hid (fun W ao cap h => by
      have := edec_any ao 64 cap (entBlock e0) W h
      unfold DecDone at this
      rwa [HO.out.2.2.2.1, HO.out.2.2.2.2] at this)
    have H64 := Lib.hid HO.out.2.2.1
    generalize entBlock e0 = O at *
    by_cases hi : isEnt zs = true
    · have HI : Hid (getEntErr zs = 0 ∧ entOut (getEnt zs) = zs ∧ entErr (getEnt zs) = 0) := Lib.hid (by
        obtain ⟨i1, i2⟩ := isEnt_block hi
        unfold getEntErr getEnt entOut entErr
        rw [if_pos hi, if_pos hi, if_pos i1, if_pos i1]
        exact ⟨rfl, i2, rfl⟩)
      have C2' := C2.out
      rw [HI.out.1] at C2'
      have C2'' := Lib.hid C2'
      have CE : Hid (∀ (W : World) (ao : Option Addr) (n cap : Nat), n = (getEnt zs).length → EntArg W ao n cap (getEnt zs) → Calls Try.prog 12 #[.slice ao n cap] W (Handed W.heap.size W zs 0)) := Lib.hid (fun W ao n cap hn h => by
        have := eenc_any ao n cap (getEnt zs) W h
        unfold EncDone at this
        rwa [HI.out.2.1, HI.out.2.2] at this)
      clear hi C2'
      obtain ⟨n, HLN⟩ : ∃ n, Hid ((getEnt zs).length = n) := ⟨_, Lib.hid rfl⟩
      generalize getEnt zs = L at *
      go_enter Try.func10, Try.ntmps10
      go_wp2_with fail
      go_at_call 12
      refine (C1''.out _ B0.out).mono ?_
      rintro e w2 ⟨v2, rfl, hf2, hb2⟩
      obtain ⟨a2, k2, rfl, hA2⟩ := fresh_form hf2
      rw [H64.out] at hA2
      rw [H64.out]
      have A2 := Lib.hid hA2
      have B2 := Lib.hid hb2
      clear hf2 hA2 hb2
      go_wp2_with fail
      go_at_call 15
      refine (CD.out _ _ _ A2.out).mono ?_
      rintro e w3 ⟨v3, rfl, ⟨a3, k3, rfl, hE3⟩, hb3⟩
      rw [HL0.out] at hE3
      rw [HL0.out]
      have B3 := Lib.hid (B2.out.trans (hb3.mono B2.out.size))
      have S1 := Lib.hid (two_blks (T := 22) hE3 (HE0.out.later B3.out))
      clear hE3 hb3
      go_wp2_with fail
      go_at_call 17
      (with_reducible refine (same_true _ _ 1 1 1 [e0] _ S1.out.1 S1.out.2.1).mono ?_)
      rintro e w4 ⟨rfl, hb4⟩
      have B4 := Lib.hid (B3.out.trans ((S1.out.2.2.trans (hb4.mono S1.out.2.2.size)).mono B3.out.size))
      clear hb4
      go_wp2_with fail
      go_at_call 15
      refine (C2''.out _ B4.out).mono ?_
      rintro e w5 ⟨v5, rfl, ⟨a5, k5, rfl, hE5⟩, hb5⟩
      rw [HLN.out] at hE5
      rw [HLN.out]
      have E5 := Lib.hid hE5
      have B5 := Lib.hid (B4.out.trans (hb5.mono B4.out.size))
      clear hE5 hb5
      go_wp2_with fail
      go_at_call 12
      refine (CE.out _ _ _ _ HLN.out.symm E5.out).mono ?_
      rintro e w6 ⟨v6, rfl, hf6, hb6⟩
      have F6 := Lib.hid hf6
      have B6 := Lib.hid (B5.out.trans (hb6.mono B5.out.size))
      clear hf6 hb6
      go_wp2_with (go_at_call 14; refine (awake10_any _).mono ?_; rintro e2 w7 ⟨rfl, hb7⟩; have B7 := Lib.hid (B6.out.trans (hb7.mono B6.out.size)); have q2 := fresh_str (F6.out.later hb7); have q3 := str_bytes (cap := cap1) (HA.out.later B7.out).1; clear hb7)
      go_ret
      exact ⟨by simp, B7.out⟩
    · have HI : Hid (getEntErr zs = 2) := Lib.hid (by
        unfold getEntErr
        rw [if_neg hi])
      have C2' := C2.out
      rw [HI.out] at C2'
      have C2'' := Lib.hid C2'
      clear hi C2'
      go_enter Try.func10, Try.ntmps10
      go_wp2_with fail
      go_at_call 12
      refine (C1''.out _ B0.out).mono ?_
      rintro e w2 ⟨v2, rfl, hf2, hb2⟩
      obtain ⟨a2, k2, rfl, hA2⟩ := fresh_form hf2
      rw [H64.out] at hA2
      rw [H64.out]
      have A2 := Lib.hid hA2
      have B2 := Lib.hid hb2
      clear hf2 hA2 hb2
      go_wp2_with fail
      go_at_call 15
      refine (CD.out _ _ _ A2.out).mono ?_
      rintro e w3 ⟨v3, rfl, ⟨a3, k3, rfl, hE3⟩, hb3⟩
      rw [HL0.out] at hE3
      rw [HL0.out]
      have B3 := Lib.hid (B2.out.trans (hb3.mono B2.out.size))
      have S1 := Lib.hid (two_blks (T := 22) hE3 (HE0.out.later B3.out))
      clear hE3 hb3
      go_wp2_with fail
      go_at_call 17
      (with_reducible refine (same_true _ _ 1 1 1 [e0] _ S1.out.1 S1.out.2.1).mono ?_)
      rintro e w4 ⟨rfl, hb4⟩
      have B4 := Lib.hid (B3.out.trans ((S1.out.2.2.trans (hb4.mono S1.out.2.2.size)).mono B3.out.size))
      clear hb4
      go_wp2_with fail
      go_at_call 15
      refine (C2''.out _ B4.out).mono ?_
      rintro e w5 ⟨v5, rfl, hE5, hb5⟩
      have B5 := Lib.hid (B4.out.trans (hb5.mono B4.out.size))
      clear hE5 hb5
      go_wp2_with (go_at_call 14; refine (awake10_any _).mono ?_; rintro e2 w7 ⟨rfl, hb7⟩; have B7 := Lib.hid (B5.out.trans (hb7.mono B5.out.size)); clear hb7)
      go_ret
      exact ⟨by rfl, B7.out⟩
  · have HO : Hid (entErr e0 = 2) := Lib.hid (by
      unfold entErr
      rw [if_neg hs])
    have C1' := C1.out
    rw [HO.out] at C1'
    have C1'' := Lib.hid C1'
    clear hs C1' second
    by_cases hi : isEnt zs = true
    · have HI : Hid (getEntErr zs = 0 ∧ entOut (getEnt zs) = zs ∧ entErr (getEnt zs) = 0) := Lib.hid (by
        obtain ⟨i1, i2⟩ := isEnt_block hi
        unfold getEntErr getEnt entOut entErr
        rw [if_pos hi, if_pos hi, if_pos i1, if_pos i1]
        exact ⟨rfl, i2, rfl⟩)
      have C2' := C2.out
      rw [HI.out.1] at C2'
      have C2'' := Lib.hid C2'
      have CE : Hid (∀ (W : World) (ao : Option Addr) (n cap : Nat), n = (getEnt zs).length → EntArg W ao n cap (getEnt zs) → Calls Try.prog 12 #[.slice ao n cap] W (Handed W.heap.size W zs 0)) := Lib.hid (fun W ao n cap hn h => by
        have := eenc_any ao n cap (getEnt zs) W h
        unfold EncDone at this
        rwa [HI.out.2.1, HI.out.2.2] at this)
      clear hi C2'
      obtain ⟨n, HLN⟩ : ∃ n, Hid ((getEnt zs).length = n) := ⟨_, Lib.hid rfl⟩
      generalize getEnt zs = L at *
      go_enter Try.func10, Try.ntmps10
      go_wp2_with fail
      go_at_call 12
      refine (C1''.out _ B0.out).mono ?_
      rintro e w2 ⟨v2, rfl, hf2, hb2⟩
      have B4 := Lib.hid hb2
      clear hf2 hb2
      go_wp2_with fail
      go_at_call 15
      refine (C2''.out _ B4.out).mono ?_
      rintro e w5 ⟨v5, rfl, ⟨a5, k5, rfl, hE5⟩, hb5⟩
      rw [HLN.out] at hE5
      rw [HLN.out]
      have E5 := Lib.hid hE5
      have B5 := Lib.hid (B4.out.trans (hb5.mono B4.out.size))
      clear hE5 hb5
      go_wp2_with fail
      go_at_call 12
      refine (CE.out _ _ _ _ HLN.out.symm E5.out).mono ?_
      rintro e w6 ⟨v6, rfl, hf6, hb6⟩
      have F6 := Lib.hid hf6
      have B6 := Lib.hid (B5.out.trans (hb6.mono B5.out.size))
      clear hf6 hb6
      go_wp2_with (go_at_call 14; refine (awake10_any _).mono ?_; rintro e2 w7 ⟨rfl, hb7⟩; have B7 := Lib.hid (B6.out.trans (hb7.mono B6.out.size)); have q2 := fresh_str (F6.out.later hb7); have q3 := str_bytes (cap := cap1) (HA.out.later B7.out).1; clear hb7)
      go_ret
      exact ⟨by simp, B7.out⟩
    · have HI : Hid (getEntErr zs = 2) := Lib.hid (by
        unfold getEntErr
        rw [if_neg hi])
      have C2' := C2.out
      rw [HI.out] at C2'
      have C2'' := Lib.hid C2'
      clear hi C2'
      go_enter Try.func10, Try.ntmps10
      go_wp2_with fail
      go_at_call 12
      refine (C1''.out _ B0.out).mono ?_
      rintro e w2 ⟨v2, rfl, hf2, hb2⟩
      have B4 := Lib.hid hb2
      clear hf2 hb2
      go_wp2_with fail
      go_at_call 15
      refine (C2''.out _ B4.out).mono ?_
      rintro e w5 ⟨v5, rfl, hE5, hb5⟩
      have B5 := Lib.hid (B4.out.trans (hb5.mono B4.out.size))
      clear hE5 hb5
      go_wp2_with (go_at_call 14; refine (awake10_any _).mono ?_; rintro e2 w7 ⟨rfl, hb7⟩; have B7 := Lib.hid (B5.out.trans (hb7.mono B5.out.size)); clear hb7)
      go_ret
      exact ⟨by rfl, B7.out⟩

/-! ### The law's step -/
set_option maxRecDepth 100000 in
theorem lifted (os : Os) (started : os.Started) (H : Type) (enc : TypeId × Value → H) :
    ReturnsInHanded {} Try.checked os 10 .any (Rows.entryRoundSpec.pre6 enc Try.prog Try.f10 Rows.entryRoundRow.domain false) (Rows.entryRoundSpec.post enc Try.prog Try.f10 false true false false) := by
  refine returnsInHanded_of_change_sized (C := Try.checked) own started (by kernel_rfl) Try.func10
    (ChangeSpec.witness6 (enc := enc) (C := Try.checked) false ⟨#[], #[.slice none 0 0, .slice none 0 0], []⟩ 8 (by kernel_rfl) (by kernel_rfl) (by kernel_rfl) (by kernel_rfl)) ?_
  intro W base args ds gs before hval0 hW hcnd hsz0 _
  have hsz : (DataW.weightsEach Try.prog (Try.f10.params.toList ++ Rows.entryRoundSpec.plain.varTypes Try.prog) (ds ++ gs)).all (· ≤ reachBytes) = true := hsz0
  clear hsz0
  have hval : ∀ (j : Nat) t v, Try.f10.params[j]? = some t → args[j]? = some v → Value.okWide Try.prog W .any base t v := hval0
  have hW' := hW
  obtain ⟨p, q, hA0, hV, rfl, hfz, hnd⟩ := hW
  have hA : DataW.TrodAll enc Try.prog W 0 (fun _ => true) true Try.f10.params.toList args.toList ds p := hA0
  rw [Try.params10] at hA hval hsz
  obtain ⟨v0, vs0, d0, ds0, p0, q0, hargs, rfl, rfl, h0, r0⟩ := trodAll_cons hA
  obtain ⟨v1, vs1, d1, ds1, p1, q1, rfl, rfl, rfl, h1, r1⟩ := trodAll_cons r0
  obtain ⟨rfl, rfl, rfl⟩ := trodAll_nil r1
  obtain rfl : args = #[v0, v1] := by cases args; simp_all
  obtain ⟨rfl, rfl⟩ := trodVars_none hV
  have k0 := h0
  have lt0 : ∀ x ∈ p0, x.block < W.heap.size := by obtain ⟨m, hm⟩ := k0; exact DataW.trod_lt m _ _ _ hm
  obtain ⟨a0, len0, cap0, rfl⟩ := okWide_slice Try.underlying22 (hval 0 22 v0 rfl rfl)
  obtain ⟨e0, w0⟩ := open_ents_arg k0 (weights_of hsz (j := 0) rfl rfl)
  have k1 := h1
  have lt1 : ∀ x ∈ p1, x.block < W.heap.size := by obtain ⟨m, hm⟩ := k1; exact DataW.trod_lt m _ _ _ hm
  obtain ⟨a1, len1, cap1, rfl⟩ := okWide_slice Try.underlying23 (hval 1 23 v1 rfl rfl)
  obtain ⟨z1, w1, rch1⟩ := open_bytes k1 (fun e s hd => sized_slice hsz (j := 1) (t := 23) (e := 5) rfl (by rw [hd]; rfl) Try.underlying23)
  clear hA0 hval0
  refine (walk a0 len0 cap0 e0 a1 len1 cap1 z1 W w0 w1 rch1).mono fun e W' ⟨he, bel⟩ => ?_
  subst he
  exact ⟨_, rfl, _, _, _, [], _, [], hW', trodAll_mk1 (shut_bool Try.underlying4 _), (trodAll_cons_mk (Below.trod laidOut (by kernel_rfl) (of_decide_eq_true (by kernel_rfl)) k0 bel lt0) (trodAll_cons_mk (Below.trod laidOut (by kernel_rfl) (of_decide_eq_true (by kernel_rfl)) k1 bel lt1) trodAll_mk0)), rfl, bel.frame _, fun h => by cases h⟩

theorem over : Rows.entryRoundRow.holds Try.pinned (OpenSpec.ofChange Rows.entryRoundSpec) :=
  OpenClaim.holds_of_wide 10 Try.f10 rfl rfl rfl rfl rfl rfl rfl ⟨rfl, rfl, rfl, rfl, rfl⟩ rfl rfl rfl rfl rfl (by kernel_rfl) Try.func10 (by kernel_rfl)
    (of_decide_eq_true (by kernel_rfl)) (by unfold Func.isWrapper; first | (rw [if_pos (by decide +kernel)]; kernel_rfl) | (rw [if_neg (by decide +kernel)]; exact ⟨rfl, rfl⟩))
    (fun os started H enc _ => lifted os started H enc)

/-- The statement. -/
theorem proved : Rows.EntryRoundSaid := over
end Go.Proofs.Ytkpgefjbhimmgaa.entryRound
