/-
  Proved here: names that are added one by one are found, three in a block, in their order. No conditions.
-/
import Derived.Test.YtkpgefjbhimmgaaAwake10
import Derived.Test.YtkpgefjbhimmgaaEntRemove
import Derived.Test.YtkpgefjbhimmgaaEntIn
import Derived.Test.YtkpgefjbhimmgaaEntName
namespace Go.Proofs.Ytkpgefjbhimmgaa.entryMany
open Go.ChangeShapes Go.WideShapes Go.ChangeAt Go.RowKit
open Go.ChangeMaps (open_string shut_string)
set_option linter.unusedVariables false
set_option linter.unusedSimpArgs false

set_option maxRecDepth 100000 in
set_option maxHeartbeats 6400000 in
theorem walk (a0 : Int) (a1 : Int) (w : World) (w0 : (Lit.int .u8 a0).wf = true) (w1 : (Lit.int .u8 a1).wf = true) :
    Calls Try.prog 11 #[.int .u8 a0, .int .u8 a1] w fun e w' => e = .returned (.bool true) ∧ Below w.heap.size w w' := by
  have hw0 := wf_u8 w0
  have hw1 := wf_u8 w1
  obtain ⟨c, rfl⟩ : ∃ c : Nat, a0 = (c : Int) := ⟨a0.toNat, by omega⟩
  obtain ⟨d, rfl⟩ : ∃ d : Nat, a1 = (d : Int) := ⟨a1.toNat, by omega⟩
  obtain ⟨n, Hn⟩ : ∃ n : Nat, Hid (n = c % 100 + 1) := ⟨_, Lib.hid rfl⟩
  have t0 : Int.tmod (c : Int) 100 = ((n - 1 : Nat) : Int) := by rw [Int.tmod_eq_emod_of_nonneg (by omega)]; have := Hn.out; omega
  have t1 : IntKind.i64.wrap (((n - 1 : Nat) : Int) + 1) = (n : Int) := by have := Hn.out; rw [IntKind.wrap_i64]; omega
  have t2 : (((n - 1 : Nat) : Int) + 1) = (n : Int) := by have := Hn.out; omega
  have hn : n ≤ 100 := by have := Hn.out; omega
  have hn0 : 1 ≤ n := by have := Hn.out; omega
  clear w0 w1
  go_enter Try.func11, Try.ntmps11
  go_wp2_with fail
  have HW0 : Hid (Below w.heap.size w (w.alloc (.cells #[] 40))) := Lib.hid ((Below.refl _ _).alloc (Nat.le_refl _) _)
  go_loopw [6, 7] (fun bv iv wr => ∃ i : Nat, i ≤ n ∧ iv = .int .i64 i ∧ Hid (BlkVal wr bv (manyB i)) ∧ Hid (Below w.heap.size w wr)) (fun _ iv _ => n - (intOf iv).toNat)
  case atStart => exact ⟨0, Nat.zero_le _, rfl, Lib.hid ⟨_, 0, rfl, ⟨rfl, by decide, Or.inl rfl⟩, (fun h => by cases h), Nat.le_refl _⟩, Lib.hid ((Below.refl _ _).alloc (Nat.le_refl _) _)⟩
  case round =>
    obtain ⟨i, hi, rfl, HB, HW⟩ := hrel
    obtain ⟨ao, cap, rfl, hA⟩ := HB.out
    have HA := Lib.hid hA
    clear hA HB
    by_cases hlt : i < n
    · have j1 : (i : Int) < (n : Int) := by omega
      obtain ⟨m, hm⟩ : ∃ m, i % 32 = m := ⟨_, rfl⟩
      obtain ⟨p, hp⟩ : ∃ p, i % 26 = p := ⟨_, rfl⟩
      obtain ⟨q, hq⟩ : ∃ q, i / 26 = q := ⟨_, rfl⟩
      obtain ⟨r, hr⟩ : ∃ r, i / 3 = r := ⟨_, rfl⟩
      have s1 : Int.tmod (i : Int) 32 = (m : Int) := by rw [Int.tmod_eq_emod_of_nonneg (by omega)]; omega
      have s2 : Int.tmod (i : Int) 26 = (p : Int) := by rw [Int.tmod_eq_emod_of_nonneg (by omega)]; omega
      have s3 : Int.tdiv (i : Int) 26 = (q : Int) := by rw [Int.tdiv_eq_ediv_of_nonneg (by omega)]; omega
      have s4 : Int.tdiv (i : Int) 3 = (r : Int) := by rw [Int.tdiv_eq_ediv_of_nonneg (by omega)]; omega
      have hp26 : p < 26 := by omega
      have hr33 : r ≤ 33 := by omega
      have hq3 : q ≤ 3 := by omega
      obtain ⟨sx, hcv, hcat, hsx⟩ := two_text wr i p q hp hq (by omega)
      have HM : Hid (entOf i = ⟨(m : Int), nameOf i⟩) := Lib.hid (by rw [← hm]; rfl)
      have HSZ : Hid ((nameOf i).size ≤ 140737488351232) := Lib.hid (by show 3 ≤ _; decide)
      have HI := Lib.hid hi
      have HLT := Lib.hid hlt
      have HR := Lib.hid hr
      have HB0 : Hid (Below wr.heap.size wr (wr.alloc (.cells #[.int .u8 (97 + (p : Int)), .int .u8 (97 + (q : Int))] 5))) := Lib.hid ((Below.refl _ _).alloc (Nat.le_refl _) _)
      have cA := eadd_any ao (manyB i).length cap (manyB i) (m : Int) (nameOf i) _ (HA.out.later HB0.out) ⟨⟨by omega, by omega⟩, HSZ.out⟩
      unfold AddDone at cA
      rw [← HM.out, add_many (by omega), hr] at cA
      dsimp only at cA
      have CA := Lib.hid cA
      clear hm hp hq hr cA
      go_wp2_with fail
      go_at_call 22
      refine CA.out.mono ?_
      rintro e w2 ⟨v2, rfl, hv2, hb2⟩
      have V2 := Lib.hid hv2
      have B2 := Lib.hid (HB0.out.trans (hb2.mono HB0.out.size))
      clear hv2 hb2
      go_wp2_with fail
      go_at_call 14
      refine (awake10_any _).mono ?_
      rintro e w3 ⟨rfl, hb3⟩
      have V3 : Hid (BlkVal w3 v2 (manyB (i + 1))) := Lib.hid (V2.out.later hb3)
      have B3 := Lib.hid (B2.out.trans (hb3.mono B2.out.size))
      clear hb3
      go_wp2_with fail
      go_roundw
      case rel => exact ⟨i + 1, by have := HLT.out; omega, by go_num, V3, Lib.hid (HW.out.trans (B3.out.mono HW.out.size))⟩
      case measure => have := HLT.out; simp [intOf]; omega
    · obtain rfl : i = n := by omega
      have j1 : ¬ (i : Int) < (i : Int) := by omega
      obtain ⟨k, hk⟩ : ∃ k, d % i = k := ⟨_, rfl⟩
      have hki : k < i := by rw [← hk]; exact Nat.mod_lt _ (by omega)
      have t3 : Int.tmod (d : Int) (i : Int) = (k : Int) := by rw [Int.tmod_eq_emod_of_nonneg (by omega), ← hk]; rfl
      obtain ⟨p, hp⟩ : ∃ p, k % 26 = p := ⟨_, rfl⟩
      obtain ⟨q, hq⟩ : ∃ q, k / 26 = q := ⟨_, rfl⟩
      obtain ⟨r, hr⟩ : ∃ r, k / 3 = r := ⟨_, rfl⟩
      obtain ⟨z, hz⟩ : ∃ z, k % 3 = z := ⟨_, rfl⟩
      have s2 : Int.tmod (k : Int) 26 = (p : Int) := by rw [Int.tmod_eq_emod_of_nonneg (by omega)]; omega
      have s3 : Int.tdiv (k : Int) 26 = (q : Int) := by rw [Int.tdiv_eq_ediv_of_nonneg (by omega)]; omega
      have s4 : Int.tdiv (k : Int) 3 = (r : Int) := by rw [Int.tdiv_eq_ediv_of_nonneg (by omega)]; omega
      have s5 : Int.tmod (k : Int) 3 = (z : Int) := by rw [Int.tmod_eq_emod_of_nonneg (by omega)]; omega
      have hr33 : r ≤ 33 := by omega
      have hz2 : z ≤ 2 := by omega
      have hp26 : p < 26 := by omega
      have hq3 : q ≤ 3 := by omega
      obtain ⟨sx, hcv, hcat, hsx⟩ := two_text wr k p q hp hq (by omega)
      have HSZ : Hid ((nameOf k).size ≤ 140737488351232) := Lib.hid (by show 3 ≤ _; decide)
      have HB0 : Hid (Below wr.heap.size wr (wr.alloc (.cells #[.int .u8 (97 + (p : Int)), .int .u8 (97 + (q : Int))] 5))) := Lib.hid ((Below.refl _ _).alloc (Nat.le_refl _) _)
      obtain ⟨C, es, hadd, hCl, hCr, hes⟩ := again_many hn hki
      have CF : Hid (∀ W, Below wr.heap.size wr W → Calls Try.prog 20 #[.slice ao (manyB i).length cap, .string (nameOf k)] W fun e w' => e = .returned (.tuple #[.int .i64 (r : Int), .int .i64 (z : Int), .int .i64 0]) ∧ Below W.heap.size W w') := Lib.hid (fun W hW => by
        have := efind_any ao (manyB i).length cap (manyB i) (nameOf k) W (HA.out.later hW) HSZ.out
        unfold FindDone at this
        rwa [find_many hn hki, hr, hz] at this)
      have CR : Hid (∀ W, Below wr.heap.size wr W → Calls Try.prog 24 #[.slice ao (manyB i).length cap, .string (nameOf k)] W fun e w' => ∃ v, e = .returned (.tuple #[v, .int .i64 (r : Int), .int .i64 0]) ∧ BlkVal w' v (removeAt (manyB i) r z) ∧ Below W.heap.size W w') := Lib.hid (fun W hW => by
        have := eremove_any ao (manyB i).length cap (manyB i) (nameOf k) W (HA.out.later hW) HSZ.out
        unfold RemDone AddGives at this
        rwa [remove_many hn hki, hr, hz] at this)
      rw [hr, hz] at hadd
      rw [hr] at hCr
      have hri : r < (manyB i).length := by rw [len_many]; omega
      have HLR : Hid ((removeAt (manyB i) r z).length = (manyB i).length) := Lib.hid (by unfold removeAt; simp)
      have HLC : Hid (C.length = (manyB i).length) := Lib.hid (by rw [hCl, len_many])
      have CA : Hid (∀ W a l c, BlkArg W a l c (removeAt (manyB i) r z) → Calls Try.prog 22 #[.slice a l c, .agg #[.int .i64 1, .string (nameOf k)]] W fun e w' => ∃ v, e = .returned (.tuple #[v, .int .i64 (r : Int), .int .i64 0]) ∧ BlkVal w' v C ∧ Below W.heap.size W w') := Lib.hid (fun W a l c h => by
        have := eadd_any a l c (removeAt (manyB i) r z) 1 (nameOf k) W h ⟨⟨by decide, by decide⟩, HSZ.out⟩
        unfold AddDone at this
        rwa [hadd] at this)
      have HCR := Lib.hid hCr
      obtain ⟨t, ht⟩ : ∃ t, es.length = t := ⟨_, rfl⟩
      have HT := Lib.hid ht
      rw [ht] at hes
      have HA' := Lib.hid HA.out
      obtain ⟨L, HL⟩ : ∃ L, Hid ((manyB i).length = L) := ⟨_, Lib.hid rfl⟩
      generalize hB : removeAt (manyB i) r z = B at *
      rw [HL.out] at HLR HLC hri
      clear hB hCl hCr hadd ht hp hq hr hz hk HA'
      generalize nameOf k = nk at *
      have hrL : (r : Int) < (L : Int) := by omega
      have hr0 : 0 ≤ (r : Int) := by omega
      go_wp2_with fail
      go_at_call 20
      refine (CF.out _ HB0.out).mono ?_
      rintro e w4 ⟨rfl, hb4⟩
      have B4 := Lib.hid (HB0.out.trans (hb4.mono HB0.out.size))
      clear hb4 hcv hcat hsx s3 t0 t1 t2 t3 j1
      go_wp2_with fail
      go_at_call 24
      refine (CR.out _ B4.out).mono ?_
      rintro e w5 ⟨v5, rfl, ⟨a5, d5, rfl, hA5⟩, hb5⟩
      rw [HLR.out] at hA5
      rw [HLR.out]
      have A5 := Lib.hid hA5
      have B5 := Lib.hid (B4.out.trans (hb5.mono B4.out.size))
      clear hA5 hb5
      rw [HL.out]
      go_wp2_with fail
      go_at_call 22
      have HE : Hid (∀ W v0 v1 T, Below W.heap.size W (W.alloc (.cells #[v0, v1] T))) := Lib.hid (fun W v0 v1 T => (Below.refl _ _).alloc (Nat.le_refl _) _)
      refine (CA.out _ _ _ _ A5.out).mono ?_
      rintro e w6 ⟨v6, rfl, ⟨a6, d6, rfl, hA6⟩, hb6⟩
      rw [HLC.out] at hA6
      rw [HLC.out]
      have A6 := Lib.hid hA6
      have B6 := Lib.hid (B5.out.trans (hb6.mono B5.out.size))
      clear hb6
      obtain ⟨gb, go, es', ad, l, c6, hao, hes', hc, hE⟩ := blk_at hA6 hri
      obtain rfl : es' = es ++ [⟨1, nk⟩] := by have := HCR.out; rw [hes'] at this; simpa using this
      obtain rfl : l = t + 1 := by rw [← hE.1.1, List.length_append, HT.out]; rfl
      obtain ⟨eb, eo, x', hao2, hx', d1, d2', d3, d4⟩ := ent_at hE (i := t) (Nat.lt_succ_self t)
      obtain rfl : x' = ⟨1, nk⟩ := by
        have := HT.out
        subst this
        simpa using hx'.symm
      dsimp only at d1 d3
      subst hao
      subst hao2
      clear hes' hx' d2' d4 hE hA6
      have r1 : IntKind.i64.wrap (((t + 1 : Nat) : Int) - 1) = (t : Int) := by rw [IntKind.wrap_i64]; omega
      have r2 : IntKind.i64.wrap ((t : Int) + 1 - 1) = (t : Int) := by rw [IntKind.wrap_i64]; omega
      have r3 : (t : Int) < (t : Int) + 1 := by omega
      have r4 : 0 ≤ (t : Int) := by omega
      clear s2 s4 s5
      go_wp2_with fail
      go_quiet (fail)
      go_wp2_with fail
      go_ret
      exact ⟨by simp, below_drewN (HW.out.trans (B6.out.mono HW.out.size)) _⟩

/-! ### The law's step -/
set_option maxRecDepth 100000 in
theorem lifted (os : Os) (started : os.Started) (H : Type) (enc : TypeId × Value → H) :
    ReturnsInHanded {} Try.checked os 11 .any (Rows.entryManySpec.pre6 enc Try.prog Try.f11 Rows.entryManyRow.domain false) (Rows.entryManySpec.post enc Try.prog Try.f11 false true false false) := by
  refine returnsInHanded_of_change_sized (C := Try.checked) own started (by kernel_rfl) Try.func11
    (ChangeSpec.witness6 (enc := enc) (C := Try.checked) false ⟨#[], #[.int .u8 0, .int .u8 0], []⟩ 8 (by kernel_rfl) (by kernel_rfl) (by kernel_rfl) (by kernel_rfl)) ?_
  intro W base args ds gs before hval0 hW hcnd hsz0 _
  have hsz : (DataW.weightsEach Try.prog (Try.f11.params.toList ++ Rows.entryManySpec.plain.varTypes Try.prog) (ds ++ gs)).all (· ≤ reachBytes) = true := hsz0
  clear hsz0
  have hval : ∀ (j : Nat) t v, Try.f11.params[j]? = some t → args[j]? = some v → Value.okWide Try.prog W .any base t v := hval0
  have hW' := hW
  obtain ⟨p, q, hA0, hV, rfl, hfz, hnd⟩ := hW
  have hA : DataW.TrodAll enc Try.prog W 0 (fun _ => true) true Try.f11.params.toList args.toList ds p := hA0
  rw [Try.params11] at hA hval hsz
  obtain ⟨v0, vs0, d0, ds0, p0, q0, hargs, rfl, rfl, h0, r0⟩ := trodAll_cons hA
  obtain ⟨v1, vs1, d1, ds1, p1, q1, rfl, rfl, rfl, h1, r1⟩ := trodAll_cons r0
  obtain ⟨rfl, rfl, rfl⟩ := trodAll_nil r1
  obtain rfl : args = #[v0, v1] := by cases args; simp_all
  obtain ⟨rfl, rfl⟩ := trodVars_none hV
  have k0 := h0
  have lt0 : ∀ x ∈ p0, x.block < W.heap.size := by obtain ⟨m, hm⟩ := k0; exact DataW.trod_lt m _ _ _ hm
  obtain ⟨a0, rfl, _, _, w0⟩ := open_int Try.underlying5 (hval 0 5 v0 rfl rfl) h0
  have k1 := h1
  have lt1 : ∀ x ∈ p1, x.block < W.heap.size := by obtain ⟨m, hm⟩ := k1; exact DataW.trod_lt m _ _ _ hm
  obtain ⟨a1, rfl, _, _, w1⟩ := open_int Try.underlying5 (hval 1 5 v1 rfl rfl) h1
  clear hA0 hval0
  refine (walk a0 a1 W w0 w1).mono fun e W' ⟨he, bel⟩ => ?_
  subst he
  exact ⟨_, rfl, _, _, _, [], _, [], hW', trodAll_mk1 (shut_bool Try.underlying4 _), (trodAll_cons_mk (Below.trod laidOut (by kernel_rfl) (of_decide_eq_true (by kernel_rfl)) k0 bel lt0) (trodAll_cons_mk (Below.trod laidOut (by kernel_rfl) (of_decide_eq_true (by kernel_rfl)) k1 bel lt1) trodAll_mk0)), rfl, bel.frame _, fun h => by cases h⟩

theorem over : Rows.entryManyRow.holds Try.pinned (OpenSpec.ofChange Rows.entryManySpec) :=
  OpenClaim.holds_of_wide 11 Try.f11 rfl rfl rfl rfl rfl rfl rfl ⟨rfl, rfl, rfl, rfl, rfl⟩ rfl rfl rfl rfl rfl (by kernel_rfl) Try.func11 (by kernel_rfl)
    (of_decide_eq_true (by kernel_rfl)) (by unfold Func.isWrapper; first | (rw [if_pos (by decide +kernel)]; kernel_rfl) | (rw [if_neg (by decide +kernel)]; exact ⟨rfl, rfl⟩))
    (fun os started H enc _ => lifted os started H enc)

/-- The statement. -/
theorem proved : Rows.EntryManySaid := over
end Go.Proofs.Ytkpgefjbhimmgaa.entryMany
