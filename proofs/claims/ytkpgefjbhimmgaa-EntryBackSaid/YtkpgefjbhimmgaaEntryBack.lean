/-
  Proved here: a name that was added is found where it was added, and removed it is not found; all others stay. No conditions.
-/
import Derived.Test.YtkpgefjbhimmgaaAwake10
import Derived.Test.YtkpgefjbhimmgaaEntRemove
import Derived.Test.YtkpgefjbhimmgaaEntIn
import Derived.Deep.QuietTactic
import Derived.BigQuiet
namespace Go.Proofs.Ytkpgefjbhimmgaa.entryBack
open Go.ChangeShapes Go.WideShapes Go.ChangeAt Go.RowKit
open Go.ChangeMaps (open_string shut_string)
set_option linter.unusedVariables false
set_option linter.unusedSimpArgs false

set_option maxRecDepth 100000 in
set_option maxHeartbeats 6400000 in
theorem walk (a0 : Option Addr) (len0 cap0 : Nat) (b0 : List (List PEnt)) (n1 : Int) (s1 : ByteArray) (s2 : ByteArray) (w : World) (w0 : BlkArg w a0 len0 cap0 b0) (w1 : (-9223372036854775808 ≤ n1 ∧ n1 ≤ 9223372036854775807) ∧ s1.size ≤ 140737488351232) (w2 : s2.size ≤ 140737488351232) :
    Calls Try.prog 9 #[.slice a0 len0 cap0, .agg #[.int .i64 n1, .string s1], .string s2] w fun e w' => e = .returned (.bool true) ∧ Below w.heap.size w w' := by
  have B0 : Hid (Below w.heap.size w (w.alloc (.cells #[.int .i64 n1, .string s1] 40))) := Lib.hid ((Below.refl _ _).alloc (Nat.le_refl _) _)
  have c1 := eadd_any a0 len0 cap0 b0 n1 s1 _ (w0.later B0.out) w1
  have k0 := two_cells_new w (.int .i64 n1) (.string s1) 40 0 _ rfl
  have k1 := two_cells_new w (.int .i64 n1) (.string s1) 40 1 _ rfl
  have HC : Hid (∀ W, Below (w.alloc (.cells #[.int .i64 n1, .string s1] 40)).heap.size (w.alloc (.cells #[.int .i64 n1, .string s1] 40)) W → W.cell? ⟨w.heap.size, 0, none⟩ = some (.int .i64 n1) ∧ W.cell? ⟨w.heap.size, 1, none⟩ = some (.string s1)) := Lib.hid (fun W hW => ⟨cell_later hW k0, cell_later hW k1⟩)
  have HBK : Hid (∀ A N, addRes b0 ⟨n1, s1⟩ = (A, N, 0) → ∃ i k : Nat, N = i ∧ i < A.length ∧ k + 1 = (A.getD i []).length ∧ (A.getD i [])[k]? = some ⟨n1, s1⟩ ∧ findRes A s1 = (N, (k : Int), 0) ∧ removeRes A s1 = (removeAt A i k, N, 0) ∧ (findRes (removeAt A i k) s1).2.2 = 4 ∧ ((findRes b0 s2).2.2 = (findRes (removeAt A i k) s2).2.2 ∨ s2 = s1)) := Lib.hid (fun A N h => add_back h s2)
  have H1 := Lib.hid w1
  have H2 := Lib.hid w2
  have HA0 := Lib.hid w0
  unfold AddDone at c1
  generalize hR : addRes b0 ⟨n1, s1⟩ = R at *
  obtain ⟨A, N, E⟩ := R
  dsimp only at c1
  clear hR w0 w1 w2
  by_cases hE : E = 0
  · subst hE
    obtain ⟨i, k, rfl, hiA, hk1, hx, hf1, hr1, hf2, hf3⟩ := HBK.out A N rfl
    obtain ⟨es, hes⟩ : ∃ es, A[i]? = some es := ⟨_, List.getElem?_eq_getElem hiA⟩
    rw [(getD_of hes).1] at hk1 hx
    have CF : Hid (∀ W a l c, BlkArg W a l c A → Calls Try.prog 20 #[.slice a l c, .string s1] W fun e w' => e = .returned (.tuple #[.int .i64 (i : Int), .int .i64 (k : Int), .int .i64 0]) ∧ Below W.heap.size W w') := Lib.hid (fun W a l c h => by
      have := efind_any a l c A s1 W h H1.out.2
      unfold FindDone at this
      rwa [hf1] at this)
    have CR : Hid (∀ W a l c, BlkArg W a l c A → Calls Try.prog 24 #[.slice a l c, .string s1] W fun e w' => ∃ v, e = .returned (.tuple #[v, .int .i64 (i : Int), .int .i64 0]) ∧ BlkVal w' v (removeAt A i k) ∧ Below W.heap.size W w') := Lib.hid (fun W a l c h => by
      have := eremove_any a l c A s1 W h H1.out.2
      unfold RemDone AddGives at this
      rwa [hr1] at this)
    have CG : Hid (∀ W a l c, BlkArg W a l c (removeAt A i k) → Calls Try.prog 20 #[.slice a l c, .string s1] W fun e w' => ∃ x y : Int, e = .returned (.tuple #[.int .i64 x, .int .i64 y, .int .i64 4]) ∧ Below W.heap.size W w') := Lib.hid (fun W a l c h => (efind_any a l c (removeAt A i k) s1 W h H1.out.2).mono (fun e w' he => by
      unfold FindDone at he
      rw [hf2] at he
      exact ⟨_, _, he.1, he.2⟩))
    obtain ⟨P, hP⟩ : ∃ P, (findRes b0 s2).2.2 = P := ⟨_, rfl⟩
    obtain ⟨Q, hQ⟩ : ∃ Q, (findRes (removeAt A i k) s2).2.2 = Q := ⟨_, rfl⟩
    have CP : Hid (∀ W, Below w.heap.size w W → Calls Try.prog 20 #[.slice a0 len0 cap0, .string s2] W fun e w' => ∃ x y : Int, e = .returned (.tuple #[.int .i64 x, .int .i64 y, .int .i64 P]) ∧ Below W.heap.size W w') := Lib.hid (fun W hW => (efind_any a0 len0 cap0 b0 s2 W (HA0.out.later hW) H2.out).mono (fun e w' he => by
      unfold FindDone at he
      rw [hP] at he
      exact ⟨_, _, he.1, he.2⟩))
    have CQ : Hid (∀ W a l c, BlkArg W a l c (removeAt A i k) → Calls Try.prog 20 #[.slice a l c, .string s2] W fun e w' => ∃ x y : Int, e = .returned (.tuple #[.int .i64 x, .int .i64 y, .int .i64 Q]) ∧ Below W.heap.size W w') := Lib.hid (fun W a l c h => (efind_any a l c (removeAt A i k) s2 W h H2.out).mono (fun e w' he => by
      unfold FindDone at he
      rw [hQ] at he
      exact ⟨_, _, he.1, he.2⟩))
    rw [hP, hQ] at hf3
    have HF3 := Lib.hid hf3
    have HES := Lib.hid hes
    have HX := Lib.hid hx
    have HK1 := Lib.hid hk1
    obtain ⟨la, HLA⟩ : ∃ la, Hid (A.length = la) := ⟨_, Lib.hid rfl⟩
    rw [HLA.out] at hiA
    have i1 : (i : Int) < (la : Int) := by omega
    have i0 : 0 ≤ (i : Int) := by omega
    have q0 : 0 ≤ (k : Int) := by omega
    have q1 : (k : Int) < ((k + 1 : Nat) : Int) := by omega
    clear hk1 hx hf1 hr1 hf2 hf3 hes hP hQ
    go_enter Try.func9, Try.ntmps9
    go_wp2_with fail
    go_at_call 22
    refine c1.mono ?_
    rintro e w2 ⟨v2, rfl, ⟨a2, d2, rfl, hA2⟩, hb2⟩
    rw [HLA.out]
    rw [HLA.out] at hA2
    have A2 := Lib.hid hA2
    have C2 := Lib.hid hb2
    have hla := hA2.1.2.1
    have m0 := (HC.out w2 hb2).1
    have m1 := (HC.out w2 hb2).2
    clear hA2 hb2 c1 k0 k1
    go_wp2_with fail
    go_at_call 14
    refine (awake10_any _).mono ?_
    rintro e w3 ⟨rfl, hb3⟩
    have C3 := Lib.hid (C2.out.trans (hb3.mono C2.out.size))
    have A3 := Lib.hid (A2.out.later hb3)
    clear m0 m1 hb3
    have m0 := (HC.out w3 C3.out).1
    have m1 := (HC.out w3 C3.out).2
    go_wp2_with fail
    go_at_call 20
    refine (CF.out _ _ _ _ A3.out).mono ?_
    rintro e w4 ⟨rfl, hb4⟩
    have C4 := Lib.hid (C3.out.trans (hb4.mono C3.out.size))
    have A4 := Lib.hid (A3.out.later hb4)
    clear m0 m1 hb4
    have m0 := (HC.out w4 C4.out).1
    have m1 := (HC.out w4 C4.out).2
    obtain ⟨gb, go, es', ad, l, c, hao, hes', hc, hE⟩ := blk_at A4.out hiA
    obtain rfl : es' = es := by have := HES.out; rw [hes'] at this; simpa using this
    obtain rfl : l = k + 1 := by rw [← hE.1.1]; exact HK1.out.symm
    obtain ⟨eb, eo, x', hao2, hx', d1, d2', d3, d4⟩ := ent_at hE (i := k) (Nat.lt_succ_self k)
    obtain rfl : x' = ⟨n1, s1⟩ := by have := HX.out; rw [hx'] at this; simpa using this
    dsimp only at d1 d3
    have hlc := hE.1.2.1
    have r1 : IntKind.i64.wrap (((k + 1 : Nat) : Int) - 1) = (k : Int) := by rw [IntKind.wrap_i64]; omega
    have r2 : IntKind.i64.wrap ((k : Int) + 1 - 1) = (k : Int) := by rw [IntKind.wrap_i64]; omega
    have q2 : (k : Int) < (k : Int) + 1 := by omega
    subst hao
    subst hao2
    clear hes' hx' d2' d4 hE
    go_wp2_with fail
    go_quiet (fail)
    go_wp2_with fail
    go_at_call 24
    refine (CR.out _ _ _ _ (A4.out.later (below_drewN (Below.refl _ _) _))).mono ?_
    rintro e w5 ⟨v5, rfl, ⟨a5, d5, rfl, hA5⟩, hb5'⟩
    have hb5 : Below w4.heap.size w4 w5 := (below_drewN (Below.refl _ _) _).trans (hb5'.mono (Nat.le_refl _))
    clear hb5'
    have A5 := Lib.hid hA5
    have C5 := Lib.hid (C4.out.trans (hb5.mono C4.out.size))
    clear hA5 hb5 m0 m1 d1 d3 hc
    have m0 := (HC.out w5 C5.out).1
    have m1 := (HC.out w5 C5.out).2
    obtain ⟨lb, HLB⟩ : ∃ lb, Hid ((removeAt A i k).length = lb) := ⟨_, Lib.hid rfl⟩
    have A5' := A5.out
    rw [HLB.out] at A5'
    rw [HLB.out]
    have A6 := Lib.hid A5'
    clear A5'
    go_wp2_with fail
    go_at_call 20
    refine (CG.out _ _ _ _ A6.out).mono ?_
    rintro e w6 ⟨x6, y6, rfl, hb6⟩
    have C6 := Lib.hid (C5.out.trans (hb6.mono C5.out.size))
    have A7 := Lib.hid (A6.out.later hb6)
    clear hb6 m0 m1
    have m0 := (HC.out w6 C6.out).1
    have m1 := (HC.out w6 C6.out).2
    go_wp2_with fail
    go_at_call 20
    refine (CP.out _ (B0.out.trans (C6.out.mono B0.out.size))).mono ?_
    rintro e w7 ⟨x7, y7, rfl, hb7⟩
    have C7 := Lib.hid (C6.out.trans (hb7.mono C6.out.size))
    have A8 := Lib.hid (A7.out.later hb7)
    clear hb7 m0 m1
    have m0 := (HC.out w7 C7.out).1
    have m1 := (HC.out w7 C7.out).2
    go_wp2_with fail
    go_at_call 20
    refine (CQ.out _ _ _ _ A8.out).mono ?_
    rintro e w8 ⟨x8, y8, rfl, hb8⟩
    have C8 := Lib.hid (C7.out.trans (hb8.mono C7.out.size))
    clear hb8 m0 m1
    have m0 := (HC.out w8 C8.out).1
    have m1 := (HC.out w8 C8.out).2
    have hf3 := HF3.out
    by_cases hpq : P = Q
    · subst hpq
      clear hf3
      go_wp2_with fail
      go_ret
      exact ⟨by simp, B0.out.trans (C8.out.mono B0.out.size)⟩
    · obtain rfl : s2 = s1 := hf3.resolve_left hpq
      go_wp2_with fail
      go_ret
      exact ⟨by simp, B0.out.trans (C8.out.mono B0.out.size)⟩
  · have hE2 : (E == 0) = false := by simpa using hE
    have hE3 : (E != 0) = true := by simpa using hE
    clear hE HBK k0 k1
    go_enter Try.func9, Try.ntmps9
    go_wp2_with fail
    go_at_call 22
    refine c1.mono ?_
    rintro e w2 ⟨v2, rfl, ⟨a2, d2, rfl, hA2⟩, hb2⟩
    have C2 := Lib.hid hb2
    clear hA2 hb2 c1
    go_wp2_with fail
    go_at_call 14
    refine (awake10_any _).mono ?_
    rintro e w3 ⟨rfl, hb3⟩
    have C3 := Lib.hid (C2.out.trans (hb3.mono C2.out.size))
    clear hb3
    go_wp2_with fail
    go_at_call 14
    refine (awake10_any _).mono ?_
    rintro e w4 ⟨rfl, hb4⟩
    have C4 := Lib.hid (C3.out.trans (hb4.mono C3.out.size))
    clear hb4
    go_wp2_with fail
    go_ret
    exact ⟨rfl, B0.out.trans (C4.out.mono B0.out.size)⟩

/-! ### The law's step -/
set_option maxRecDepth 100000 in
theorem lifted (os : Os) (started : os.Started) (H : Type) (enc : TypeId × Value → H) :
    ReturnsInHanded {} Try.checked os 9 .any (Rows.entryBackSpec.pre6 enc Try.prog Try.f9 Rows.entryBackRow.domain false) (Rows.entryBackSpec.post enc Try.prog Try.f9 false true false false) := by
  refine returnsInHanded_of_change_sized (C := Try.checked) own started (by kernel_rfl) Try.func9
    (ChangeSpec.witness6 (enc := enc) (C := Try.checked) false ⟨#[], #[.slice none 0 0, .agg #[.int .i64 0, .string ByteArray.empty], .string ByteArray.empty], []⟩ 8 (by kernel_rfl) (by kernel_rfl) (by kernel_rfl) (by kernel_rfl)) ?_
  intro W base args ds gs before hval0 hW hcnd hsz0 _
  have hsz : (DataW.weightsEach Try.prog (Try.f9.params.toList ++ Rows.entryBackSpec.plain.varTypes Try.prog) (ds ++ gs)).all (· ≤ reachBytes) = true := hsz0
  clear hsz0
  have hval : ∀ (j : Nat) t v, Try.f9.params[j]? = some t → args[j]? = some v → Value.okWide Try.prog W .any base t v := hval0
  have hW' := hW
  obtain ⟨p, q, hA0, hV, rfl, hfz, hnd⟩ := hW
  have hA : DataW.TrodAll enc Try.prog W 0 (fun _ => true) true Try.f9.params.toList args.toList ds p := hA0
  rw [Try.params9] at hA hval hsz
  obtain ⟨v0, vs0, d0, ds0, p0, q0, hargs, rfl, rfl, h0, r0⟩ := trodAll_cons hA
  obtain ⟨v1, vs1, d1, ds1, p1, q1, rfl, rfl, rfl, h1, r1⟩ := trodAll_cons r0
  obtain ⟨v2, vs2, d2, ds2, p2, q2, rfl, rfl, rfl, h2, r2⟩ := trodAll_cons r1
  obtain ⟨rfl, rfl, rfl⟩ := trodAll_nil r2
  obtain rfl : args = #[v0, v1, v2] := by cases args; simp_all
  obtain ⟨rfl, rfl⟩ := trodVars_none hV
  have k0 := h0
  have lt0 : ∀ x ∈ p0, x.block < W.heap.size := by obtain ⟨m, hm⟩ := k0; exact DataW.trod_lt m _ _ _ hm
  obtain ⟨a0, len0, cap0, rfl⟩ := okWide_slice Try.underlying33 (hval 0 33 v0 rfl rfl)
  obtain ⟨b0, w0⟩ := open_blks_arg k0 (weights_of hsz (j := 0) rfl rfl)
  have k1 := h1
  have lt1 : ∀ x ∈ p1, x.block < W.heap.size := by obtain ⟨m, hm⟩ := k1; exact DataW.trod_lt m _ _ _ hm
  obtain ⟨n1, s1, rfl, w1⟩ := open_ent (hval 1 40 v1 rfl rfl) h1 (weights_of hsz (j := 1) rfl rfl)
  have k2 := h2
  have lt2 : ∀ x ∈ p2, x.block < W.heap.size := by obtain ⟨m, hm⟩ := k2; exact DataW.trod_lt m _ _ _ hm
  obtain ⟨s2, rfl, w2⟩ := open_name (hval 2 9 v2 rfl rfl) h2 (weights_of hsz (j := 2) rfl rfl)
  clear hA0 hval0
  refine (walk a0 len0 cap0 b0 n1 s1 s2 W w0 w1 w2).mono fun e W' ⟨he, bel⟩ => ?_
  subst he
  exact ⟨_, rfl, _, _, _, [], _, [], hW', trodAll_mk1 (shut_bool Try.underlying4 _), (trodAll_cons_mk (Below.trod laidOut (by kernel_rfl) (of_decide_eq_true (by kernel_rfl)) k0 bel lt0) (trodAll_cons_mk (Below.trod laidOut (by kernel_rfl) (of_decide_eq_true (by kernel_rfl)) k1 bel lt1) (trodAll_cons_mk (Below.trod laidOut (by kernel_rfl) (of_decide_eq_true (by kernel_rfl)) k2 bel lt2) trodAll_mk0))), rfl, bel.frame _, fun h => by cases h⟩

theorem over : Rows.entryBackRow.holds Try.pinned (OpenSpec.ofChange Rows.entryBackSpec) :=
  OpenClaim.holds_of_wide 9 Try.f9 rfl rfl rfl rfl rfl rfl rfl ⟨rfl, rfl, rfl, rfl, rfl⟩ rfl rfl rfl rfl rfl (by kernel_rfl) Try.func9 (by kernel_rfl)
    (of_decide_eq_true (by kernel_rfl)) (by unfold Func.isWrapper; first | (rw [if_pos (by decide +kernel)]; kernel_rfl) | (rw [if_neg (by decide +kernel)]; exact ⟨rfl, rfl⟩))
    (fun os started H enc _ => lifted os started H enc)

/-- The statement. -/
theorem proved : Rows.EntryBackSaid := over
end Go.Proofs.Ytkpgefjbhimmgaa.entryBack
