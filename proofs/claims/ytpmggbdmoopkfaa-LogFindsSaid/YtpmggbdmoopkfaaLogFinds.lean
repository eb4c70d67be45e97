/-
  Proved here: what is found in any log from any head on is what the document says; of a log that answers so. No other conditions.
-/
import Derived.Test.YtpmggbdmoopkfaaLogInts
import Derived.Test.YtpmggbdmoopkfaaLogLand
import Derived.WalkKit
namespace Go.Proofs.Ytpmggbdmoopkfaa.logFinds
open Go.ChangeShapes Go.WideShapes Go.ChangeAt Go.RowKit
open Go.ChangeMaps (open_string shut_string)
set_option linter.unusedVariables false
set_option linter.unusedSimpArgs false

theorem findL_length (bs : List (List Int)) : ∀ (k a : Nat) (s : Int), (findL bs k a s).1.length ≤ k
  | 0, a, s => Nat.le_refl _
  | k + 1, a, s => by
    unfold findL
    cases txAt bs a s with
    | none => exact Nat.zero_le _
    | some l => exact Nat.succ_le_succ (findL_length bs k _ _)
theorem found_length (bs : List (List Int)) (a s : Int) : (foundOut bs a s).1.length ≤ 1073741824 := by
  unfold foundOut
  by_cases h : okLog bs a s = true
  · rw [if_pos h]
    unfold okLog at h
    rw [Bool.and_eq_true, decide_eq_true_eq] at h
    exact Nat.le_trans (findL_length bs _ _ _) (by omega)
  · rw [if_neg h]; exact Nat.zero_le _

set_option maxRecDepth 100000 in
set_option maxHeartbeats 6400000 in
theorem walk (a0 : Option Addr) (len0 cap0 : Nat) (z0 : List (List Int)) (n1 m1 : Int) (w : World) (w0 : RowsIn w a0 len0 cap0 z0) (w1 : I64 n1 ∧ I64 m1) :
    Calls Try.prog 5 #[.slice a0 len0 cap0, .agg #[.int .i64 n1, .int .i64 m1]] w fun e w' => e = .returned (.bool true) ∧ Below w.heap.size w w' := by
  have HI := Lib.hid w1
  have HR := Lib.hid w0
  clear w0 w1
  have cL := fun W (hW : Below w.heap.size w W) => logOk.find n1 m1 HI.out.1 HI.out.2 (HR.out.later hW)
  have cR := fun W (hW : Below w.heap.size w W) => RFind_any n1 m1 (HR.out.later hW)
  have cA := fun W => awake15 logOk W
  have hfl := found_length z0 n1 m1
  generalize foundOut z0 n1 m1 = O at *
  generalize foundErr z0 n1 m1 = E at *
  obtain ⟨ls, ra, rs⟩ := O
  have HFL : Hid (ls.length ≤ 1073741824) := Lib.hid hfl
  clear hfl
  obtain ⟨W0, hW0⟩ : ∃ W0, w.alloc (.cells #[.int .i64 n1, .int .i64 m1] 40) = W0 := ⟨_, rfl⟩
  have B0 : Hid (Below w.heap.size w W0) := Lib.hid (by rw [← hW0]; exact (Below.refl _ _).alloc (Nat.le_refl _) _)
  have x0 : W0.cell? ⟨w.heap.size, 0, none⟩ = some (.int .i64 n1) := by rw [← hW0, World.cell?_alloc_new]; rfl
  have x1 : W0.cell? ⟨w.heap.size, 1, none⟩ = some (.int .i64 m1) := by rw [← hW0, World.cell?_alloc_new]; rfl
  go_enter Try.func5, Try.ntmps5
  go_wp2_with (first
    | (go_at_call 19; refine (cL _ B0.out).mono ?_; rintro e w3 ⟨ao3, p3, rfl, hL3, hb3⟩; obtain ⟨W3, hW3⟩ : ∃ W, w3.alloc (.cells #[.int .i64 ra, .int .i64 rs] 40) = W := ⟨_, rfl⟩; have b3 : Below W0.heap.size W0 W3 := (by rw [← hW3]; exact hb3.alloc hb3.size _); have B3 := Lib.hid (B0.out.trans (b3.mono B0.out.size)); have y0 := cell_later b3 x0; have y1 := cell_later b3 x1; have s0 : W3.cell? ⟨w3.heap.size, 0, none⟩ = some (.int .i64 ra) := (by rw [← hW3, World.cell?_alloc_new]; rfl); have s1 : W3.cell? ⟨w3.heap.size, 1, none⟩ = some (.int .i64 rs) := (by rw [← hW3, World.cell?_alloc_new]; rfl); have L3 : Hid (LIs W3 ao3 ls.length ls) := Lib.hid (by rw [← hW3]; exact hL3.later ((Below.refl _ _).alloc (Nat.le_refl _) _)); clear hL3 hb3 b3)
    | (go_at_call 20; refine (cR _ B3.out).mono ?_; rintro e w4 ⟨ao4, p4, rfl, hL4, hb4⟩; obtain ⟨W4, hW4⟩ : ∃ W, w4.alloc (.cells #[.int .i64 ra, .int .i64 rs] 40) = W := ⟨_, rfl⟩; have b4 : Below W3.heap.size W3 W4 := (by rw [← hW4]; exact hb4.alloc hb4.size _); have B4 := Lib.hid (B3.out.trans (b4.mono B3.out.size)); have s0 := cell_later b4 s0; have s1 := cell_later b4 s1; have t0 : W4.cell? ⟨w4.heap.size, 0, none⟩ = some (.int .i64 ra) := (by rw [← hW4, World.cell?_alloc_new]; rfl); have t1 : W4.cell? ⟨w4.heap.size, 1, none⟩ = some (.int .i64 rs) := (by rw [← hW4, World.cell?_alloc_new]; rfl); have L4 : Hid (LIs W4 ao4 ls.length ls) := Lib.hid (by rw [← hW4]; exact hL4.later ((Below.refl _ _).alloc (Nat.le_refl _) _)); have L3 := Lib.hid (L3.out.later b4); clear hL4 hb4 b4)
    | (go_at_call 13; refine (cA _).mono ?_; rintro e w7 ⟨rfl, hb7⟩; have B7 := Lib.hid (B4.out.trans (hb7.mono B4.out.size)); have s0 := cell_later hb7 s0; have s1 := cell_later hb7 s1; have t0 := cell_later hb7 t0; have t1 := cell_later hb7 t1; have L3 := Lib.hid (L3.out.later hb7); have L4 := Lib.hid (L4.out.later hb7); clear hb7))
  go_loopw [11] (fun iv wr => ∃ i : Nat, iv = .int .i64 (i : Int) ∧ i ≤ ls.length ∧ Hid (Below w7.heap.size w7 wr)) (fun iv _ => ls.length - (intOf iv).toNat)
  case atStart => exact ⟨0, rfl, Nat.zero_le _, Lib.hid (Below.refl _ _)⟩
  case round =>
    obtain ⟨i, rfl, hi, HB⟩ := hrel
    have hfl := HFL.out
    by_cases hlt : i < ls.length
    · obtain ⟨b1, o1, l, ad1, c1, rfl, hl1, h1, hw1⟩ := L3.out.at hlt
      obtain ⟨b2, o2, l', ad2, c2, rfl, hl2, h2, hw2⟩ := L4.out.at hlt
      obtain rfl : l = l' := by rw [hl1] at hl2; exact Option.some.inj hl2
      have HK : Hid (∀ W, Below w7.heap.size w7 W → (W.cell? ⟨b1, o1 + i, none⟩ = some (.slice ad1 l.length c1) ∧ W.cell? ⟨b2, o2 + i, none⟩ = some (.slice ad2 l.length c2)) ∧ Hid (Below w7.heap.size w7 W)) := Lib.hid (fun W hW => ⟨⟨cell_later hW h1, cell_later hW h2⟩, Lib.hid hW⟩)
      have cS := fun W (hW : Below w7.heap.size w7 W) => RSameWrites_any (ca := c1) (cb := c2) (hw1.later hW) (hw2.later hW)
      have BD : Hid (Below w7.heap.size w7 wr.drew) := Lib.hid HB.out.drew
      have i1 : (i : Int) < (ls.length : Int) := by omega
      have i2 : (ls.length : Int) ≤ 1073741824 := by omega
      have i0 : (0 : Int) ≤ (i : Int) := by omega
      rw [decide_eq_true (rfl : l = l)] at cS
      have CS := Lib.hid cS
      clear hl1 hl2 h1 h2 hw1 hw2 cS
      generalize l.length = ll at *
      go_wp2_with fail
      go_region_held3 (fun W => (W.cell? ⟨b1, o1 + i, none⟩ = some (.slice ad1 ll c1) ∧ W.cell? ⟨b2, o2 + i, none⟩ = some (.slice ad2 ll c2)) ∧ Hid (Below w7.heap.size w7 W)) (first | exact HK.out _ BD.out | exact HK.out _ B9.out)
        (first | (go_at_call 21; refine (CS.out _ BD.out).mono ?_; rintro e w9 ⟨rfl, hb9⟩; have B9 : Hid (Below w7.heap.size w7 w9) := Lib.hid (BD.out.trans (hb9.mono BD.out.size)); clear hb9))
      all_goals
        go_wp2_with fail
        go_roundw
        case rel => exact ⟨i + 1, by go_num, by omega, B9⟩
        case measure => simp [intOf]; omega
    · obtain rfl : i = ls.length := by omega
      go_wp2_with fail
      go_ret
      exact ⟨rfl, B7.out.trans (HB.out.mono B7.out.size)⟩

/-! ### The law's step -/
set_option maxRecDepth 100000 in
theorem lifted (os : Os) (started : os.Started) (H : Type) (enc : TypeId × Value → H) :
    ReturnsInHanded {} Try.checked os 5 .any (Rows.logFindsSpec.pre6 enc Try.prog Try.f5 Rows.logFindsRow.domain false) (Rows.logFindsSpec.post enc Try.prog Try.f5 false true false false) := by
  refine returnsInHanded_of_change_sized (C := Try.checked) own started (by kernel_rfl) Try.func5
    (ChangeSpec.witness6 (enc := enc) (C := Try.checked) false ⟨#[], #[.slice none 0 0, .agg #[.int .i64 0, .int .i64 0]], []⟩ 8 (by kernel_rfl) (by kernel_rfl) (by kernel_rfl) (by kernel_rfl)) ?_
  intro W base args ds gs before hval0 hW hcnd hsz0 _
  have hsz : (DataW.weightsEach Try.prog (Try.f5.params.toList ++ Rows.logFindsSpec.plain.varTypes Try.prog) (ds ++ gs)).all (· ≤ reachBytes) = true := hsz0
  clear hsz0
  have hval : ∀ (j : Nat) t v, Try.f5.params[j]? = some t → args[j]? = some v → Value.okWide Try.prog W .any base t v := hval0
  have hW' := hW
  obtain ⟨p, q, hA0, hV, rfl, hfz, hnd⟩ := hW
  have hA : DataW.TrodAll enc Try.prog W 0 (fun _ => true) true Try.f5.params.toList args.toList ds p := hA0
  rw [Try.params5] at hA hval hsz
  obtain ⟨v0, vs0, d0, ds0, p0, q0, hargs, rfl, rfl, h0, r0⟩ := trodAll_cons hA
  obtain ⟨v1, vs1, d1, ds1, p1, q1, rfl, rfl, rfl, h1, r1⟩ := trodAll_cons r0
  obtain ⟨rfl, rfl, rfl⟩ := trodAll_nil r1
  obtain rfl : args = #[v0, v1] := by cases args; simp_all
  obtain ⟨rfl, rfl⟩ := trodVars_none hV
  have k0 := h0
  have lt0 : ∀ x ∈ p0, x.block < W.heap.size := by obtain ⟨m, hm⟩ := k0; exact DataW.trod_lt m _ _ _ hm
  obtain ⟨a0, len0, cap0, rfl⟩ := okWide_slice Try.underlying38 (hval 0 38 v0 rfl rfl)
  obtain ⟨z0, w0⟩ := open_rows k0
  have k1 := h1
  have lt1 : ∀ x ∈ p1, x.block < W.heap.size := by obtain ⟨m, hm⟩ := k1; exact DataW.trod_lt m _ _ _ hm
  obtain ⟨n1, m1, rfl, w1⟩ := open_hd (hval 1 40 v1 rfl rfl) h1
  clear hA0 hval0
  refine (walk a0 len0 cap0 z0 n1 m1 W w0 w1).mono fun e W' ⟨he, bel⟩ => ?_
  subst he
  exact ⟨_, rfl, _, _, _, [], _, [], hW', trodAll_mk1 (shut_bool Try.underlying4 _), (trodAll_cons_mk (Below.trod laidOut (by kernel_rfl) (of_decide_eq_true (by kernel_rfl)) k0 bel lt0) (trodAll_cons_mk (Below.trod laidOut (by kernel_rfl) (of_decide_eq_true (by kernel_rfl)) k1 bel lt1) trodAll_mk0)), rfl, bel.frame _, fun h => by cases h⟩

theorem over : Rows.logFindsRow.holds Try.pinned (OpenSpec.ofChange Rows.logFindsSpec) :=
  OpenClaim.holds_of_wide 5 Try.f5 rfl rfl rfl rfl rfl rfl rfl ⟨rfl, rfl, rfl, rfl, rfl⟩ rfl rfl rfl rfl rfl (by kernel_rfl) Try.func5 (by kernel_rfl)
    (of_decide_eq_true (by kernel_rfl)) (by unfold Func.isWrapper; first | (rw [if_pos (by decide +kernel)]; kernel_rfl) | (rw [if_neg (by decide +kernel)]; exact ⟨rfl, rfl⟩))
    (fun os started H enc _ => lifted os started H enc)

/-- The statement. -/
theorem proved : Rows.LogFindsSaid := over
end Go.Proofs.Ytpmggbdmoopkfaa.logFinds
