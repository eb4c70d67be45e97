/-
  Proved here: a text of which one byte is turned into another one has another sum by spin.Sum, and the same sum where nothing is turned. No conditions.
-/
import Derived.Test.YtfplojlmfdgmiaaLaw
namespace Go.Proofs.Ytfplojlmfdgmiaa.spinTurns
open Go.ChangeShapes Go.WideShapes Go.ChangeAt Go.RowKit
open Go.ChangeMaps (open_string shut_string)
set_option linter.unusedVariables false

set_option maxHeartbeats 400000 in
theorem walk (a0 : Option Addr) (len0 cap0 : Nat) (z0 : List Int) (a1 : Int) (a2 : Int) (w : World) (w0 : IsRow .u8 w a0 len0 cap0 z0) (rch0 : cap0 ≤ 140737488351232) (w1 : (Lit.int .u16 a1).wf = true) (w2 : (Lit.int .u8 a2).wf = true) :
    Calls Try.prog 6 #[.slice a0 len0 cap0, .int .u16 a1, .int .u8 a2] w fun e w' => e = .returned (.bool true) ∧ Below w.heap.size w w' := by
  have hB := w0.bts
  have lb := w0.len_le
  have hw1 := wf_u16 w1
  have hw2 := wf_u8 w2
  clear w1 w2
  obtain ⟨zs, HZ⟩ : ∃ zs, Hid (zs = z0.take len0) := ⟨_, Lib.hid rfl⟩
  rw [← HZ.out] at hB
  clear w0
  have hl := hB.1
  have hz := hB.2.2.1
  have HL : Hid (zs.length = len0) := Lib.hid hl
  clear hl
  by_cases h0 : len0 = 0
  · subst h0
    go_enter Try.func6, Try.ntmps6
    go_wp2_with fail
    refine (awake_any _).mono ?_
    rintro e w2 ⟨rfl, hb⟩
    go_wp2_with fail
    go_ret
    exact ⟨rfl, hb⟩
  · obtain ⟨b, off, rfl, hc⟩ := hB.2.2.2.resolve_left h0
    have hne : ((len0 : Int) == 0) = false := by simp; omega
    have hpos : (1 : Int) ≤ (len0 : Int) := by omega
    obtain ⟨i0, hi, hz0, hz1, hz2⟩ := info_parts info5
    have hown := World.ownsRow_made (base := w.heap.size) (e := 5) (size := 1) w #[] 0 (Nat.le_refl _) (by decide) rfl
    have hnews := bts_cell hc HL.out (.cells #[] 5)
    have hlen : (zs.map (Value.int .u8)).length = len0 * 1 := by rw [List.length_map, HL.out, Nat.mul_one]
    obtain ⟨k, Hk⟩ : ∃ k : Nat, Hid (a1 % (len0 : Int) = (k : Int)) := ⟨(a1 % (len0 : Int)).toNat, Lib.hid (by have := Int.emod_nonneg a1 (b := (len0 : Int)) (by omega); omega)⟩
    have hklt : k < len0 := by have := Int.emod_lt_of_pos a1 (b := (len0 : Int)) (by omega); have := Hk.out; omega
    have hkz : k < zs.length := by rw [HL.out]; exact hklt
    have hxy := xor_u8 (a := zs[k]?.getD 0) (b := a2) (hz _ (getD_mem hkz)) hw2
    obtain ⟨y, Hy⟩ : ∃ y, Hid (bits .xor .u8 (zs[k]?.getD 0) a2 = y) := ⟨_, Lib.hid rfl⟩
    rw [Hy.out] at hxy
    have hsum := sum_set (zs := zs) hkz hz hxy.1
    have HX : Hid ((sumS (zs.set k y) == sumS zs) = (a2 == 0)) := Lib.hid (by
      rw [Bool.eq_iff_iff, beq_iff_eq, beq_iff_eq]
      exact hsum.trans hxy.2)
    obtain ⟨hy1, _⟩ := hxy
    clear hsum hkz
    have hc1 : 0 + len0 ≤ maxLen := by unfold maxLen; omega
    have hc2 : (0 + len0) * 1 ≤ 140737488355328 := by omega
    have hc3 : w.heap.size ≤ (w.alloc (.cells #[] 5)).heap.size := by simp
    go_enter Try.func6, Try.ntmps6
    go_wp2_with (at_builtin; refine wpList_append_own _ rfl (.tmp 12) (.tmp 13) 23 rfl w.heap.size 5 i0 (.int .u8 0) 1 1 Try.underlying23 hi hz0 hz1 hz2 rfl (by decide) _ _ _ rfl hown _ _ _ _ rfl hlen hnews (one_cells zs) hc1 hc2 hc3 ?_; intro v1 w1 hown1 hgrow1 _; have hcp := copied hown1 hgrow1 HL.out (by omega); clear hown1 hgrow1; obtain ⟨g, cap1, hv, hg, hb1, hcell1, hfr1, hcap1⟩ := hcp; rw [hv]; clear hv; have hmod := Hk.out; have hyy := Hy.out)
    have hbc := bts_set hcell1 HL.out (by omega) hz hklt hy1
    have hb2 := hb1.setCell (p := ⟨g, k, none⟩) hg (.int .u8 y)
    generalize w1.setCell ⟨g, k, none⟩ (.int .u8 y) = w2 at *
    refine (awake_any _).mono ?_
    rintro e w3 ⟨rfl, hb3⟩
    have hb4 := hb2.trans (hb3.mono hb2.size)
    have cC := Sum_any (some ⟨g, 0, none⟩) len0 cap1 (zs.set k y) w3 (hbc.later hb3)
    have cB := Sum_any (some ⟨b, off, none⟩) len0 cap0 zs w3 (hB.later hb4)
    have hX := HX.out
    clear hcell1 hfr1 hi hz0 hz1 hz2 hmod hyy hbc hB hz hc hc1 hc2 hc3 hown hnews hlen
    go_wp2_with (go_at_call 11; first | ((with_reducible refine cC.mono ?_); rintro e w' ⟨rfl, rfl⟩) | ((with_reducible refine cB.mono ?_); rintro e w' ⟨rfl, rfl⟩))
    go_ret
    exact ⟨rfl, hb4⟩

/-! ### THE ROW's STEP: WRITTEN OUT: LEAVE IT -/
set_option maxRecDepth 100000 in
theorem lifted (os : Os) (started : os.Started) (H : Type) (enc : TypeId × Value → H) :
    ReturnsInHanded {} Try.checked os 6 .any (Rows.spinTurnsSpec.pre6 enc Try.prog Try.f6 Rows.spinTurnsRow.domain false) (Rows.spinTurnsSpec.post enc Try.prog Try.f6 false true false false) := by
  refine returnsInHanded_of_change_sized (C := Try.checked) own started (by kernel_rfl) Try.func6
    (ChangeSpec.witness6 (enc := enc) (C := Try.checked) false ⟨#[], #[.slice none 0 0, .int .u16 0, .int .u8 0], []⟩ 8 (by kernel_rfl) (by kernel_rfl) (by kernel_rfl) (by kernel_rfl)) ?_
  intro W base args ds gs before hval0 hW hcnd hsz0 _
  have hsz : (DataW.weightsEach Try.prog (Try.f6.params.toList ++ Rows.spinTurnsSpec.plain.varTypes Try.prog) (ds ++ gs)).all (· ≤ reachBytes) = true := hsz0
  clear hsz0
  have hval : ∀ (j : Nat) t v, Try.f6.params[j]? = some t → args[j]? = some v → Value.okWide Try.prog W .any base t v := hval0
  have hW' := hW
  obtain ⟨p, q, hA0, hV, rfl, hfz, hnd⟩ := hW
  have hA : DataW.TrodAll enc Try.prog W 0 (fun _ => true) true Try.f6.params.toList args.toList ds p := hA0
  rw [Try.params6] at hA hval hsz
  obtain ⟨v0, vs0, d0, ds0, p0, q0, hargs, rfl, rfl, h0, r0⟩ := trodAll_cons hA
  obtain ⟨v1, vs1, d1, ds1, p1, q1, rfl, rfl, rfl, h1, r1⟩ := trodAll_cons r0
  obtain ⟨v2, vs2, d2, ds2, p2, q2, rfl, rfl, rfl, h2, r2⟩ := trodAll_cons r1
  obtain ⟨rfl, rfl, rfl⟩ := trodAll_nil r2
  obtain rfl : args = #[v0, v1, v2] := by cases args; simp_all
  obtain ⟨rfl, rfl⟩ := trodVars_none hV
  obtain ⟨a0, len0, cap0, rfl⟩ := okWide_slice Try.underlying23 (hval 0 23 v0 rfl rfl)
  have k0 := h0
  have lt0 : ∀ x ∈ p0, x.block < W.heap.size := by obtain ⟨m, hm⟩ := k0; exact DataW.trod_lt m _ _ _ hm
  obtain ⟨z0, w0, rch0⟩ := open_bytes k0 (fun e s hd => sized_slice hsz (j := 0) (t := 23) (e := 5) rfl (by rw [hd]; rfl) Try.underlying23)
  obtain ⟨a1, rfl, rfl, rfl, w1⟩ := open_int Try.underlying31 (hval 1 31 v1 rfl rfl) h1
  obtain ⟨a2, rfl, rfl, rfl, w2⟩ := open_int Try.underlying5 (hval 2 5 v2 rfl rfl) h2
  clear hA0 hval0
  refine (walk a0 len0 cap0 z0 a1 a2 W w0 rch0 w1 w2).mono fun e W' ⟨he, bel⟩ => ?_
  subst he
  exact ⟨_, rfl, _, _, _, [], _, [], hW', trodAll_mk1 (shut_bool Try.underlying4 _), (trodAll_cons_mk (Below.trod laidOut (by kernel_rfl) (of_decide_eq_true (by kernel_rfl)) k0 bel lt0) (trodAll_cons_mk (shut_int Try.underlying31 w1) (trodAll_cons_mk (shut_int Try.underlying5 w2) trodAll_mk0))), rfl, bel.frame _, fun h => by cases h⟩

theorem over : Rows.spinTurnsRow.holds Try.pinned (OpenSpec.ofChange Rows.spinTurnsSpec) :=
  OpenClaim.holds_of_wide 6 Try.f6 rfl rfl rfl rfl rfl rfl rfl ⟨rfl, rfl, rfl, rfl, rfl⟩ rfl rfl rfl rfl rfl (by kernel_rfl) Try.func6 (by kernel_rfl)
    (of_decide_eq_true (by kernel_rfl)) (by unfold Func.isWrapper; first | (rw [if_pos (by decide +kernel)]; kernel_rfl) | (rw [if_neg (by decide +kernel)]; exact ⟨rfl, rfl⟩))
    (fun os started H enc _ => lifted os started H enc)

/-- THE STATEMENT -/
theorem proved : Rows.SpinTurnsSaid := over
end Go.Proofs.Ytfplojlmfdgmiaa.spinTurns
