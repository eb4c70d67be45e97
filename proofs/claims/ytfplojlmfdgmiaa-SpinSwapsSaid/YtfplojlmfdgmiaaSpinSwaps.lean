/-
  Proved here: a text of which two neighbours are swapped has another sum by spin.Sum just where the two are unlike. No conditions.
-/
import Derived.Test.YtfplojlmfdgmiaaLaw
import Derived.Deep.RegionHeld3
import Derived.BigRegion
namespace Go.Proofs.Ytfplojlmfdgmiaa.spinSwaps
open Go.ChangeShapes Go.WideShapes Go.ChangeAt Go.RowKit
open Go.ChangeMaps (open_string shut_string)
set_option linter.unusedVariables false

set_option maxHeartbeats 400000 in
theorem walk (a0 : Option Addr) (len0 cap0 : Nat) (z0 : List Int) (a1 : Int) (w : World) (w0 : IsRow .u8 w a0 len0 cap0 z0) (rch0 : cap0 ≤ 140737488351232) (w1 : (Lit.int .u16 a1).wf = true) :
    Calls Try.prog 9 #[.slice a0 len0 cap0, .int .u16 a1] w fun e w' => e = .returned (.bool true) ∧ Below w.heap.size w w' := by
  have hB := w0.bts
  have lb := w0.len_le
  have hw1 := wf_u16 w1
  clear w1
  obtain ⟨zs, HZ⟩ : ∃ zs, Hid (zs = z0.take len0) := ⟨_, Lib.hid rfl⟩
  rw [← HZ.out] at hB
  clear w0
  have hl := hB.1
  have hz := hB.2.2.1
  have HL : Hid (zs.length = len0) := Lib.hid hl
  clear hl
  by_cases h0 : len0 < 2
  · have h0' : (len0 : Int) < 2 := by omega
    go_enter Try.func9, Try.ntmps9
    go_wp2_with fail
    refine (awake_any _).mono ?_
    rintro e w2 ⟨rfl, hb⟩
    go_wp2_with fail
    go_ret
    exact ⟨rfl, hb⟩
  · obtain ⟨b, off, rfl, hc⟩ := hB.2.2.2.resolve_left (by omega)
    have h0' : ¬ (len0 : Int) < 2 := by omega
    have hpos : (1 : Int) ≤ (len0 : Int) - 1 := by omega
    obtain ⟨i0, hi, hz0, hz1, hz2⟩ := info_parts info5
    have hown := World.ownsRow_made (base := w.heap.size) (e := 5) (size := 1) w #[] 0 (Nat.le_refl _) (by decide) rfl
    have hnews := bts_cell hc HL.out (.cells #[] 5)
    have hlen : (zs.map (Value.int .u8)).length = len0 * 1 := by rw [List.length_map, HL.out, Nat.mul_one]
    obtain ⟨k, Hk⟩ : ∃ k : Nat, Hid (a1 % ((len0 : Int) - 1) = (k : Int)) := ⟨(a1 % ((len0 : Int) - 1)).toNat, Lib.hid (by have := Int.emod_nonneg a1 (b := (len0 : Int) - 1) (by omega); omega)⟩
    have hklt : k + 1 < len0 := by have := Int.emod_lt_of_pos a1 (b := (len0 : Int) - 1) (by omega); have := Hk.out; omega
    have hc1 : 0 + len0 ≤ maxLen := by unfold maxLen; omega
    have hc2 : (0 + len0) * 1 ≤ 140737488355328 := by omega
    have hc3 : w.heap.size ≤ (w.alloc (.cells #[] 5)).heap.size := by simp
    have HX0 := sum_swap (zs := zs) (k := k) (by rw [HL.out]; exact hklt) hz
    have hx := hz _ (getD_mem (l := zs) (k := k) (by rw [HL.out]; omega))
    have hy := hz _ (getD_mem (l := zs) (k := k + 1) (by rw [HL.out]; exact hklt))
    obtain ⟨x, Hx⟩ : ∃ x, Hid (zs.getD k 0 = x) := ⟨_, Lib.hid rfl⟩
    obtain ⟨y, Hyy⟩ : ∃ y, Hid (zs.getD (k + 1) 0 = y) := ⟨_, Lib.hid rfl⟩
    rw [Hx.out, Hyy.out] at HX0
    rw [Hx.out] at hx
    rw [Hyy.out] at hy
    have HX := Lib.hid HX0
    clear HX0
    go_enter Try.func9, Try.ntmps9
    go_wp2_with (at_builtin; refine wpList_append_own _ rfl (.tmp 11) (.tmp 12) 23 rfl w.heap.size 5 i0 (.int .u8 0) 1 1 Try.underlying23 hi hz0 hz1 hz2 rfl (by decide) _ _ _ rfl hown _ _ _ _ rfl hlen hnews (one_cells zs) hc1 hc2 hc3 ?_; intro v1 w1 hown1 hgrow1 _; have hcp := copied hown1 hgrow1 HL.out (by omega); clear hown1 hgrow1; obtain ⟨g, cap1, hv, hg, hb1, hcell1, hfr1, hcap1⟩ := hcp; rw [hv]; clear hv; have hmod := Hk.out)
    have hx1 := hcell1 k (by omega)
    have hy1 := hcell1 (k + 1) (by omega)
    rw [Hx.out] at hx1
    rw [Hyy.out] at hy1
    have hf1 := hfr1 k
    have hf2 := hfr1 (k + 1)
    have hbc := bts_swap hcell1 HL.out (by omega) hz hklt hx hy
    have hbb := ((hb1.setCell (p := ⟨g, k, none⟩) hg (.int .u8 y)).setCell (p := ⟨g, k + 1, none⟩) hg (.int .u8 x)).drew
    have HB : Hid (∀ w3, Below w.heap.size w w3 → Bts w3 (some ⟨b, off, none⟩) len0 zs ∧ w3.cell? ⟨b, off + k, none⟩ = some (.int .u8 x) ∧ w3.cell? ⟨b, off + (k + 1), none⟩ = some (.int .u8 y)) := Lib.hid (fun w3 h => by
      refine ⟨hB.later h, ?_, ?_⟩
      · rw [← Hx.out]; exact cell_later h (hc k (by omega))
      · rw [← Hyy.out]; exact cell_later h (hc (k + 1) (by omega)))
    have HS : Hid (Below w.heap.size w (((w1.setCell ⟨g, k, none⟩ (.int .u8 y)).setCell ⟨g, k + 1, none⟩ (.int .u8 x)).drew) ∧ Bts (((w1.setCell ⟨g, k, none⟩ (.int .u8 y)).setCell ⟨g, k + 1, none⟩ (.int .u8 x)).drew) (some ⟨g, 0, none⟩) len0 ((zs.set k y).set (k + 1) x)) := Lib.hid ⟨hbb, hbc⟩
    clear hcell1 hfr1 hi hz0 hz1 hz2 hmod hown hnews hlen hz hc hc1 hc2 hc3 hbb hbc hB hx hy
    have g0 : (0 : Int) ≤ (k : Int) := by omega
    have g1 : (k : Int) < (len0 : Int) := by omega
    have g2 : (k : Int) + 1 < (len0 : Int) := by omega
    go_region
    go_wp2_with fail
    clear hx1 hy1 hf1 hf2
    generalize ((w1.setCell ⟨g, k, none⟩ (.int .u8 y)).setCell ⟨g, k + 1, none⟩ (.int .u8 x)).drew = w2 at *
    obtain ⟨hb2, hbc⟩ := HS.out
    clear HS hb1
    have HF : Hid (∀ w3, Below w2.heap.size w2 w3 → Below w2.heap.size w2 w3 ∧ w3.cell? ⟨b, off + k, none⟩ = some (.int .u8 x) ∧ w3.cell? ⟨b, off + (k + 1), none⟩ = some (.int .u8 y)) := Lib.hid (fun w3 h => by
      have h2 := hb2.trans (h.mono hb2.size)
      exact ⟨h, (HB.out w3 h2).2.1, (HB.out w3 h2).2.2⟩)
    have HE : Hid (∀ w3, Below w2.heap.size w2 w3 → Below w.heap.size w w3) := Lib.hid (fun w3 h => hb2.trans (h.mono hb2.size))
    have cC : Hid (∀ w3, Below w2.heap.size w2 w3 → Calls Try.prog 11 #[.slice (some ⟨g, 0, none⟩) len0 cap1] w3 fun e w' => e = .returned (.int .u32 (sumS ((zs.set k y).set (k + 1) x))) ∧ w3 = w') := Lib.hid (fun w3 h => Sum_any _ _ _ _ w3 (hbc.later h))
    have cB : Hid (∀ w3, Below w2.heap.size w2 w3 → Calls Try.prog 11 #[.slice (some ⟨b, off, none⟩) len0 cap0] w3 fun e w' => e = .returned (.int .u32 (sumS zs)) ∧ w3 = w') := Lib.hid (fun w3 h => Sum_any _ _ _ _ w3 (HB.out w3 (hb2.trans (h.mono hb2.size))).1)
    have hb0 : Below w2.heap.size w2 w2.drew := (Below.refl _ _).drew
    have hX := HX.out
    clear hb2 hbc HB
    have s1 : IntKind.i64.wrap ((k : Int) + 1) = (k : Int) + 1 := IntWalk.i64_in _ (by omega)
    have s2 : (0 : Int) ≤ (k : Int) + 1 := by omega
    have s3 : ((k : Int) + 1).toNat = k + 1 := by omega
    go_region_held3 (fun w' => Below w2.heap.size w2 w' ∧ w'.cell? ⟨b, off + k, none⟩ = some (.int .u8 x) ∧ w'.cell? ⟨b, off + (k + 1), none⟩ = some (.int .u8 y)) (first | exact HF.out _ (by assumption)) (first | (go_at_call 10; refine (awake_any _).mono ?_; rintro e w3 ⟨rfl, hb3⟩; have hb4 := hb0.trans hb3; clear hb3) | (go_at_call 11; first | ((with_reducible refine (cC.out _ (by assumption)).mono ?_); rintro e w' ⟨rfl, rfl⟩) | ((with_reducible refine (cB.out _ (by assumption)).mono ?_); rintro e w' ⟨rfl, rfl⟩)))
    go_wp2_with fail
    go_ret
    exact ⟨rfl, HE.out _ (by assumption)⟩

/-! ### THE ROW's STEP: WRITTEN OUT: LEAVE IT -/
set_option maxRecDepth 100000 in
theorem lifted (os : Os) (started : os.Started) (H : Type) (enc : TypeId × Value → H) :
    ReturnsInHanded {} Try.checked os 9 .any (Rows.spinSwapsSpec.pre6 enc Try.prog Try.f9 Rows.spinSwapsRow.domain false) (Rows.spinSwapsSpec.post enc Try.prog Try.f9 false true false false) := by
  refine returnsInHanded_of_change_sized (C := Try.checked) own started (by kernel_rfl) Try.func9
    (ChangeSpec.witness6 (enc := enc) (C := Try.checked) false ⟨#[], #[.slice none 0 0, .int .u16 0], []⟩ 8 (by kernel_rfl) (by kernel_rfl) (by kernel_rfl) (by kernel_rfl)) ?_
  intro W base args ds gs before hval0 hW hcnd hsz0 _
  have hsz : (DataW.weightsEach Try.prog (Try.f9.params.toList ++ Rows.spinSwapsSpec.plain.varTypes Try.prog) (ds ++ gs)).all (· ≤ reachBytes) = true := hsz0
  clear hsz0
  have hval : ∀ (j : Nat) t v, Try.f9.params[j]? = some t → args[j]? = some v → Value.okWide Try.prog W .any base t v := hval0
  have hW' := hW
  obtain ⟨p, q, hA0, hV, rfl, hfz, hnd⟩ := hW
  have hA : DataW.TrodAll enc Try.prog W 0 (fun _ => true) true Try.f9.params.toList args.toList ds p := hA0
  rw [Try.params9] at hA hval hsz
  obtain ⟨v0, vs0, d0, ds0, p0, q0, hargs, rfl, rfl, h0, r0⟩ := trodAll_cons hA
  obtain ⟨v1, vs1, d1, ds1, p1, q1, rfl, rfl, rfl, h1, r1⟩ := trodAll_cons r0
  obtain ⟨rfl, rfl, rfl⟩ := trodAll_nil r1
  obtain rfl : args = #[v0, v1] := by cases args; simp_all
  obtain ⟨rfl, rfl⟩ := trodVars_none hV
  obtain ⟨a0, len0, cap0, rfl⟩ := okWide_slice Try.underlying23 (hval 0 23 v0 rfl rfl)
  have k0 := h0
  have lt0 : ∀ x ∈ p0, x.block < W.heap.size := by obtain ⟨m, hm⟩ := k0; exact DataW.trod_lt m _ _ _ hm
  obtain ⟨z0, w0, rch0⟩ := open_bytes k0 (fun e s hd => sized_slice hsz (j := 0) (t := 23) (e := 5) rfl (by rw [hd]; rfl) Try.underlying23)
  obtain ⟨a1, rfl, rfl, rfl, w1⟩ := open_int Try.underlying31 (hval 1 31 v1 rfl rfl) h1
  clear hA0 hval0
  refine (walk a0 len0 cap0 z0 a1 W w0 rch0 w1).mono fun e W' ⟨he, bel⟩ => ?_
  subst he
  exact ⟨_, rfl, _, _, _, [], _, [], hW', trodAll_mk1 (shut_bool Try.underlying4 _), (trodAll_cons_mk (Below.trod laidOut (by kernel_rfl) (of_decide_eq_true (by kernel_rfl)) k0 bel lt0) (trodAll_cons_mk (shut_int Try.underlying31 w1) trodAll_mk0)), rfl, bel.frame _, fun h => by cases h⟩

theorem over : Rows.spinSwapsRow.holds Try.pinned (OpenSpec.ofChange Rows.spinSwapsSpec) :=
  OpenClaim.holds_of_wide 9 Try.f9 rfl rfl rfl rfl rfl rfl rfl ⟨rfl, rfl, rfl, rfl, rfl⟩ rfl rfl rfl rfl rfl (by kernel_rfl) Try.func9 (by kernel_rfl)
    (of_decide_eq_true (by kernel_rfl)) (by unfold Func.isWrapper; first | (rw [if_pos (by decide +kernel)]; kernel_rfl) | (rw [if_neg (by decide +kernel)]; exact ⟨rfl, rfl⟩))
    (fun os started H enc _ => lifted os started H enc)

/-- THE STATEMENT -/
theorem proved : Rows.SpinSwapsSaid := over
end Go.Proofs.Ytfplojlmfdgmiaa.spinSwaps
