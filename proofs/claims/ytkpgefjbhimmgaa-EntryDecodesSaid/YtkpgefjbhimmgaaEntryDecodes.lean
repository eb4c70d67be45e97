/-
  Proved here: the entries that any bytes are, as the document's own answer says. No conditions.
-/
import Derived.Test.YtkpgefjbhimmgaaAwake10
import Derived.Test.YtkpgefjbhimmgaaEntRefD
import Derived.Test.YtkpgefjbhimmgaaEntSame
import Derived.Test.YtkpgefjbhimmgaaEntIn
namespace Go.Proofs.Ytkpgefjbhimmgaa.entryDecodes
open Go.ChangeShapes Go.WideShapes Go.ChangeAt Go.RowKit
open Go.ChangeMaps (open_string shut_string)
set_option linter.unusedVariables false
set_option linter.unusedSimpArgs false

set_option maxHeartbeats 1600000 in
theorem walk (a0 : Option Addr) (len0 cap0 : Nat) (z0 : List Int) (w : World) (w0 : IsRow .u8 w a0 len0 cap0 z0) (rch0 : cap0 ≤ 140737488351232) :
    Calls Try.prog 4 #[.slice a0 len0 cap0] w fun e w' => e = .returned (.bool true) ∧ Below w.heap.size w w' := by
  have hA := w0.arg rch0
  obtain ⟨zs, HZ⟩ : ∃ zs, Hid (zs = z0.take len0) := ⟨_, Lib.hid rfl⟩
  rw [← HZ.out] at hA
  have c1 := fun W (h : Below w.heap.size w W) => edec_any a0 len0 cap0 zs W (hA.later h)
  have c2 := fun W (h : Below w.heap.size w W) => rdec_any a0 len0 cap0 zs W (hA.later h)
  unfold DecDone at c1 c2
  generalize getEnt zs = L at *
  generalize getEntErr zs = E at *
  have C1 := Lib.hid c1
  have C2 := Lib.hid c2
  have B0 := Lib.hid (Below.refl w.heap.size w)
  obtain ⟨n, HLN⟩ : ∃ n, Hid (L.length = n) := ⟨_, Lib.hid rfl⟩
  clear c1 c2 hA w0 rch0 HZ
  go_enter Try.func4, Try.ntmps4
  go_wp2_with (first | (go_at_call 15; refine (C1.out _ B0.out).mono ?_; rintro e2 w2 ⟨v2, rfl, ⟨a2, k2, rfl, hE2⟩, hb2⟩; rw [HLN.out]; rw [HLN.out] at hE2; have E2 := Lib.hid hE2; have B2 := Lib.hid hb2; clear hE2 hb2) | (go_at_call 16; refine (C2.out _ B2.out).mono ?_; rintro e2 w3 ⟨v3, rfl, ⟨a3, k3, rfl, hE3⟩, hb3⟩; rw [HLN.out]; rw [HLN.out] at hE3; have E3 := Lib.hid hE3; have E23 := Lib.hid (E2.out.later hb3); have B3 := Lib.hid (B2.out.trans (hb3.mono B2.out.size)); clear hE3 hb3) | (go_at_call 14; refine (awake10_any _).mono ?_; rintro e2 w5 ⟨rfl, hb5⟩; have B5 := Lib.hid (B3.out.trans (hb5.mono B3.out.size)); have S1 := Lib.hid (two_blks (T := 22) (E23.out.later hb5) (E3.out.later hb5)); clear hb5) | (go_at_call 17; (with_reducible refine (same_true _ _ 1 1 1 [L] _ S1.out.1 S1.out.2.1).mono ?_); rintro e w6 ⟨rfl, hb6⟩; have B6 := Lib.hid (B5.out.trans ((S1.out.2.2.trans (hb6.mono S1.out.2.2.size)).mono B5.out.size)); clear hb6))
  go_ret
  exact ⟨by simp, B6.out⟩

/-! ### The law's step -/
set_option maxRecDepth 100000 in
theorem lifted (os : Os) (started : os.Started) (H : Type) (enc : TypeId × Value → H) :
    ReturnsInHanded {} Try.checked os 4 .any (Rows.entryDecodesSpec.pre6 enc Try.prog Try.f4 Rows.entryDecodesRow.domain false) (Rows.entryDecodesSpec.post enc Try.prog Try.f4 false true false false) := by
  refine returnsInHanded_of_change_sized (C := Try.checked) own started (by kernel_rfl) Try.func4
    (ChangeSpec.witness6 (enc := enc) (C := Try.checked) false ⟨#[], #[.slice none 0 0], []⟩ 8 (by kernel_rfl) (by kernel_rfl) (by kernel_rfl) (by kernel_rfl)) ?_
  intro W base args ds gs before hval0 hW hcnd hsz0 _
  have hsz : (DataW.weightsEach Try.prog (Try.f4.params.toList ++ Rows.entryDecodesSpec.plain.varTypes Try.prog) (ds ++ gs)).all (· ≤ reachBytes) = true := hsz0
  clear hsz0
  have hval : ∀ (j : Nat) t v, Try.f4.params[j]? = some t → args[j]? = some v → Value.okWide Try.prog W .any base t v := hval0
  have hW' := hW
  obtain ⟨p, q, hA0, hV, rfl, hfz, hnd⟩ := hW
  have hA : DataW.TrodAll enc Try.prog W 0 (fun _ => true) true Try.f4.params.toList args.toList ds p := hA0
  rw [Try.params4] at hA hval hsz
  obtain ⟨v0, vs0, d0, ds0, p0, q0, hargs, rfl, rfl, h0, r0⟩ := trodAll_cons hA
  obtain ⟨rfl, rfl, rfl⟩ := trodAll_nil r0
  obtain rfl : args = #[v0] := by cases args; simp_all
  obtain ⟨rfl, rfl⟩ := trodVars_none hV
  have k0 := h0
  have lt0 : ∀ x ∈ p0, x.block < W.heap.size := by obtain ⟨m, hm⟩ := k0; exact DataW.trod_lt m _ _ _ hm
  obtain ⟨a0, len0, cap0, rfl⟩ := okWide_slice Try.underlying23 (hval 0 23 v0 rfl rfl)
  obtain ⟨z0, w0, rch0⟩ := open_bytes k0 (fun e s hd => sized_slice hsz (j := 0) (t := 23) (e := 5) rfl (by rw [hd]; rfl) Try.underlying23)
  clear hA0 hval0
  refine (walk a0 len0 cap0 z0 W w0 rch0).mono fun e W' ⟨he, bel⟩ => ?_
  subst he
  exact ⟨_, rfl, _, _, _, [], _, [], hW', trodAll_mk1 (shut_bool Try.underlying4 _), (trodAll_cons_mk (Below.trod laidOut (by kernel_rfl) (of_decide_eq_true (by kernel_rfl)) k0 bel lt0) trodAll_mk0), rfl, bel.frame _, fun h => by cases h⟩

theorem over : Rows.entryDecodesRow.holds Try.pinned (OpenSpec.ofChange Rows.entryDecodesSpec) :=
  OpenClaim.holds_of_wide 4 Try.f4 rfl rfl rfl rfl rfl rfl rfl ⟨rfl, rfl, rfl, rfl, rfl⟩ rfl rfl rfl rfl rfl (by kernel_rfl) Try.func4 (by kernel_rfl)
    (of_decide_eq_true (by kernel_rfl)) (by unfold Func.isWrapper; first | (rw [if_pos (by decide +kernel)]; kernel_rfl) | (rw [if_neg (by decide +kernel)]; exact ⟨rfl, rfl⟩))
    (fun os started H enc _ => lifted os started H enc)

/-- The statement. -/
theorem proved : Rows.EntryDecodesSaid := over
end Go.Proofs.Ytkpgefjbhimmgaa.entryDecodes
