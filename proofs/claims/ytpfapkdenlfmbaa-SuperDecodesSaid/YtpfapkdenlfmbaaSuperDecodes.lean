/-
  Proved here: any bytes are read as a Super, and as a Head, as the document's own reading does. No conditions.
-/
import Derived.Test.YtpfapkdenlfmbaaAwake08
import Derived.Test.YtpfapkdenlfmbaaRef08D
import Derived.Test.YtpfapkdenlfmbaaSupIn
namespace Go.Proofs.Ytpfapkdenlfmbaa.superDecodes
open Go.ChangeShapes Go.WideShapes Go.ChangeAt Go.RowKit
open Go.ChangeMaps (open_string shut_string)
set_option linter.unusedVariables false
set_option linter.unusedSimpArgs false

set_option maxHeartbeats 1600000 in
theorem walk (a0 : Option Addr) (len0 cap0 : Nat) (z0 : List Int) (w : World) (w0 : IsRow .u8 w a0 len0 cap0 z0) (rch0 : cap0 ≤ 140737488351232) :
    Calls Try.prog 4 #[.slice a0 len0 cap0] w fun e w' => e = .returned (.bool true) ∧ Below w.heap.size w w' := by
  have hA := w0.arg rch0
  obtain ⟨zs, HZ⟩ : ∃ zs, Hid (zs = z0.take len0) := ⟨_, Lib.hid rfl⟩
  rw [← HZ.out] at hA
  clear w0 HZ rch0
  have HA := Lib.hid hA
  have c1 := fun W (h : Below w.heap.size w W) => supOk.dec a0 len0 cap0 zs W (hA.later h)
  have c2 := fun W (h : Below w.heap.size w W) => dec08_any a0 len0 cap0 zs W (hA.later h)
  have c3 := fun W (h : Below w.heap.size w W) => supOk.get a0 len0 cap0 zs W (hA.later h)
  have c4 := fun W (h : Below w.heap.size w W) => get08_any a0 len0 cap0 zs W (hA.later h)
  clear hA
  generalize getSupErr zs = E0 at *
  generalize getHeadErr zs = E1 at *
  generalize getSup zs = S0 at *
  generalize getHead zs = S1 at *
  obtain ⟨a, b, c, d, e⟩ := S0
  obtain ⟨g, h⟩ := S1
  unfold PSup.val PHead.val at *
  have B0 := Lib.hid (Below.refl w.heap.size w)
  go_enter Try.func4, Try.ntmps4
  go_wp2_with (first
    | (go_at_call 12; refine (c1 _ B0.out).mono ?_; rintro e2 w2 ⟨rfl, hb2⟩; have b2 := (B0.out.trans (hb2.mono B0.out.size)).alloc hb2.size (.cells #[.int .i64 a, .int .i64 b, .int .i64 c, .int .i64 d, .int .i64 e] 23); have B2 := Lib.hid b2; clear hb2 b2)
    | (go_at_call 13; refine (c2 _ B2.out).mono ?_; rintro e2 w3 ⟨rfl, hb3⟩; have b3 := B2.out.trans (hb3.mono B2.out.size); have k3 := hb3.alloc hb3.size (.cells #[.int .i64 a, .int .i64 b, .int .i64 c, .int .i64 d, .int .i64 e] 23); have K3 := Lib.hid k3; have B3 := Lib.hid (b3.alloc b3.size (.cells #[.int .i64 a, .int .i64 b, .int .i64 c, .int .i64 d, .int .i64 e] 23)); clear hb3 b3 k3)
    | (go_at_call 14; refine (c3 _ B3.out).mono ?_; rintro e2 w4 ⟨rfl, hb4⟩; have b4 := B3.out.trans (hb4.mono B3.out.size); have K4 := Lib.hid (hb4.alloc hb4.size (.cells #[.int .i64 g, .int .i64 h] 25)); have B4 := Lib.hid (b4.alloc b4.size (.cells #[.int .i64 g, .int .i64 h] 25)); clear hb4 b4)
    | (go_at_call 15; refine (c4 _ B4.out).mono ?_; rintro e2 w5 ⟨rfl, hb5⟩; have b5 := B4.out.trans (hb5.mono B4.out.size); have K5 := Lib.hid (hb5.alloc hb5.size (.cells #[.int .i64 g, .int .i64 h] 25)); have B5 := Lib.hid (b5.alloc b5.size (.cells #[.int .i64 g, .int .i64 h] 25)); clear hb5 b5)
    | (go_at_call 11; refine (awake08_any _).mono ?_; rintro e2 w6 ⟨rfl, hb6⟩; have B6 := Lib.hid (B5.out.trans (hb6.mono B5.out.size));
       have m5 := hb6; have m4 := K5.out.trans (m5.mono K5.out.size); have m3 := K4.out.trans (m4.mono K4.out.size); have m2 := K3.out.trans (m3.mono K3.out.size);
       have p0 := cell_later m2 (made_at w2 _ _ 0 (.int .i64 a) rfl); have p1 := cell_later m2 (made_at w2 _ _ 1 (.int .i64 b) rfl); have p2 := cell_later m2 (made_at w2 _ _ 2 (.int .i64 c) rfl); have p3 := cell_later m2 (made_at w2 _ _ 3 (.int .i64 d) rfl); have p4 := cell_later m2 (made_at w2 _ _ 4 (.int .i64 e) rfl);
       have q0 := cell_later m3 (made_at w3 _ _ 0 (.int .i64 a) rfl); have q1 := cell_later m3 (made_at w3 _ _ 1 (.int .i64 b) rfl); have q2 := cell_later m3 (made_at w3 _ _ 2 (.int .i64 c) rfl); have q3 := cell_later m3 (made_at w3 _ _ 3 (.int .i64 d) rfl); have q4 := cell_later m3 (made_at w3 _ _ 4 (.int .i64 e) rfl);
       have r0 := cell_later m4 (made_at w4 _ _ 0 (.int .i64 g) rfl); have r1 := cell_later m4 (made_at w4 _ _ 1 (.int .i64 h) rfl);
       have s0 := cell_later m5 (made_at w5 _ _ 0 (.int .i64 g) rfl); have s1 := cell_later m5 (made_at w5 _ _ 1 (.int .i64 h) rfl); clear m2 m3 m4 m5 hb6))
  go_ret
  exact ⟨rfl, B6.out⟩

/-! ### The law's step -/
set_option maxRecDepth 100000 in
theorem lifted (os : Os) (started : os.Started) (H : Type) (enc : TypeId × Value → H) :
    ReturnsInHanded {} Try.checked os 4 .any (Rows.superDecodesSpec.pre6 enc Try.prog Try.f4 Rows.superDecodesRow.domain false) (Rows.superDecodesSpec.post enc Try.prog Try.f4 false true false false) := by
  refine returnsInHanded_of_change_sized (C := Try.checked) own started (by kernel_rfl) Try.func4
    (ChangeSpec.witness6 (enc := enc) (C := Try.checked) false ⟨#[], #[.slice none 0 0], []⟩ 8 (by kernel_rfl) (by kernel_rfl) (by kernel_rfl) (by kernel_rfl)) ?_
  intro W base args ds gs before hval0 hW hcnd hsz0 _
  have hsz : (DataW.weightsEach Try.prog (Try.f4.params.toList ++ Rows.superDecodesSpec.plain.varTypes Try.prog) (ds ++ gs)).all (· ≤ reachBytes) = true := hsz0
  clear hsz0
  have hval : ∀ (j : Nat) t v, Try.f4.params[j]? = some t → args[j]? = some v → Value.okWide Try.prog W .any base t v := hval0
  have hW' := hW
  obtain ⟨p, q, hA0, hV, rfl, hfz, hnd⟩ := hW
  have hA : DataW.TrodAll enc Try.prog W 0 (fun _ => true) true Try.f4.params.toList args.toList ds p := hA0
  rw [Try.params4] at hA hval hsz
  obtain ⟨v0, vs0, d0, ds0, p0, q0, hargs, rfl, rfl, h0, r0⟩ := trodAll_cons hA
  obtain ⟨rfl, rfl, rfl⟩ := trodAll_nil r0
  obtain rfl : args = #[v0] := by cases args; simp_all
  obtain ⟨rfl, rfl⟩ := trodVars_none hV
  have k0 := h0
  have lt0 : ∀ x ∈ p0, x.block < W.heap.size := by obtain ⟨m, hm⟩ := k0; exact DataW.trod_lt m _ _ _ hm
  obtain ⟨a0, len0, cap0, rfl⟩ := okWide_slice Try.underlying26 (hval 0 26 v0 rfl rfl)
  obtain ⟨z0, w0, rch0⟩ := open_bytes k0 (fun e s hd => sized_slice hsz (j := 0) (t := 26) (e := 5) rfl (by rw [hd]; rfl) Try.underlying26)
  clear hA0 hval0
  refine (walk a0 len0 cap0 z0 W w0 rch0).mono fun e W' ⟨he, bel⟩ => ?_
  subst he
  exact ⟨_, rfl, _, _, _, [], _, [], hW', trodAll_mk1 (shut_bool Try.underlying4 _), (trodAll_cons_mk (Below.trod laidOut (by kernel_rfl) (of_decide_eq_true (by kernel_rfl)) k0 bel lt0) trodAll_mk0), rfl, bel.frame _, fun h => by cases h⟩

theorem over : Rows.superDecodesRow.holds Try.pinned (OpenSpec.ofChange Rows.superDecodesSpec) :=
  OpenClaim.holds_of_wide 4 Try.f4 rfl rfl rfl rfl rfl rfl rfl ⟨rfl, rfl, rfl, rfl, rfl⟩ rfl rfl rfl rfl rfl (by kernel_rfl) Try.func4 (by kernel_rfl)
    (of_decide_eq_true (by kernel_rfl)) (by unfold Func.isWrapper; first | (rw [if_pos (by decide +kernel)]; kernel_rfl) | (rw [if_neg (by decide +kernel)]; exact ⟨rfl, rfl⟩))
    (fun os started H enc _ => lifted os started H enc)

/-- The statement. -/
theorem proved : Rows.SuperDecodesSaid := over
end Go.Proofs.Ytpfapkdenlfmbaa.superDecodes
