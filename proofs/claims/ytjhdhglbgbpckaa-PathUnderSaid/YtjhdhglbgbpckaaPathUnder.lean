/-
  Proved here: whether any path lies within any other is what the document's own answer says. No conditions.
-/
import Derived.Test.YtjhdhglbgbpckaaAwake14
import Derived.Test.YtjhdhglbgbpckaaStrsIn
import Derived.WalkKit
namespace Go.Proofs.Ytjhdhglbgbpckaa.pathUnder
open Go.ChangeShapes Go.WideShapes Go.ChangeAt Go.RowKit
open Go.ChangeMaps (open_string shut_string)
set_option linter.unusedVariables false
set_option linter.unusedSimpArgs false

theorem begins_map {ns ms : List ByteArray} {A B : List (List Int)} (h1 : ns.map bytesOf = A) (h2 : ms.map bytesOf = B) : (decide (ms.length ≤ ns.length) && decide (ns.take ms.length = ms)) = beginsW A B := by
  unfold beginsW
  rw [take_map, h1, h2, ← h1, ← h2, List.length_map, List.length_map]
set_option maxRecDepth 100000 in
set_option maxHeartbeats 3200000 in
theorem walk (s0 : ByteArray) (s1 : ByteArray) (w : World) (w0 : s0.size ≤ 140737488351232) (w1 : s1.size ≤ 140737488351232) :
    Calls Try.prog 5 #[.string s0, .string s1] w fun e w' => e = .returned (.bool true) ∧ Below w.heap.size w w' := by
  have c1 := Under_any s0 s1 w w0 w1
  have c2 := fun W => RSplit_s s0 W w0
  have c3 := fun W => RSplit_s s1 W w1
  have c4 := fun W => awake14 W
  generalize splitW (bytesOf s0) = A at *
  generalize splitW (bytesOf s1) = B at *
  clear w0 w1
  obtain ⟨e1, A⟩ := A
  obtain ⟨e2, B⟩ := B
  by_cases h1 : e1 = 0
  · subst h1
    by_cases h2 : e2 = 0
    · subst h2
      rw [show underW (0, A) (0, B) = (beginsW A B, 0) from rfl] at c1
      have HG := Lib.hid (fun (ns ms : List ByteArray) => begins_map (ns := ns) (ms := ms) (A := A) (B := B))
      generalize beginsW A B = U at *
      go_enter Try.func5, Try.ntmps5
      go_wp2_with (first
        | (go_at_call 16; refine (RBegins_any (xs := ns) (ys := ms) _ HX.out HY.out HC.out.1 HC.out.2).mono ?_; rintro e w7 ⟨he, hb7⟩; rw [HG.out _ _ HM.out HM5.out] at he; subst he; have HB7 := Lib.hid (HB6.out.trans (hb7.mono HB6.out.size)); clear hb7)
        | (go_at_call 11; refine (c4 _).mono ?_; rintro e w6 ⟨rfl, hb6⟩; have HB6 := Lib.hid (HB5.out.trans (hb6.mono HB5.out.size)); have HX := Lib.hid (HX.out.later hb6); have HY := Lib.hid (HY.out.later hb6); clear hb6)
        | (have gt := HB4; clear gt; go_at_call 10; refine (c3 _).mono ?_; rintro e w5 ⟨⟨ms, bo, k5, rfl, hX5, hk5, hn5, hm5, hl5⟩, hb5⟩; have HB5 := Lib.hid (HB4.out.trans (hb5.mono HB4.out.size)); have HX := Lib.hid (HX.out.later hb5); have HM5 : Hid (ms.map bytesOf = B) := Lib.hid hm5; have HY := Lib.hid hX5; clear hb5 hX5 hm5 hk5 hn5 hl5)
        | (have gt := HB3; clear gt; go_at_call 10; refine (c2 _).mono ?_; rintro e w4 ⟨⟨ns, ao, k4, rfl, hX4, hk4, hn4, hm4, hl4⟩, hb4⟩; have HB4 := Lib.hid (HB3.out.trans (hb4.mono HB3.out.size)); have HM : Hid (ns.map bytesOf = A) := Lib.hid hm4; have HX := Lib.hid hX4; have HC := Lib.hid (And.intro hk4 hn4); clear hb4 hX4 hm4 hk4 hn4 hl4)
        | (go_at_call 15; refine c1.mono ?_; rintro e w3 ⟨rfl, hb3⟩; have HB3 := Lib.hid hb3; clear hb3))
      go_ret
      exact ⟨by simp, HB7.out⟩
    · rw [show underW (0, A) (e2, B) = (false, e2) from if_pos h2] at c1
      have b2 : (e2 != 0) = true := by simpa using h2
      have b3 : (e2 == 0) = false := by simpa using h2
      clear h2
      go_enter Try.func5, Try.ntmps5
      go_wp2_with (first
        | (go_at_call 11; refine (c4 _).mono ?_; rintro e w6 ⟨rfl, hb6⟩; have HB6 := Lib.hid (HB5.out.trans (hb6.mono HB5.out.size)); clear hb6)
        | (have gt := HB4; clear gt; go_at_call 10; refine (c3 _).mono ?_; rintro e w5 ⟨⟨ms, bo, k5, rfl, hX5, hk5, hn5, hm5, hl5⟩, hb5⟩; have HB5 := Lib.hid (HB4.out.trans (hb5.mono HB4.out.size)); clear hb5 hX5 hm5 hk5 hn5 hl5)
        | (have gt := HB3; clear gt; go_at_call 10; refine (c2 _).mono ?_; rintro e w4 ⟨⟨ns, ao, k4, rfl, hX4, hk4, hn4, hm4, hl4⟩, hb4⟩; have HB4 := Lib.hid (HB3.out.trans (hb4.mono HB3.out.size)); clear hb4 hX4 hm4 hk4 hn4 hl4)
        | (go_at_call 15; refine c1.mono ?_; rintro e w3 ⟨rfl, hb3⟩; have HB3 := Lib.hid hb3; clear hb3))
      go_ret
      exact ⟨by simp, HB6.out⟩
  · rw [show underW (e1, A) (e2, B) = (false, e1) from if_pos h1] at c1
    have b2 : (e1 != 0) = true := by simpa using h1
    have b3 : (e1 == 0) = false := by simpa using h1
    clear h1
    go_enter Try.func5, Try.ntmps5
    go_wp2_with (first
      | (go_at_call 11; refine (c4 _).mono ?_; rintro e w6 ⟨rfl, hb6⟩; have HB6 := Lib.hid (HB5.out.trans (hb6.mono HB5.out.size)); clear hb6)
      | (have gt := HB4; clear gt; go_at_call 10; refine (c3 _).mono ?_; rintro e w5 ⟨⟨ms, bo, k5, rfl, hX5, hk5, hn5, hm5, hl5⟩, hb5⟩; have HB5 := Lib.hid (HB4.out.trans (hb5.mono HB4.out.size)); clear hb5 hX5 hm5 hk5 hn5 hl5)
      | (have gt := HB3; clear gt; go_at_call 10; refine (c2 _).mono ?_; rintro e w4 ⟨⟨ns, ao, k4, rfl, hX4, hk4, hn4, hm4, hl4⟩, hb4⟩; have HB4 := Lib.hid (HB3.out.trans (hb4.mono HB3.out.size)); clear hb4 hX4 hm4 hk4 hn4 hl4)
      | (go_at_call 15; refine c1.mono ?_; rintro e w3 ⟨rfl, hb3⟩; have HB3 := Lib.hid hb3; clear hb3))
    go_ret
    exact ⟨by simp, HB6.out⟩

/-! ### The law's step -/
set_option maxRecDepth 100000 in
theorem lifted (os : Os) (started : os.Started) (H : Type) (enc : TypeId × Value → H) :
    ReturnsInHanded {} Try.checked os 5 .any (Rows.pathUnderSpec.pre6 enc Try.prog Try.f5 Rows.pathUnderRow.domain false) (Rows.pathUnderSpec.post enc Try.prog Try.f5 false true false false) := by
  refine returnsInHanded_of_change_sized (C := Try.checked) own started (by kernel_rfl) Try.func5
    (ChangeSpec.witness6 (enc := enc) (C := Try.checked) false ⟨#[], #[.string ByteArray.empty, .string ByteArray.empty], []⟩ 8 (by kernel_rfl) (by kernel_rfl) (by kernel_rfl) (by kernel_rfl)) ?_
  intro W base args ds gs before hval0 hW hcnd hsz0 _
  have hsz : (DataW.weightsEach Try.prog (Try.f5.params.toList ++ Rows.pathUnderSpec.plain.varTypes Try.prog) (ds ++ gs)).all (· ≤ reachBytes) = true := hsz0
  clear hsz0
  have hval : ∀ (j : Nat) t v, Try.f5.params[j]? = some t → args[j]? = some v → Value.okWide Try.prog W .any base t v := hval0
  have hW' := hW
  obtain ⟨p, q, hA0, hV, rfl, hfz, hnd⟩ := hW
  have hA : DataW.TrodAll enc Try.prog W 0 (fun _ => true) true Try.f5.params.toList args.toList ds p := hA0
  rw [Try.params5] at hA hval hsz
  obtain ⟨v0, vs0, d0, ds0, p0, q0, hargs, rfl, rfl, h0, r0⟩ := trodAll_cons hA
  obtain ⟨v1, vs1, d1, ds1, p1, q1, rfl, rfl, rfl, h1, r1⟩ := trodAll_cons r0
  obtain ⟨rfl, rfl, rfl⟩ := trodAll_nil r1
  obtain rfl : args = #[v0, v1] := by cases args; simp_all
  obtain ⟨rfl, rfl⟩ := trodVars_none hV
  have k0 := h0
  have lt0 : ∀ x ∈ p0, x.block < W.heap.size := by obtain ⟨m, hm⟩ := k0; exact DataW.trod_lt m _ _ _ hm
  obtain ⟨s0, rfl, w0⟩ := open_text (hval 0 9 v0 rfl rfl) h0 (weights_ofS hsz (j := 0) rfl rfl)
  have k1 := h1
  have lt1 : ∀ x ∈ p1, x.block < W.heap.size := by obtain ⟨m, hm⟩ := k1; exact DataW.trod_lt m _ _ _ hm
  obtain ⟨s1, rfl, w1⟩ := open_text (hval 1 9 v1 rfl rfl) h1 (weights_ofS hsz (j := 1) rfl rfl)
  clear hA0 hval0
  refine (walk s0 s1 W w0 w1).mono fun e W' ⟨he, bel⟩ => ?_
  subst he
  exact ⟨_, rfl, _, _, _, [], _, [], hW', trodAll_mk1 (shut_bool Try.underlying4 _), (trodAll_cons_mk (Below.trod laidOut (by kernel_rfl) (of_decide_eq_true (by kernel_rfl)) k0 bel lt0) (trodAll_cons_mk (Below.trod laidOut (by kernel_rfl) (of_decide_eq_true (by kernel_rfl)) k1 bel lt1) trodAll_mk0)), rfl, bel.frame _, fun h => by cases h⟩

theorem over : Rows.pathUnderRow.holds Try.pinned (OpenSpec.ofChange Rows.pathUnderSpec) :=
  OpenClaim.holds_of_wide 5 Try.f5 rfl rfl rfl rfl rfl rfl rfl ⟨rfl, rfl, rfl, rfl, rfl⟩ rfl rfl rfl rfl rfl (by kernel_rfl) Try.func5 (by kernel_rfl)
    (of_decide_eq_true (by kernel_rfl)) (by unfold Func.isWrapper; first | (rw [if_pos (by decide +kernel)]; kernel_rfl) | (rw [if_neg (by decide +kernel)]; exact ⟨rfl, rfl⟩))
    (fun os started H enc _ => lifted os started H enc)

/-- The statement. -/
theorem proved : Rows.PathUnderSaid := over
end Go.Proofs.Ytjhdhglbgbpckaa.pathUnder
