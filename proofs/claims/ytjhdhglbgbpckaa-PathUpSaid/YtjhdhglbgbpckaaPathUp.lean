/-
  Proved here: a name and two points behind a path change nothing. No conditions.
-/
import Derived.Test.YtjhdhglbgbpckaaAwake14
import Derived.Test.YtjhdhglbgbpckaaStrsIn
import Derived.WalkKit
namespace Go.Proofs.Ytjhdhglbgbpckaa.pathUp
open Go.ChangeShapes Go.WideShapes Go.ChangeAt Go.RowKit
open Go.ChangeMaps (open_string shut_string)
set_option linter.unusedVariables false
set_option linter.unusedSimpArgs false

theorem up_plain {s n : ByteArray} {l : List (List Int)} (h1 : splitW (bytesOf s) = (0, l)) (h2 : l.length < 16) (h3 : nmL (bytesOf n) = true) (h4 : s.size + n.size ≤ 900) : splitW (bytesOf (s ++ ⟨#[47]⟩ ++ n ++ ⟨#[47, 46, 46]⟩)) = (0, l) := by
  have h := split_up h1 h2 h3 (by rw [bytesOf_length, bytesOf_length]; omega)
  rw [bytesOf_append, bytesOf_append, bytesOf_append]
  rw [show bytesOf ⟨#[47]⟩ = [47] from rfl, show bytesOf ⟨#[47, 46, 46]⟩ = [47, 46, 46] from rfl]
  simpa using h
theorem one_sis (w : World) (s : ByteArray) (T : TypeId) : SIs (w.alloc (.cells #[.string s] T)) (some ⟨w.heap.size, 0, none⟩) 1 [s] := by
  refine ⟨rfl, by decide, Or.inr ⟨_, 0, rfl, fun j x hx => ?_⟩⟩
  rw [Nat.zero_add, World.cell?_alloc_mark]
  match j, hx with
  | 0, hx => exact hx
  | j + 1, hx => simp [strs] at hx
theorem join_one_err (s : ByteArray) : (joinW ([s].map bytesOf)).1 = if nmL (bytesOf s) = true then 0 else 9 := by
  unfold joinW
  rw [if_neg (by simp)]
  cases h : nmL (bytesOf s) <;> simp [h]
set_option maxRecDepth 100000 in
set_option maxHeartbeats 6400000 in
theorem walk (s0 : ByteArray) (s1 : ByteArray) (w : World) (w0 : s0.size ≤ 140737488351232) (w1 : s1.size ≤ 140737488351232) :
    Calls Try.prog 7 #[.string s0, .string s1] w fun e w' => e = .returned (.bool true) ∧ Below w.heap.size w w' := by
  have c1 := Split_s s0 w w0
  have c4 := fun W => awake14 W
  have c2 := fun (W : World) (T : TypeId) => Join_any (cap := 1) (W.alloc (.cells #[.string s1] T)) (one_sis W s1 T) (by intro s hs; simp at hs; subst hs; exact w1) (by decide)
  rw [join_one_err] at c2
  have HUp := Lib.hid (fun l h1 h2 h3 h4 => up_plain (s := s0) (n := s1) (l := l) h1 h2 h3 h4)
  have i0 : (0 : Int) ≤ (s0.size : Int) := by omega
  generalize hA : splitW (bytesOf s0) = A at *
  have hfew : A.2.length ≤ 16 := by rw [← hA]; exact split_few _
  clear hA
  obtain ⟨e1, L⟩ := A
  by_cases h1 : e1 = 0
  · subst h1
    by_cases h2 : 900 < s0.size + s1.size
    · have i2 : (900 : Int) < (s0.size : Int) + (s1.size : Int) := by omega
      clear h2 c2 HUp
      go_enter Try.func7, Try.ntmps7
      go_wp2_with (first
        | (have gt := HB4; clear gt; go_at_call 11; refine (c4 _).mono ?_; rintro e w5 ⟨rfl, hb5⟩; have HB5 := Lib.hid (HB4.out.trans (hb5.mono HB4.out.size)); clear hb5)
        | (have gt := HB3; clear gt; go_at_call 11; refine (c4 _).mono ?_; rintro e w4 ⟨rfl, hb4⟩; have HB4 := Lib.hid (HB3.out.trans (hb4.mono HB3.out.size)); clear hb4)
        | (go_at_call 9; refine c1.mono ?_; rintro e w3 ⟨⟨ns, ao, k3, rfl, hX, hk, hn, hm, hl⟩, hb3⟩; have HB3 := Lib.hid hb3; clear hb3 hX hk hn hm hl))
      go_ret
      exact ⟨rfl, HB5.out⟩
    · have i2 : ¬ (900 : Int) < (s0.size : Int) + (s1.size : Int) := by omega
      by_cases h3 : 16 ≤ L.length
      · clear c2 HUp
        go_enter Try.func7, Try.ntmps7
        go_wp2_with (first
          | (have gt := HB4; clear gt; go_at_call 11; refine (c4 _).mono ?_; rintro e w5 ⟨rfl, hb5⟩; have HB5 := Lib.hid (HB4.out.trans (hb5.mono HB4.out.size)); clear hb5)
          | (have gt := HB3; clear gt; go_at_call 11; refine (c4 _).mono ?_; rintro e w4 ⟨rfl, hb4⟩; have HB4 := Lib.hid (HB3.out.trans (hb4.mono HB3.out.size)); clear hb4)
          | (go_at_call 9; refine c1.mono ?_; rintro e w3 ⟨⟨ns, ao, k3, rfl, hX, hk, hn, hm, hl⟩, hb3⟩; have HB3 := Lib.hid hb3; have g3 : (16 : Int) ≤ (ns.length : Int) := (by have h : ns.map bytesOf = L := hm; rw [← h, List.length_map] at h3; omega); clear hb3 hX hk hn hm hl))
        go_ret
        exact ⟨rfl, HB5.out⟩
      · have hlt : L.length < 16 := by omega
        have c5 := fun W => Split_s (s0 ++ ⟨#[47]⟩ ++ s1 ++ ⟨#[47, 46, 46]⟩) W (by rw [ByteArray.size_append, ByteArray.size_append, ByteArray.size_append]; show s0.size + 1 + s1.size + 3 ≤ _; omega)
        have HU : Hid (nmL (bytesOf s1) = true → splitW (bytesOf (s0 ++ ⟨#[47]⟩ ++ s1 ++ ⟨#[47, 46, 46]⟩)) = (0, L)) := Lib.hid (fun hn => HUp.out L rfl hlt hn (by omega))
        clear HUp
        cases hn1 : nmL (bytesOf s1) with
        | false =>
          rw [hn1, if_neg (by decide)] at c2
          generalize splitW (bytesOf (s0 ++ ⟨#[47]⟩ ++ s1 ++ ⟨#[47, 46, 46]⟩)) = D at *
          clear hn1 HU
          obtain ⟨e5, D⟩ := D
          go_enter Try.func7, Try.ntmps7
          go_wp2_with (first
            | (have gt := HB5; clear gt; go_at_call 9; refine (c5 _).mono ?_; rintro e w6 ⟨⟨ms, bo, k6, rfl, hX6, hk6, hn6, hm6, hl6⟩, hb6⟩; have HB6 := Lib.hid (HB5.out.trans (hb6.mono HB5.out.size)); clear hb6 hX6 hk6 hn6 hm6 hl6)
            | (go_at_call 13; refine (c2 _ _).mono ?_; rintro e w5 ⟨⟨q, rfl, hq⟩, hb5⟩; have hb5' := ((Below.refl w4.heap.size w4).alloc (Nat.le_refl _) _).trans (hb5.mono (by rw [World.size_alloc]; exact Nat.le_succ _)); have HB5 := Lib.hid (HB4.out.trans (hb5'.mono HB4.out.size)); clear hb5 hb5' hq)
            | (go_at_call 11; refine (c4 _).mono ?_; rintro e w4 ⟨rfl, hb4⟩; have HB4 := Lib.hid (HB3.out.trans (hb4.mono HB3.out.size)); clear hb4)
            | (go_at_call 9; refine c1.mono ?_; rintro e w3 ⟨⟨ns, ao, k3, rfl, hX, hk, hn, hm, hl⟩, hb3⟩; have HB3 := Lib.hid hb3; have g3 : ¬ (16 : Int) ≤ (ns.length : Int) := (by have h : ns.map bytesOf = L := hm; rw [← h, List.length_map] at h3; omega); clear hb3 hX hk hn hm hl))
          go_ret
          exact ⟨rfl, HB6.out⟩
        | true => 
          rw [hn1, if_pos rfl] at c2
          rw [HU.out hn1] at c5
          clear hn1 HU
          go_enter Try.func7, Try.ntmps7
          go_wp2_with (first
            | (go_at_call 12; refine (RSame_any (xs := ns) (ys := ns) _ HX.out HY.out).mono ?_; rintro e w7 ⟨rfl, hb7⟩; have HB7 := Lib.hid (HB6.out.trans (hb7.mono HB6.out.size)); clear hb7)
            | (have gt := HB5; clear gt; go_at_call 9; refine (c5 _).mono ?_; rintro e w6 ⟨⟨ms, bo, k6, rfl, hX6, hk6, hn6, hm6, hl6⟩, hb6⟩; have HB6 := Lib.hid (HB5.out.trans (hb6.mono HB5.out.size)); have HX := Lib.hid (HX.out.later hb6); obtain rfl := map_inj (HM.out.trans (show L = ms.map bytesOf from hm6.symm)); have HY := Lib.hid hX6; clear hb6 hX6 hk6 hn6 hm6 hl6)
            | (go_at_call 13; refine (c2 _ _).mono ?_; rintro e w5 ⟨⟨q, rfl, hq⟩, hb5⟩; have hb5' := ((Below.refl w4.heap.size w4).alloc (Nat.le_refl _) _).trans (hb5.mono (by rw [World.size_alloc]; exact Nat.le_succ _)); have HB5 := Lib.hid (HB4.out.trans (hb5'.mono HB4.out.size)); have HX := Lib.hid (HX.out.later hb5'); clear hb5 hb5' hq)
            | (go_at_call 11; refine (c4 _).mono ?_; rintro e w4 ⟨rfl, hb4⟩; have HB4 := Lib.hid (HB3.out.trans (hb4.mono HB3.out.size)); have HX := Lib.hid (HX.out.later hb4); clear hb4)
            | (go_at_call 9; refine c1.mono ?_; rintro e w3 ⟨⟨ns, ao, k3, rfl, hX, hk, hn, hm, hl⟩, hb3⟩; have HB3 := Lib.hid hb3; have g3 : ¬ (16 : Int) ≤ (ns.length : Int) := (by have h : ns.map bytesOf = L := hm; rw [← h, List.length_map] at h3; omega); have HX := Lib.hid hX; have HM : Hid (ns.map bytesOf = L) := Lib.hid hm; clear hb3 hX hk hn hm hl))
          go_ret
          exact ⟨by simp, HB7.out⟩
  · have b2 : (e1 != 0) = true := by simpa using h1
    have b3 : (e1 == 0) = false := by simpa using h1
    clear h1 c2 HUp
    go_enter Try.func7, Try.ntmps7
    go_wp2_with (first
      | (have gt := HB4; clear gt; go_at_call 11; refine (c4 _).mono ?_; rintro e w5 ⟨rfl, hb5⟩; have HB5 := Lib.hid (HB4.out.trans (hb5.mono HB4.out.size)); clear hb5)
      | (have gt := HB3; clear gt; go_at_call 11; refine (c4 _).mono ?_; rintro e w4 ⟨rfl, hb4⟩; have HB4 := Lib.hid (HB3.out.trans (hb4.mono HB3.out.size)); clear hb4)
      | (go_at_call 9; refine c1.mono ?_; rintro e w3 ⟨⟨ns, ao, k3, rfl, hX, hk, hn, hm, hl⟩, hb3⟩; have HB3 := Lib.hid hb3; clear hb3 hX hk hn hm hl))
    go_ret
    exact ⟨rfl, HB5.out⟩

/-! ### The law's step -/
set_option maxRecDepth 100000 in
theorem lifted (os : Os) (started : os.Started) (H : Type) (enc : TypeId × Value → H) :
    ReturnsInHanded {} Try.checked os 7 .any (Rows.pathUpSpec.pre6 enc Try.prog Try.f7 Rows.pathUpRow.domain false) (Rows.pathUpSpec.post enc Try.prog Try.f7 false true false false) := by
  refine returnsInHanded_of_change_sized (C := Try.checked) own started (by kernel_rfl) Try.func7
    (ChangeSpec.witness6 (enc := enc) (C := Try.checked) false ⟨#[], #[.string ByteArray.empty, .string ByteArray.empty], []⟩ 8 (by kernel_rfl) (by kernel_rfl) (by kernel_rfl) (by kernel_rfl)) ?_
  intro W base args ds gs before hval0 hW hcnd hsz0 _
  have hsz : (DataW.weightsEach Try.prog (Try.f7.params.toList ++ Rows.pathUpSpec.plain.varTypes Try.prog) (ds ++ gs)).all (· ≤ reachBytes) = true := hsz0
  clear hsz0
  have hval : ∀ (j : Nat) t v, Try.f7.params[j]? = some t → args[j]? = some v → Value.okWide Try.prog W .any base t v := hval0
  have hW' := hW
  obtain ⟨p, q, hA0, hV, rfl, hfz, hnd⟩ := hW
  have hA : DataW.TrodAll enc Try.prog W 0 (fun _ => true) true Try.f7.params.toList args.toList ds p := hA0
  rw [Try.params7] at hA hval hsz
  obtain ⟨v0, vs0, d0, ds0, p0, q0, hargs, rfl, rfl, h0, r0⟩ := trodAll_cons hA
  obtain ⟨v1, vs1, d1, ds1, p1, q1, rfl, rfl, rfl, h1, r1⟩ := trodAll_cons r0
  obtain ⟨rfl, rfl, rfl⟩ := trodAll_nil r1
  obtain rfl : args = #[v0, v1] := by cases args; simp_all
  obtain ⟨rfl, rfl⟩ := trodVars_none hV
  have k0 := h0
  have lt0 : ∀ x ∈ p0, x.block < W.heap.size := by obtain ⟨m, hm⟩ := k0; exact DataW.trod_lt m _ _ _ hm
  obtain ⟨s0, rfl, w0⟩ := open_text (hval 0 9 v0 rfl rfl) h0 (weights_ofS hsz (j := 0) rfl rfl)
  have k1 := h1
  have lt1 : ∀ x ∈ p1, x.block < W.heap.size := by obtain ⟨m, hm⟩ := k1; exact DataW.trod_lt m _ _ _ hm
  obtain ⟨s1, rfl, w1⟩ := open_text (hval 1 9 v1 rfl rfl) h1 (weights_ofS hsz (j := 1) rfl rfl)
  clear hA0 hval0
  refine (walk s0 s1 W w0 w1).mono fun e W' ⟨he, bel⟩ => ?_
  subst he
  exact ⟨_, rfl, _, _, _, [], _, [], hW', trodAll_mk1 (shut_bool Try.underlying4 _), (trodAll_cons_mk (Below.trod laidOut (by kernel_rfl) (of_decide_eq_true (by kernel_rfl)) k0 bel lt0) (trodAll_cons_mk (Below.trod laidOut (by kernel_rfl) (of_decide_eq_true (by kernel_rfl)) k1 bel lt1) trodAll_mk0)), rfl, bel.frame _, fun h => by cases h⟩

theorem over : Rows.pathUpRow.holds Try.pinned (OpenSpec.ofChange Rows.pathUpSpec) :=
  OpenClaim.holds_of_wide 7 Try.f7 rfl rfl rfl rfl rfl rfl rfl ⟨rfl, rfl, rfl, rfl, rfl⟩ rfl rfl rfl rfl rfl (by kernel_rfl) Try.func7 (by kernel_rfl)
    (of_decide_eq_true (by kernel_rfl)) (by unfold Func.isWrapper; first | (rw [if_pos (by decide +kernel)]; kernel_rfl) | (rw [if_neg (by decide +kernel)]; exact ⟨rfl, rfl⟩))
    (fun os started H enc _ => lifted os started H enc)

/-- The statement. -/
theorem proved : Rows.PathUpSaid := over
end Go.Proofs.Ytjhdhglbgbpckaa.pathUp
