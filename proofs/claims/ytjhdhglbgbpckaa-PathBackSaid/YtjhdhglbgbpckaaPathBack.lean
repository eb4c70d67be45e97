/-
  Proved here: names that were joined are split again; a path's names joined are a path with these names, and no longer than the path and one byte. No conditions.
-/
import Derived.Test.YtjhdhglbgbpckaaAwake14
import Derived.Test.YtjhdhglbgbpckaaStrsIn
import Derived.WalkKit
namespace Go.Proofs.Ytjhdhglbgbpckaa.pathBack
open Go.ChangeShapes Go.WideShapes Go.ChangeAt Go.RowKit
open Go.ChangeMaps (open_string shut_string)
set_option linter.unusedVariables false
set_option linter.unusedSimpArgs false

theorem join_facts {N : List (List Int)} (h : (joinW N).1 = 0) : splitW (joinW N).2 = (0, N) ∧ (joinW N).2.length ≤ 289 := by
  unfold joinW at h
  by_cases h1 : 16 < N.length
  · rw [if_pos h1] at h; exact absurd h (by decide)
  · rw [if_neg h1] at h
    by_cases h2 : N.all nmL = true
    · refine ⟨split_join h2 (by omega), ?_⟩
      have h3 := size_le N h2
      unfold joinW
      rw [if_neg h1, if_pos h2]
      show (if N = [] then [47] else joinN N).length ≤ 289
      by_cases h0 : N = []
      · rw [if_pos h0]; decide
      · rw [if_neg h0, join_length]; omega
    · rw [if_neg h2] at h; exact absurd h (by decide)
theorem path_small {s : List Int} {L : List (List Int)} (h : splitW s = (0, L)) : ∀ t ∈ L, t.length ≤ 17 := fun t ht => (nm_facts (List.all_eq_true.1 (split_facts h).1 t ht)).2.2.1
theorem path_facts {s : List Int} {L : List (List Int)} (h : splitW s = (0, L)) : (joinW L).1 = 0 ∧ (joinW L).2.length ≤ s.length + 1 := by
  obtain ⟨h1, h2, h3, h4, r, rfl, h5⟩ := split_facts h
  unfold joinW
  rw [if_neg (by omega), if_pos h1]
  refine ⟨rfl, ?_⟩
  show (if L = [] then [47] else joinN L).length ≤ _
  by_cases h0 : L = []
  · rw [if_pos h0]; simp
  · rw [if_neg h0, join_length]; omega
theorem split_of {p : ByteArray} {N : List (List Int)} (hp : bytesOf p = (joinW N).2) (h : (joinW N).1 = 0) (W : World) : Calls Try.prog 9 #[.string p] W fun e w' => SplitS (0, N) e w' ∧ Below W.heap.size W w' := by
  have f := join_facts h
  have c := Split_s p W (by rw [← bytesOf_length, hp]; omega)
  rw [hp, f.1] at c
  exact c
theorem small_names {ls : List ByteArray} {L : List (List Int)} (h : ls.map bytesOf = L) (hs : ∀ t ∈ L, t.length ≤ 17) : ∀ s ∈ ls, s.size ≤ 140737488351232 := by
  intro s hm
  have := hs (bytesOf s) (by rw [← h]; exact List.mem_map.2 ⟨s, hm, rfl⟩)
  rw [bytesOf_length] at this
  omega
set_option maxRecDepth 100000 in
set_option maxHeartbeats 6400000 in
theorem walk (a0 : Option Addr) (len0 cap0 : Nat) (n0 : List ByteArray) (s1 : ByteArray) (w : World) (w0 : SArg w a0 len0 cap0 n0) (w1 : s1.size ≤ 140737488351232) :
    Calls Try.prog 6 #[.slice a0 len0 cap0, .string s1] w fun e w' => e = .returned (.bool true) ∧ Below w.heap.size w w' := by
  have c1 := Join_any (cap := cap0) w w0.1 w0.2.1 w0.2.2.2.1
  have HX0 := Lib.hid w0
  have c2 := fun p (hp : bytesOf p = (joinW (n0.map bytesOf)).2) (h : (joinW (n0.map bytesOf)).1 = 0) W => split_of hp h W
  have c4 := fun W => Split_s s1 W w1
  have c8 := fun W => awake14 W
  have HPS := Lib.hid (fun L h => path_small (s := bytesOf s1) (L := L) h)
  have HPF := Lib.hid (fun L h => path_facts (s := bytesOf s1) (L := L) h)
  generalize hN : n0.map bytesOf = N at *
  have HN := Lib.hid hN
  clear hN
  generalize splitW (bytesOf s1) = A at *
  obtain ⟨e4, L⟩ := A
  have HP : Hid (e4 = 0 → (joinW L).1 = 0 ∧ (joinW L).2.length ≤ s1.size + 1) := Lib.hid (fun h => by rw [← bytesOf_length]; exact HPF.out L (by rw [h]))
  have HS0 : Hid (e4 = 0 → ∀ t ∈ L, t.length ≤ 17) := Lib.hid (fun h => HPS.out L (by rw [h]))
  clear HPF HPS w0
  have i1 : (s1.size : Int) ≤ 140737488351232 := by omega
  obtain ⟨J, hJ⟩ : ∃ J, joinW N = J := ⟨_, rfl⟩
  rw [hJ] at c1
  have HJ := Lib.hid hJ
  clear hJ
  obtain ⟨e1, P⟩ := J
  by_cases h1 : e1 = 0
  · subst h1
    have c2' : ∀ p, bytesOf p = P → ∀ W, Calls Try.prog 9 #[.string p] W fun e w' => SplitS (0, N) e w' ∧ Below W.heap.size W w' := fun p hp W => c2 p (by rw [HJ.out]; exact hp) (by rw [HJ.out]) W
    clear c2
    by_cases h4 : e4 = 0
    · subst h4
      have f := HP.out rfl
      have HF := Lib.hid f
      have HS := Lib.hid (HS0.out rfl)
      clear f HP HS0
      go_enter Try.func6, Try.ntmps6
      go_wp2_with (first
        | (have gt := HB7; clear gt; go_at_call 12; refine (RSame_any (xs := ls) (ys := ls) _ HY.out HZ.out).mono ?_; rintro e w8 ⟨rfl, hb8⟩; have HB8 := Lib.hid (HB7.out.trans (hb8.mono HB7.out.size)); clear hb8)
        | (go_at_call 11; refine (c8 _).mono ?_; rintro e w7 ⟨rfl, hb7⟩; have HB7 := Lib.hid (HB6.out.trans (hb7.mono HB6.out.size)); have HY := Lib.hid (HY.out.later hb7); have HZ := Lib.hid (HZ.out.later hb7); clear hb7)
        | (have gt := HB5; clear gt; go_at_call 9; refine (split_of HQ5.out HF.out.1 _).mono ?_; rintro e w6 ⟨⟨ms, bo, k6, rfl, hX, hk, hn, hm, hl⟩, hb6⟩; have HB6 := Lib.hid (HB5.out.trans (hb6.mono HB5.out.size)); have HY := Lib.hid (HY.out.later hb6); obtain rfl := map_inj (HM4.out.trans (show L = ms.map bytesOf from hm.symm)); have HZ := Lib.hid hX; clear hb6 hX hk hn hm hl)
        | (have gt := HB4; clear gt; go_at_call 13; refine c5.mono ?_; rintro e w5 ⟨⟨q, rfl, hq⟩, hb5⟩; have HB5 := Lib.hid (HB4.out.trans (hb5.mono HB4.out.size)); have HY := Lib.hid (HY.out.later hb5); have HQ5 := Lib.hid hq; have lq : (q.size : Int) ≤ (s1.size : Int) + 1 := (by have := HF.out.2; rw [← HQ5.out, bytesOf_length] at this; omega); clear hb5 hq)
        | (have gt := HB3; clear gt; go_at_call 9; refine (c4 _).mono ?_; rintro e w4 ⟨⟨ls, ao, k4, rfl, hX, hk, hn, hm, hl⟩, hb4⟩; have HB4 := Lib.hid (HB3.out.trans (hb4.mono HB3.out.size)); have HM4 : Hid (ls.map bytesOf = L) := Lib.hid hm; have HY := Lib.hid hX; have c5 := Join_any (cap := k4) w4 hX (small_names HM4.out HS.out) hk; rw [HM4.out, HF.out.1] at c5; clear hb4 hX hk hn hm hl)
        | (have gt := HB2; clear gt; go_at_call 12; refine (RSame_any (xs := n0) (ys := n0) _ HX.out (HX0.out.1.later HB2.out)).mono ?_; rintro e w3 ⟨rfl, hb3⟩; have HB3 := Lib.hid (HB2.out.trans (hb3.mono HB2.out.size)); clear hb3)
        | (have gt := HB1; clear gt; go_at_call 9; refine (c2' _ HQ.out _).mono ?_; rintro e w2 ⟨⟨ns, ao, k2, rfl, hX, hk, hn, hm, hl⟩, hb2⟩; have HB2 := Lib.hid (HB1.out.trans (hb2.mono HB1.out.size)); obtain rfl := map_inj (HN.out.trans (show N = ns.map bytesOf from hm.symm)); have HX := Lib.hid hX; clear hb2 hX hk hn hm hl)
        | (go_at_call 13; refine c1.mono ?_; rintro e w1 ⟨⟨p, rfl, hq⟩, hb1⟩; have HB1 := Lib.hid hb1; have HQ := Lib.hid hq; clear hb1 hq))
      go_ret
      exact ⟨by simp, HB8.out⟩
    · have b2 : (e4 != 0) = true := by simpa using h4
      have b3 : (e4 == 0) = false := by simpa using h4
      clear h4 HP HS0
      go_enter Try.func6, Try.ntmps6
      go_wp2_with (first
        | (go_at_call 11; refine (c8 _).mono ?_; rintro e w8 ⟨rfl, hb8⟩; have HB8 := Lib.hid (HB4.out.trans (hb8.mono HB4.out.size)); clear hb8)
        | (have gt := HB3; clear gt; go_at_call 9; refine (c4 _).mono ?_; rintro e w4 ⟨⟨ls, ao, k4, rfl, hX, hk, hn, hm, hl⟩, hb4⟩; have HB4 := Lib.hid (HB3.out.trans (hb4.mono HB3.out.size)); clear hb4 hX hk hn hm hl)
        | (have gt := HB2; clear gt; go_at_call 12; refine (RSame_any (xs := n0) (ys := n0) _ HX.out (HX0.out.1.later HB2.out)).mono ?_; rintro e w3 ⟨rfl, hb3⟩; have HB3 := Lib.hid (HB2.out.trans (hb3.mono HB2.out.size)); clear hb3)
        | (have gt := HB1; clear gt; go_at_call 9; refine (c2' _ HQ.out _).mono ?_; rintro e w2 ⟨⟨ns, ao, k2, rfl, hX, hk, hn, hm, hl⟩, hb2⟩; have HB2 := Lib.hid (HB1.out.trans (hb2.mono HB1.out.size)); obtain rfl := map_inj (HN.out.trans (show N = ns.map bytesOf from hm.symm)); have HX := Lib.hid hX; clear hb2 hX hk hn hm hl)
        | (go_at_call 13; refine c1.mono ?_; rintro e w1 ⟨⟨p, rfl, hq⟩, hb1⟩; have HB1 := Lib.hid hb1; have HQ := Lib.hid hq; clear hb1 hq))
      go_ret
      exact ⟨rfl, HB8.out⟩
  · have b5 : (e1 == 0) = false := by simpa using h1
    have b6 : (e1 != 0) = true := by simpa using h1
    clear h1 c2
    by_cases h4 : e4 = 0
    · subst h4
      have f := HP.out rfl
      have HF := Lib.hid f
      have HS := Lib.hid (HS0.out rfl)
      clear f HP HS0
      go_enter Try.func6, Try.ntmps6
      go_wp2_with (first
        | (have gt := HB7; clear gt; go_at_call 12; refine (RSame_any (xs := ls) (ys := ls) _ HY.out HZ.out).mono ?_; rintro e w8 ⟨rfl, hb8⟩; have HB8 := Lib.hid (HB7.out.trans (hb8.mono HB7.out.size)); clear hb8)
        | (go_at_call 11; refine (c8 _).mono ?_; rintro e w7 ⟨rfl, hb7⟩; have HB7 := Lib.hid (HB6.out.trans (hb7.mono HB6.out.size)); have HY := Lib.hid (HY.out.later hb7); have HZ := Lib.hid (HZ.out.later hb7); clear hb7)
        | (have gt := HB5; clear gt; go_at_call 9; refine (split_of HQ5.out HF.out.1 _).mono ?_; rintro e w6 ⟨⟨ms, bo, k6, rfl, hX, hk, hn, hm, hl⟩, hb6⟩; have HB6 := Lib.hid (HB5.out.trans (hb6.mono HB5.out.size)); have HY := Lib.hid (HY.out.later hb6); obtain rfl := map_inj (HM4.out.trans (show L = ms.map bytesOf from hm.symm)); have HZ := Lib.hid hX; clear hb6 hX hk hn hm hl)
        | (have gt := HB4; clear gt; go_at_call 13; refine c5.mono ?_; rintro e w5 ⟨⟨q, rfl, hq⟩, hb5⟩; have HB5 := Lib.hid (HB4.out.trans (hb5.mono HB4.out.size)); have HY := Lib.hid (HY.out.later hb5); have HQ5 := Lib.hid hq; have lq : (q.size : Int) ≤ (s1.size : Int) + 1 := (by have := HF.out.2; rw [← HQ5.out, bytesOf_length] at this; omega); clear hb5 hq)
        | (have gt := HB3; clear gt; go_at_call 9; refine (c4 _).mono ?_; rintro e w4 ⟨⟨ls, ao, k4, rfl, hX, hk, hn, hm, hl⟩, hb4⟩; have HB4 := Lib.hid (HB3.out.trans (hb4.mono HB3.out.size)); have HM4 : Hid (ls.map bytesOf = L) := Lib.hid hm; have HY := Lib.hid hX; have c5 := Join_any (cap := k4) w4 hX (small_names HM4.out HS.out) hk; rw [HM4.out, HF.out.1] at c5; clear hb4 hX hk hn hm hl)
        | (go_at_call 13; refine c1.mono ?_; rintro e w3 ⟨⟨p, rfl, hq⟩, hb1⟩; have HB3 := Lib.hid hb1; clear hb1 hq))
      go_ret
      exact ⟨by simp, HB8.out⟩
    · have b2 : (e4 != 0) = true := by simpa using h4
      have b3 : (e4 == 0) = false := by simpa using h4
      clear h4 HP HS0
      go_enter Try.func6, Try.ntmps6
      go_wp2_with (first
        | (go_at_call 11; refine (c8 _).mono ?_; rintro e w8 ⟨rfl, hb8⟩; have HB8 := Lib.hid (HB4.out.trans (hb8.mono HB4.out.size)); clear hb8)
        | (have gt := HB3; clear gt; go_at_call 9; refine (c4 _).mono ?_; rintro e w4 ⟨⟨ls, ao, k4, rfl, hX, hk, hn, hm, hl⟩, hb4⟩; have HB4 := Lib.hid (HB3.out.trans (hb4.mono HB3.out.size)); clear hb4 hX hk hn hm hl)
        | (go_at_call 13; refine c1.mono ?_; rintro e w3 ⟨⟨p, rfl, hq⟩, hb1⟩; have HB3 := Lib.hid hb1; clear hb1 hq))
      go_ret
      exact ⟨rfl, HB8.out⟩

/-! ### The law's step -/
set_option maxRecDepth 100000 in
theorem lifted (os : Os) (started : os.Started) (H : Type) (enc : TypeId × Value → H) :
    ReturnsInHanded {} Try.checked os 6 .any (Rows.pathBackSpec.pre6 enc Try.prog Try.f6 Rows.pathBackRow.domain false) (Rows.pathBackSpec.post enc Try.prog Try.f6 false true false false) := by
  refine returnsInHanded_of_change_sized (C := Try.checked) own started (by kernel_rfl) Try.func6
    (ChangeSpec.witness6 (enc := enc) (C := Try.checked) false ⟨#[], #[.slice none 0 0, .string ByteArray.empty], []⟩ 8 (by kernel_rfl) (by kernel_rfl) (by kernel_rfl) (by kernel_rfl)) ?_
  intro W base args ds gs before hval0 hW hcnd hsz0 _
  have hsz : (DataW.weightsEach Try.prog (Try.f6.params.toList ++ Rows.pathBackSpec.plain.varTypes Try.prog) (ds ++ gs)).all (· ≤ reachBytes) = true := hsz0
  clear hsz0
  have hval : ∀ (j : Nat) t v, Try.f6.params[j]? = some t → args[j]? = some v → Value.okWide Try.prog W .any base t v := hval0
  have hW' := hW
  obtain ⟨p, q, hA0, hV, rfl, hfz, hnd⟩ := hW
  have hA : DataW.TrodAll enc Try.prog W 0 (fun _ => true) true Try.f6.params.toList args.toList ds p := hA0
  rw [Try.params6] at hA hval hsz
  obtain ⟨v0, vs0, d0, ds0, p0, q0, hargs, rfl, rfl, h0, r0⟩ := trodAll_cons hA
  obtain ⟨v1, vs1, d1, ds1, p1, q1, rfl, rfl, rfl, h1, r1⟩ := trodAll_cons r0
  obtain ⟨rfl, rfl, rfl⟩ := trodAll_nil r1
  obtain rfl : args = #[v0, v1] := by cases args; simp_all
  obtain ⟨rfl, rfl⟩ := trodVars_none hV
  have k0 := h0
  have lt0 : ∀ x ∈ p0, x.block < W.heap.size := by obtain ⟨m, hm⟩ := k0; exact DataW.trod_lt m _ _ _ hm
  obtain ⟨a0, len0, cap0, rfl⟩ := okWide_slice Try.underlying22 (hval 0 22 v0 rfl rfl)
  obtain ⟨n0, w0⟩ := open_strs_arg k0 (weights_ofS hsz (j := 0) rfl rfl)
  have k1 := h1
  have lt1 : ∀ x ∈ p1, x.block < W.heap.size := by obtain ⟨m, hm⟩ := k1; exact DataW.trod_lt m _ _ _ hm
  obtain ⟨s1, rfl, w1⟩ := open_text (hval 1 9 v1 rfl rfl) h1 (weights_ofS hsz (j := 1) rfl rfl)
  clear hA0 hval0
  refine (walk a0 len0 cap0 n0 s1 W w0 w1).mono fun e W' ⟨he, bel⟩ => ?_
  subst he
  exact ⟨_, rfl, _, _, _, [], _, [], hW', trodAll_mk1 (shut_bool Try.underlying4 _), (trodAll_cons_mk (Below.trod laidOut (by kernel_rfl) (of_decide_eq_true (by kernel_rfl)) k0 bel lt0) (trodAll_cons_mk (Below.trod laidOut (by kernel_rfl) (of_decide_eq_true (by kernel_rfl)) k1 bel lt1) trodAll_mk0)), rfl, bel.frame _, fun h => by cases h⟩

theorem over : Rows.pathBackRow.holds Try.pinned (OpenSpec.ofChange Rows.pathBackSpec) :=
  OpenClaim.holds_of_wide 6 Try.f6 rfl rfl rfl rfl rfl rfl rfl ⟨rfl, rfl, rfl, rfl, rfl⟩ rfl rfl rfl rfl rfl (by kernel_rfl) Try.func6 (by kernel_rfl)
    (of_decide_eq_true (by kernel_rfl)) (by unfold Func.isWrapper; first | (rw [if_pos (by decide +kernel)]; kernel_rfl) | (rw [if_neg (by decide +kernel)]; exact ⟨rfl, rfl⟩))
    (fun os started H enc _ => lifted os started H enc)

/-- The statement. -/
theorem proved : Rows.PathBackSaid := over
end Go.Proofs.Ytjhdhglbgbpckaa.pathBack
