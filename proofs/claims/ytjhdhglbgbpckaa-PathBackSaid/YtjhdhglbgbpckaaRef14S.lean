/-
  Proved here: what the document's own Split (drydockref14) answers.
  The conditions stand at each theorem.
-/
import Derived.Test.YtjhdhglbgbpckaaRef14P
namespace Go.Proofs.Ytjhdhglbgbpckaa
open Go.RowKit
set_option linter.unusedVariables false
set_option linter.unusedSimpArgs false

theorem owns_nil_s (w : World) (base : Nat) (e : TypeId) (sz : Nat) : w.ownsRow base e sz (.slice none 0 0) 0 [] := ⟨by simp, Or.inl ⟨rfl, rfl⟩⟩
theorem owns_shape_s {w : World} {base n sz : Nat} {e : TypeId} {v : Value} {xs : List Value} (h : w.ownsRow base e sz v n xs) : ∃ ao cap, v = .slice ao n cap := by
  rcases h.2 with ⟨h, h0⟩ | ⟨g, cap, cur, h, _⟩
  · exact ⟨none, 0, by rw [h, h0]⟩
  · exact ⟨_, cap, h⟩
theorem owns_cap {w : World} {base n sz cap : Nat} {e : TypeId} {ao : Option Addr} {xs : List Value} (h : w.ownsRow base e sz (.slice ao n cap) n xs) : n ≤ cap := by
  rcases h.2 with ⟨h, h0⟩ | ⟨g, cap', cur, hv, hb, hg, hc, _⟩
  · omega
  · simp only [Value.slice.injEq, true_and] at hv
    obtain ⟨_, rfl⟩ := hv
    exact hc
theorem owns_some {w : World} {base n sz cap : Nat} {e : TypeId} {ao : Option Addr} {xs : List Value} (h : w.ownsRow base e sz (.slice ao n cap) n xs) (hn : 0 < n) : ∃ g, ao = some ⟨g, 0, none⟩ := by
  rcases h.2 with ⟨_, h0⟩ | ⟨g, cap', cur, hv, _⟩
  · omega
  · simp only [Value.slice.injEq, true_and] at hv
    exact ⟨g, hv.1⟩
theorem owns_drop {w : World} {base q cap : Nat} {e : TypeId} {ao : Option Addr} {ns : List ByteArray} (h : w.ownsRow base e 1 (.slice ao ns.length cap) ns.length (strs ns)) (hq : ns.length = q + 1) : w.ownsRow base e 1 (.slice ao q cap) ns.dropLast.length (strs ns.dropLast) := by
  have hl : ns.dropLast.length = q := by rw [List.length_dropLast, hq]; rfl
  rw [hl]
  obtain ⟨h1, h⟩ := h
  refine ⟨by rw [strs_length, hl, Nat.mul_one], ?_⟩
  rcases h with ⟨_, h0⟩ | ⟨g, cap', cur, hv, hb, hg, hc, hm, hs, ht⟩
  · omega
  · simp only [Value.slice.injEq, true_and] at hv
    obtain ⟨rfl, rfl⟩ := hv
    refine Or.inr ⟨g, cap, cur, rfl, hb, hg, by omega, hm, hs, ?_⟩
    rw [List.dropLast_eq_take, strs_take, ← ht, List.take_take, hq, Nat.mul_one, Nat.mul_one]
    congr 1
    omega

/-- A list of texts that a call hands back: of these bytes. -/
def OutS (w : World) (base : Nat) (v : Value) (l : List (List Int)) : Prop := ∃ ns : List ByteArray, w.ownsRow base 9 1 v ns.length (strs ns) ∧ ns.map bytesOf = l
theorem outS_nil (w : World) (base : Nat) : OutS w base (.slice none 0 0) [] := ⟨[], owns_nil_s _ _ _ _, rfl⟩

set_option maxRecDepth 100000 in
set_option maxHeartbeats 12800000 in
theorem RSplit_any (s : ByteArray) (w : World) (hs : s.size ≤ 140737488351232) :
    Calls Try.prog 10 #[.string s] w fun e w' => ∃ v, e = .returned (.tuple #[v, .int .i64 (splitW (bytesOf s)).1]) ∧ OutS w' w.heap.size v (splitW (bytesOf s)).2 ∧ Below w.heap.size w w' := by
  obtain ⟨J, hJ⟩ : ∃ J, splitW (bytesOf s) = J := ⟨_, rfl⟩
  rw [hJ]
  have HJ := Lib.hid hJ
  clear hJ
  by_cases h1024 : 1024 < s.size
  · have HE : Hid (J = (11, [])) := Lib.hid (by rw [← HJ.out]; unfold splitW; rw [bytesOf_length, if_pos h1024])
    have i1 : (1024 : Int) < (s.size : Int) := by omega
    go_enter Try.func10, Try.ntmps10
    go_wp2_with fail
    go_ret2
    exact ⟨_, by rw [HE.out]; rfl, by rw [HE.out]; exact outS_nil _ _, Below.refl _ _⟩
  · have i1 : ¬ (1024 : Int) < (s.size : Int) := by omega
    have i1b : (s.size : Int) ≤ 1024 := by omega
    by_cases h0 : s.size = 0
    · have HE : Hid (J = (2, [])) := Lib.hid (by
        rw [← HJ.out]
        unfold splitW
        rw [bytesOf_length, if_neg h1024]
        have : bytesOf s = [] := List.length_eq_zero_iff.1 (by rw [bytesOf_length, h0])
        rw [this])
      have i2 : (s.size : Int) = 0 := by omega
      go_enter Try.func10, Try.ntmps10
      go_wp2_with fail
      go_ret2
      exact ⟨_, by rw [HE.out]; rfl, by rw [HE.out]; exact outS_nil _ _, Below.refl _ _⟩
    · have hpos : 0 < s.size := by omega
      have i2 : ((s.size : Int) == 0) = false := by rw [beq_eq_false_iff_ne]; omega
      have i3 : (0 : Int) < (s.size : Int) := by omega
      have hd := drop_byte hpos
      rw [List.drop_zero] at hd
      by_cases h47 : (s[0].toNat : Int) = 47
      · have HS0 : Hid (Splitting s 1 ByteArray.empty []) := Lib.hid ⟨fun _ => by
          unfold splitW
          rw [bytesOf_length, if_neg h1024, hd, h47]
          show (if (47 : Int) = 47 then foldP [] (partsW ((bytesOf s).drop 1)) else _) = _
          rw [if_pos rfl]
          exact (cont_begin _ _).symm, fun e => by omega⟩
        have b0 : ((s[0].toNat : Int) != 47) = false := by simpa using h47
        have b1 : ((s[0].toNat : Int) == 47) = true := by simpa using h47
        have HO0 : Hid ((w.alloc (.cells #[] 9)).ownsRow w.heap.size 9 1 (.slice (some ⟨w.heap.size, 0, none⟩) 0 0) 0 (strs [])) := Lib.hid (World.ownsRow_made (base := w.heap.size) (e := 9) (size := 1) w #[] 0 (Nat.le_refl _) (by decide) rfl)
        clear hd h47
        go_enter Try.func10, Try.ntmps10
        go_wp2_with fail
        go_loopw [4, 5, 6] (fun lv pv iv wr => ∃ (i : Nat) (part : ByteArray) (ns : List ByteArray), iv = .int .i64 (i : Int) ∧ pv = .string part ∧ (1 ≤ i ∧ i ≤ s.size + 1) ∧ part.size ≤ i ∧ ns.length ≤ 16 ∧ Hid (Splitting s i part ns) ∧ Hid (wr.ownsRow w.heap.size 9 1 lv ns.length (strs ns)) ∧ Hid (Below w.heap.size w wr)) (fun _ _ iv _ => s.size + 1 - (intOf iv).toNat)
        case atStart => exact ⟨1, ByteArray.empty, [], rfl, rfl, by omega, Nat.zero_le _, by decide, HS0, HO0, Lib.hid ((Below.refl _ _).alloc (Nat.le_refl _) _)⟩
        case round =>
          clear b0 b1
          obtain ⟨i, part, ns, rfl, rfl, hi, hpt, hns, HS, HO, HB⟩ := hrel
          obtain ⟨ao, cap, rfl⟩ := owns_shape_s HO.out
          by_cases hend : i ≤ s.size
          · have e1 : (i : Int) ≤ (s.size : Int) := by omega
            by_cases hlt : i < s.size
            · have e2 : (i : Int) < (s.size : Int) := by omega
              have e3 : (i : Int) + 1 ≤ (s.size : Int) := by omega
              by_cases hc : (s[i].toNat : Int) = 47
              · obtain ⟨Q, hQ⟩ := HS.out.stroke hlt hc
                have HQ := Lib.hid hQ
                have b2 : ((s[i].toNat : Int) != 47) = false := by simpa using hc
                have b3 : ((s[i].toNat : Int) == 47) = true := by simpa using hc
                clear hQ hc
                have t0 := str_is part ByteArray.empty
                have t1 := str_is part dot1
                have t2 := str_is part dot2
                rw [show ByteArray.empty.toList = [] from by rw [Go.ByteArray.toList_eq]; rfl] at t0
                rw [show dot1.toList = [46] from by rw [Go.ByteArray.toList_eq]; rfl] at t1
                rw [show dot2.toList = [46, 46] from by rw [Go.ByteArray.toList_eq]; rfl] at t2
                by_cases h0 : part = ByteArray.empty
                · have HN := Lib.hid (HQ.out.on hend (end_none (Or.inl h0)))
                  rw [decide_eq_true h0] at t0
                  clear h0 t1 t2
                  go_wp2_with fail
                  go_roundw
                  case rel => exact ⟨i + 1, ByteArray.empty, ns, by go_num, rfl, by omega, Nat.zero_le _, hns, HN, HO, HB⟩
                  case measure => simp [intOf] <;> omega
                · rw [decide_eq_false h0] at t0
                  by_cases h1 : part = dot1
                  · have HN := Lib.hid (HQ.out.on hend (end_none (Or.inr h1)))
                    rw [decide_eq_true h1] at t1
                    clear h0 h1 t2
                    go_wp2_with fail
                    go_roundw
                    case rel => exact ⟨i + 1, ByteArray.empty, ns, by go_num, rfl, by omega, Nat.zero_le _, hns, HN, HO, HB⟩
                    case measure => simp [intOf] <;> omega
                  · rw [decide_eq_false h1] at t1
                    by_cases h2 : part = dot2
                    · have HN := Lib.hid (HQ.out.on hend (by rw [h2]; exact end_up))
                      rw [decide_eq_true h2] at t2
                      clear h0 h1 h2
                      by_cases hn0 : ns.length = 0
                      · have hd : ns.dropLast = ns := by rw [List.length_eq_zero_iff.1 hn0]; rfl
                        rw [hd] at HN
                        clear hd
                        go_wp2_with fail
                        go_roundw
                        case rel => exact ⟨i + 1, ByteArray.empty, ns, by go_num, rfl, by omega, Nat.zero_le _, hns, HN, HO, HB⟩
                        case measure => simp [intOf] <;> omega
                      · obtain ⟨q, hq⟩ : ∃ q, ns.length = q + 1 := ⟨ns.length - 1, by omega⟩
                        have HO2 := Lib.hid (owns_drop HO.out hq)
                        have HQ2 := Lib.hid hq
                        have q1 : (0 : Int) < (ns.length : Int) := by omega
                        have q2 : (ns.length : Int) - 1 = (q : Int) := by omega
                        have q3 : (q : Int) ≤ (cap : Int) := by have := HO.out.2; have := owns_cap HO.out; omega
                        have q4 : (0 : Int) ≤ (q : Int) := by omega
                        obtain ⟨g, rfl⟩ := owns_some HO.out (by omega)
                        clear hq
                        go_wp2_with fail
                        go_roundw
                        case rel => exact ⟨i + 1, ByteArray.empty, ns.dropLast, by go_num, rfl, by omega, Nat.zero_le _, by rw [List.length_dropLast]; omega, HN, HO2, HB⟩
                        case measure => simp [intOf] <;> omega
                    · rw [decide_eq_false h2] at t2
                      have c := fun W => rNamed_any part W (by omega)
                      obtain ⟨N, hN⟩ : ∃ N, named part = N := ⟨_, rfl⟩
                      rw [hN] at c
                      cases N with
                      | false =>
                        have HE : Hid (J = (9, [])) := Lib.hid (by rw [← HJ.out, HQ.out.1, end_bad h0 h1 h2 hN])
                        clear h0 h1 h2 hN
                        go_wp2_with (go_at_call 20; refine (c _).mono ?_; rintro e w2 ⟨rfl, rfl⟩)
                        go_ret2
                        exact ⟨_, by rw [HE.out]; rfl, by rw [HE.out]; exact outS_nil _ _, HB.out⟩
                      | true =>
                        by_cases h16 : ns.length = 16
                        · have HE : Hid (J = (11, [])) := Lib.hid (by rw [← HJ.out, HQ.out.1, end_full h0 h1 h2 hN h16])
                          have h16i : (ns.length : Int) = 16 := by omega
                          clear h0 h1 h2 hN
                          go_wp2_with (go_at_call 20; refine (c _).mono ?_; rintro e w2 ⟨rfl, rfl⟩)
                          go_ret2
                          exact ⟨_, by rw [HE.out]; rfl, by rw [HE.out]; exact outS_nil _ _, HB.out⟩
                        · have HN := Lib.hid (HQ.out.on hend (end_name hN h16))
                          have h16i : ((ns.length : Int) == 16) = false := by simp; omega
                          have HZ : Hid (w.heap.size ≤ wr.heap.size) := Lib.hid HB.out.size
                          clear h0 h1 h2 hN
                          go_wp2_with (first | (at_builtin; refine wp_append_one elemS rfl (.tmp 42) (.tmp 44) rfl w.heap.size ns.length _ _ rfl (HO.out.alloc _) ⟨wr.heap.size, 0, none⟩ 1 _ rfl (one_cell_new _ _ _) rfl rfl (by omega) (by rw [World.size_alloc]; exact Nat.le_succ_of_le HZ.out) ?_; intro v5 w5 hown5 hb5; have HO5 := Lib.hid hown5; have HB5 := Lib.hid ((HB.out.alloc HZ.out _).trans hb5); clear hown5 hb5) | (go_at_call 20; refine (c _).mono ?_; rintro e w2 ⟨rfl, rfl⟩))
                          go_roundw
                          case rel => exact ⟨i + 1, ByteArray.empty, ns ++ [part], by go_num, rfl, by omega, Nat.zero_le _, by rw [List.length_append, List.length_cons, List.length_nil]; omega, HN, Lib.hid (by rw [List.length_append, strs_append]; exact HO5.out), HB5⟩
                          case measure => simp [intOf] <;> omega
              · have HN := Lib.hid (HS.out.char hlt hc)
                have b2 : ((s[i].toNat : Int) != 47) = true := by simpa using hc
                have b3 : ((s[i].toNat : Int) == 47) = false := by simpa using hc
                have hz : (part ++ s.extract i (i + 1)).size ≤ i + 1 := by
                  rw [ByteArray.size_append, ByteArray.size_extract]
                  omega
                clear hc
                go_wp2_with fail
                go_roundw
                case rel => exact ⟨i + 1, _, ns, by go_num, rfl, by omega, hz, hns, HN, HO, HB⟩
                case measure => simp [intOf] <;> omega
            · obtain rfl : i = s.size := by omega
              obtain ⟨Q, hQ⟩ := HS.out.last
              have HQ := Lib.hid hQ
              have e2 : ¬ (s.size : Int) < (s.size : Int) := by omega
              clear hQ
              have t0 := str_is part ByteArray.empty
              have t1 := str_is part dot1
              have t2 := str_is part dot2
              rw [show ByteArray.empty.toList = [] from by rw [Go.ByteArray.toList_eq]; rfl] at t0
              rw [show dot1.toList = [46] from by rw [Go.ByteArray.toList_eq]; rfl] at t1
              rw [show dot2.toList = [46, 46] from by rw [Go.ByteArray.toList_eq]; rfl] at t2
              by_cases h0 : part = ByteArray.empty
              · have HN := Lib.hid (HQ.out.on (Nat.le_refl _) (end_none (Or.inl h0)))
                rw [decide_eq_true h0] at t0
                clear h0 t1 t2
                go_wp2_with fail
                go_roundw
                case rel => exact ⟨s.size + 1, ByteArray.empty, ns, by go_num, rfl, by omega, Nat.zero_le _, hns, HN, HO, HB⟩
                case measure => simp [intOf] <;> omega
              · rw [decide_eq_false h0] at t0
                by_cases h1 : part = dot1
                · have HN := Lib.hid (HQ.out.on (Nat.le_refl _) (end_none (Or.inr h1)))
                  rw [decide_eq_true h1] at t1
                  clear h0 h1 t2
                  go_wp2_with fail
                  go_roundw
                  case rel => exact ⟨s.size + 1, ByteArray.empty, ns, by go_num, rfl, by omega, Nat.zero_le _, hns, HN, HO, HB⟩
                  case measure => simp [intOf] <;> omega
                · rw [decide_eq_false h1] at t1
                  by_cases h2 : part = dot2
                  · have HN := Lib.hid (HQ.out.on (Nat.le_refl _) (by rw [h2]; exact end_up))
                    rw [decide_eq_true h2] at t2
                    clear h0 h1 h2
                    by_cases hn0 : ns.length = 0
                    · have hd : ns.dropLast = ns := by rw [List.length_eq_zero_iff.1 hn0]; rfl
                      rw [hd] at HN
                      clear hd
                      go_wp2_with fail
                      go_roundw
                      case rel => exact ⟨s.size + 1, ByteArray.empty, ns, by go_num, rfl, by omega, Nat.zero_le _, hns, HN, HO, HB⟩
                      case measure => simp [intOf] <;> omega
                    · obtain ⟨q, hq⟩ : ∃ q, ns.length = q + 1 := ⟨ns.length - 1, by omega⟩
                      have HO2 := Lib.hid (owns_drop HO.out hq)
                      have HQ2 := Lib.hid hq
                      have q1 : (0 : Int) < (ns.length : Int) := by omega
                      have q2 : (ns.length : Int) - 1 = (q : Int) := by omega
                      have q3 : (q : Int) ≤ (cap : Int) := by have := HO.out.2; have := owns_cap HO.out; omega
                      have q4 : (0 : Int) ≤ (q : Int) := by omega
                      obtain ⟨g, rfl⟩ := owns_some HO.out (by omega)
                      clear hq
                      go_wp2_with fail
                      go_roundw
                      case rel => exact ⟨s.size + 1, ByteArray.empty, ns.dropLast, by go_num, rfl, by omega, Nat.zero_le _, by rw [List.length_dropLast]; omega, HN, HO2, HB⟩
                      case measure => simp [intOf] <;> omega
                  · rw [decide_eq_false h2] at t2
                    have c := fun W => rNamed_any part W (by omega)
                    obtain ⟨N, hN⟩ : ∃ N, named part = N := ⟨_, rfl⟩
                    rw [hN] at c
                    cases N with
                    | false =>
                      have HE : Hid (J = (9, [])) := Lib.hid (by rw [← HJ.out, HQ.out.1, end_bad h0 h1 h2 hN])
                      clear h0 h1 h2 hN
                      go_wp2_with (go_at_call 20; refine (c _).mono ?_; rintro e w2 ⟨rfl, rfl⟩)
                      go_ret2
                      exact ⟨_, by rw [HE.out]; rfl, by rw [HE.out]; exact outS_nil _ _, HB.out⟩
                    | true =>
                      by_cases h16 : ns.length = 16
                      · have HE : Hid (J = (11, [])) := Lib.hid (by rw [← HJ.out, HQ.out.1, end_full h0 h1 h2 hN h16])
                        have h16i : (ns.length : Int) = 16 := by omega
                        clear h0 h1 h2 hN
                        go_wp2_with (go_at_call 20; refine (c _).mono ?_; rintro e w2 ⟨rfl, rfl⟩)
                        go_ret2
                        exact ⟨_, by rw [HE.out]; rfl, by rw [HE.out]; exact outS_nil _ _, HB.out⟩
                      · have HN := Lib.hid (HQ.out.on (Nat.le_refl _) (end_name hN h16))
                        have h16i : ((ns.length : Int) == 16) = false := by simp; omega
                        have HZ : Hid (w.heap.size ≤ wr.heap.size) := Lib.hid HB.out.size
                        clear h0 h1 h2 hN
                        go_wp2_with (first | (at_builtin; refine wp_append_one elemS rfl (.tmp 42) (.tmp 44) rfl w.heap.size ns.length _ _ rfl (HO.out.alloc _) ⟨wr.heap.size, 0, none⟩ 1 _ rfl (one_cell_new _ _ _) rfl rfl (by omega) (by rw [World.size_alloc]; exact Nat.le_succ_of_le HZ.out) ?_; intro v5 w5 hown5 hb5; have HO5 := Lib.hid hown5; have HB5 := Lib.hid ((HB.out.alloc HZ.out _).trans hb5); clear hown5 hb5) | (go_at_call 20; refine (c _).mono ?_; rintro e w2 ⟨rfl, rfl⟩))
                        go_roundw
                        case rel => exact ⟨s.size + 1, ByteArray.empty, ns ++ [part], by go_num, rfl, by omega, Nat.zero_le _, by rw [List.length_append, List.length_cons, List.length_nil]; omega, HN, Lib.hid (by rw [List.length_append, strs_append]; exact HO5.out), HB5⟩
                        case measure => simp [intOf] <;> omega
          · have hx : i = s.size + 1 := by omega
            subst hx
            have HE := Lib.hid (HS.out.2 rfl)
            have e1 : ¬ ((s.size + 1 : Nat) : Int) ≤ (s.size : Int) := by omega
            go_wp2_with fail
            go_ret2
            have hj : J = (0, ns.map bytesOf) := by rw [← HJ.out]; exact HE.out
            exact ⟨_, by rw [hj]; rfl, by rw [hj]; exact ⟨ns, HO.out, rfl⟩, HB.out⟩
      · have HE : Hid (J = (2, [])) := Lib.hid (by
          rw [← HJ.out]
          unfold splitW
          rw [bytesOf_length, if_neg h1024, hd]
          show (if (s[0].toNat : Int) = 47 then _ else ((2 : Int), ([] : List (List Int)))) = _
          rw [if_neg h47])
        have b0 : ((s[0].toNat : Int) != 47) = true := by simpa using h47
        have b1 : ((s[0].toNat : Int) == 47) = false := by simpa using h47
        clear hd h47
        go_enter Try.func10, Try.ntmps10
        go_wp2_with fail
        go_ret2
        exact ⟨_, by rw [HE.out]; rfl, by rw [HE.out]; exact outS_nil _ _, Below.refl _ _⟩

end Go.Proofs.Ytjhdhglbgbpckaa
