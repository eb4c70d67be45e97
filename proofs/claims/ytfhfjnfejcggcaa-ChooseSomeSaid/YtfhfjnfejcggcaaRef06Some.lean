/-
  Proved here: what the document's own reckoning of the gaps that are taken together (drydockref05: Some) answers.
  The conditions stand at the theorem.
-/
import Derived.Test.YtfhfjnfejcggcaaRef06Pick
import Derived.Test.YtfhfjnfejcggcaaSel
import Derived.BigRegion
namespace Go.Proofs.Ytfhfjnfejcggcaa
open Go.RowKit

theorem made_vals (w : World) (t : TypeId) (z : Value) (m : Nat) (hm : m ≤ 100000) : (w.alloc (.cells (madeCells #[z] m) t)).ownsRow w.heap.size t 1 (.slice (some ⟨w.heap.size, 0, none⟩) m m) m (List.replicate m z) := by
  have hs : (madeCells #[z] m).toList = List.replicate m z := by
    refine List.ext_getElem? (fun j => ?_)
    rw [Array.getElem?_toList]
    by_cases h : j < m
    · simp [madeCells, h, Nat.mod_one]
    · simp [madeCells, h]
  have hl : (madeCells #[z] m).size = m := by rw [← Array.length_toList, hs, List.length_replicate]
  refine ⟨by simp, Or.inr ⟨w.heap.size, m, _, rfl, Nat.le_refl _, heap_alloc_new w _, Nat.le_refl _, by unfold maxLen; omega, by rw [hl, Nat.mul_one], ?_⟩⟩
  rw [hs, Nat.mul_one]
  exact List.take_of_length_le (by rw [List.length_replicate]; exact Nat.le_refl _)

/-- What holds ahead of a pick: t were picked; r blocks are wanted still. -/
def Picking (l : List (Nat × Nat)) (n : Nat) (base : Nat) (w0 : World) (g m r t : Nat) (acc : List (Nat × Nat)) (U : Nat → Bool) (vv : Value) (wr : World) : Prop :=
  acc ++ cutAt ((byLen l).drop t) r = cutAt (byLen l) n ∧ (0 < r → r + sumG ((byLen l).take t) = n) ∧ (r = 0 → n ≤ sumG l) ∧ acc.length ≤ t ∧ t ≤ m ∧ (0 < r → UsedIs l t U) ∧
    wr.ownsRow base 23 1 vv acc.length (acc.map cV) ∧ wr.ownsRow base 4 1 (.slice (some ⟨g, 0, none⟩) m m) m (boolsV U m) ∧ Below base w0 wr

set_option maxRecDepth 100000 in
set_option maxHeartbeats 25600000 in
theorem Some05_any (ao : Option Addr) (len cap : Nat) (zs : List Int) (n p q : Int) (w : World) (hA : Arg w ao len cap zs) (hp : -9223372036854775808 ≤ p ∧ p ≤ 9223372036854775807) (hq : -9223372036854775808 ≤ q ∧ q ≤ 9223372036854775807) :
    Calls Try.prog 15 #[.slice ao len cap, .int .i64 n, .int .i64 p, .int .i64 q] w
      (HandedRuns w.heap.size w (someOut (gapErr len n p q) (downOut zs p q) n.toNat) (someErr (gapErr len n p q) (downOut zs p q) n.toNat)) := by
  have c := Gaps05_any ao len cap zs n p q w hA hp hq
  have HM := Lib.hid (down_bound (zs := zs) (lo := p) (hi := q))
  have HRise := Lib.hid (down_rise zs p q).pairs
  have hlen := down_length zs p q
  have hok := gap_ok (len := len) (n := n) (lo := p) (hi := q)
  clear hA
  generalize downOut zs p q = l at *
  generalize gapErr len n p q = E at *
  by_cases hE : E = 0
  · obtain ⟨hn1, hn2⟩ := hok hE
    obtain ⟨k, hk⟩ : ∃ k : Nat, n = k := ⟨n.toNat, by omega⟩
    subst hk
    rw [hE] at c ⊢
    rw [show Int.toNat (k : Int) = k by omega]
    obtain ⟨m, hm⟩ : ∃ m, l.length = m := ⟨_, rfl⟩
    rw [hm] at hlen
    have HN := Lib.hid hm
    have hk1 : 1 ≤ k := by omega
    clear hE hok hm hp hq
    go_enter Try.func15, Try.ntmps15
    go_wp2_with fail
    refine c.mono ?_
    rintro e w1 ⟨v1, xs, rfl, hf1, hs1, hb1⟩
    have HB1 := Lib.hid hb1
    have HS1 := Lib.hid hs1
    obtain ⟨ao1, c1, hv1, hV1, _, _⟩ := hf1
    rw [hs1.1, HN.out] at hv1 hV1
    have HV1 := Lib.hid hV1
    rw [hv1]
    clear hv1 hV1 hs1 hb1 c
    have hmk := run_make_vals elemBool (w1.alloc (.cells #[] 23)) m (by omega)
    rw [show (Value.bool false).cells = #[.bool false] from rfl] at hmk
    have HO0 := Lib.hid ((World.ownsRow_made (base := w1.heap.size) (e := 23) (size := 1) w1 #[] 0 (Nat.le_refl _) (by decide) rfl).alloc (.cells (madeCells #[.bool false] m) 4))
    have HU0 := Lib.hid (made_vals (w1.alloc (.cells #[] 23)) 4 (.bool false) m (by omega))
    have hbb : Below w1.heap.size w1 ((w1.alloc (.cells #[] 23)).alloc (.cells (madeCells #[.bool false] m) 4)) := ((Below.refl _ _).alloc (Nat.le_refl _) _).alloc (by simp) _
    have HBB := Lib.hid hbb
    obtain ⟨g, hg⟩ : ∃ g, g = (w1.alloc (.cells #[] 23)).heap.size := ⟨_, rfl⟩
    have hgb : w1.heap.size ≤ g := by rw [hg]; simp
    rw [← hg] at hmk HU0
    obtain ⟨w2, hw2⟩ : ∃ w2, (w1.alloc (.cells #[] 23)).alloc (.cells (madeCells #[.bool false] m) 4) = w2 := ⟨_, rfl⟩
    rw [hw2] at hmk HU0 HO0 HBB
    have HGB := Lib.hid hgb
    clear hbb hw2 hg hgb
    have HP0 : Hid (Picking l k w1.heap.size w1 g m k 0 [] (fun _ => false) (.slice (some ⟨w1.heap.size, 0, none⟩) 0 0) w2) := Lib.hid (by
      refine ⟨by rw [List.drop_zero]; rfl, fun _ => by rw [List.take_zero]; rfl, fun h => by omega, Nat.le_refl _, Nat.zero_le _, fun _ => used_start l, HO0.out, ?_, HBB.out⟩
      have h := HU0.out.2
      refine ⟨by rw [boolsV_length, Nat.mul_one], ?_⟩
      have e : boolsV (fun _ => false) m = List.replicate m (.bool false) := List.ext_getElem? (fun j => by
        by_cases hj : j < m
        · rw [boolsV_at _ hj]; simp [hj]
        · rw [List.getElem?_eq_none (by rw [boolsV_length]; omega), List.getElem?_eq_none (by rw [List.length_replicate]; omega)])
      rw [e]
      rcases h with h | ⟨g', c', u', h1, h2, h3⟩
      · exact Or.inl h
      · refine Or.inr ⟨g', c', u', h1, ?_, h3⟩
        simp only [Value.slice.injEq, Option.some.injEq, Addr.mk.injEq, and_true, true_and] at h1
        have := HGB.out
        omega)
    clear HO0 HU0
    go_wp2_with fail
    clear hmk
    go_loopw [1, 12] (fun rv vv wr => ∃ (r t : Nat) (acc : List (Nat × Nat)) (U : Nat → Bool), r ≤ k ∧ rv = .int .i64 r ∧ Hid (Picking l k w1.heap.size w1 g m r t acc U vv wr)) (fun rv _ _ => (intOf rv).toNat)
    case atStart => exact ⟨k, 0, [], _, Nat.le_refl _, rfl, HP0⟩
    case round =>
      obtain ⟨r, t, acc, U, hrk, rfl, HP⟩ := hrel
      clear HP0
      by_cases hr0 : 0 < r
      · obtain ⟨i1, i2, i3, i4, i5, i6, i7, i8, i9⟩ := HP.out
        have HUI := Lib.hid (i6 hr0)
        have HOW := Lib.hid i8
        have HTK := Lib.hid i7
        have HBW := Lib.hid i9
        have HVr := Lib.hid (HV1.out.later i9)
        have HCut := Lib.hid i1
        have HSumR := Lib.hid (i2 hr0)
        have HAcc := Lib.hid i4
        have htm0 : t ≤ m := i5
        have HX0 : Hid (Below wr.heap.size wr wr) := Lib.hid (Below.refl _ _)
        have HB0 : Hid (BestIs l U 0 none) := Lib.hid (best_start l U)
        clear i1 i2 i3 i4 i6 i7 i8 i9
        go_wp2_with fail
        go_loopw [14, 15] (fun bv iv wq => ∃ (i : Nat) (o : Option Nat), i ≤ m ∧ iv = .int .i64 i ∧ bv = .int .i64 (bestI o) ∧ Hid (BestIs l U i o) ∧ Hid (Below wr.heap.size wr wq)) (fun _ iv _ => m - (intOf iv).toNat)
        case atStart => exact ⟨0, none, Nat.zero_le _, rfl, rfl, HB0, HX0⟩
        case round =>
          obtain ⟨i, o, hi, rfl, rfl, HB2, HW⟩ := hrel
          by_cases hlt : i < m
          · have hOw := owns_later HOW.out HW.out
            have hV := HVr.out.later HW.out
            obtain ⟨g2, og, hg2, hc⟩ := hV.2.2.resolve_left (by omega)
            subst hg2
            have hu : wr.drew.cell? ⟨g, i, none⟩ = some (.bool (U i)) := by
              have h := hOw.cellAt i (by omega)
              rw [boolsV_at _ hlt] at h
              exact h
            obtain ⟨x, hx⟩ : ∃ x, xs[i]? = some x := ⟨_, List.getElem?_eq_getElem (by rw [HS1.out.1, HN.out]; exact hlt)⟩
            obtain ⟨p, hp⟩ : ∃ p, l[i]? = some p := ⟨_, List.getElem?_eq_getElem (by rw [HN.out]; exact hlt)⟩
            have hcell : wr.drew.cell? ⟨g2, og + i, none⟩ = _ := hc i x hx
            obtain ⟨x1, x2, rfl, f1, f2⟩ := HS1.out.2 i x p hx hp
            obtain ⟨b1, b2, _⟩ := HM.out p (List.mem_of_getElem? hp)
            have C1 := Lib.hid (fun w => size05_any x1 x2 p.1 p.2 w f1 f2 (by omega) (by omega) (by omega))
            have HC : Hid (∀ w', Below wr.drew.heap.size wr.drew w' → w'.cell? ⟨g2, og + i, none⟩ = some (.complex .f64 x1 x2)) := Lib.hid (fun w' h => cell_later h hcell)
            have HPp := Lib.hid hp
            have HX : Hid (Below wr.drew.heap.size wr.drew wr.drew) := Lib.hid (Below.refl _ _)
            have j2 : (i : Int) < (m : Int) := by omega
            clear f1 f2 hp hx hOw
            cases hU : U i with
            | true =>
              have HB2' := Lib.hid (best_used HB2.out hU)
              rw [hU] at hu
              clear hU hV hc
              go_wp2_with fail
              refine wp_region_any (by kernel_rfl) ?_
              try (change wpAny _ _ _ _ _ _ _ (World.drew _))
              refine wpAny_take (i := 0) (oi := ⟨some 42, _, _, _, _, _⟩) (v := ?_) rfl (by kernel_rfl) (by kernel_rfl) (by kernel_rfl) (fun _ _ _ h => h) (Or.inl ⟨by kernel_rfl, ?_⟩) ?_
              rotate_left 1
              · (intro w; go_simp); try (with_reducible rfl)
              refine wpAny_take (i := 1) (oi := ⟨some 43, _, _, _, _, _⟩) (v := ?_) rfl (by kernel_rfl) (by kernel_rfl) (by kernel_rfl) (fun _ _ _ h => h) (Or.inl ⟨by kernel_rfl, ?_⟩) ?_
              rotate_left 1
              · (intro w; go_simp); try (with_reducible rfl)
              refine wpAny_take (i := 2) (oi := ⟨some 44, _, _, _, _, _⟩) (v := ?_) rfl (by kernel_rfl) (by kernel_rfl) (by kernel_rfl) (fun _ _ _ h => h) (Or.inl ⟨by kernel_rfl, ?_⟩) ?_
              rotate_left 1
              · (intro w; go_simp); try (with_reducible rfl)
              refine wpAny_ready (rs := [3]) (by kernel_rfl) (by simp) ?_
              refine AllReady.cons (o := ⟨some 45, _, _, _, _, _⟩) rfl (fun K hK => ?_) AllReady.nil
              go_simp
              refine hK _ _ ?_
              clear hK K
              refine wpAny_take (i := 4) (oi := ⟨some 46, _, _, _, _, _⟩) (v := ?_) rfl (by kernel_rfl) (by kernel_rfl) (by kernel_rfl) (fun _ _ _ h => h) (Or.inl ⟨by kernel_rfl, ?_⟩) ?_
              rotate_left 1
              · (intro w; go_simp); try (with_reducible rfl)
              refine wpAny_take (i := 5) (oi := ⟨some 47, _, _, _, _, _⟩) (v := ?_) rfl (by kernel_rfl) (by kernel_rfl) (by kernel_rfl) (fun _ _ _ h => h) (Or.inl ⟨by kernel_rfl, ?_⟩) ?_
              rotate_left 1
              · (intro w; go_simp); try (with_reducible rfl)
              refine wpAny_take (i := 6) (oi := ⟨some 48, _, _, _, _, _⟩) (v := undef) rfl (by kernel_rfl) (by kernel_rfl) (by kernel_rfl) (fun _ _ _ h => h) (Or.inr ⟨by kernel_rfl, rfl⟩) ?_
              refine wpAny_take (i := 7) (oi := ⟨some 49, _, _, _, _, _⟩) (v := undef) rfl (by kernel_rfl) (by kernel_rfl) (by kernel_rfl) (fun _ _ _ h => h) (Or.inr ⟨by kernel_rfl, rfl⟩) ?_
              refine wpAny_take (i := 8) (oi := ⟨some 50, _, _, _, _, _⟩) (v := undef) rfl (by kernel_rfl) (by kernel_rfl) (by kernel_rfl) (fun _ _ _ h => h) (Or.inr ⟨by kernel_rfl, rfl⟩) ?_
              refine wpAny_take (i := 9) (oi := ⟨some 51, _, _, _, _, _⟩) (v := undef) rfl (by kernel_rfl) (by kernel_rfl) (by kernel_rfl) (fun _ _ _ h => h) (Or.inr ⟨by kernel_rfl, rfl⟩) ?_
              refine wpAny_take (i := 10) (oi := ⟨some 52, _, _, _, _, _⟩) (v := undef) rfl (by kernel_rfl) (by kernel_rfl) (by kernel_rfl) (fun _ _ _ h => h) (Or.inr ⟨by kernel_rfl, rfl⟩) ?_
              refine wpAny_take (i := 11) (oi := ⟨some 53, _, _, _, _, _⟩) (v := undef) rfl (by kernel_rfl) (by kernel_rfl) (by kernel_rfl) (fun _ _ _ h => h) (Or.inr ⟨by kernel_rfl, rfl⟩) ?_
              refine wpAny_take (i := 12) (oi := ⟨some 54, _, _, _, _, _⟩) (v := undef) rfl (by kernel_rfl) (by kernel_rfl) (by kernel_rfl) (fun _ _ _ h => h) (Or.inr ⟨by kernel_rfl, rfl⟩) ?_
              refine wpAny_take (i := 13) (oi := ⟨some 55, _, _, _, _, _⟩) (v := undef) rfl (by kernel_rfl) (by kernel_rfl) (by kernel_rfl) (fun _ _ _ h => h) (Or.inr ⟨by kernel_rfl, rfl⟩) ?_
              refine wpAny_take (i := 14) (oi := ⟨some 56, _, _, _, _, _⟩) (v := undef) rfl (by kernel_rfl) (by kernel_rfl) (by kernel_rfl) (fun _ _ _ h => h) (Or.inr ⟨by kernel_rfl, rfl⟩) ?_
              refine wpAny_take (i := 15) (oi := ⟨some 57, _, _, _, _, _⟩) (v := undef) rfl (by kernel_rfl) (by kernel_rfl) (by kernel_rfl) (fun _ _ _ h => h) (Or.inr ⟨by kernel_rfl, rfl⟩) ?_
              refine wpAny_take (i := 16) (oi := ⟨some 58, _, _, _, _, _⟩) (v := undef) rfl (by kernel_rfl) (by kernel_rfl) (by kernel_rfl) (fun _ _ _ h => h) (Or.inr ⟨by kernel_rfl, rfl⟩) ?_
              refine wpAny_take (i := 17) (oi := ⟨some 59, _, _, _, _, _⟩) (v := undef) rfl (by kernel_rfl) (by kernel_rfl) (by kernel_rfl) (fun _ _ _ h => h) (Or.inr ⟨by kernel_rfl, rfl⟩) ?_
              refine wpAny_take (i := 18) (oi := ⟨some 60, _, _, _, _, _⟩) (v := undef) rfl (by kernel_rfl) (by kernel_rfl) (by kernel_rfl) (fun _ _ _ h => h) (Or.inr ⟨by kernel_rfl, rfl⟩) ?_
              refine wpAny_take (i := 19) (oi := ⟨some 61, _, _, _, _, _⟩) (v := undef) rfl (by kernel_rfl) (by kernel_rfl) (by kernel_rfl) (fun _ _ _ h => h) (Or.inr ⟨by kernel_rfl, rfl⟩) ?_
              refine wpAny_take (i := 20) (oi := ⟨some 62, _, _, _, _, _⟩) (v := undef) rfl (by kernel_rfl) (by kernel_rfl) (by kernel_rfl) (fun _ _ _ h => h) (Or.inr ⟨by kernel_rfl, rfl⟩) ?_
              refine wpAny_take (i := 21) (oi := ⟨some 63, _, _, _, _, _⟩) (v := ?_) rfl (by kernel_rfl) (by kernel_rfl) (by kernel_rfl) (fun _ _ _ h => h) (Or.inl ⟨by kernel_rfl, ?_⟩) ?_
              rotate_left 1
              · (intro w; go_simp); try (with_reducible rfl)
              refine wpAny_done (by kernel_rfl) ?_ _
              go_simp
              go_wp2_with fail
              go_roundw
              case rel => exact ⟨i + 1, o, by omega, by go_num, rfl, HB2', Lib.hid (HW.out.drew.trans (HX.out.mono HW.out.size))⟩
              case measure => simp [intOf]; omega
            | false =>
              rw [hU] at hu
              rcases o with _ | b
              · have HB2' := Lib.hid (best_first HB2.out hU)
                rw [show bestI none = -1 from rfl]
                clear hU hV hc
                go_wp2_with fail
                refine wp_region_any (by kernel_rfl) ?_
                try (change wpAny _ _ _ _ _ _ _ (World.drew _))
                refine wpAny_take (i := 0) (oi := ⟨some 42, _, _, _, _, _⟩) (v := ?_) rfl (by kernel_rfl) (by kernel_rfl) (by kernel_rfl) (fun _ _ _ h => h) (Or.inl ⟨by kernel_rfl, ?_⟩) ?_
                rotate_left 1
                · (intro w; go_simp); try (with_reducible rfl)
                refine wpAny_take (i := 1) (oi := ⟨some 43, _, _, _, _, _⟩) (v := ?_) rfl (by kernel_rfl) (by kernel_rfl) (by kernel_rfl) (fun _ _ _ h => h) (Or.inl ⟨by kernel_rfl, ?_⟩) ?_
                rotate_left 1
                · (intro w; go_simp); try (with_reducible rfl)
                refine wpAny_take (i := 2) (oi := ⟨some 44, _, _, _, _, _⟩) (v := ?_) rfl (by kernel_rfl) (by kernel_rfl) (by kernel_rfl) (fun _ _ _ h => h) (Or.inl ⟨by kernel_rfl, ?_⟩) ?_
                rotate_left 1
                · (intro w; go_simp); try (with_reducible rfl)
                refine wpAny_ready (rs := [3]) (by kernel_rfl) (by simp) ?_
                refine AllReady.cons (o := ⟨some 45, _, _, _, _, _⟩) rfl (fun K hK => ?_) AllReady.nil
                go_simp
                refine hK _ _ ?_
                clear hK K
                refine wpAny_take (i := 4) (oi := ⟨some 46, _, _, _, _, _⟩) (v := ?_) rfl (by kernel_rfl) (by kernel_rfl) (by kernel_rfl) (fun _ _ _ h => h) (Or.inl ⟨by kernel_rfl, ?_⟩) ?_
                rotate_left 1
                · (intro w; go_simp); try (with_reducible rfl)
                refine wpAny_take (i := 5) (oi := ⟨some 47, _, _, _, _, _⟩) (v := ?_) rfl (by kernel_rfl) (by kernel_rfl) (by kernel_rfl) (fun _ _ _ h => h) (Or.inl ⟨by kernel_rfl, ?_⟩) ?_
                rotate_left 1
                · (intro w; go_simp); try (with_reducible rfl)
                refine wpAny_take (i := 6) (oi := ⟨some 48, _, _, _, _, _⟩) (v := ?_) rfl (by kernel_rfl) (by kernel_rfl) (by kernel_rfl) (fun _ _ _ h => h) (Or.inl ⟨by kernel_rfl, ?_⟩) ?_
                rotate_left 1
                · (intro w; go_simp); try (with_reducible rfl)
                refine wpAny_take (i := 7) (oi := ⟨some 49, _, _, _, _, _⟩) (v := ?_) rfl (by kernel_rfl) (by kernel_rfl) (by kernel_rfl) (fun _ _ _ h => h) (Or.inl ⟨by kernel_rfl, ?_⟩) ?_
                rotate_left 1
                · (intro w; go_simp); try (with_reducible rfl)
                refine wpAny_take (i := 8) (oi := ⟨some 50, _, _, _, _, _⟩) (v := ?_) rfl (by kernel_rfl) (by kernel_rfl) (by kernel_rfl) (fun _ _ _ h => h) (Or.inl ⟨by kernel_rfl, ?_⟩) ?_
                rotate_left 1
                · (intro w; go_simp); try (with_reducible rfl)
                refine wpAny_take (i := 9) (oi := ⟨some 51, _, _, _, _, _⟩) (v := undef) rfl (by kernel_rfl) (by kernel_rfl) (by kernel_rfl) (fun _ _ _ h => h) (Or.inr ⟨by kernel_rfl, rfl⟩) ?_
                refine wpAny_take (i := 10) (oi := ⟨some 52, _, _, _, _, _⟩) (v := undef) rfl (by kernel_rfl) (by kernel_rfl) (by kernel_rfl) (fun _ _ _ h => h) (Or.inr ⟨by kernel_rfl, rfl⟩) ?_
                refine wpAny_take (i := 11) (oi := ⟨some 53, _, _, _, _, _⟩) (v := undef) rfl (by kernel_rfl) (by kernel_rfl) (by kernel_rfl) (fun _ _ _ h => h) (Or.inr ⟨by kernel_rfl, rfl⟩) ?_
                refine wpAny_take (i := 12) (oi := ⟨some 54, _, _, _, _, _⟩) (v := undef) rfl (by kernel_rfl) (by kernel_rfl) (by kernel_rfl) (fun _ _ _ h => h) (Or.inr ⟨by kernel_rfl, rfl⟩) ?_
                refine wpAny_take (i := 13) (oi := ⟨some 55, _, _, _, _, _⟩) (v := undef) rfl (by kernel_rfl) (by kernel_rfl) (by kernel_rfl) (fun _ _ _ h => h) (Or.inr ⟨by kernel_rfl, rfl⟩) ?_
                refine wpAny_take (i := 14) (oi := ⟨some 56, _, _, _, _, _⟩) (v := undef) rfl (by kernel_rfl) (by kernel_rfl) (by kernel_rfl) (fun _ _ _ h => h) (Or.inr ⟨by kernel_rfl, rfl⟩) ?_
                refine wpAny_take (i := 15) (oi := ⟨some 57, _, _, _, _, _⟩) (v := undef) rfl (by kernel_rfl) (by kernel_rfl) (by kernel_rfl) (fun _ _ _ h => h) (Or.inr ⟨by kernel_rfl, rfl⟩) ?_
                refine wpAny_take (i := 16) (oi := ⟨some 58, _, _, _, _, _⟩) (v := undef) rfl (by kernel_rfl) (by kernel_rfl) (by kernel_rfl) (fun _ _ _ h => h) (Or.inr ⟨by kernel_rfl, rfl⟩) ?_
                refine wpAny_take (i := 17) (oi := ⟨some 59, _, _, _, _, _⟩) (v := undef) rfl (by kernel_rfl) (by kernel_rfl) (by kernel_rfl) (fun _ _ _ h => h) (Or.inr ⟨by kernel_rfl, rfl⟩) ?_
                refine wpAny_take (i := 18) (oi := ⟨some 60, _, _, _, _, _⟩) (v := undef) rfl (by kernel_rfl) (by kernel_rfl) (by kernel_rfl) (fun _ _ _ h => h) (Or.inr ⟨by kernel_rfl, rfl⟩) ?_
                refine wpAny_take (i := 19) (oi := ⟨some 61, _, _, _, _, _⟩) (v := undef) rfl (by kernel_rfl) (by kernel_rfl) (by kernel_rfl) (fun _ _ _ h => h) (Or.inr ⟨by kernel_rfl, rfl⟩) ?_
                refine wpAny_take (i := 20) (oi := ⟨some 62, _, _, _, _, _⟩) (v := ?_) rfl (by kernel_rfl) (by kernel_rfl) (by kernel_rfl) (fun _ _ _ h => h) (Or.inl ⟨by kernel_rfl, ?_⟩) ?_
                rotate_left 1
                · (intro w; go_simp); try (with_reducible rfl)
                refine wpAny_take (i := 21) (oi := ⟨some 63, _, _, _, _, _⟩) (v := ?_) rfl (by kernel_rfl) (by kernel_rfl) (by kernel_rfl) (fun _ _ _ h => h) (Or.inl ⟨by kernel_rfl, ?_⟩) ?_
                rotate_left 1
                · (intro w; go_simp); try (with_reducible rfl)
                refine wpAny_done (by kernel_rfl) ?_ _
                go_simp
                go_wp2_with fail
                go_roundw
                case rel => exact ⟨i + 1, some i, by omega, by go_num, rfl, HB2', Lib.hid (HW.out.drew.trans (HX.out.mono HW.out.size))⟩
                case measure => simp [intOf]; omega
              · have hb := HB2.out.1
                obtain ⟨y, hy⟩ : ∃ y, xs[b]? = some y := ⟨_, List.getElem?_eq_getElem (by rw [HS1.out.1, HN.out]; omega)⟩
                obtain ⟨q, hq⟩ : ∃ q, l[b]? = some q := ⟨_, List.getElem?_eq_getElem (by rw [HN.out]; omega)⟩
                have hcell2 : wr.drew.cell? ⟨g2, og + b, none⟩ = _ := hc b y hy
                obtain ⟨y1, y2, rfl, f3, f4⟩ := HS1.out.2 b y q hy hq
                obtain ⟨e1, e2, _⟩ := HM.out q (List.mem_of_getElem? hq)
                have C2 := Lib.hid (fun w => size05_any y1 y2 q.1 q.2 w f3 f4 (by omega) (by omega) (by omega))
                have HC2 : Hid (∀ w', Below wr.drew.heap.size wr.drew w' → w'.cell? ⟨g2, og + b, none⟩ = some (.complex .f64 y1 y2)) := Lib.hid (fun w' h => cell_later h hcell2)
                have k2 : (b : Int) < (m : Int) := by omega
                rw [show bestI (some b) = (b : Int) from rfl]
                by_cases hless : q.2 < p.2
                · have HB2' := Lib.hid (best_longer HB2.out hU HPp.out hq hless)
                  have d2 : decide (q.2 < p.2) = true := by simpa using hless
                  have d1 := hlt
                  clear hV hc f3 f4 hq hy hU
                  go_wp2_with fail
                  refine wp_region_any (by kernel_rfl) ?_
                  try (change wpAny _ _ _ _ _ _ _ (World.drew _))
                  refine wpAny_take (i := 0) (oi := ⟨some 42, _, _, _, _, _⟩) (v := ?_) rfl (by kernel_rfl) (by kernel_rfl) (by kernel_rfl) (fun _ _ _ h => h) (Or.inl ⟨by kernel_rfl, ?_⟩) ?_
                  rotate_left 1
                  · (intro w; go_simp); try (with_reducible rfl)
                  refine wpAny_take (i := 1) (oi := ⟨some 43, _, _, _, _, _⟩) (v := ?_) rfl (by kernel_rfl) (by kernel_rfl) (by kernel_rfl) (fun _ _ _ h => h) (Or.inl ⟨by kernel_rfl, ?_⟩) ?_
                  rotate_left 1
                  · (intro w; go_simp); try (with_reducible rfl)
                  refine wpAny_take (i := 2) (oi := ⟨some 44, _, _, _, _, _⟩) (v := ?_) rfl (by kernel_rfl) (by kernel_rfl) (by kernel_rfl) (fun _ _ _ h => h) (Or.inl ⟨by kernel_rfl, ?_⟩) ?_
                  rotate_left 1
                  · (intro w; go_simp); try (with_reducible rfl)
                  refine wpAny_ready (rs := [3]) (by kernel_rfl) (by simp) ?_
                  refine AllReady.cons (o := ⟨some 45, _, _, _, _, _⟩) rfl (fun K hK => ?_) AllReady.nil
                  go_simp
                  refine hK _ _ ?_
                  clear hK K
                  refine wpAny_take (i := 4) (oi := ⟨some 46, _, _, _, _, _⟩) (v := ?_) rfl (by kernel_rfl) (by kernel_rfl) (by kernel_rfl) (fun _ _ _ h => h) (Or.inl ⟨by kernel_rfl, ?_⟩) ?_
                  rotate_left 1
                  · (intro w; go_simp); try (with_reducible rfl)
                  refine wpAny_take (i := 5) (oi := ⟨some 47, _, _, _, _, _⟩) (v := ?_) rfl (by kernel_rfl) (by kernel_rfl) (by kernel_rfl) (fun _ _ _ h => h) (Or.inl ⟨by kernel_rfl, ?_⟩) ?_
                  rotate_left 1
                  · (intro w; go_simp); try (with_reducible rfl)
                  refine wpAny_take (i := 6) (oi := ⟨some 48, _, _, _, _, _⟩) (v := ?_) rfl (by kernel_rfl) (by kernel_rfl) (by kernel_rfl) (fun _ _ _ h => h) (Or.inl ⟨by kernel_rfl, ?_⟩) ?_
                  rotate_left 1
                  · (intro w; go_simp); try (with_reducible rfl)
                  refine wpAny_take (i := 7) (oi := ⟨some 49, _, _, _, _, _⟩) (v := ?_) rfl (by kernel_rfl) (by kernel_rfl) (by kernel_rfl) (fun _ _ _ h => h) (Or.inl ⟨by kernel_rfl, ?_⟩) ?_
                  rotate_left 1
                  · (intro w; go_simp); try (with_reducible rfl)
                  refine wpAny_take (i := 8) (oi := ⟨some 50, _, _, _, _, _⟩) (v := ?_) rfl (by kernel_rfl) (by kernel_rfl) (by kernel_rfl) (fun _ _ _ h => h) (Or.inl ⟨by kernel_rfl, ?_⟩) ?_
                  rotate_left 1
                  · (intro w; go_simp); try (with_reducible rfl)
                  refine wpAny_take (i := 9) (oi := ⟨some 51, _, _, _, _, _⟩) (v := ?_) rfl (by kernel_rfl) (by kernel_rfl) (by kernel_rfl) (fun _ _ _ h => h) (Or.inl ⟨by kernel_rfl, ?_⟩) ?_
                  rotate_left 1
                  · (intro w; go_simp); try (with_reducible rfl)
                  refine wpAny_take (i := 10) (oi := ⟨some 52, _, _, _, _, _⟩) (v := ?_) rfl (by kernel_rfl) (by kernel_rfl) (by kernel_rfl) (fun _ _ _ h => h) (Or.inl ⟨by kernel_rfl, ?_⟩) ?_
                  rotate_left 1
                  · (intro w; go_simp); try (with_reducible rfl)
                  refine wpAny_take (i := 11) (oi := ⟨some 53, _, _, _, _, _⟩) (v := ?_) rfl (by kernel_rfl) (by kernel_rfl) (by kernel_rfl) (fun _ _ _ h => h) (Or.inl ⟨by kernel_rfl, ?_⟩) ?_
                  rotate_left 1
                  · (intro w; go_simp); try (with_reducible rfl)
                  refine wpAny_take (i := 14) (oi := ⟨some 56, _, _, _, _, _⟩) (v := ?_) rfl (by kernel_rfl) (by kernel_rfl) (by kernel_rfl) (fun _ _ _ h => h) (Or.inl ⟨by kernel_rfl, ?_⟩) ?_
                  rotate_left 1
                  · (intro w; go_simp); try (with_reducible rfl)
                  refine wpAny_take (i := 15) (oi := ⟨some 57, _, _, _, _, _⟩) (v := ?_) rfl (by kernel_rfl) (by kernel_rfl) (by kernel_rfl) (fun _ _ _ h => h) (Or.inl ⟨by kernel_rfl, ?_⟩) ?_
                  rotate_left 1
                  · (intro w; go_simp); try (with_reducible rfl)
                  refine wpAny_take (i := 16) (oi := ⟨some 58, _, _, _, _, _⟩) (v := ?_) rfl (by kernel_rfl) (by kernel_rfl) (by kernel_rfl) (fun _ _ _ h => h) (Or.inl ⟨by kernel_rfl, ?_⟩) ?_
                  rotate_left 1
                  · (intro w; go_simp); try (with_reducible rfl)
                  refine wpAny_ready (rs := [12, 17]) (by kernel_rfl) (by simp) ?_
                  refine AllReady.cons (o := ⟨some 54, _, _, _, _, _⟩) rfl (fun K hK => ?_) ?_
                  · go_simp
                    refine hK _ _ ?_
                    clear hK K
                    refine wpAny_ready (rs := [13, 17]) (by kernel_rfl) (by simp) ?_
                    refine AllReady.cons (o := ⟨some 55, _, _, _, _, _⟩) rfl (fun K hK => ?_) ?_
                    · go_simp
                      go_wp2_with (go_at_call 25; refine (C1.out _).mono ?_; rintro e wz ⟨rfl, hz⟩; have HX := Lib.hid (HX.out.trans (hz.mono HX.out.size)); have q1 := HC.out _ HX.out; have q2 := HC2.out _ HX.out; clear hz)
                      refine wpAny_ready (rs := [17]) (by kernel_rfl) (by simp) ?_
                      refine AllReady.cons (o := ⟨some 59, _, _, _, _, _⟩) rfl (fun K hK => ?_) AllReady.nil
                      go_simp
                      refine hK _ _ ?_
                      clear hK K
                      refine wpAny_ready (rs := [18]) (by kernel_rfl) (by simp) ?_
                      refine AllReady.cons (o := ⟨some 60, _, _, _, _, _⟩) rfl (fun K hK => ?_) AllReady.nil
                      go_simp
                      go_wp2_with (go_at_call 25; refine (C2.out _).mono ?_; rintro e wz ⟨rfl, hz⟩; have HX := Lib.hid (HX.out.trans (hz.mono HX.out.size)); have q1 := HC.out _ HX.out; have q2 := HC2.out _ HX.out; clear hz)
                      refine wpAny_take (i := 19) (oi := ⟨some 61, _, _, _, _, _⟩) (v := ?_) rfl (by kernel_rfl) (by kernel_rfl) (by kernel_rfl) (fun _ _ _ h => h) (Or.inl ⟨by kernel_rfl, ?_⟩) ?_
                      rotate_left 1
                      · (intro w; go_simp); try (with_reducible rfl)
                      refine wpAny_take (i := 20) (oi := ⟨some 62, _, _, _, _, _⟩) (v := ?_) rfl (by kernel_rfl) (by kernel_rfl) (by kernel_rfl) (fun _ _ _ h => h) (Or.inl ⟨by kernel_rfl, ?_⟩) ?_
                      rotate_left 1
                      · (intro w; go_simp); try (with_reducible rfl)
                      refine wpAny_take (i := 21) (oi := ⟨some 63, _, _, _, _, _⟩) (v := ?_) rfl (by kernel_rfl) (by kernel_rfl) (by kernel_rfl) (fun _ _ _ h => h) (Or.inl ⟨by kernel_rfl, ?_⟩) ?_
                      rotate_left 1
                      · (intro w; go_simp); try (with_reducible rfl)
                      refine wpAny_done (by kernel_rfl) ?_ _
                      go_simp
                      clear d1 d2
                      go_wp2_with fail
                      go_roundw
                      case rel => exact ⟨i + 1, some i, by omega, by go_num, rfl, HB2', Lib.hid (HW.out.drew.trans (HX.out.mono HW.out.size))⟩
                      case measure => simp [intOf]; omega
                    refine AllReady.cons (o := ⟨some 59, _, _, _, _, _⟩) rfl (fun K hK => ?_) AllReady.nil
                    go_simp
                    refine hK _ _ ?_
                    clear hK K
                    refine wpAny_ready (rs := [13]) (by kernel_rfl) (by simp) ?_
                    refine AllReady.cons (o := ⟨some 55, _, _, _, _, _⟩) rfl (fun K hK => ?_) AllReady.nil
                    go_simp
                    go_wp2_with (go_at_call 25; refine (C1.out _).mono ?_; rintro e wz ⟨rfl, hz⟩; have HX := Lib.hid (HX.out.trans (hz.mono HX.out.size)); have q1 := HC.out _ HX.out; have q2 := HC2.out _ HX.out; clear hz)
                    refine wpAny_ready (rs := [18]) (by kernel_rfl) (by simp) ?_
                    refine AllReady.cons (o := ⟨some 60, _, _, _, _, _⟩) rfl (fun K hK => ?_) AllReady.nil
                    go_simp
                    go_wp2_with (go_at_call 25; refine (C2.out _).mono ?_; rintro e wz ⟨rfl, hz⟩; have HX := Lib.hid (HX.out.trans (hz.mono HX.out.size)); have q1 := HC.out _ HX.out; have q2 := HC2.out _ HX.out; clear hz)
                    refine wpAny_take (i := 19) (oi := ⟨some 61, _, _, _, _, _⟩) (v := ?_) rfl (by kernel_rfl) (by kernel_rfl) (by kernel_rfl) (fun _ _ _ h => h) (Or.inl ⟨by kernel_rfl, ?_⟩) ?_
                    rotate_left 1
                    · (intro w; go_simp); try (with_reducible rfl)
                    refine wpAny_take (i := 20) (oi := ⟨some 62, _, _, _, _, _⟩) (v := ?_) rfl (by kernel_rfl) (by kernel_rfl) (by kernel_rfl) (fun _ _ _ h => h) (Or.inl ⟨by kernel_rfl, ?_⟩) ?_
                    rotate_left 1
                    · (intro w; go_simp); try (with_reducible rfl)
                    refine wpAny_take (i := 21) (oi := ⟨some 63, _, _, _, _, _⟩) (v := ?_) rfl (by kernel_rfl) (by kernel_rfl) (by kernel_rfl) (fun _ _ _ h => h) (Or.inl ⟨by kernel_rfl, ?_⟩) ?_
                    rotate_left 1
                    · (intro w; go_simp); try (with_reducible rfl)
                    refine wpAny_done (by kernel_rfl) ?_ _
                    go_simp
                    clear d1 d2
                    go_wp2_with fail
                    go_roundw
                    case rel => exact ⟨i + 1, some i, by omega, by go_num, rfl, HB2', Lib.hid (HW.out.drew.trans (HX.out.mono HW.out.size))⟩
                    case measure => simp [intOf]; omega
                  refine AllReady.cons (o := ⟨some 59, _, _, _, _, _⟩) rfl (fun K hK => ?_) AllReady.nil
                  go_simp
                  refine hK _ _ ?_
                  clear hK K
                  refine wpAny_ready (rs := [12]) (by kernel_rfl) (by simp) ?_
                  refine AllReady.cons (o := ⟨some 54, _, _, _, _, _⟩) rfl (fun K hK => ?_) AllReady.nil
                  go_simp
                  refine hK _ _ ?_
                  clear hK K
                  refine wpAny_ready (rs := [13]) (by kernel_rfl) (by simp) ?_
                  refine AllReady.cons (o := ⟨some 55, _, _, _, _, _⟩) rfl (fun K hK => ?_) AllReady.nil
                  go_simp
                  go_wp2_with (go_at_call 25; refine (C1.out _).mono ?_; rintro e wz ⟨rfl, hz⟩; have HX := Lib.hid (HX.out.trans (hz.mono HX.out.size)); have q1 := HC.out _ HX.out; have q2 := HC2.out _ HX.out; clear hz)
                  refine wpAny_ready (rs := [18]) (by kernel_rfl) (by simp) ?_
                  refine AllReady.cons (o := ⟨some 60, _, _, _, _, _⟩) rfl (fun K hK => ?_) AllReady.nil
                  go_simp
                  go_wp2_with (go_at_call 25; refine (C2.out _).mono ?_; rintro e wz ⟨rfl, hz⟩; have HX := Lib.hid (HX.out.trans (hz.mono HX.out.size)); have q1 := HC.out _ HX.out; have q2 := HC2.out _ HX.out; clear hz)
                  refine wpAny_take (i := 19) (oi := ⟨some 61, _, _, _, _, _⟩) (v := ?_) rfl (by kernel_rfl) (by kernel_rfl) (by kernel_rfl) (fun _ _ _ h => h) (Or.inl ⟨by kernel_rfl, ?_⟩) ?_
                  rotate_left 1
                  · (intro w; go_simp); try (with_reducible rfl)
                  refine wpAny_take (i := 20) (oi := ⟨some 62, _, _, _, _, _⟩) (v := ?_) rfl (by kernel_rfl) (by kernel_rfl) (by kernel_rfl) (fun _ _ _ h => h) (Or.inl ⟨by kernel_rfl, ?_⟩) ?_
                  rotate_left 1
                  · (intro w; go_simp); try (with_reducible rfl)
                  refine wpAny_take (i := 21) (oi := ⟨some 63, _, _, _, _, _⟩) (v := ?_) rfl (by kernel_rfl) (by kernel_rfl) (by kernel_rfl) (fun _ _ _ h => h) (Or.inl ⟨by kernel_rfl, ?_⟩) ?_
                  rotate_left 1
                  · (intro w; go_simp); try (with_reducible rfl)
                  refine wpAny_done (by kernel_rfl) ?_ _
                  go_simp
                  clear d1 d2
                  go_wp2_with fail
                  go_roundw
                  case rel => exact ⟨i + 1, some i, by omega, by go_num, rfl, HB2', Lib.hid (HW.out.drew.trans (HX.out.mono HW.out.size))⟩
                  case measure => simp [intOf]; omega
                · have HB2' := Lib.hid (best_keep HRise.out HB2.out HPp.out hq hless)
                  have d2 : decide (q.2 < p.2) = false := by simpa using hless
                  have d1 := hlt
                  clear hV hc f3 f4 hq hy hU
                  go_wp2_with fail
                  refine wp_region_any (by kernel_rfl) ?_
                  try (change wpAny _ _ _ _ _ _ _ (World.drew _))
                  refine wpAny_take (i := 0) (oi := ⟨some 42, _, _, _, _, _⟩) (v := ?_) rfl (by kernel_rfl) (by kernel_rfl) (by kernel_rfl) (fun _ _ _ h => h) (Or.inl ⟨by kernel_rfl, ?_⟩) ?_
                  rotate_left 1
                  · (intro w; go_simp); try (with_reducible rfl)
                  refine wpAny_take (i := 1) (oi := ⟨some 43, _, _, _, _, _⟩) (v := ?_) rfl (by kernel_rfl) (by kernel_rfl) (by kernel_rfl) (fun _ _ _ h => h) (Or.inl ⟨by kernel_rfl, ?_⟩) ?_
                  rotate_left 1
                  · (intro w; go_simp); try (with_reducible rfl)
                  refine wpAny_take (i := 2) (oi := ⟨some 44, _, _, _, _, _⟩) (v := ?_) rfl (by kernel_rfl) (by kernel_rfl) (by kernel_rfl) (fun _ _ _ h => h) (Or.inl ⟨by kernel_rfl, ?_⟩) ?_
                  rotate_left 1
                  · (intro w; go_simp); try (with_reducible rfl)
                  refine wpAny_ready (rs := [3]) (by kernel_rfl) (by simp) ?_
                  refine AllReady.cons (o := ⟨some 45, _, _, _, _, _⟩) rfl (fun K hK => ?_) AllReady.nil
                  go_simp
                  refine hK _ _ ?_
                  clear hK K
                  refine wpAny_take (i := 4) (oi := ⟨some 46, _, _, _, _, _⟩) (v := ?_) rfl (by kernel_rfl) (by kernel_rfl) (by kernel_rfl) (fun _ _ _ h => h) (Or.inl ⟨by kernel_rfl, ?_⟩) ?_
                  rotate_left 1
                  · (intro w; go_simp); try (with_reducible rfl)
                  refine wpAny_take (i := 5) (oi := ⟨some 47, _, _, _, _, _⟩) (v := ?_) rfl (by kernel_rfl) (by kernel_rfl) (by kernel_rfl) (fun _ _ _ h => h) (Or.inl ⟨by kernel_rfl, ?_⟩) ?_
                  rotate_left 1
                  · (intro w; go_simp); try (with_reducible rfl)
                  refine wpAny_take (i := 6) (oi := ⟨some 48, _, _, _, _, _⟩) (v := ?_) rfl (by kernel_rfl) (by kernel_rfl) (by kernel_rfl) (fun _ _ _ h => h) (Or.inl ⟨by kernel_rfl, ?_⟩) ?_
                  rotate_left 1
                  · (intro w; go_simp); try (with_reducible rfl)
                  refine wpAny_take (i := 7) (oi := ⟨some 49, _, _, _, _, _⟩) (v := ?_) rfl (by kernel_rfl) (by kernel_rfl) (by kernel_rfl) (fun _ _ _ h => h) (Or.inl ⟨by kernel_rfl, ?_⟩) ?_
                  rotate_left 1
                  · (intro w; go_simp); try (with_reducible rfl)
                  refine wpAny_take (i := 8) (oi := ⟨some 50, _, _, _, _, _⟩) (v := ?_) rfl (by kernel_rfl) (by kernel_rfl) (by kernel_rfl) (fun _ _ _ h => h) (Or.inl ⟨by kernel_rfl, ?_⟩) ?_
                  rotate_left 1
                  · (intro w; go_simp); try (with_reducible rfl)
                  refine wpAny_take (i := 9) (oi := ⟨some 51, _, _, _, _, _⟩) (v := ?_) rfl (by kernel_rfl) (by kernel_rfl) (by kernel_rfl) (fun _ _ _ h => h) (Or.inl ⟨by kernel_rfl, ?_⟩) ?_
                  rotate_left 1
                  · (intro w; go_simp); try (with_reducible rfl)
                  refine wpAny_take (i := 10) (oi := ⟨some 52, _, _, _, _, _⟩) (v := ?_) rfl (by kernel_rfl) (by kernel_rfl) (by kernel_rfl) (fun _ _ _ h => h) (Or.inl ⟨by kernel_rfl, ?_⟩) ?_
                  rotate_left 1
                  · (intro w; go_simp); try (with_reducible rfl)
                  refine wpAny_take (i := 11) (oi := ⟨some 53, _, _, _, _, _⟩) (v := ?_) rfl (by kernel_rfl) (by kernel_rfl) (by kernel_rfl) (fun _ _ _ h => h) (Or.inl ⟨by kernel_rfl, ?_⟩) ?_
                  rotate_left 1
                  · (intro w; go_simp); try (with_reducible rfl)
                  refine wpAny_take (i := 14) (oi := ⟨some 56, _, _, _, _, _⟩) (v := ?_) rfl (by kernel_rfl) (by kernel_rfl) (by kernel_rfl) (fun _ _ _ h => h) (Or.inl ⟨by kernel_rfl, ?_⟩) ?_
                  rotate_left 1
                  · (intro w; go_simp); try (with_reducible rfl)
                  refine wpAny_take (i := 15) (oi := ⟨some 57, _, _, _, _, _⟩) (v := ?_) rfl (by kernel_rfl) (by kernel_rfl) (by kernel_rfl) (fun _ _ _ h => h) (Or.inl ⟨by kernel_rfl, ?_⟩) ?_
                  rotate_left 1
                  · (intro w; go_simp); try (with_reducible rfl)
                  refine wpAny_take (i := 16) (oi := ⟨some 58, _, _, _, _, _⟩) (v := ?_) rfl (by kernel_rfl) (by kernel_rfl) (by kernel_rfl) (fun _ _ _ h => h) (Or.inl ⟨by kernel_rfl, ?_⟩) ?_
                  rotate_left 1
                  · (intro w; go_simp); try (with_reducible rfl)
                  refine wpAny_ready (rs := [12, 17]) (by kernel_rfl) (by simp) ?_
                  refine AllReady.cons (o := ⟨some 54, _, _, _, _, _⟩) rfl (fun K hK => ?_) ?_
                  · go_simp
                    refine hK _ _ ?_
                    clear hK K
                    refine wpAny_ready (rs := [13, 17]) (by kernel_rfl) (by simp) ?_
                    refine AllReady.cons (o := ⟨some 55, _, _, _, _, _⟩) rfl (fun K hK => ?_) ?_
                    · go_simp
                      go_wp2_with (go_at_call 25; refine (C1.out _).mono ?_; rintro e wz ⟨rfl, hz⟩; have HX := Lib.hid (HX.out.trans (hz.mono HX.out.size)); have q1 := HC.out _ HX.out; have q2 := HC2.out _ HX.out; clear hz)
                      refine wpAny_ready (rs := [17]) (by kernel_rfl) (by simp) ?_
                      refine AllReady.cons (o := ⟨some 59, _, _, _, _, _⟩) rfl (fun K hK => ?_) AllReady.nil
                      go_simp
                      refine hK _ _ ?_
                      clear hK K
                      refine wpAny_ready (rs := [18]) (by kernel_rfl) (by simp) ?_
                      refine AllReady.cons (o := ⟨some 60, _, _, _, _, _⟩) rfl (fun K hK => ?_) AllReady.nil
                      go_simp
                      go_wp2_with (go_at_call 25; refine (C2.out _).mono ?_; rintro e wz ⟨rfl, hz⟩; have HX := Lib.hid (HX.out.trans (hz.mono HX.out.size)); have q1 := HC.out _ HX.out; have q2 := HC2.out _ HX.out; clear hz)
                      refine wpAny_take (i := 19) (oi := ⟨some 61, _, _, _, _, _⟩) (v := ?_) rfl (by kernel_rfl) (by kernel_rfl) (by kernel_rfl) (fun _ _ _ h => h) (Or.inl ⟨by kernel_rfl, ?_⟩) ?_
                      rotate_left 1
                      · (intro w; go_simp); try (with_reducible rfl)
                      refine wpAny_take (i := 20) (oi := ⟨some 62, _, _, _, _, _⟩) (v := ?_) rfl (by kernel_rfl) (by kernel_rfl) (by kernel_rfl) (fun _ _ _ h => h) (Or.inl ⟨by kernel_rfl, ?_⟩) ?_
                      rotate_left 1
                      · (intro w; go_simp); try (with_reducible rfl)
                      refine wpAny_take (i := 21) (oi := ⟨some 63, _, _, _, _, _⟩) (v := ?_) rfl (by kernel_rfl) (by kernel_rfl) (by kernel_rfl) (fun _ _ _ h => h) (Or.inl ⟨by kernel_rfl, ?_⟩) ?_
                      rotate_left 1
                      · (intro w; go_simp); try (with_reducible rfl)
                      refine wpAny_done (by kernel_rfl) ?_ _
                      go_simp
                      clear d1 d2
                      go_wp2_with fail
                      go_roundw
                      case rel => exact ⟨i + 1, some b, by omega, by go_num, rfl, HB2', Lib.hid (HW.out.drew.trans (HX.out.mono HW.out.size))⟩
                      case measure => simp [intOf]; omega
                    refine AllReady.cons (o := ⟨some 59, _, _, _, _, _⟩) rfl (fun K hK => ?_) AllReady.nil
                    go_simp
                    refine hK _ _ ?_
                    clear hK K
                    refine wpAny_ready (rs := [13]) (by kernel_rfl) (by simp) ?_
                    refine AllReady.cons (o := ⟨some 55, _, _, _, _, _⟩) rfl (fun K hK => ?_) AllReady.nil
                    go_simp
                    go_wp2_with (go_at_call 25; refine (C1.out _).mono ?_; rintro e wz ⟨rfl, hz⟩; have HX := Lib.hid (HX.out.trans (hz.mono HX.out.size)); have q1 := HC.out _ HX.out; have q2 := HC2.out _ HX.out; clear hz)
                    refine wpAny_ready (rs := [18]) (by kernel_rfl) (by simp) ?_
                    refine AllReady.cons (o := ⟨some 60, _, _, _, _, _⟩) rfl (fun K hK => ?_) AllReady.nil
                    go_simp
                    go_wp2_with (go_at_call 25; refine (C2.out _).mono ?_; rintro e wz ⟨rfl, hz⟩; have HX := Lib.hid (HX.out.trans (hz.mono HX.out.size)); have q1 := HC.out _ HX.out; have q2 := HC2.out _ HX.out; clear hz)
                    refine wpAny_take (i := 19) (oi := ⟨some 61, _, _, _, _, _⟩) (v := ?_) rfl (by kernel_rfl) (by kernel_rfl) (by kernel_rfl) (fun _ _ _ h => h) (Or.inl ⟨by kernel_rfl, ?_⟩) ?_
                    rotate_left 1
                    · (intro w; go_simp); try (with_reducible rfl)
                    refine wpAny_take (i := 20) (oi := ⟨some 62, _, _, _, _, _⟩) (v := ?_) rfl (by kernel_rfl) (by kernel_rfl) (by kernel_rfl) (fun _ _ _ h => h) (Or.inl ⟨by kernel_rfl, ?_⟩) ?_
                    rotate_left 1
                    · (intro w; go_simp); try (with_reducible rfl)
                    refine wpAny_take (i := 21) (oi := ⟨some 63, _, _, _, _, _⟩) (v := ?_) rfl (by kernel_rfl) (by kernel_rfl) (by kernel_rfl) (fun _ _ _ h => h) (Or.inl ⟨by kernel_rfl, ?_⟩) ?_
                    rotate_left 1
                    · (intro w; go_simp); try (with_reducible rfl)
                    refine wpAny_done (by kernel_rfl) ?_ _
                    go_simp
                    clear d1 d2
                    go_wp2_with fail
                    go_roundw
                    case rel => exact ⟨i + 1, some b, by omega, by go_num, rfl, HB2', Lib.hid (HW.out.drew.trans (HX.out.mono HW.out.size))⟩
                    case measure => simp [intOf]; omega
                  refine AllReady.cons (o := ⟨some 59, _, _, _, _, _⟩) rfl (fun K hK => ?_) AllReady.nil
                  go_simp
                  refine hK _ _ ?_
                  clear hK K
                  refine wpAny_ready (rs := [12]) (by kernel_rfl) (by simp) ?_
                  refine AllReady.cons (o := ⟨some 54, _, _, _, _, _⟩) rfl (fun K hK => ?_) AllReady.nil
                  go_simp
                  refine hK _ _ ?_
                  clear hK K
                  refine wpAny_ready (rs := [13]) (by kernel_rfl) (by simp) ?_
                  refine AllReady.cons (o := ⟨some 55, _, _, _, _, _⟩) rfl (fun K hK => ?_) AllReady.nil
                  go_simp
                  go_wp2_with (go_at_call 25; refine (C1.out _).mono ?_; rintro e wz ⟨rfl, hz⟩; have HX := Lib.hid (HX.out.trans (hz.mono HX.out.size)); have q1 := HC.out _ HX.out; have q2 := HC2.out _ HX.out; clear hz)
                  refine wpAny_ready (rs := [18]) (by kernel_rfl) (by simp) ?_
                  refine AllReady.cons (o := ⟨some 60, _, _, _, _, _⟩) rfl (fun K hK => ?_) AllReady.nil
                  go_simp
                  go_wp2_with (go_at_call 25; refine (C2.out _).mono ?_; rintro e wz ⟨rfl, hz⟩; have HX := Lib.hid (HX.out.trans (hz.mono HX.out.size)); have q1 := HC.out _ HX.out; have q2 := HC2.out _ HX.out; clear hz)
                  refine wpAny_take (i := 19) (oi := ⟨some 61, _, _, _, _, _⟩) (v := ?_) rfl (by kernel_rfl) (by kernel_rfl) (by kernel_rfl) (fun _ _ _ h => h) (Or.inl ⟨by kernel_rfl, ?_⟩) ?_
                  rotate_left 1
                  · (intro w; go_simp); try (with_reducible rfl)
                  refine wpAny_take (i := 20) (oi := ⟨some 62, _, _, _, _, _⟩) (v := ?_) rfl (by kernel_rfl) (by kernel_rfl) (by kernel_rfl) (fun _ _ _ h => h) (Or.inl ⟨by kernel_rfl, ?_⟩) ?_
                  rotate_left 1
                  · (intro w; go_simp); try (with_reducible rfl)
                  refine wpAny_take (i := 21) (oi := ⟨some 63, _, _, _, _, _⟩) (v := ?_) rfl (by kernel_rfl) (by kernel_rfl) (by kernel_rfl) (fun _ _ _ h => h) (Or.inl ⟨by kernel_rfl, ?_⟩) ?_
                  rotate_left 1
                  · (intro w; go_simp); try (with_reducible rfl)
                  refine wpAny_done (by kernel_rfl) ?_ _
                  go_simp
                  clear d1 d2
                  go_wp2_with fail
                  go_roundw
                  case rel => exact ⟨i + 1, some b, by omega, by go_num, rfl, HB2', Lib.hid (HW.out.drew.trans (HX.out.mono HW.out.size))⟩
                  case measure => simp [intOf]; omega
          · have him : i = m := by omega
            subst him
            rcases o with _ | b
            · have htk := none_left HRise.out HUI.out (by rw [HN.out]; exact HB2.out)
              have hs := HSumR.out
              rw [htk, sumG_perm (byLen_perm l)] at hs
              have HEr : Hid (someErr 0 l k = 6) := Lib.hid (by unfold someErr; rw [if_pos rfl, if_pos (by omega)])
              have HOu : Hid (someOut 0 l k = []) := Lib.hid (by unfold someOut; rw [if_neg (by omega)])
              have HBF := Lib.hid (HB1.out.trans ((HBW.out.trans (HW.out.mono HBW.out.size)).mono HB1.out.size))
              rw [show bestI none = -1 from rfl]
              clear htk hs
              go_wp2_with fail
              go_ret2
              exact ⟨_, [], by rw [HEr.out]; rfl, FreshV.nil _ _, by rw [HOu.out]; exact stands_nil, HBF.out⟩
            · have hb := HB2.out.1
              obtain ⟨y, hy⟩ : ∃ y, xs[b]? = some y := ⟨_, List.getElem?_eq_getElem (by rw [HS1.out.1, HN.out]; omega)⟩
              obtain ⟨q, hq⟩ : ∃ q, l[b]? = some q := ⟨_, List.getElem?_eq_getElem (by rw [HN.out]; omega)⟩
              obtain ⟨y1, y2, rfl, f3, f4⟩ := HS1.out.2 b y q hy hq
              obtain ⟨e1, e2, _⟩ := HM.out q (List.mem_of_getElem? hq)
              have HNext := Lib.hid (best_next HRise.out HUI.out (by rw [HN.out]; exact HB2.out) hq)
              have HUse := Lib.hid (used_next HRise.out HUI.out hq HNext.out)
              have htm : t < i := by
                have h := (List.getElem?_eq_some_iff.1 HNext.out).1
                rw [(byLen_perm l).length_eq, HN.out] at h
                exact h
              have hsm : sumG ((byLen l).take t) + q.2 ≤ sumG l := by
                have h1 := sumG_take HNext.out
                have h2 := sumG_take_le (byLen l) (t + 1)
                rw [sumG_perm (byLen_perm l)] at h2
                omega
              have CS := Lib.hid (fun w => size05_any y1 y2 q.1 q.2 w f3 f4 (by omega) (by omega) (by omega))
              have hOw := owns_later HOW.out HW.out
              have hTw := owns_later HTK.out HW.out
              have hne := owns_ne hTw hOw (by decide)
              have hcu := hOw.cellAt b (by omega)
              rw [boolsV_at _ hb, HB2.out.2.1] at hcu
              have hfu := hOw.frozenAt b
              have hst := hOw.stored b (.bool true)
              have hbw : Below w1.heap.size w1 (wr.setCell ⟨g, b, none⟩ (.bool true)) := (HBW.out.trans (HW.out.mono HBW.out.size)).setCell (p := ⟨g, b, none⟩) HGB.out _
              have HO4 := Lib.hid hst.1
              have HT4 := Lib.hid (hTw.kept hst.2 hne)
              have HB4 := Lib.hid hbw
              have HV4 := Lib.hid (HV1.out.later hbw)
              have HY := Lib.hid hy
              obtain ⟨g4, og4, hg4, hc4⟩ := HV4.out.2.2.resolve_left (by omega)
              subst hg4
              have hcell4 := hc4 b _ hy
              have hsum := HSumR.out
              have hml : t + 1 ≤ i := by omega
              have k2 : (b : Int) < (i : Int) := by omega
              have HSet : Hid ((boolsV U i).set b (.bool true) = boolsV (fun k => if k = b then true else U k) i) := Lib.hid (boolsV_set U hb true)
              rw [show bestI (some b) = (b : Int) from rfl]
              obtain ⟨j1, j2⟩ : acc.length ≤ t ∧ t ≤ i := ⟨HAcc.out, by omega⟩
              clear hOw hTw hne hst hbw hc4 hq hy
              by_cases hbig : r < q.2
              · have hbig2 : (r : Int) < (q.2 : Int) := by omega
                have KB := Lib.hid (fun w => begin05_any y1 y2 q.1 q.2 r w f3 f4 e2 e1 (by omega))
                go_wp2_with fail
                refine (CS.out _).mono ?_
                rintro e w5 ⟨rfl, hb5⟩
                have HV5 := Lib.hid (HV4.out.later hb5)
                have hT5 := owns_later HT4.out hb5
                have hO5 := owns_later HO4.out hb5
                have HB5 := Lib.hid (HB4.out.trans (hb5.mono HB4.out.size))
                obtain ⟨g5, og5, hg5, hc5⟩ := HV5.out.2.2.resolve_left (by omega)
                simp only [Option.some.injEq, Addr.mk.injEq, and_true] at hg5
                obtain ⟨rfl, rfl⟩ := hg5
                have hcell5 := hc5 b _ HY.out
                have HT5 := Lib.hid hT5
                have HO5 := Lib.hid hO5
                clear hb5 hT5 hO5 hc5
                go_wp2_with fail
                refine (KB.out _).mono ?_
                rintro e w6 ⟨rfl, hb6⟩
                have HT6 := Lib.hid (owns_later HT5.out hb6)
                have HO6 := Lib.hid (owns_later HO5.out hb6)
                have HB6 := Lib.hid (HB5.out.trans (hb6.mono HB5.out.size))
                have HS6 : Hid (w1.heap.size ≤ w6.heap.size + 1) := Lib.hid (by have := HB6.out.size; omega)
                clear hb6
                go_wp2_with (at_builtin; refine wp_append_one_g elemComplex rfl (.tmp 79) (.tmp 86) rfl w1.heap.size acc.length _ _ rfl (HT6.out.alloc _) ⟨w6.heap.size, 0, none⟩ 1 _ rfl (one_cell_new _ _ _) rfl rfl (by omega) (by simpa using HS6.out) ?_; intro v7 w7 hown7 hg7; have HT7 := Lib.hid hown7; have HG7 := Lib.hid hg7; clear hown7 hg7)
                have HO7 := Lib.hid ((HO6.out.alloc (.cells #[.complex .f64 (floatOfInt .f64 (q.1 : Int)) (floatOfInt .f64 (r : Int))] 23)).kept HG7.out (owns_ne (HO6.out.alloc (.cells #[.complex .f64 (floatOfInt .f64 (q.1 : Int)) (floatOfInt .f64 (r : Int))] 23)) (HT6.out.alloc (.cells #[.complex .f64 (floatOfInt .f64 (q.1 : Int)) (floatOfInt .f64 (r : Int))] 23)) (by decide)))
                have HB7 : Hid (Below w1.heap.size w1 w7) := Lib.hid (below_grown (HB6.out.alloc HB6.out.size _) HG7.out (by simpa using HS6.out) (fun k hk => ((HT6.out.alloc (.cells #[.complex .f64 (floatOfInt .f64 (q.1 : Int)) (floatOfInt .f64 (r : Int))] 23)).lt k hk).1))
                go_roundw
                case rel =>
                  refine ⟨0, t + 1, acc ++ [(q.1, r)], _, by omega, by go_num, Lib.hid ⟨?_, fun h => by omega, fun _ => by omega, by rw [List.length_append]; simp; omega, hml, fun h => by omega, ?_, by have h := HO7.out; rw [HSet.out] at h; exact h, HB7.out⟩⟩
                  · rw [show cutAt ((byLen l).drop (t + 1)) 0 = [] from by cases (byLen l).drop (t + 1) <;> rfl, List.append_nil, ← HCut.out, cut_last HNext.out hr0 (by omega)]
                  · rw [List.length_append, List.map_append]
                    exact HT7.out
                case measure => simp [intOf]; omega
              · have hbig2 : ¬ (r : Int) < (q.2 : Int) := by omega
                have KB := Lib.hid (fun w => begin05_any y1 y2 q.1 q.2 q.2 w f3 f4 e2 e1 (by omega))
                go_wp2_with fail
                refine (CS.out _).mono ?_
                rintro e w5 ⟨rfl, hb5⟩
                have HV5 := Lib.hid (HV4.out.later hb5)
                have hT5 := owns_later HT4.out hb5
                have hO5 := owns_later HO4.out hb5
                have HB5 := Lib.hid (HB4.out.trans (hb5.mono HB4.out.size))
                obtain ⟨g5, og5, hg5, hc5⟩ := HV5.out.2.2.resolve_left (by omega)
                simp only [Option.some.injEq, Addr.mk.injEq, and_true] at hg5
                obtain ⟨rfl, rfl⟩ := hg5
                have hcell5 := hc5 b _ HY.out
                have HT5 := Lib.hid hT5
                have HO5 := Lib.hid hO5
                clear hb5 hT5 hO5 hc5
                go_wp2_with fail
                refine (KB.out _).mono ?_
                rintro e w6 ⟨rfl, hb6⟩
                have HT6 := Lib.hid (owns_later HT5.out hb6)
                have HO6 := Lib.hid (owns_later HO5.out hb6)
                have HB6 := Lib.hid (HB5.out.trans (hb6.mono HB5.out.size))
                have HS6 : Hid (w1.heap.size ≤ w6.heap.size + 1) := Lib.hid (by have := HB6.out.size; omega)
                clear hb6
                go_wp2_with (at_builtin; refine wp_append_one_g elemComplex rfl (.tmp 79) (.tmp 86) rfl w1.heap.size acc.length _ _ rfl (HT6.out.alloc _) ⟨w6.heap.size, 0, none⟩ 1 _ rfl (one_cell_new _ _ _) rfl rfl (by omega) (by simpa using HS6.out) ?_; intro v7 w7 hown7 hg7; have HT7 := Lib.hid hown7; have HG7 := Lib.hid hg7; clear hown7 hg7)
                have HO7 := Lib.hid ((HO6.out.alloc (.cells #[.complex .f64 (floatOfInt .f64 (q.1 : Int)) (floatOfInt .f64 (q.2 : Int))] 23)).kept HG7.out (owns_ne (HO6.out.alloc (.cells #[.complex .f64 (floatOfInt .f64 (q.1 : Int)) (floatOfInt .f64 (q.2 : Int))] 23)) (HT6.out.alloc (.cells #[.complex .f64 (floatOfInt .f64 (q.1 : Int)) (floatOfInt .f64 (q.2 : Int))] 23)) (by decide)))
                have HB7 : Hid (Below w1.heap.size w1 w7) := Lib.hid (below_grown (HB6.out.alloc HB6.out.size _) HG7.out (by simpa using HS6.out) (fun k hk => ((HT6.out.alloc (.cells #[.complex .f64 (floatOfInt .f64 (q.1 : Int)) (floatOfInt .f64 (q.2 : Int))] 23)).lt k hk).1))
                go_roundw
                case rel =>
                  refine ⟨r - q.2, t + 1, acc ++ [(q.1, q.2)], _, by omega, by go_num, Lib.hid ⟨?_, ?_, fun _ => by omega, by rw [List.length_append]; simp; omega, hml, fun _ => HUse.out, ?_, by have h := HO7.out; rw [HSet.out] at h; exact h, HB7.out⟩⟩
                  · by_cases he : q.2 = r
                    · rw [he, Nat.sub_self, show cutAt ((byLen l).drop (t + 1)) 0 = [] from by cases (byLen l).drop (t + 1) <;> rfl, List.append_nil, ← HCut.out, cut_last HNext.out hr0 (by omega)]
                    · rw [← HCut.out, cut_whole HNext.out hr0 (by omega), List.append_assoc]
                      rfl
                  · intro h
                    have h1 := sumG_take HNext.out
                    omega
                  · rw [List.length_append, List.map_append]
                    exact HT7.out
                case measure => simp [intOf]; omega
      · have hrz : r = 0 := by omega
        obtain ⟨i1, i2, i3, i4, i5, i6, i7, i8, i9⟩ := HP.out
        rw [hrz, show cutAt ((byLen l).drop t) 0 = [] from by cases (byLen l).drop t <;> rfl, List.append_nil] at i1
        have hks := i3 hrz
        have hsA : sumG acc = k := by rw [i1]; exact cut_sum _ _ (by rw [sumG_perm (byLen_perm l)]; exact hks)
        have HAcut := Lib.hid i1
        have HKS := Lib.hid hks
        obtain ⟨z, hz⟩ : ∃ z, acc.length = z := ⟨_, rfl⟩
        have hz0 : 0 < z := by
          rw [← hz]
          cases acc with
          | nil => have h : (0 : Nat) = k := hsA; omega
          | cons x y => simp
        have hzm : z ≤ m := by omega
        have SB : Hid (∀ p ∈ acc, p.1 + p.2 ≤ 480) := Lib.hid (fun p hp => by
          rw [i1] at hp
          obtain ⟨q, hq, e1, _, e3⟩ := cut_mem (byLen l) k (fun q hq => (HM.out q ((byLen_perm l).mem_iff.1 hq)).2.1) p hp
          have := (HM.out q ((byLen_perm l).mem_iff.1 hq)).1
          omega)
        rw [hz] at i7
        obtain ⟨gt, cp, hv, hgt, _⟩ := i7.form hz0
        have hcp : z ≤ cp := by
          rcases i7.2 with ⟨h, h'⟩ | ⟨g', cap', cur, h, _, _, hc, _⟩
          · omega
          · rw [hv] at h
            simp only [Value.slice.injEq, Option.some.injEq, Addr.mk.injEq, and_true, true_and] at h
            omega
        rw [hv] at i7
        have HZ := Lib.hid hz
        have HGT := Lib.hid hgt
        have HS0 : Hid (∃ T : List (Nat × Nat), T.Perm acc ∧ SortedTo T 0 ∧ wr.ownsRow w1.heap.size 23 1 (.slice (some ⟨gt, 0, none⟩) z cp) z (T.map cV) ∧ Below w1.heap.size w1 wr) := Lib.hid ⟨acc, List.Perm.refl _, fun a b p q _ h => by omega, i7, i9⟩
        rw [hv]
        clear i1 i2 i3 i4 i5 i6 i7 i8 i9 hks hsA hz hgt hv HP
        subst hrz
        rw [show (((0 : Nat) : Int)) = 0 from rfl]
        go_wp2_with fail
        go_loopw [17] (fun iv wr => ∃ i : Nat, i ≤ z ∧ iv = .int .i64 i ∧ Hid (∃ T : List (Nat × Nat), T.Perm acc ∧ SortedTo T i ∧ wr.ownsRow w1.heap.size 23 1 (.slice (some ⟨gt, 0, none⟩) z cp) z (T.map cV) ∧ Below w1.heap.size w1 wr)) (fun iv _ => z - (intOf iv).toNat)
        case atStart => exact ⟨0, Nat.zero_le _, rfl, HS0⟩
        case round =>
          obtain ⟨i, hi, rfl, HT⟩ := hrel
          by_cases hlt : i < z
          · have HT2 : Hid (∃ T : List (Nat × Nat), T.Perm acc ∧ NearSorted T i i ∧ wr.ownsRow w1.heap.size 23 1 (.slice (some ⟨gt, 0, none⟩) z cp) z (T.map cV) ∧ Below w1.heap.size w1 wr) := Lib.hid (by
              obtain ⟨T, t1, t2, t3, t4⟩ := HT.out
              exact ⟨T, t1, near_of T t2, t3, t4⟩)
            have j2 : (i : Int) < (z : Int) := by omega
            go_wp2_with fail
            go_loopw [18] (fun kv wr => ∃ kk : Nat, kk ≤ i ∧ kv = .int .i64 kk ∧ Hid (∃ T : List (Nat × Nat), T.Perm acc ∧ NearSorted T i kk ∧ wr.ownsRow w1.heap.size 23 1 (.slice (some ⟨gt, 0, none⟩) z cp) z (T.map cV) ∧ Below w1.heap.size w1 wr)) (fun kv _ => (intOf kv).toNat)
            case atStart => exact ⟨i, Nat.le_refl _, rfl, HT2⟩
            case round =>
              obtain ⟨kk, hkk, rfl, HK⟩ := hrel
              obtain ⟨T, t1, t2, t3, t4⟩ := HK.out
              have hTl : T.length = z := by rw [t1.length_eq, HZ.out]
              have HPerm := Lib.hid t1
              have HNear := Lib.hid t2
              have HOwn := Lib.hid t3
              have HBel := Lib.hid t4
              have HTl := Lib.hid hTl
              rcases Nat.eq_zero_or_pos kk with h0 | h0
              · have HDone : Hid (∀ nq, ∃ T : List (Nat × Nat), T.Perm acc ∧ SortedTo T (i + 1) ∧ (wr.drewN nq).ownsRow w1.heap.size 23 1 (.slice (some ⟨gt, 0, none⟩) z cp) z (T.map cV) ∧ Below w1.heap.size w1 (wr.drewN nq)) := Lib.hid (fun nq => ⟨T, HPerm.out, near_done HNear.out (Or.inl h0), owns_later HOwn.out (below_drewN (Below.refl _ _) nq), below_drewN HBel.out nq⟩)
                have d1 : decide (0 < kk) = false := by rw [h0]; rfl
                clear t1 t2 t3 t4 hTl h0
                go_wp2_with fail
                go_quiet (fail)
                clear d1
                go_wp2_with fail
                go_roundw
                case rel => exact ⟨i + 1, by omega, by go_num, Lib.hid (HDone.out _)⟩
                case measure => simp [intOf]; omega
              · obtain ⟨kp, hkp⟩ : ∃ kp, kk = kp + 1 := ⟨kk - 1, by omega⟩
                obtain ⟨p, hp⟩ : ∃ p, T[kk - 1]? = some p := ⟨_, List.getElem?_eq_getElem (by omega)⟩
                obtain ⟨q, hq⟩ : ∃ q, T[kk]? = some q := ⟨_, List.getElem?_eq_getElem (by omega)⟩
                have ekp : kk - 1 = kp := by omega
                have HCp : Hid (∀ nq, (wr.drewN nq).cell? ⟨gt, kp, none⟩ = some (.complex .f64 (floatOfInt .f64 (p.1 : Int)) (floatOfInt .f64 (p.2 : Int)))) := Lib.hid (fun nq => by
                  have h := (owns_later HOwn.out (below_drewN (Below.refl _ _) nq)).cellAt kp (by omega)
                  rw [List.getElem?_map, ← ekp, hp] at h
                  rw [← ekp]
                  exact h)
                have HCq : Hid (∀ nq, (wr.drewN nq).cell? ⟨gt, kk, none⟩ = some (.complex .f64 (floatOfInt .f64 (q.1 : Int)) (floatOfInt .f64 (q.2 : Int)))) := Lib.hid (fun nq => by
                  have h := (owns_later HOwn.out (below_drewN (Below.refl _ _) nq)).cellAt kk (by omega)
                  rw [List.getElem?_map, hq] at h
                  exact h)
                have bp := SB.out p (HPerm.out.mem_iff.1 (List.mem_of_getElem? hp))
                have bq := SB.out q (HPerm.out.mem_iff.1 (List.mem_of_getElem? hq))
                have c1 : wr.cell? ⟨gt, kp, none⟩ = _ := HCp.out 0
                have c2 : wr.cell? ⟨gt, kk, none⟩ = _ := HCq.out 0
                have d1 : decide (0 < kk) = true := by simpa using h0
                have hw : IntKind.i64.wrap ((kk : Int) - 1) = (kp : Int) := by rw [IntWalk.i64_in _ (by omega)]; omega
                have j3 : (kk : Int) < (z : Int) := by omega
                have j4 : (kp : Int) < (z : Int) := by omega
                have HP' := Lib.hid hp
                have HQ' := Lib.hid hq
                have HKP := Lib.hid hkp
                by_cases hlt2 : q.1 < p.1
                · have o1 := fi_lt (fi_ofInt (q.1 : Int) (by omega)) (fi_ofInt (p.1 : Int) (by omega)) (by omega)
                  clear t1 t2 t3 t4 hTl hp hq hkp ekp h0
                  go_wp2_with fail
                  go_quiet (fail)
                  clear d1 o1
                  go_wp2_with fail
                  have g1 := HCp.out nq
                  have g2 := HCq.out nq
                  have hOn := owns_later HOwn.out (below_drewN (Below.refl _ _) nq)
                  have HBn := Lib.hid (below_drewN HBel.out nq)
                  have z1 := hOn.frozenAt kp
                  have z2 := hOn.frozenAt kk
                  have HOn := Lib.hid hOn
                  clear c1 c2 hOn
                  generalize wr.drewN nq = wx at *
                  have hne : ¬ kp = kk := by have := HKP.out; omega
                  have g3 : wx.drew.cell? ⟨gt, kp, none⟩ = some (.complex .f64 (floatOfInt .f64 (p.1 : Int)) (floatOfInt .f64 (p.2 : Int))) := g1
                  have g4 : wx.drew.cell? ⟨gt, kk, none⟩ = some (.complex .f64 (floatOfInt .f64 (q.1 : Int)) (floatOfInt .f64 (q.2 : Int))) := g2
                  have z3 : wx.drew.frozen? ⟨gt, kp, none⟩ = false := z1
                  have z4 : wx.drew.frozen? ⟨gt, kk, none⟩ = false := z2
                  have g5 : (wx.drew.setCell ⟨gt, kk, none⟩ (.complex .f64 (floatOfInt .f64 (p.1 : Int)) (floatOfInt .f64 (p.2 : Int)))).cell? ⟨gt, kp, none⟩ = some (.complex .f64 (floatOfInt .f64 (p.1 : Int)) (floatOfInt .f64 (p.2 : Int))) := by
                    rw [World.cell?_setCell_other (h := by intro e; apply hne; simpa using e.symm)]; exact g3
                  have z5 : (wx.drew.setCell ⟨gt, kk, none⟩ (.complex .f64 (floatOfInt .f64 (p.1 : Int)) (floatOfInt .f64 (p.2 : Int)))).frozen? ⟨gt, kp, none⟩ = false := by
                    rw [World.frozen?_setCell]; exact z3
                  have HNext : Hid (∃ T : List (Nat × Nat), T.Perm acc ∧ NearSorted T i kp ∧ ((wx.drew.setCell ⟨gt, kk, none⟩ (.complex .f64 (floatOfInt .f64 (p.1 : Int)) (floatOfInt .f64 (p.2 : Int)))).setCell ⟨gt, kp, none⟩ (.complex .f64 (floatOfInt .f64 (q.1 : Int)) (floatOfInt .f64 (q.2 : Int)))).ownsRow w1.heap.size 23 1 (.slice (some ⟨gt, 0, none⟩) z cp) z (T.map cV) ∧
                      Below w1.heap.size w1 ((wx.drew.setCell ⟨gt, kk, none⟩ (.complex .f64 (floatOfInt .f64 (p.1 : Int)) (floatOfInt .f64 (p.2 : Int)))).setCell ⟨gt, kp, none⟩ (.complex .f64 (floatOfInt .f64 (q.1 : Int)) (floatOfInt .f64 (q.2 : Int))))) := Lib.hid (by
                    have ek : kk - 1 = kp := by have := HKP.out; omega
                    refine ⟨swapAt T kk p q, (swap_perm (by omega) HP'.out HQ'.out).trans HPerm.out, by rw [← ek]; exact near_swap (by omega) hkk HNear.out HP'.out HQ'.out hlt2, ?_, ((HBn.out.drew.setCell (p := ⟨gt, kk, none⟩) HGT.out _).setCell (p := ⟨gt, kp, none⟩) HGT.out _)⟩
                    have s1 := (HOn.out.drew.stored kk (cV p)).1
                    have s2 := (s1.stored kp (cV q)).1
                    unfold swapAt
                    rw [List.map_set, List.map_set, ek]
                    exact s2)
                  have hkz : (kk : Int) - 1 = (kp : Int) := by have := HKP.out; omega
                  have HKZ := Lib.hid hkz
                  have hs1 : (store ⟨gt, kk, none⟩ (.complex .f64 (floatOfInt .f64 (p.1 : Int)) (floatOfInt .f64 (p.2 : Int)))).run Try.prog wx.drew = .ok () (wx.drew.setCell ⟨gt, kk, none⟩ (.complex .f64 (floatOfInt .f64 (p.1 : Int)) (floatOfInt .f64 (p.2 : Int)))) := by
                    rw [run_store Try.prog wx.drew _ _ _ rfl, g4]
                    simp [z4]
                  have hs2 : (store ⟨gt, kp, none⟩ (.complex .f64 (floatOfInt .f64 (q.1 : Int)) (floatOfInt .f64 (q.2 : Int)))).run Try.prog (wx.drew.setCell ⟨gt, kk, none⟩ (.complex .f64 (floatOfInt .f64 (p.1 : Int)) (floatOfInt .f64 (p.2 : Int)))) = .ok () ((wx.drew.setCell ⟨gt, kk, none⟩ (.complex .f64 (floatOfInt .f64 (p.1 : Int)) (floatOfInt .f64 (p.2 : Int)))).setCell ⟨gt, kp, none⟩ (.complex .f64 (floatOfInt .f64 (q.1 : Int)) (floatOfInt .f64 (q.2 : Int)))) := by
                    rw [run_store Try.prog _ _ _ _ rfl, g5]
                    simp [z5]
                  rw [World.setCell_drew] at g5 z5 hs1
                  rw [World.setCell_drew, World.setCell_drew] at hs2 HNext
                  clear g1 g2 z1 z2 hkz
                  go_region
                  all_goals
                    clear hw g3 g4 g5 z3 z4 z5 hne hs1 hs2
                    go_wp2_with fail
                    go_roundw
                    case rel => exact ⟨kp, by have := HKP.out; omega, by rw [HKZ.out], HNext⟩
                    case measure => simp [intOf]; have := HKP.out; omega
                · have HDone : Hid (∀ nq, ∃ T : List (Nat × Nat), T.Perm acc ∧ SortedTo T (i + 1) ∧ (wr.drewN nq).ownsRow w1.heap.size 23 1 (.slice (some ⟨gt, 0, none⟩) z cp) z (T.map cV) ∧ Below w1.heap.size w1 (wr.drewN nq)) := Lib.hid (fun nq => ⟨T, HPerm.out, near_done HNear.out (Or.inr (fun a b ha hb => by rw [hp] at ha; rw [hq] at hb; cases ha; cases hb; omega)), owns_later HOwn.out (below_drewN (Below.refl _ _) nq), below_drewN HBel.out nq⟩)
                  have o1 : (FloatKind.f64.format.order (floatOfInt .f64 (q.1 : Int)) (floatOfInt .f64 (p.1 : Int)) == some .lt) = false := by
                    rw [fi_order (fi_ofInt (q.1 : Int) (by omega)) (fi_ofInt (p.1 : Int) (by omega))]
                    rcases Nat.lt_or_eq_of_le (Nat.le_of_not_lt hlt2) with h | h
                    · rw [compare_gt (by omega)]; rfl
                    · rw [h, compare_eq]; rfl
                  clear t1 t2 t3 t4 hTl hp hq hkp ekp h0
                  go_wp2_with fail
                  go_quiet (fail)
                  clear d1 o1
                  go_wp2_with fail
                  go_roundw
                  case rel => exact ⟨i + 1, by omega, by go_num, Lib.hid (HDone.out _)⟩
                  case measure => simp [intOf]; omega
          · have hiz : i = z := by omega
            obtain ⟨T, t1, t2, t3, t4⟩ := HT.out
            have hTl : T.length = z := by rw [t1.length_eq, HZ.out]
            have hTs : T = someOf l k := sorted_some HRise.out (by rw [← HAcut.out]; exact t1) (by rw [hTl, ← hiz]; exact t2)
            have HEr : Hid (someErr 0 l k = 0) := Lib.hid (by have := HKS.out; unfold someErr; rw [if_pos rfl, if_neg (by omega)])
            have HOu : Hid (someOut 0 l k = T) := Lib.hid (by unfold someOut; rw [if_pos ⟨rfl, HKS.out⟩, hTs])
            have HFr := Lib.hid (owns_vals t3 (by omega))
            have HBF := Lib.hid (HB1.out.trans (t4.mono HB1.out.size))
            have HTB : Hid (∀ p ∈ T, p.1 + p.2 ≤ 480) := Lib.hid (fun p hp => SB.out p (t1.mem_iff.1 hp))
            clear t1 t2 t3 t4 hTl hTs
            subst hiz
            go_wp2_with fail
            go_ret2
            exact ⟨_, T.map cV, by rw [HEr.out]; rfl, HFr.out.mono HB1.out.size, by rw [HOu.out]; exact stands_cV HTB.out, HBF.out⟩
  · have hne : (E != 0) = true := by simp; exact hE
    have HPe : Hid (someErr E l n.toNat = E) := Lib.hid (by unfold someErr; rw [if_neg hE])
    have HPo : Hid (someOut E l n.toNat = []) := Lib.hid (by unfold someOut; rw [if_neg (fun h => hE h.1)])
    clear hE hok hp hq
    go_enter Try.func15, Try.ntmps15
    go_wp2_with fail
    refine c.mono ?_
    rintro e w1 ⟨v1, xs, rfl, hf1, hs1, hb1⟩
    have HB1 := Lib.hid hb1
    obtain ⟨ao1, c1, hv1, _, _, _⟩ := hf1
    rw [hv1]
    clear hv1 hs1 hb1 c
    go_wp2_with fail
    go_ret2
    exact ⟨_, [], by rw [HPe.out]; rfl, FreshV.nil _ _, by rw [HPo.out]; exact stands_nil, HB1.out⟩

end Go.Proofs.Ytfhfjnfejcggcaa
