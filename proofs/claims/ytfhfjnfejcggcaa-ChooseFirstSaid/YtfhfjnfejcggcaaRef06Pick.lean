/-
  Proved here: what the document's own reckoning of the gaps that are chosen (drydockref05: First, Tight) answers.
  The conditions stand at each theorem.
-/
import Derived.Test.YtfhfjnfejcggcaaRef06
import Derived.Test.YtfhfjnfejcggcaaPick
import Derived.Deep.RegionWith
namespace Go.Proofs.Ytfhfjnfejcggcaa
open Go.RowKit

/-- A call that hands back one run and an error's number, and makes new memory alone. -/
def HandedRun (base : Nat) (w0 : World) (p : Nat × Nat) (err : Int) (e : Ending) (w' : World) : Prop :=
  ∃ x y, e = .returned (.tuple #[.complex .f64 x y, .int .i64 err]) ∧ FI x (p.1 : Int) ∧ FI y (p.2 : Int) ∧ Below base w0 w'

theorem gap_ok {len : Nat} {n lo hi : Int} (h : gapErr len n lo hi = 0) : 1 ≤ n ∧ n ≤ 480 := by
  unfold gapErr at h
  by_cases h1 : downErr len lo hi = 0
  · rw [if_neg (by simp [h1])] at h
    by_cases h2 : n < 1 ∨ 480 < n
    · rw [if_pos h2] at h; exact absurd h (by decide)
    · omega
  · rw [if_pos h1] at h; exact absurd h h1

set_option maxRecDepth 100000 in
set_option maxHeartbeats 800000 in
theorem First05_any (ao : Option Addr) (len cap : Nat) (zs : List Int) (n p q : Int) (w : World) (hA : Arg w ao len cap zs) (hp : -9223372036854775808 ≤ p ∧ p ≤ 9223372036854775807) (hq : -9223372036854775808 ≤ q ∧ q ≤ 9223372036854775807) :
    Calls Try.prog 10 #[.slice ao len cap, .int .i64 n, .int .i64 p, .int .i64 q] w
      (HandedRun w.heap.size w (pickOut (gapErr len n p q) (firstGap (downOut zs p q) n.toNat) n.toNat) (pickErr (gapErr len n p q) (firstGap (downOut zs p q) n.toNat))) := by
  have c := Gaps05_any ao len cap zs n p q w hA hp hq
  have HM := Lib.hid (down_bound (zs := zs) (lo := p) (hi := q))
  have hlen := down_length zs p q
  have hok := gap_ok (len := len) (n := n) (lo := p) (hi := q)
  clear hA
  generalize downOut zs p q = l at *
  generalize gapErr len n p q = E at *
  by_cases hE : E = 0
  · obtain ⟨hn1, hn2⟩ := hok hE
    obtain ⟨k, hk⟩ : ∃ k : Nat, n = k := ⟨n.toNat, by omega⟩
    subst hk
    rw [hE] at c ⊢
    rw [show Int.toNat (k : Int) = k by omega]
    obtain ⟨m, hm⟩ : ∃ m, l.length = m := ⟨_, rfl⟩
    rw [hm] at hlen
    have HN := Lib.hid hm
    have hk1 : 1 ≤ k := by omega
    clear hE hok hm hp hq
    go_enter Try.func10, Try.ntmps10
    go_wp2_with fail
    refine c.mono ?_
    rintro e w1 ⟨v1, xs, rfl, hf1, hs1, hb1⟩
    have HB1 := Lib.hid hb1
    have HS1 := Lib.hid hs1
    obtain ⟨ao1, c1, hv1, hV1, _, _⟩ := hf1
    rw [hs1.1, HN.out] at hv1 hV1
    have HV1 := Lib.hid hV1
    rw [hv1]
    clear hv1 hV1 hs1 hb1 c
    go_wp2_with fail
    have HW0 : Hid (Below w1.heap.size w1 w1) := Lib.hid (Below.refl _ _)
    go_loopw [12] (fun iv wr => ∃ i : Nat, i ≤ m ∧ iv = .int .i64 i ∧ Hid (∀ (j : Nat) (p : Nat × Nat), j < i → l[j]? = some p → p.2 < k) ∧ Hid (Below w1.heap.size w1 wr)) (fun iv _ => m - (intOf iv).toNat)
    case atStart => exact ⟨0, Nat.zero_le _, rfl, Lib.hid (fun j p h => by omega), HW0⟩
    case round =>
      obtain ⟨i, hi, rfl, HJ, HW⟩ := hrel
      by_cases hlt : i < m
      · have hV := HV1.out.later HW.out
        obtain ⟨g, og, hg, hc⟩ := hV.2.2.resolve_left (by omega)
        subst hg
        obtain ⟨x, hx⟩ : ∃ x, xs[i]? = some x := ⟨_, List.getElem?_eq_getElem (by rw [HS1.out.1, HN.out]; exact hlt)⟩
        obtain ⟨p, hp⟩ : ∃ p, l[i]? = some p := ⟨_, List.getElem?_eq_getElem (by rw [HN.out]; exact hlt)⟩
        have hcell := hc i x hx
        obtain ⟨x1, x2, rfl, f1, f2⟩ := HS1.out.2 i x p hx hp
        obtain ⟨b1, b2, _⟩ := HM.out p (List.mem_of_getElem? hp)
        have cS := size05_any x1 x2 p.1 p.2 wr f1 f2 (by omega) (by omega) (by omega)
        have CB := Lib.hid (fun w => begin05_any x1 x2 p.1 p.2 k w f1 f2 b2 b1 hk1)
        have HC : Hid (∀ w', Below wr.heap.size wr w' → w'.cell? ⟨g, og + i, none⟩ = some (.complex .f64 x1 x2)) := Lib.hid (fun w' h => cell_later h hcell)
        have HP := Lib.hid hp
        have i2 : (i : Int) < (m : Int) := by omega
        clear hV hc hx f1 f2 hp
        by_cases hbig : k ≤ p.2
        · have HF : Hid (firstGap l k = some p) := Lib.hid (first_some (i := i) HJ.out HP.out hbig)
          have i3 : (k : Int) ≤ (p.2 : Int) := by omega
          go_wp2_with fail
          refine cS.mono ?_
          rintro e w2 ⟨rfl, hb2⟩
          have hcell2 := HC.out w2 hb2
          have HB2 := Lib.hid (HB1.out.trans ((HW.out.trans (hb2.mono HW.out.size)).mono HB1.out.size))
          clear hb2
          go_wp2_with fail
          refine (CB.out _).mono ?_
          rintro e w3 ⟨rfl, hb3⟩
          have HB3 := Lib.hid (HB2.out.trans (hb3.mono HB2.out.size))
          clear hb3
          go_wp2_with fail
          go_ret2
          rw [HF.out]
          exact ⟨_, _, rfl, fi_ofInt _ (by show (p.1 : Int).natAbs < _; omega), fi_ofInt _ (by show (k : Int).natAbs < _; omega), HB3.out⟩
        · have i3 : (p.2 : Int) < (k : Int) := by omega
          have HJ2 : Hid (∀ (j : Nat) (p : Nat × Nat), j < i + 1 → l[j]? = some p → p.2 < k) := Lib.hid (fun j q hj hq => by
            by_cases e : j = i
            · rw [e, HP.out] at hq
              cases hq
              omega
            · exact HJ.out j q (by omega) hq)
          go_wp2_with fail
          refine cS.mono ?_
          rintro e w2 ⟨rfl, hb2⟩
          have HW2 := Lib.hid (HW.out.trans (hb2.mono HW.out.size))
          clear hb2
          go_wp2_with fail
          go_roundw
          case rel => exact ⟨i + 1, by omega, by go_num, HJ2, HW2⟩
          case measure => simp [intOf]; omega
      · have him : i = m := by omega
        have HF : Hid (firstGap l k = none) := Lib.hid (first_none (fun j p hj => HJ.out j p (by have := (List.getElem?_eq_some_iff.1 hj).1; rw [HN.out] at this; omega) hj))
        subst him
        go_wp2_with fail
        go_ret2
        rw [HF.out]
        exact ⟨_, _, rfl, fi_zero, fi_zero, HB1.out.trans (HW.out.mono HB1.out.size)⟩
  · have hne : (E != 0) = true := by simp; exact hE
    have HP : Hid (pickErr E (firstGap l n.toNat) = E) := Lib.hid (by unfold pickErr; rw [if_neg hE])
    have HP2 : Hid (pickOut E (firstGap l n.toNat) n.toNat = (0, 0)) := Lib.hid (by unfold pickOut; rw [if_neg hE])
    clear hE hok hp hq
    go_enter Try.func10, Try.ntmps10
    go_wp2_with fail
    refine c.mono ?_
    rintro e w1 ⟨v1, xs, rfl, hf1, hs1, hb1⟩
    have HB1 := Lib.hid hb1
    obtain ⟨ao1, c1, hv1, _, _, _⟩ := hf1
    rw [hv1]
    clear hv1 hs1 hb1 c
    go_wp2_with fail
    go_ret2
    rw [HP.out, HP2.out]
    exact ⟨_, _, rfl, fi_zero, fi_zero, HB1.out⟩

/-- Where the best one lies; none: -1. -/
def bestI : Option Nat → Int
  | none => -1
  | some b => (b : Int)

set_option maxRecDepth 100000 in
set_option maxHeartbeats 6400000 in
theorem Tight05_any (ao : Option Addr) (len cap : Nat) (zs : List Int) (n p q : Int) (w : World) (hA : Arg w ao len cap zs) (hp : -9223372036854775808 ≤ p ∧ p ≤ 9223372036854775807) (hq : -9223372036854775808 ≤ q ∧ q ≤ 9223372036854775807) :
    Calls Try.prog 13 #[.slice ao len cap, .int .i64 n, .int .i64 p, .int .i64 q] w
      (HandedRun w.heap.size w (pickOut (gapErr len n p q) (tightGap (downOut zs p q) n.toNat) n.toNat) (pickErr (gapErr len n p q) (tightGap (downOut zs p q) n.toNat))) := by
  have c := Gaps05_any ao len cap zs n p q w hA hp hq
  have HM := Lib.hid (down_bound (zs := zs) (lo := p) (hi := q))
  have hlen := down_length zs p q
  have hok := gap_ok (len := len) (n := n) (lo := p) (hi := q)
  clear hA
  generalize downOut zs p q = l at *
  generalize gapErr len n p q = E at *
  by_cases hE : E = 0
  · obtain ⟨hn1, hn2⟩ := hok hE
    obtain ⟨k, hk⟩ : ∃ k : Nat, n = k := ⟨n.toNat, by omega⟩
    subst hk
    rw [hE] at c ⊢
    rw [show Int.toNat (k : Int) = k by omega]
    obtain ⟨m, hm⟩ : ∃ m, l.length = m := ⟨_, rfl⟩
    rw [hm] at hlen
    have HN := Lib.hid hm
    have hk1 : 1 ≤ k := by omega
    clear hE hok hm hp hq
    go_enter Try.func13, Try.ntmps13
    go_wp2_with fail
    refine c.mono ?_
    rintro e w1 ⟨v1, xs, rfl, hf1, hs1, hb1⟩
    have HB1 := Lib.hid hb1
    have HS1 := Lib.hid hs1
    obtain ⟨ao1, c1, hv1, hV1, _, _⟩ := hf1
    rw [hs1.1, HN.out] at hv1 hV1
    have HV1 := Lib.hid hV1
    rw [hv1]
    clear hv1 hV1 hs1 hb1 c
    go_wp2_with fail
    have HW0 : Hid (Below w1.heap.size w1 w1) := Lib.hid (Below.refl _ _)
    go_loopw [12, 13] (fun bv iv wr => ∃ (i : Nat) (o : Option Nat), i ≤ m ∧ iv = .int .i64 i ∧ bv = .int .i64 (bestI o) ∧ Hid (∀ b, o = some b → b < i) ∧ Hid (tightGap (l.take i) k = o.bind fun b => l[b]?) ∧ Hid (Below w1.heap.size w1 wr)) (fun _ iv _ => m - (intOf iv).toNat)
    case atStart => exact ⟨0, none, Nat.zero_le _, rfl, rfl, Lib.hid (fun b h => by cases h), Lib.hid rfl, HW0⟩
    case round =>
      obtain ⟨i, o, hi, rfl, rfl, HO, HT, HW⟩ := hrel
      by_cases hlt : i < m
      · have hV := HV1.out.later HW.out
        obtain ⟨g, og, hg, hc⟩ := hV.2.2.resolve_left (by omega)
        subst hg
        obtain ⟨x, hx⟩ : ∃ x, xs[i]? = some x := ⟨_, List.getElem?_eq_getElem (by rw [HS1.out.1, HN.out]; exact hlt)⟩
        obtain ⟨p, hp⟩ : ∃ p, l[i]? = some p := ⟨_, List.getElem?_eq_getElem (by rw [HN.out]; exact hlt)⟩
        have hcell : wr.drew.cell? ⟨g, og + i, none⟩ = _ := hc i x hx
        obtain ⟨x1, x2, rfl, f1, f2⟩ := HS1.out.2 i x p hx hp
        obtain ⟨b1, b2, _⟩ := HM.out p (List.mem_of_getElem? hp)
        have C1 := Lib.hid (fun w => size05_any x1 x2 p.1 p.2 w f1 f2 (by omega) (by omega) (by omega))
        have HC : Hid (∀ w', Below wr.drew.heap.size wr.drew w' → w'.cell? ⟨g, og + i, none⟩ = some (.complex .f64 x1 x2)) := Lib.hid (fun w' h => cell_later h hcell)
        have HTN : Hid (tightGap (l.take (i + 1)) k = tighter k (o.bind fun b => l[b]?) p) := Lib.hid (by rw [tight_snoc hp, HT.out])
        have HP := Lib.hid hp
        have HX : Hid (Below wr.drew.heap.size wr.drew wr.drew) := Lib.hid (Below.refl _ _)
        have i2 : (i : Int) < (m : Int) := by omega
        clear f1 f2 hp hx
        by_cases hbig : k ≤ p.2
        · have d1 : decide (k ≤ p.2) = true := by simpa using hbig
          rcases o with _ | b
          · have HTN2 : Hid (tightGap (l.take (i + 1)) k = (some i).bind fun b => l[b]?) := Lib.hid (by
              rw [HTN.out]
              show (if k ≤ p.2 then some p else none) = l[i]?
              rw [if_pos hbig, HP.out])
            rw [show bestI none = -1 from rfl]
            clear hV hc
            go_wp2_with fail
            refine wp_region_any (by kernel_rfl) ?_
            try (change wpAny _ _ _ _ _ _ _ (World.drew _))
            refine wpAny_take (i := 0) (oi := ⟨some 31, _, _, _, _, _⟩) (v := ?_) rfl (by kernel_rfl) (by kernel_rfl) (by kernel_rfl) (fun _ _ _ h => h) (Or.inl ⟨by kernel_rfl, ?_⟩) ?_
            rotate_left 1
            · (intro w; go_simp); try (with_reducible rfl)
            refine wpAny_take (i := 1) (oi := ⟨some 32, _, _, _, _, _⟩) (v := ?_) rfl (by kernel_rfl) (by kernel_rfl) (by kernel_rfl) (fun _ _ _ h => h) (Or.inl ⟨by kernel_rfl, ?_⟩) ?_
            rotate_left 1
            · (intro w; go_simp); try (with_reducible rfl)
            refine wpAny_take (i := 2) (oi := ⟨some 33, _, _, _, _, _⟩) (v := ?_) rfl (by kernel_rfl) (by kernel_rfl) (by kernel_rfl) (fun _ _ _ h => h) (Or.inl ⟨by kernel_rfl, ?_⟩) ?_
            rotate_left 1
            · (intro w; go_simp); try (with_reducible rfl)
            refine wpAny_take (i := 5) (oi := ⟨some 36, _, _, _, _, _⟩) (v := ?_) rfl (by kernel_rfl) (by kernel_rfl) (by kernel_rfl) (fun _ _ _ h => h) (Or.inl ⟨by kernel_rfl, ?_⟩) ?_
            rotate_left 1
            · (intro w; go_simp); try (with_reducible rfl)
            refine wpAny_ready (rs := [3]) (by kernel_rfl) (by simp) ?_
            refine AllReady.cons (o := ⟨some 34, _, _, _, _, _⟩) rfl (fun K hK => ?_) AllReady.nil
            go_simp
            refine hK _ _ ?_
            clear hK K
            refine wpAny_ready (rs := [4]) (by kernel_rfl) (by simp) ?_
            refine AllReady.cons (o := ⟨some 35, _, _, _, _, _⟩) rfl (fun K hK => ?_) AllReady.nil
            go_simp
            go_wp2_with (go_at_call 25; refine (C1.out _).mono ?_; rintro e wz ⟨rfl, hz⟩; have HX := Lib.hid (HX.out.trans (hz.mono HX.out.size)); clear hz)
            refine wpAny_take (i := 6) (oi := ⟨some 37, _, _, _, _, _⟩) (v := ?_) rfl (by kernel_rfl) (by kernel_rfl) (by kernel_rfl) (fun _ _ _ h => h) (Or.inl ⟨by kernel_rfl, ?_⟩) ?_
            rotate_left 1
            · (intro w; go_simp); try (with_reducible rfl)
            refine wpAny_take (i := 7) (oi := ⟨some 38, _, _, _, _, _⟩) (v := ?_) rfl (by kernel_rfl) (by kernel_rfl) (by kernel_rfl) (fun _ _ _ h => h) (Or.inl ⟨by kernel_rfl, ?_⟩) ?_
            rotate_left 1
            · (intro w; go_simp); try (with_reducible rfl)
            refine wpAny_take (i := 8) (oi := ⟨some 39, _, _, _, _, _⟩) (v := ?_) rfl (by kernel_rfl) (by kernel_rfl) (by kernel_rfl) (fun _ _ _ h => h) (Or.inl ⟨by kernel_rfl, ?_⟩) ?_
            rotate_left 1
            · (intro w; go_simp); try (with_reducible rfl)
            refine wpAny_take (i := 9) (oi := ⟨some 40, _, _, _, _, _⟩) (v := ?_) rfl (by kernel_rfl) (by kernel_rfl) (by kernel_rfl) (fun _ _ _ h => h) (Or.inl ⟨by kernel_rfl, ?_⟩) ?_
            rotate_left 1
            · (intro w; go_simp); try (with_reducible rfl)
            refine wpAny_take (i := 10) (oi := ⟨some 41, _, _, _, _, _⟩) (v := ?_) rfl (by kernel_rfl) (by kernel_rfl) (by kernel_rfl) (fun _ _ _ h => h) (Or.inl ⟨by kernel_rfl, ?_⟩) ?_
            rotate_left 1
            · (intro w; go_simp); try (with_reducible rfl)
            refine wpAny_take (i := 11) (oi := ⟨some 42, _, _, _, _, _⟩) (v := undef) rfl (by kernel_rfl) (by kernel_rfl) (by kernel_rfl) (fun _ _ _ h => h) (Or.inr ⟨by kernel_rfl, rfl⟩) ?_
            refine wpAny_take (i := 12) (oi := ⟨some 43, _, _, _, _, _⟩) (v := undef) rfl (by kernel_rfl) (by kernel_rfl) (by kernel_rfl) (fun _ _ _ h => h) (Or.inr ⟨by kernel_rfl, rfl⟩) ?_
            refine wpAny_take (i := 13) (oi := ⟨some 44, _, _, _, _, _⟩) (v := undef) rfl (by kernel_rfl) (by kernel_rfl) (by kernel_rfl) (fun _ _ _ h => h) (Or.inr ⟨by kernel_rfl, rfl⟩) ?_
            refine wpAny_take (i := 14) (oi := ⟨some 45, _, _, _, _, _⟩) (v := undef) rfl (by kernel_rfl) (by kernel_rfl) (by kernel_rfl) (fun _ _ _ h => h) (Or.inr ⟨by kernel_rfl, rfl⟩) ?_
            refine wpAny_take (i := 15) (oi := ⟨some 46, _, _, _, _, _⟩) (v := undef) rfl (by kernel_rfl) (by kernel_rfl) (by kernel_rfl) (fun _ _ _ h => h) (Or.inr ⟨by kernel_rfl, rfl⟩) ?_
            refine wpAny_take (i := 16) (oi := ⟨some 47, _, _, _, _, _⟩) (v := undef) rfl (by kernel_rfl) (by kernel_rfl) (by kernel_rfl) (fun _ _ _ h => h) (Or.inr ⟨by kernel_rfl, rfl⟩) ?_
            refine wpAny_take (i := 17) (oi := ⟨some 48, _, _, _, _, _⟩) (v := undef) rfl (by kernel_rfl) (by kernel_rfl) (by kernel_rfl) (fun _ _ _ h => h) (Or.inr ⟨by kernel_rfl, rfl⟩) ?_
            refine wpAny_take (i := 18) (oi := ⟨some 49, _, _, _, _, _⟩) (v := undef) rfl (by kernel_rfl) (by kernel_rfl) (by kernel_rfl) (fun _ _ _ h => h) (Or.inr ⟨by kernel_rfl, rfl⟩) ?_
            refine wpAny_take (i := 19) (oi := ⟨some 50, _, _, _, _, _⟩) (v := undef) rfl (by kernel_rfl) (by kernel_rfl) (by kernel_rfl) (fun _ _ _ h => h) (Or.inr ⟨by kernel_rfl, rfl⟩) ?_
            refine wpAny_take (i := 20) (oi := ⟨some 51, _, _, _, _, _⟩) (v := undef) rfl (by kernel_rfl) (by kernel_rfl) (by kernel_rfl) (fun _ _ _ h => h) (Or.inr ⟨by kernel_rfl, rfl⟩) ?_
            refine wpAny_take (i := 21) (oi := ⟨some 52, _, _, _, _, _⟩) (v := undef) rfl (by kernel_rfl) (by kernel_rfl) (by kernel_rfl) (fun _ _ _ h => h) (Or.inr ⟨by kernel_rfl, rfl⟩) ?_
            refine wpAny_take (i := 22) (oi := ⟨some 53, _, _, _, _, _⟩) (v := ?_) rfl (by kernel_rfl) (by kernel_rfl) (by kernel_rfl) (fun _ _ _ h => h) (Or.inl ⟨by kernel_rfl, ?_⟩) ?_
            rotate_left 1
            · (intro w; go_simp); try (with_reducible rfl)
            refine wpAny_take (i := 23) (oi := ⟨some 54, _, _, _, _, _⟩) (v := ?_) rfl (by kernel_rfl) (by kernel_rfl) (by kernel_rfl) (fun _ _ _ h => h) (Or.inl ⟨by kernel_rfl, ?_⟩) ?_
            rotate_left 1
            · (intro w; go_simp); try (with_reducible rfl)
            refine wpAny_done (by kernel_rfl) ?_ _
            go_simp
            all_goals
              clear d1
              go_wp2_with fail
              go_roundw
              case rel => exact ⟨i + 1, some i, by omega, by go_num, rfl, Lib.hid (fun b h => by cases h; omega), HTN2, Lib.hid (HW.out.drew.trans (HX.out.mono HW.out.size))⟩
              case measure => simp [intOf]; omega
          · have hb := HO.out b rfl
            obtain ⟨y, hy⟩ : ∃ y, xs[b]? = some y := ⟨_, List.getElem?_eq_getElem (by rw [HS1.out.1, HN.out]; omega)⟩
            obtain ⟨q, hq⟩ : ∃ q, l[b]? = some q := ⟨_, List.getElem?_eq_getElem (by rw [HN.out]; omega)⟩
            have hcell2 : wr.drew.cell? ⟨g, og + b, none⟩ = _ := hc b y hy
            obtain ⟨y1, y2, rfl, f3, f4⟩ := HS1.out.2 b y q hy hq
            obtain ⟨e1, e2, _⟩ := HM.out q (List.mem_of_getElem? hq)
            have C2 := Lib.hid (fun w => size05_any y1 y2 q.1 q.2 w f3 f4 (by omega) (by omega) (by omega))
            have HC2 : Hid (∀ w', Below wr.drew.heap.size wr.drew w' → w'.cell? ⟨g, og + b, none⟩ = some (.complex .f64 y1 y2)) := Lib.hid (fun w' h => cell_later h hcell2)
            have HQ := Lib.hid hq
            have j2 : (b : Int) < (m : Int) := by omega
            rw [show bestI (some b) = (b : Int) from rfl]
            clear hV hc f3 f4 hq hy
            by_cases hless : p.2 < q.2
            · have HTN2 : Hid (tightGap (l.take (i + 1)) k = (some i).bind fun b => l[b]?) := Lib.hid (by
                rw [HTN.out]
                show tighter k (l[b]?) p = l[i]?
                rw [HQ.out, HP.out]
                show (if k ≤ p.2 ∧ p.2 < q.2 then some p else some q) = some p
                rw [if_pos ⟨hbig, hless⟩])
              have d2 : decide (p.2 < q.2) = true := by simpa using hless
              go_wp2_with fail
              refine wp_region_any (by kernel_rfl) ?_
              try (change wpAny _ _ _ _ _ _ _ (World.drew _))
              refine wpAny_take (i := 0) (oi := ⟨some 31, _, _, _, _, _⟩) (v := ?_) rfl (by kernel_rfl) (by kernel_rfl) (by kernel_rfl) (fun _ _ _ h => h) (Or.inl ⟨by kernel_rfl, ?_⟩) ?_
              rotate_left 1
              · (intro w; go_simp); try (with_reducible rfl)
              refine wpAny_take (i := 1) (oi := ⟨some 32, _, _, _, _, _⟩) (v := ?_) rfl (by kernel_rfl) (by kernel_rfl) (by kernel_rfl) (fun _ _ _ h => h) (Or.inl ⟨by kernel_rfl, ?_⟩) ?_
              rotate_left 1
              · (intro w; go_simp); try (with_reducible rfl)
              refine wpAny_take (i := 2) (oi := ⟨some 33, _, _, _, _, _⟩) (v := ?_) rfl (by kernel_rfl) (by kernel_rfl) (by kernel_rfl) (fun _ _ _ h => h) (Or.inl ⟨by kernel_rfl, ?_⟩) ?_
              rotate_left 1
              · (intro w; go_simp); try (with_reducible rfl)
              refine wpAny_take (i := 5) (oi := ⟨some 36, _, _, _, _, _⟩) (v := ?_) rfl (by kernel_rfl) (by kernel_rfl) (by kernel_rfl) (fun _ _ _ h => h) (Or.inl ⟨by kernel_rfl, ?_⟩) ?_
              rotate_left 1
              · (intro w; go_simp); try (with_reducible rfl)
              refine wpAny_ready (rs := [3]) (by kernel_rfl) (by simp) ?_
              refine AllReady.cons (o := ⟨some 34, _, _, _, _, _⟩) rfl (fun K hK => ?_) AllReady.nil
              go_simp
              refine hK _ _ ?_
              clear hK K
              refine wpAny_ready (rs := [4]) (by kernel_rfl) (by simp) ?_
              refine AllReady.cons (o := ⟨some 35, _, _, _, _, _⟩) rfl (fun K hK => ?_) AllReady.nil
              go_simp
              go_wp2_with (go_at_call 25; refine (C1.out _).mono ?_; rintro e wz ⟨rfl, hz⟩; have HX := Lib.hid (HX.out.trans (hz.mono HX.out.size)); have q1 := HC.out _ HX.out; have q2 := HC2.out _ HX.out; clear hz)
              refine wpAny_take (i := 6) (oi := ⟨some 37, _, _, _, _, _⟩) (v := ?_) rfl (by kernel_rfl) (by kernel_rfl) (by kernel_rfl) (fun _ _ _ h => h) (Or.inl ⟨by kernel_rfl, ?_⟩) ?_
              rotate_left 1
              · (intro w; go_simp); try (with_reducible rfl)
              refine wpAny_take (i := 7) (oi := ⟨some 38, _, _, _, _, _⟩) (v := ?_) rfl (by kernel_rfl) (by kernel_rfl) (by kernel_rfl) (fun _ _ _ h => h) (Or.inl ⟨by kernel_rfl, ?_⟩) ?_
              rotate_left 1
              · (intro w; go_simp); try (with_reducible rfl)
              refine wpAny_take (i := 8) (oi := ⟨some 39, _, _, _, _, _⟩) (v := ?_) rfl (by kernel_rfl) (by kernel_rfl) (by kernel_rfl) (fun _ _ _ h => h) (Or.inl ⟨by kernel_rfl, ?_⟩) ?_
              rotate_left 1
              · (intro w; go_simp); try (with_reducible rfl)
              refine wpAny_take (i := 9) (oi := ⟨some 40, _, _, _, _, _⟩) (v := ?_) rfl (by kernel_rfl) (by kernel_rfl) (by kernel_rfl) (fun _ _ _ h => h) (Or.inl ⟨by kernel_rfl, ?_⟩) ?_
              rotate_left 1
              · (intro w; go_simp); try (with_reducible rfl)
              refine wpAny_take (i := 10) (oi := ⟨some 41, _, _, _, _, _⟩) (v := ?_) rfl (by kernel_rfl) (by kernel_rfl) (by kernel_rfl) (fun _ _ _ h => h) (Or.inl ⟨by kernel_rfl, ?_⟩) ?_
              rotate_left 1
              · (intro w; go_simp); try (with_reducible rfl)
              refine wpAny_take (i := 11) (oi := ⟨some 42, _, _, _, _, _⟩) (v := ?_) rfl (by kernel_rfl) (by kernel_rfl) (by kernel_rfl) (fun _ _ _ h => h) (Or.inl ⟨by kernel_rfl, ?_⟩) ?_
              rotate_left 1
              · (intro w; go_simp); try (with_reducible rfl)
              refine wpAny_take (i := 12) (oi := ⟨some 43, _, _, _, _, _⟩) (v := ?_) rfl (by kernel_rfl) (by kernel_rfl) (by kernel_rfl) (fun _ _ _ h => h) (Or.inl ⟨by kernel_rfl, ?_⟩) ?_
              rotate_left 1
              · (intro w; go_simp); try (with_reducible rfl)
              refine wpAny_take (i := 13) (oi := ⟨some 44, _, _, _, _, _⟩) (v := ?_) rfl (by kernel_rfl) (by kernel_rfl) (by kernel_rfl) (fun _ _ _ h => h) (Or.inl ⟨by kernel_rfl, ?_⟩) ?_
              rotate_left 1
              · (intro w; go_simp); try (with_reducible rfl)
              refine wpAny_take (i := 16) (oi := ⟨some 47, _, _, _, _, _⟩) (v := ?_) rfl (by kernel_rfl) (by kernel_rfl) (by kernel_rfl) (fun _ _ _ h => h) (Or.inl ⟨by kernel_rfl, ?_⟩) ?_
              rotate_left 1
              · (intro w; go_simp); try (with_reducible rfl)
              refine wpAny_take (i := 17) (oi := ⟨some 48, _, _, _, _, _⟩) (v := ?_) rfl (by kernel_rfl) (by kernel_rfl) (by kernel_rfl) (fun _ _ _ h => h) (Or.inl ⟨by kernel_rfl, ?_⟩) ?_
              rotate_left 1
              · (intro w; go_simp); try (with_reducible rfl)
              refine wpAny_take (i := 18) (oi := ⟨some 49, _, _, _, _, _⟩) (v := ?_) rfl (by kernel_rfl) (by kernel_rfl) (by kernel_rfl) (fun _ _ _ h => h) (Or.inl ⟨by kernel_rfl, ?_⟩) ?_
              rotate_left 1
              · (intro w; go_simp); try (with_reducible rfl)
              refine wpAny_ready (rs := [14, 19]) (by kernel_rfl) (by simp) ?_
              refine AllReady.cons (o := ⟨some 45, _, _, _, _, _⟩) rfl (fun K hK => ?_) ?_
              · go_simp
                refine hK _ _ ?_
                clear hK K
                refine wpAny_ready (rs := [15, 19]) (by kernel_rfl) (by simp) ?_
                refine AllReady.cons (o := ⟨some 46, _, _, _, _, _⟩) rfl (fun K hK => ?_) ?_
                · go_simp
                  go_wp2_with (go_at_call 25; refine (C1.out _).mono ?_; rintro e wz ⟨rfl, hz⟩; have HX := Lib.hid (HX.out.trans (hz.mono HX.out.size)); have q1 := HC.out _ HX.out; have q2 := HC2.out _ HX.out; clear hz)
                  refine wpAny_ready (rs := [19]) (by kernel_rfl) (by simp) ?_
                  refine AllReady.cons (o := ⟨some 50, _, _, _, _, _⟩) rfl (fun K hK => ?_) AllReady.nil
                  go_simp
                  refine hK _ _ ?_
                  clear hK K
                  refine wpAny_ready (rs := [20]) (by kernel_rfl) (by simp) ?_
                  refine AllReady.cons (o := ⟨some 51, _, _, _, _, _⟩) rfl (fun K hK => ?_) AllReady.nil
                  go_simp
                  go_wp2_with (go_at_call 25; refine (C2.out _).mono ?_; rintro e wz ⟨rfl, hz⟩; have HX := Lib.hid (HX.out.trans (hz.mono HX.out.size)); have q1 := HC.out _ HX.out; have q2 := HC2.out _ HX.out; clear hz)
                  refine wpAny_take (i := 21) (oi := ⟨some 52, _, _, _, _, _⟩) (v := ?_) rfl (by kernel_rfl) (by kernel_rfl) (by kernel_rfl) (fun _ _ _ h => h) (Or.inl ⟨by kernel_rfl, ?_⟩) ?_
                  rotate_left 1
                  · (intro w; go_simp); try (with_reducible rfl)
                  refine wpAny_take (i := 22) (oi := ⟨some 53, _, _, _, _, _⟩) (v := ?_) rfl (by kernel_rfl) (by kernel_rfl) (by kernel_rfl) (fun _ _ _ h => h) (Or.inl ⟨by kernel_rfl, ?_⟩) ?_
                  rotate_left 1
                  · (intro w; go_simp); try (with_reducible rfl)
                  refine wpAny_take (i := 23) (oi := ⟨some 54, _, _, _, _, _⟩) (v := ?_) rfl (by kernel_rfl) (by kernel_rfl) (by kernel_rfl) (fun _ _ _ h => h) (Or.inl ⟨by kernel_rfl, ?_⟩) ?_
                  rotate_left 1
                  · (intro w; go_simp); try (with_reducible rfl)
                  refine wpAny_done (by kernel_rfl) ?_ _
                  go_simp
                  clear d1
                  go_wp2_with fail
                  go_roundw
                  case rel => exact ⟨i + 1, some i, by omega, by go_num, rfl, Lib.hid (fun c h => by cases h; omega), HTN2, Lib.hid (HW.out.drew.trans (HX.out.mono HW.out.size))⟩
                  case measure => simp [intOf]; omega
                refine AllReady.cons (o := ⟨some 50, _, _, _, _, _⟩) rfl (fun K hK => ?_) AllReady.nil
                go_simp
                refine hK _ _ ?_
                clear hK K
                refine wpAny_ready (rs := [15]) (by kernel_rfl) (by simp) ?_
                refine AllReady.cons (o := ⟨some 46, _, _, _, _, _⟩) rfl (fun K hK => ?_) AllReady.nil
                go_simp
                go_wp2_with (go_at_call 25; refine (C1.out _).mono ?_; rintro e wz ⟨rfl, hz⟩; have HX := Lib.hid (HX.out.trans (hz.mono HX.out.size)); have q1 := HC.out _ HX.out; have q2 := HC2.out _ HX.out; clear hz)
                refine wpAny_ready (rs := [20]) (by kernel_rfl) (by simp) ?_
                refine AllReady.cons (o := ⟨some 51, _, _, _, _, _⟩) rfl (fun K hK => ?_) AllReady.nil
                go_simp
                go_wp2_with (go_at_call 25; refine (C2.out _).mono ?_; rintro e wz ⟨rfl, hz⟩; have HX := Lib.hid (HX.out.trans (hz.mono HX.out.size)); have q1 := HC.out _ HX.out; have q2 := HC2.out _ HX.out; clear hz)
                refine wpAny_take (i := 21) (oi := ⟨some 52, _, _, _, _, _⟩) (v := ?_) rfl (by kernel_rfl) (by kernel_rfl) (by kernel_rfl) (fun _ _ _ h => h) (Or.inl ⟨by kernel_rfl, ?_⟩) ?_
                rotate_left 1
                · (intro w; go_simp); try (with_reducible rfl)
                refine wpAny_take (i := 22) (oi := ⟨some 53, _, _, _, _, _⟩) (v := ?_) rfl (by kernel_rfl) (by kernel_rfl) (by kernel_rfl) (fun _ _ _ h => h) (Or.inl ⟨by kernel_rfl, ?_⟩) ?_
                rotate_left 1
                · (intro w; go_simp); try (with_reducible rfl)
                refine wpAny_take (i := 23) (oi := ⟨some 54, _, _, _, _, _⟩) (v := ?_) rfl (by kernel_rfl) (by kernel_rfl) (by kernel_rfl) (fun _ _ _ h => h) (Or.inl ⟨by kernel_rfl, ?_⟩) ?_
                rotate_left 1
                · (intro w; go_simp); try (with_reducible rfl)
                refine wpAny_done (by kernel_rfl) ?_ _
                go_simp
                clear d1
                go_wp2_with fail
                go_roundw
                case rel => exact ⟨i + 1, some i, by omega, by go_num, rfl, Lib.hid (fun c h => by cases h; omega), HTN2, Lib.hid (HW.out.drew.trans (HX.out.mono HW.out.size))⟩
                case measure => simp [intOf]; omega
              refine AllReady.cons (o := ⟨some 50, _, _, _, _, _⟩) rfl (fun K hK => ?_) AllReady.nil
              go_simp
              refine hK _ _ ?_
              clear hK K
              refine wpAny_ready (rs := [14]) (by kernel_rfl) (by simp) ?_
              refine AllReady.cons (o := ⟨some 45, _, _, _, _, _⟩) rfl (fun K hK => ?_) AllReady.nil
              go_simp
              refine hK _ _ ?_
              clear hK K
              refine wpAny_ready (rs := [15]) (by kernel_rfl) (by simp) ?_
              refine AllReady.cons (o := ⟨some 46, _, _, _, _, _⟩) rfl (fun K hK => ?_) AllReady.nil
              go_simp
              go_wp2_with (go_at_call 25; refine (C1.out _).mono ?_; rintro e wz ⟨rfl, hz⟩; have HX := Lib.hid (HX.out.trans (hz.mono HX.out.size)); have q1 := HC.out _ HX.out; have q2 := HC2.out _ HX.out; clear hz)
              refine wpAny_ready (rs := [20]) (by kernel_rfl) (by simp) ?_
              refine AllReady.cons (o := ⟨some 51, _, _, _, _, _⟩) rfl (fun K hK => ?_) AllReady.nil
              go_simp
              go_wp2_with (go_at_call 25; refine (C2.out _).mono ?_; rintro e wz ⟨rfl, hz⟩; have HX := Lib.hid (HX.out.trans (hz.mono HX.out.size)); have q1 := HC.out _ HX.out; have q2 := HC2.out _ HX.out; clear hz)
              refine wpAny_take (i := 21) (oi := ⟨some 52, _, _, _, _, _⟩) (v := ?_) rfl (by kernel_rfl) (by kernel_rfl) (by kernel_rfl) (fun _ _ _ h => h) (Or.inl ⟨by kernel_rfl, ?_⟩) ?_
              rotate_left 1
              · (intro w; go_simp); try (with_reducible rfl)
              refine wpAny_take (i := 22) (oi := ⟨some 53, _, _, _, _, _⟩) (v := ?_) rfl (by kernel_rfl) (by kernel_rfl) (by kernel_rfl) (fun _ _ _ h => h) (Or.inl ⟨by kernel_rfl, ?_⟩) ?_
              rotate_left 1
              · (intro w; go_simp); try (with_reducible rfl)
              refine wpAny_take (i := 23) (oi := ⟨some 54, _, _, _, _, _⟩) (v := ?_) rfl (by kernel_rfl) (by kernel_rfl) (by kernel_rfl) (fun _ _ _ h => h) (Or.inl ⟨by kernel_rfl, ?_⟩) ?_
              rotate_left 1
              · (intro w; go_simp); try (with_reducible rfl)
              refine wpAny_done (by kernel_rfl) ?_ _
              go_simp
              clear d1
              go_wp2_with fail
              go_roundw
              case rel => exact ⟨i + 1, some i, by omega, by go_num, rfl, Lib.hid (fun c h => by cases h; omega), HTN2, Lib.hid (HW.out.drew.trans (HX.out.mono HW.out.size))⟩
              case measure => simp [intOf]; omega
            · have HTN2 : Hid (tightGap (l.take (i + 1)) k = (some b).bind fun b => l[b]?) := Lib.hid (by
                rw [HTN.out]
                show tighter k (l[b]?) p = l[b]?
                rw [HQ.out]
                show (if k ≤ p.2 ∧ p.2 < q.2 then some p else some q) = some q
                rw [if_neg (fun h => hless h.2)])
              have d2 : decide (p.2 < q.2) = false := by simpa using hless
              go_wp2_with fail
              refine wp_region_any (by kernel_rfl) ?_
              try (change wpAny _ _ _ _ _ _ _ (World.drew _))
              refine wpAny_take (i := 0) (oi := ⟨some 31, _, _, _, _, _⟩) (v := ?_) rfl (by kernel_rfl) (by kernel_rfl) (by kernel_rfl) (fun _ _ _ h => h) (Or.inl ⟨by kernel_rfl, ?_⟩) ?_
              rotate_left 1
              · (intro w; go_simp); try (with_reducible rfl)
              refine wpAny_take (i := 1) (oi := ⟨some 32, _, _, _, _, _⟩) (v := ?_) rfl (by kernel_rfl) (by kernel_rfl) (by kernel_rfl) (fun _ _ _ h => h) (Or.inl ⟨by kernel_rfl, ?_⟩) ?_
              rotate_left 1
              · (intro w; go_simp); try (with_reducible rfl)
              refine wpAny_take (i := 2) (oi := ⟨some 33, _, _, _, _, _⟩) (v := ?_) rfl (by kernel_rfl) (by kernel_rfl) (by kernel_rfl) (fun _ _ _ h => h) (Or.inl ⟨by kernel_rfl, ?_⟩) ?_
              rotate_left 1
              · (intro w; go_simp); try (with_reducible rfl)
              refine wpAny_take (i := 5) (oi := ⟨some 36, _, _, _, _, _⟩) (v := ?_) rfl (by kernel_rfl) (by kernel_rfl) (by kernel_rfl) (fun _ _ _ h => h) (Or.inl ⟨by kernel_rfl, ?_⟩) ?_
              rotate_left 1
              · (intro w; go_simp); try (with_reducible rfl)
              refine wpAny_ready (rs := [3]) (by kernel_rfl) (by simp) ?_
              refine AllReady.cons (o := ⟨some 34, _, _, _, _, _⟩) rfl (fun K hK => ?_) AllReady.nil
              go_simp
              refine hK _ _ ?_
              clear hK K
              refine wpAny_ready (rs := [4]) (by kernel_rfl) (by simp) ?_
              refine AllReady.cons (o := ⟨some 35, _, _, _, _, _⟩) rfl (fun K hK => ?_) AllReady.nil
              go_simp
              go_wp2_with (go_at_call 25; refine (C1.out _).mono ?_; rintro e wz ⟨rfl, hz⟩; have HX := Lib.hid (HX.out.trans (hz.mono HX.out.size)); have q1 := HC.out _ HX.out; have q2 := HC2.out _ HX.out; clear hz)
              refine wpAny_take (i := 6) (oi := ⟨some 37, _, _, _, _, _⟩) (v := ?_) rfl (by kernel_rfl) (by kernel_rfl) (by kernel_rfl) (fun _ _ _ h => h) (Or.inl ⟨by kernel_rfl, ?_⟩) ?_
              rotate_left 1
              · (intro w; go_simp); try (with_reducible rfl)
              refine wpAny_take (i := 7) (oi := ⟨some 38, _, _, _, _, _⟩) (v := ?_) rfl (by kernel_rfl) (by kernel_rfl) (by kernel_rfl) (fun _ _ _ h => h) (Or.inl ⟨by kernel_rfl, ?_⟩) ?_
              rotate_left 1
              · (intro w; go_simp); try (with_reducible rfl)
              refine wpAny_take (i := 8) (oi := ⟨some 39, _, _, _, _, _⟩) (v := ?_) rfl (by kernel_rfl) (by kernel_rfl) (by kernel_rfl) (fun _ _ _ h => h) (Or.inl ⟨by kernel_rfl, ?_⟩) ?_
              rotate_left 1
              · (intro w; go_simp); try (with_reducible rfl)
              refine wpAny_take (i := 9) (oi := ⟨some 40, _, _, _, _, _⟩) (v := ?_) rfl (by kernel_rfl) (by kernel_rfl) (by kernel_rfl) (fun _ _ _ h => h) (Or.inl ⟨by kernel_rfl, ?_⟩) ?_
              rotate_left 1
              · (intro w; go_simp); try (with_reducible rfl)
              refine wpAny_take (i := 10) (oi := ⟨some 41, _, _, _, _, _⟩) (v := ?_) rfl (by kernel_rfl) (by kernel_rfl) (by kernel_rfl) (fun _ _ _ h => h) (Or.inl ⟨by kernel_rfl, ?_⟩) ?_
              rotate_left 1
              · (intro w; go_simp); try (with_reducible rfl)
              refine wpAny_take (i := 11) (oi := ⟨some 42, _, _, _, _, _⟩) (v := ?_) rfl (by kernel_rfl) (by kernel_rfl) (by kernel_rfl) (fun _ _ _ h => h) (Or.inl ⟨by kernel_rfl, ?_⟩) ?_
              rotate_left 1
              · (intro w; go_simp); try (with_reducible rfl)
              refine wpAny_take (i := 12) (oi := ⟨some 43, _, _, _, _, _⟩) (v := ?_) rfl (by kernel_rfl) (by kernel_rfl) (by kernel_rfl) (fun _ _ _ h => h) (Or.inl ⟨by kernel_rfl, ?_⟩) ?_
              rotate_left 1
              · (intro w; go_simp); try (with_reducible rfl)
              refine wpAny_take (i := 13) (oi := ⟨some 44, _, _, _, _, _⟩) (v := ?_) rfl (by kernel_rfl) (by kernel_rfl) (by kernel_rfl) (fun _ _ _ h => h) (Or.inl ⟨by kernel_rfl, ?_⟩) ?_
              rotate_left 1
              · (intro w; go_simp); try (with_reducible rfl)
              refine wpAny_take (i := 16) (oi := ⟨some 47, _, _, _, _, _⟩) (v := ?_) rfl (by kernel_rfl) (by kernel_rfl) (by kernel_rfl) (fun _ _ _ h => h) (Or.inl ⟨by kernel_rfl, ?_⟩) ?_
              rotate_left 1
              · (intro w; go_simp); try (with_reducible rfl)
              refine wpAny_take (i := 17) (oi := ⟨some 48, _, _, _, _, _⟩) (v := ?_) rfl (by kernel_rfl) (by kernel_rfl) (by kernel_rfl) (fun _ _ _ h => h) (Or.inl ⟨by kernel_rfl, ?_⟩) ?_
              rotate_left 1
              · (intro w; go_simp); try (with_reducible rfl)
              refine wpAny_take (i := 18) (oi := ⟨some 49, _, _, _, _, _⟩) (v := ?_) rfl (by kernel_rfl) (by kernel_rfl) (by kernel_rfl) (fun _ _ _ h => h) (Or.inl ⟨by kernel_rfl, ?_⟩) ?_
              rotate_left 1
              · (intro w; go_simp); try (with_reducible rfl)
              refine wpAny_ready (rs := [14, 19]) (by kernel_rfl) (by simp) ?_
              refine AllReady.cons (o := ⟨some 45, _, _, _, _, _⟩) rfl (fun K hK => ?_) ?_
              · go_simp
                refine hK _ _ ?_
                clear hK K
                refine wpAny_ready (rs := [15, 19]) (by kernel_rfl) (by simp) ?_
                refine AllReady.cons (o := ⟨some 46, _, _, _, _, _⟩) rfl (fun K hK => ?_) ?_
                · go_simp
                  go_wp2_with (go_at_call 25; refine (C1.out _).mono ?_; rintro e wz ⟨rfl, hz⟩; have HX := Lib.hid (HX.out.trans (hz.mono HX.out.size)); have q1 := HC.out _ HX.out; have q2 := HC2.out _ HX.out; clear hz)
                  refine wpAny_ready (rs := [19]) (by kernel_rfl) (by simp) ?_
                  refine AllReady.cons (o := ⟨some 50, _, _, _, _, _⟩) rfl (fun K hK => ?_) AllReady.nil
                  go_simp
                  refine hK _ _ ?_
                  clear hK K
                  refine wpAny_ready (rs := [20]) (by kernel_rfl) (by simp) ?_
                  refine AllReady.cons (o := ⟨some 51, _, _, _, _, _⟩) rfl (fun K hK => ?_) AllReady.nil
                  go_simp
                  go_wp2_with (go_at_call 25; refine (C2.out _).mono ?_; rintro e wz ⟨rfl, hz⟩; have HX := Lib.hid (HX.out.trans (hz.mono HX.out.size)); have q1 := HC.out _ HX.out; have q2 := HC2.out _ HX.out; clear hz)
                  refine wpAny_take (i := 21) (oi := ⟨some 52, _, _, _, _, _⟩) (v := ?_) rfl (by kernel_rfl) (by kernel_rfl) (by kernel_rfl) (fun _ _ _ h => h) (Or.inl ⟨by kernel_rfl, ?_⟩) ?_
                  rotate_left 1
                  · (intro w; go_simp); try (with_reducible rfl)
                  refine wpAny_take (i := 22) (oi := ⟨some 53, _, _, _, _, _⟩) (v := ?_) rfl (by kernel_rfl) (by kernel_rfl) (by kernel_rfl) (fun _ _ _ h => h) (Or.inl ⟨by kernel_rfl, ?_⟩) ?_
                  rotate_left 1
                  · (intro w; go_simp); try (with_reducible rfl)
                  refine wpAny_take (i := 23) (oi := ⟨some 54, _, _, _, _, _⟩) (v := ?_) rfl (by kernel_rfl) (by kernel_rfl) (by kernel_rfl) (fun _ _ _ h => h) (Or.inl ⟨by kernel_rfl, ?_⟩) ?_
                  rotate_left 1
                  · (intro w; go_simp); try (with_reducible rfl)
                  refine wpAny_done (by kernel_rfl) ?_ _
                  go_simp
                  clear d1
                  go_wp2_with fail
                  go_roundw
                  case rel => exact ⟨i + 1, some b, by omega, by go_num, rfl, Lib.hid (fun c h => by cases h; omega), HTN2, Lib.hid (HW.out.drew.trans (HX.out.mono HW.out.size))⟩
                  case measure => simp [intOf]; omega
                refine AllReady.cons (o := ⟨some 50, _, _, _, _, _⟩) rfl (fun K hK => ?_) AllReady.nil
                go_simp
                refine hK _ _ ?_
                clear hK K
                refine wpAny_ready (rs := [15]) (by kernel_rfl) (by simp) ?_
                refine AllReady.cons (o := ⟨some 46, _, _, _, _, _⟩) rfl (fun K hK => ?_) AllReady.nil
                go_simp
                go_wp2_with (go_at_call 25; refine (C1.out _).mono ?_; rintro e wz ⟨rfl, hz⟩; have HX := Lib.hid (HX.out.trans (hz.mono HX.out.size)); have q1 := HC.out _ HX.out; have q2 := HC2.out _ HX.out; clear hz)
                refine wpAny_ready (rs := [20]) (by kernel_rfl) (by simp) ?_
                refine AllReady.cons (o := ⟨some 51, _, _, _, _, _⟩) rfl (fun K hK => ?_) AllReady.nil
                go_simp
                go_wp2_with (go_at_call 25; refine (C2.out _).mono ?_; rintro e wz ⟨rfl, hz⟩; have HX := Lib.hid (HX.out.trans (hz.mono HX.out.size)); have q1 := HC.out _ HX.out; have q2 := HC2.out _ HX.out; clear hz)
                refine wpAny_take (i := 21) (oi := ⟨some 52, _, _, _, _, _⟩) (v := ?_) rfl (by kernel_rfl) (by kernel_rfl) (by kernel_rfl) (fun _ _ _ h => h) (Or.inl ⟨by kernel_rfl, ?_⟩) ?_
                rotate_left 1
                · (intro w; go_simp); try (with_reducible rfl)
                refine wpAny_take (i := 22) (oi := ⟨some 53, _, _, _, _, _⟩) (v := ?_) rfl (by kernel_rfl) (by kernel_rfl) (by kernel_rfl) (fun _ _ _ h => h) (Or.inl ⟨by kernel_rfl, ?_⟩) ?_
                rotate_left 1
                · (intro w; go_simp); try (with_reducible rfl)
                refine wpAny_take (i := 23) (oi := ⟨some 54, _, _, _, _, _⟩) (v := ?_) rfl (by kernel_rfl) (by kernel_rfl) (by kernel_rfl) (fun _ _ _ h => h) (Or.inl ⟨by kernel_rfl, ?_⟩) ?_
                rotate_left 1
                · (intro w; go_simp); try (with_reducible rfl)
                refine wpAny_done (by kernel_rfl) ?_ _
                go_simp
                clear d1
                go_wp2_with fail
                go_roundw
                case rel => exact ⟨i + 1, some b, by omega, by go_num, rfl, Lib.hid (fun c h => by cases h; omega), HTN2, Lib.hid (HW.out.drew.trans (HX.out.mono HW.out.size))⟩
                case measure => simp [intOf]; omega
              refine AllReady.cons (o := ⟨some 50, _, _, _, _, _⟩) rfl (fun K hK => ?_) AllReady.nil
              go_simp
              refine hK _ _ ?_
              clear hK K
              refine wpAny_ready (rs := [14]) (by kernel_rfl) (by simp) ?_
              refine AllReady.cons (o := ⟨some 45, _, _, _, _, _⟩) rfl (fun K hK => ?_) AllReady.nil
              go_simp
              refine hK _ _ ?_
              clear hK K
              refine wpAny_ready (rs := [15]) (by kernel_rfl) (by simp) ?_
              refine AllReady.cons (o := ⟨some 46, _, _, _, _, _⟩) rfl (fun K hK => ?_) AllReady.nil
              go_simp
              go_wp2_with (go_at_call 25; refine (C1.out _).mono ?_; rintro e wz ⟨rfl, hz⟩; have HX := Lib.hid (HX.out.trans (hz.mono HX.out.size)); have q1 := HC.out _ HX.out; have q2 := HC2.out _ HX.out; clear hz)
              refine wpAny_ready (rs := [20]) (by kernel_rfl) (by simp) ?_
              refine AllReady.cons (o := ⟨some 51, _, _, _, _, _⟩) rfl (fun K hK => ?_) AllReady.nil
              go_simp
              go_wp2_with (go_at_call 25; refine (C2.out _).mono ?_; rintro e wz ⟨rfl, hz⟩; have HX := Lib.hid (HX.out.trans (hz.mono HX.out.size)); have q1 := HC.out _ HX.out; have q2 := HC2.out _ HX.out; clear hz)
              refine wpAny_take (i := 21) (oi := ⟨some 52, _, _, _, _, _⟩) (v := ?_) rfl (by kernel_rfl) (by kernel_rfl) (by kernel_rfl) (fun _ _ _ h => h) (Or.inl ⟨by kernel_rfl, ?_⟩) ?_
              rotate_left 1
              · (intro w; go_simp); try (with_reducible rfl)
              refine wpAny_take (i := 22) (oi := ⟨some 53, _, _, _, _, _⟩) (v := ?_) rfl (by kernel_rfl) (by kernel_rfl) (by kernel_rfl) (fun _ _ _ h => h) (Or.inl ⟨by kernel_rfl, ?_⟩) ?_
              rotate_left 1
              · (intro w; go_simp); try (with_reducible rfl)
              refine wpAny_take (i := 23) (oi := ⟨some 54, _, _, _, _, _⟩) (v := ?_) rfl (by kernel_rfl) (by kernel_rfl) (by kernel_rfl) (fun _ _ _ h => h) (Or.inl ⟨by kernel_rfl, ?_⟩) ?_
              rotate_left 1
              · (intro w; go_simp); try (with_reducible rfl)
              refine wpAny_done (by kernel_rfl) ?_ _
              go_simp
              clear d1
              go_wp2_with fail
              go_roundw
              case rel => exact ⟨i + 1, some b, by omega, by go_num, rfl, Lib.hid (fun c h => by cases h; omega), HTN2, Lib.hid (HW.out.drew.trans (HX.out.mono HW.out.size))⟩
              case measure => simp [intOf]; omega
        · have d1 : decide (k ≤ p.2) = false := by simpa using hbig
          have HTN2 : Hid (tightGap (l.take (i + 1)) k = o.bind fun b => l[b]?) := Lib.hid (by
            rw [HTN.out]
            generalize (o.bind fun b => l[b]?) = z
            cases z with
            | none => show (if k ≤ p.2 then some p else none) = none; rw [if_neg hbig]
            | some z => show (if k ≤ p.2 ∧ p.2 < z.2 then some p else some z) = some z; rw [if_neg (fun h => hbig h.1)])
          clear hV hc
          go_wp2_with fail
          refine wp_region_any (by kernel_rfl) ?_
          try (change wpAny _ _ _ _ _ _ _ (World.drew _))
          refine wpAny_take (i := 0) (oi := ⟨some 31, _, _, _, _, _⟩) (v := ?_) rfl (by kernel_rfl) (by kernel_rfl) (by kernel_rfl) (fun _ _ _ h => h) (Or.inl ⟨by kernel_rfl, ?_⟩) ?_
          rotate_left 1
          · (intro w; go_simp); try (with_reducible rfl)
          refine wpAny_take (i := 1) (oi := ⟨some 32, _, _, _, _, _⟩) (v := ?_) rfl (by kernel_rfl) (by kernel_rfl) (by kernel_rfl) (fun _ _ _ h => h) (Or.inl ⟨by kernel_rfl, ?_⟩) ?_
          rotate_left 1
          · (intro w; go_simp); try (with_reducible rfl)
          refine wpAny_take (i := 2) (oi := ⟨some 33, _, _, _, _, _⟩) (v := ?_) rfl (by kernel_rfl) (by kernel_rfl) (by kernel_rfl) (fun _ _ _ h => h) (Or.inl ⟨by kernel_rfl, ?_⟩) ?_
          rotate_left 1
          · (intro w; go_simp); try (with_reducible rfl)
          refine wpAny_take (i := 5) (oi := ⟨some 36, _, _, _, _, _⟩) (v := ?_) rfl (by kernel_rfl) (by kernel_rfl) (by kernel_rfl) (fun _ _ _ h => h) (Or.inl ⟨by kernel_rfl, ?_⟩) ?_
          rotate_left 1
          · (intro w; go_simp); try (with_reducible rfl)
          refine wpAny_ready (rs := [3]) (by kernel_rfl) (by simp) ?_
          refine AllReady.cons (o := ⟨some 34, _, _, _, _, _⟩) rfl (fun K hK => ?_) AllReady.nil
          go_simp
          refine hK _ _ ?_
          clear hK K
          refine wpAny_ready (rs := [4]) (by kernel_rfl) (by simp) ?_
          refine AllReady.cons (o := ⟨some 35, _, _, _, _, _⟩) rfl (fun K hK => ?_) AllReady.nil
          go_simp
          go_wp2_with (go_at_call 25; refine (C1.out _).mono ?_; rintro e wz ⟨rfl, hz⟩; have HX := Lib.hid (HX.out.trans (hz.mono HX.out.size)); clear hz)
          refine wpAny_take (i := 6) (oi := ⟨some 37, _, _, _, _, _⟩) (v := ?_) rfl (by kernel_rfl) (by kernel_rfl) (by kernel_rfl) (fun _ _ _ h => h) (Or.inl ⟨by kernel_rfl, ?_⟩) ?_
          rotate_left 1
          · (intro w; go_simp); try (with_reducible rfl)
          refine wpAny_take (i := 7) (oi := ⟨some 38, _, _, _, _, _⟩) (v := ?_) rfl (by kernel_rfl) (by kernel_rfl) (by kernel_rfl) (fun _ _ _ h => h) (Or.inl ⟨by kernel_rfl, ?_⟩) ?_
          rotate_left 1
          · (intro w; go_simp); try (with_reducible rfl)
          refine wpAny_take (i := 8) (oi := ⟨some 39, _, _, _, _, _⟩) (v := undef) rfl (by kernel_rfl) (by kernel_rfl) (by kernel_rfl) (fun _ _ _ h => h) (Or.inr ⟨by kernel_rfl, rfl⟩) ?_
          refine wpAny_take (i := 9) (oi := ⟨some 40, _, _, _, _, _⟩) (v := undef) rfl (by kernel_rfl) (by kernel_rfl) (by kernel_rfl) (fun _ _ _ h => h) (Or.inr ⟨by kernel_rfl, rfl⟩) ?_
          refine wpAny_take (i := 10) (oi := ⟨some 41, _, _, _, _, _⟩) (v := undef) rfl (by kernel_rfl) (by kernel_rfl) (by kernel_rfl) (fun _ _ _ h => h) (Or.inr ⟨by kernel_rfl, rfl⟩) ?_
          refine wpAny_take (i := 11) (oi := ⟨some 42, _, _, _, _, _⟩) (v := undef) rfl (by kernel_rfl) (by kernel_rfl) (by kernel_rfl) (fun _ _ _ h => h) (Or.inr ⟨by kernel_rfl, rfl⟩) ?_
          refine wpAny_take (i := 12) (oi := ⟨some 43, _, _, _, _, _⟩) (v := undef) rfl (by kernel_rfl) (by kernel_rfl) (by kernel_rfl) (fun _ _ _ h => h) (Or.inr ⟨by kernel_rfl, rfl⟩) ?_
          refine wpAny_take (i := 13) (oi := ⟨some 44, _, _, _, _, _⟩) (v := undef) rfl (by kernel_rfl) (by kernel_rfl) (by kernel_rfl) (fun _ _ _ h => h) (Or.inr ⟨by kernel_rfl, rfl⟩) ?_
          refine wpAny_take (i := 14) (oi := ⟨some 45, _, _, _, _, _⟩) (v := undef) rfl (by kernel_rfl) (by kernel_rfl) (by kernel_rfl) (fun _ _ _ h => h) (Or.inr ⟨by kernel_rfl, rfl⟩) ?_
          refine wpAny_take (i := 15) (oi := ⟨some 46, _, _, _, _, _⟩) (v := undef) rfl (by kernel_rfl) (by kernel_rfl) (by kernel_rfl) (fun _ _ _ h => h) (Or.inr ⟨by kernel_rfl, rfl⟩) ?_
          refine wpAny_take (i := 16) (oi := ⟨some 47, _, _, _, _, _⟩) (v := undef) rfl (by kernel_rfl) (by kernel_rfl) (by kernel_rfl) (fun _ _ _ h => h) (Or.inr ⟨by kernel_rfl, rfl⟩) ?_
          refine wpAny_take (i := 17) (oi := ⟨some 48, _, _, _, _, _⟩) (v := undef) rfl (by kernel_rfl) (by kernel_rfl) (by kernel_rfl) (fun _ _ _ h => h) (Or.inr ⟨by kernel_rfl, rfl⟩) ?_
          refine wpAny_take (i := 18) (oi := ⟨some 49, _, _, _, _, _⟩) (v := undef) rfl (by kernel_rfl) (by kernel_rfl) (by kernel_rfl) (fun _ _ _ h => h) (Or.inr ⟨by kernel_rfl, rfl⟩) ?_
          refine wpAny_take (i := 19) (oi := ⟨some 50, _, _, _, _, _⟩) (v := undef) rfl (by kernel_rfl) (by kernel_rfl) (by kernel_rfl) (fun _ _ _ h => h) (Or.inr ⟨by kernel_rfl, rfl⟩) ?_
          refine wpAny_take (i := 20) (oi := ⟨some 51, _, _, _, _, _⟩) (v := undef) rfl (by kernel_rfl) (by kernel_rfl) (by kernel_rfl) (fun _ _ _ h => h) (Or.inr ⟨by kernel_rfl, rfl⟩) ?_
          refine wpAny_take (i := 21) (oi := ⟨some 52, _, _, _, _, _⟩) (v := undef) rfl (by kernel_rfl) (by kernel_rfl) (by kernel_rfl) (fun _ _ _ h => h) (Or.inr ⟨by kernel_rfl, rfl⟩) ?_
          refine wpAny_take (i := 22) (oi := ⟨some 53, _, _, _, _, _⟩) (v := undef) rfl (by kernel_rfl) (by kernel_rfl) (by kernel_rfl) (fun _ _ _ h => h) (Or.inr ⟨by kernel_rfl, rfl⟩) ?_
          refine wpAny_take (i := 23) (oi := ⟨some 54, _, _, _, _, _⟩) (v := ?_) rfl (by kernel_rfl) (by kernel_rfl) (by kernel_rfl) (fun _ _ _ h => h) (Or.inl ⟨by kernel_rfl, ?_⟩) ?_
          rotate_left 1
          · (intro w; go_simp); try (with_reducible rfl)
          refine wpAny_done (by kernel_rfl) ?_ _
          go_simp
          all_goals
            clear d1
            go_wp2_with fail
            go_roundw
            case rel => exact ⟨i + 1, o, by omega, by go_num, rfl, Lib.hid (fun b h => by have := HO.out b h; omega), HTN2, Lib.hid (HW.out.drew.trans (HX.out.mono HW.out.size))⟩
            case measure => simp [intOf]; omega
      · have him : i = m := by omega
        have HF : Hid (tightGap l k = o.bind fun b => l[b]?) := Lib.hid (by
          have h := HT.out
          rw [him, ← HN.out, List.take_length] at h
          exact h)
        subst him
        rcases o with _ | b
        · rw [show bestI none = -1 from rfl]
          go_wp2_with fail
          go_ret2
          rw [HF.out]
          exact ⟨_, _, rfl, fi_zero, fi_zero, HB1.out.trans (HW.out.mono HB1.out.size)⟩
        · have hb := HO.out b rfl
          have hV := HV1.out.later HW.out
          obtain ⟨g, og, hg, hc⟩ := hV.2.2.resolve_left (by omega)
          subst hg
          obtain ⟨y, hy⟩ : ∃ y, xs[b]? = some y := ⟨_, List.getElem?_eq_getElem (by rw [HS1.out.1, HN.out]; omega)⟩
          obtain ⟨q, hq⟩ : ∃ q, l[b]? = some q := ⟨_, List.getElem?_eq_getElem (by rw [HN.out]; omega)⟩
          have hcell2 := hc b y hy
          obtain ⟨y1, y2, rfl, f3, f4⟩ := HS1.out.2 b y q hy hq
          obtain ⟨e1, e2, _⟩ := HM.out q (List.mem_of_getElem? hq)
          have CB := Lib.hid (fun w => begin05_any y1 y2 q.1 q.2 k w f3 f4 e2 e1 hk1)
          have HF2 : Hid (tightGap l k = some q) := Lib.hid (by rw [HF.out]; exact hq)
          have j2 : (b : Int) < (i : Int) := by omega
          rw [show bestI (some b) = (b : Int) from rfl]
          clear hV hc f3 f4 hq hy
          go_wp2_with fail
          refine (CB.out _).mono ?_
          rintro e w3 ⟨rfl, hb3⟩
          have HB3 := Lib.hid ((HB1.out.trans (HW.out.mono HB1.out.size)).trans (hb3.mono (HB1.out.trans (HW.out.mono HB1.out.size)).size))
          clear hb3
          go_wp2_with fail
          go_ret2
          rw [HF2.out]
          exact ⟨_, _, rfl, fi_ofInt _ (by show (q.1 : Int).natAbs < _; omega), fi_ofInt _ (by show (k : Int).natAbs < _; omega), HB3.out⟩
  · have hne : (E != 0) = true := by simp; exact hE
    have HP : Hid (pickErr E (tightGap l n.toNat) = E) := Lib.hid (by unfold pickErr; rw [if_neg hE])
    have HP2 : Hid (pickOut E (tightGap l n.toNat) n.toNat = (0, 0)) := Lib.hid (by unfold pickOut; rw [if_neg hE])
    clear hE hok hp hq
    go_enter Try.func13, Try.ntmps13
    go_wp2_with fail
    refine c.mono ?_
    rintro e w1 ⟨v1, xs, rfl, hf1, hs1, hb1⟩
    have HB1 := Lib.hid hb1
    obtain ⟨ao1, c1, hv1, _, _, _⟩ := hf1
    rw [hv1]
    clear hv1 hs1 hb1 c
    go_wp2_with fail
    go_ret2
    rw [HP.out, HP2.out]
    exact ⟨_, _, rfl, fi_zero, fi_zero, HB1.out⟩

end Go.Proofs.Ytfhfjnfejcggcaa
