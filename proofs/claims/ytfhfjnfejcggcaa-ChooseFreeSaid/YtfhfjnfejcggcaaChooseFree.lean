/-
  Proved here: what choose.Some, choose.First and choose.Tight choose is as many blocks as were asked for, all free, each once; where one run will do there is one. No conditions.
-/
import Derived.Test.YtfhfjnfejcggcaaAwake06
import Derived.Test.YtfhfjnfejcggcaaAwake06Free
import Derived.Test.YtfhfjnfejcggcaaFree
import Derived.Deep.QuietTactic
import Derived.BigQuiet
namespace Go.Proofs.Ytfhfjnfejcggcaa.chooseFree
open Go.ChangeShapes Go.WideShapes Go.ChangeAt Go.RowKit
open Go.ChangeMaps (open_string shut_string)
set_option linter.unusedVariables false

theorem down_inside {zs : List Int} {lo hi : Int} : ∀ p ∈ downOut zs lo hi, lo ≤ p.1 ∧ (p.1 : Int) + p.2 ≤ hi := by
  intro p hp
  unfold downOut at hp
  by_cases h : downErr zs.length lo hi = 0
  · rw [if_pos h] at hp
    have hb := (all_sum h).2.2.2
    have hm := gaps_mem (downs zs) (hi.toNat - lo.toNat) lo.toNat lo.toNat (Nat.le_refl _) (fun i h1 h2 => by omega) p hp
    have := hm.2.2.1
    exact ⟨by omega, by omega⟩
  · rw [if_neg h] at hp
    simp at hp

theorem down_len {len : Nat} {n lo hi : Int} (h : gapErr len n lo hi = 0) : len = 60 ∧ 0 ≤ lo ∧ lo ≤ hi ∧ hi ≤ 480 := by
  unfold gapErr at h
  by_cases hd : downErr len lo hi = 0
  · unfold downErr at hd
    by_cases hl : len = 60
    · rw [if_pos hl] at hd
      by_cases hc : lo < 0 ∨ hi < lo ∨ 480 < hi
      · rw [if_pos hc] at hd; exact absurd hd (by decide)
      · omega
    · rw [if_neg hl] at hd; exact absurd hd (by decide)
  · rw [if_pos hd] at h; exact absurd h hd

/-- Which flags may be up behind i runs and j blocks of the next, p. -/
def Ups (zs : List Int) (s : List (Nat × Nat)) (i : Nat) (c : Nat) (U : Nat → Bool) : Prop :=
  ∀ b, b < 480 → U b = true → flag zs b = true ∨ (∃ k r, k < i ∧ s[k]? = some r ∧ b < r.1 + r.2) ∨ b < c

theorem pairs_at {s : List (Nat × Nat)} (h : s.Pairwise (fun a b => a.1 + a.2 ≤ b.1)) {k i : Nat} {r p : Nat × Nat} (hk : k < i) (hr : s[k]? = some r) (hp : s[i]? = some p) : r.1 + r.2 ≤ p.1 := by
  obtain ⟨hk', er⟩ := List.getElem?_eq_some_iff.1 hr
  obtain ⟨hi', ep⟩ := List.getElem?_eq_some_iff.1 hp
  have := List.pairwise_iff_getElem.1 h k i hk' hi' hk
  rw [er, ep] at this
  exact this

set_option maxRecDepth 100000 in
set_option maxHeartbeats 12800000 in
theorem walk (a0 : Option Addr) (len0 cap0 : Nat) (z0 : List Int) (a1 : Int) (a2 : Int) (a3 : Int) (w : World) (w0 : IsRow .u8 w a0 len0 cap0 z0) (rch0 : cap0 ≤ 140737488351232) (w1 : (Lit.int .i64 a1).wf = true) (w2 : (Lit.int .i64 a2).wf = true) (w3 : (Lit.int .i64 a3).wf = true) :
    Calls Try.prog 6 #[.slice a0 len0 cap0, .int .i64 a1, .int .i64 a2, .int .i64 a3] w fun e w' => e = .returned (.bool true) ∧ Below w.heap.size w w' := by
  have hA := w0.arg rch0
  have hn := wf_i64 w1
  have hp := wf_i64 w2
  have hq := wf_i64 w3
  obtain ⟨zs, HZ⟩ : ∃ zs, Hid (zs = z0.take len0) := ⟨_, Lib.hid rfl⟩
  rw [← HZ.out] at hA
  clear w0 w1 w2 w3 HZ
  have HA := Lib.hid hA
  have c1 := cSome_any a0 len0 cap0 zs a1 a2 a3 w hA hn hp hq
  have C2 := Lib.hid (fun w2 (h : Below w.heap.size w w2) => cFirst_any a0 len0 cap0 zs a1 a2 a3 w2 (HA.out.later h) hn hp hq)
  have C3 := Lib.hid (fun w2 (h : Below w.heap.size w w2) => cTight_any a0 len0 cap0 zs a1 a2 a3 w2 (HA.out.later h) hn hp hq)
  have HL := Lib.hid (fun h => down_len (len := len0) (n := a1) (lo := a2) (hi := a3) h)
  have HOK := Lib.hid (fun h => gap_ok (len := len0) (n := a1) (lo := a2) (hi := a3) h)
  have HIn := Lib.hid (down_inside (zs := zs) (lo := a2) (hi := a3))
  have HM := Lib.hid (down_bound (zs := zs) (lo := a2) (hi := a3))
  have HRise := Lib.hid (down_rise zs a2 a3).pairs
  clear hA hn hp hq
  generalize downOut zs a2 a3 = l at *
  generalize gapErr len0 a1 a2 a3 = E at *
  by_cases hG : someErr E l a1.toNat = 0
  · have hE0 : E = 0 := by
      unfold someErr at hG
      by_cases hE : E = 0
      · exact hE
      · rw [if_neg hE] at hG; exact absurd hG hE
    obtain ⟨h60, hlo0, hlohi, hhi⟩ := HL.out hE0
    obtain ⟨hn1, hn2⟩ := HOK.out hE0
    subst h60
    obtain ⟨n, hn'⟩ : ∃ n : Nat, a1 = n := ⟨a1.toNat, by omega⟩
    subst hn'
    obtain ⟨lo, hlo'⟩ : ∃ lo : Nat, a2 = lo := ⟨a2.toNat, by omega⟩
    subst hlo'
    obtain ⟨hi, hhi'⟩ : ∃ hi : Nat, a3 = hi := ⟨a3.toNat, by omega⟩
    subst hhi'
    rw [show Int.toNat (n : Int) = n by omega] at hG c1 C2 C3
    have hsum : n ≤ sumG l := by
      unfold someErr at hG
      rw [if_pos hE0] at hG
      by_cases h : sumG l < n
      · rw [if_pos h] at hG; exact absurd hG (by decide)
      · omega
    have HSum := Lib.hid (some_sum hsum)
    have hone : ∀ q ∈ l, 1 ≤ q.2 := fun q hq => (HM.out q hq).2.1
    have HApart := Lib.hid (some_apart HRise.out hone n)
    have HMem : Hid (∀ p ∈ someOf l n, lo ≤ p.1 ∧ 1 ≤ p.2 ∧ p.1 + p.2 ≤ hi ∧ ∀ b, p.1 ≤ b → b < p.1 + p.2 → downs zs b = true) := Lib.hid (fun p hp => by
      obtain ⟨q, hq, e1, e2, e3⟩ := some_mem hone p hp
      have h1 := HIn.out q hq
      have h2 := HM.out q hq
      exact ⟨by omega, e2, by omega, fun b hb1 hb2 => h2.2.2 b (by omega) (by omega)⟩)
    have HOneRun : Hid (pickErr E (firstGap l n) = 0 → ∃ p q, pickOut E (firstGap l n) n = (p, n) ∧ pickOut E (tightGap l n) n = (q, n) ∧ p ≤ q ∧ (someOf l n).length = 1 ∧
        (lo ≤ p ∧ p + n ≤ hi ∧ ∀ b, p ≤ b → b < p + n → downs zs b = true) ∧ (lo ≤ q ∧ q + n ≤ hi ∧ ∀ b, q ≤ b → b < q + n → downs zs b = true)) := Lib.hid (fun h => by
      have ht : pickErr E (tightGap l n) = 0 := by rw [← pick_same]; exact h
      unfold pickErr at h ht
      rw [if_pos hE0] at h ht
      by_cases hf : firstGap l n = none
      · rw [if_pos hf] at h; exact absurd h (by decide)
      · by_cases hg : tightGap l n = none
        · rw [if_pos hg] at ht; exact absurd ht (by decide)
        · obtain ⟨p, hp⟩ := Option.ne_none_iff_exists'.1 hf
          obtain ⟨q, hq⟩ := Option.ne_none_iff_exists'.1 hg
          have mp := first_mem hp
          have mq := tight_mem hq
          have p1 := HIn.out p mp.1
          have p2 := HM.out p mp.1
          have q1 := HIn.out q mq.1
          have q2 := HM.out q mq.1
          refine ⟨p.1, q.1, ?_, ?_, first_ahead HRise.out hp mq.1 mq.2, one_run (by omega) mp.1 mp.2, ⟨by omega, by have := mp.2; omega, fun b hb1 hb2 => p2.2.2 b hb1 (by have := mp.2; omega)⟩, ⟨by omega, by have := mq.2; omega, fun b hb1 hb2 => q2.2.2 b hb1 (by have := mq.2; omega)⟩⟩
          · unfold pickOut; rw [if_pos hE0, hp]
          · unfold pickOut; rw [if_pos hE0, hq])
    have HSame := Lib.hid (pick_same E l n)
    rw [hG] at c1
    rw [show someOut E l n = someOf l n from by unfold someOut; rw [if_pos ⟨hE0, hsum⟩]] at c1
    have C3 := Lib.hid (fun w2 (h : Below w.heap.size w w2) => by have := C3.out w2 h; rw [← HSame.out] at this; exact this)
    clear hG hE0 hlohi HL HOK HIn HM HRise hone hsum
    generalize someOf l n = s at *
    generalize pickOut E (firstGap l n) n = X1 at *
    generalize pickOut E (tightGap l n) n = X2 at *
    generalize pickErr E (firstGap l n) = F at *
    obtain ⟨m, hm⟩ : ∃ m, s.length = m := ⟨_, rfl⟩
    have HN := Lib.hid hm
    have hnn : 1 ≤ n := by omega
    have hh480 : hi ≤ 480 := by omega
    clear hm HSame
    go_enter Try.func6, Try.ntmps6
    go_wp2_with fail
    refine c1.mono ?_
    rintro e w2 ⟨v2, xs, rfl, hf2, hs2, hb2⟩
    have HB2 := Lib.hid hb2
    have HS2 := Lib.hid hs2
    obtain ⟨ao2, c2, hv2, hV2, _, _⟩ := hf2
    rw [hs2.1, HN.out] at hv2 hV2
    have hmb := hV2.2.1
    have HV2 := Lib.hid hV2
    rw [hv2]
    clear hv2 hV2 hs2 hb2 c1
    go_wp2_with fail
    refine (C2.out w2 HB2.out).mono ?_
    rintro e w3 ⟨x3, y3, rfl, f3, g3, hb3⟩
    have HB23 := Lib.hid (hb3.mono (Nat.le_refl _))
    have HB3 := Lib.hid (HB2.out.trans (hb3.mono HB2.out.size))
    have F3 := Lib.hid f3
    have G3 := Lib.hid g3
    clear hb3 f3 g3
    go_wp2_with fail
    refine (C3.out w3 HB3.out).mono ?_
    rintro e w4 ⟨x4, y4, rfl, f4, g4, hb4⟩
    have HB24 := Lib.hid (HB23.out.trans (hb4.mono HB23.out.size))
    have HB4 := Lib.hid (HB3.out.trans (hb4.mono HB3.out.size))
    have F4 := Lib.hid f4
    have G4 := Lib.hid g4
    clear hb4 f4 g4
    go_wp2_with fail
    refine (awake06_any _).mono ?_
    rintro e w5 ⟨rfl, hb5⟩
    have HB25 := Lib.hid (HB24.out.trans (hb5.mono HB24.out.size))
    have HB5 := Lib.hid (HB4.out.trans (hb5.mono HB4.out.size))
    clear hb5 C2 C3
    have cU := Up05_any a0 cap0 zs w5 (HA.out.1.later HB5.out)
    go_wp2_with fail
    refine cU.mono ?_
    rintro e w6 ⟨v6, rfl, hf6, hb6⟩
    obtain ⟨g, c6, hv6, _, hO6⟩ := ownV_of_fresh hf6 hb6 (by intro h; have := congrArg List.length h; rw [boolsV_length] at this; simp at this)
    rw [boolsV_length] at hv6
    have HO6 : Hid (∃ U, OwnV w5.heap.size w5 g (boolsV U 480) w6 ∧ Ups zs s 0 0 U) := Lib.hid ⟨flag zs, hO6, fun b _ h => Or.inl h⟩
    rw [hv6]
    clear hv6 hf6 hb6 hO6 cU
    go_wp2_with fail
    go_loopw [16, 17] (fun cv iv wr => ∃ i : Nat, i ≤ m ∧ iv = .int .i64 i ∧ cv = .int .i64 (sumG (s.take i) : Nat) ∧ Hid (∃ U, OwnV w5.heap.size w5 g (boolsV U 480) wr ∧ Ups zs s i 0 U)) (fun _ iv _ => m - (intOf iv).toNat)
    case atStart => exact ⟨0, Nat.zero_le _, rfl, rfl, HO6⟩
    case round =>
      obtain ⟨i, hi', rfl, rfl, HU⟩ := hrel
      have hst := sumG_take_le s i
      rw [HSum.out] at hst
      have hbw : Below w5.heap.size w5 wr := by obtain ⟨U, hO, _⟩ := HU.out; exact hO.2.2.2
      have HBW := Lib.hid hbw
      by_cases hlt : i < m
      · have hV := HV2.out.later (HB25.out.trans (hbw.mono HB25.out.size))
        obtain ⟨g2, og2, hg2, hc⟩ := hV.2.2.resolve_left (by omega)
        subst hg2
        obtain ⟨x, hx⟩ : ∃ x, xs[i]? = some x := ⟨_, List.getElem?_eq_getElem (by rw [HS2.out.1, HN.out]; exact hlt)⟩
        obtain ⟨p, hp⟩ : ∃ p, s[i]? = some p := ⟨_, List.getElem?_eq_getElem (by rw [HN.out]; exact hlt)⟩
        have hcell := hc i x hx
        obtain ⟨x1, x2, rfl, f1, f2⟩ := HS2.out.2 i x p hx hp
        obtain ⟨b1, b2, b3, b4⟩ := HMem.out p (List.mem_of_getElem? hp)
        have HP := Lib.hid hp
        have HD := Lib.hid b4
        have HT := Lib.hid (sumG_take hp)
        have hst2 := sumG_take_le s (i + 1)
        rw [HT.out, HSum.out] at hst2
        have cP := Parts02_any x1 x2 p.1 p.2 wr f1 f2 (by omega) (by omega) (by omega)
        obtain ⟨S, HSS⟩ : ∃ S, Hid (S = sumG (s.take i)) := ⟨_, Lib.hid rfl⟩
        rw [← HSS.out] at hst hst2 HT ⊢
        have i2 : (i : Int) < (m : Int) := by omega
        clear hV hc hx hp f1 f2 b4 hbw
        go_wp2_with fail
        refine cP.mono ?_
        rintro e w7 ⟨rfl, hb7⟩
        have HU7 : Hid (∃ U, OwnV w5.heap.size w5 g (boolsV U 480) w7 ∧ Ups zs s i p.1 U) := Lib.hid (by
          obtain ⟨U, hO, hu⟩ := HU.out
          refine ⟨U, hO.later hb7 (by intro h; have := congrArg List.length h; rw [boolsV_length] at this; simp at this), fun b hb h => ?_⟩
          rcases hu b hb h with h | h | h
          · exact Or.inl h
          · exact Or.inr (Or.inl h)
          · omega)
        have j1 : ¬ (p.1 : Int) < (lo : Int) := by omega
        have j2 : ¬ (hi : Int) < (p.1 : Int) + (p.2 : Int) := by omega
        clear hb7 cP hcell
        go_wp2_with fail
        go_loopw [21] (fun bv wr => ∃ j : Nat, j ≤ p.2 ∧ bv = .int .i64 ((p.1 : Int) + (j : Int)) ∧ Hid (∃ U, OwnV w5.heap.size w5 g (boolsV U 480) wr ∧ Ups zs s i (p.1 + j) U)) (fun bv _ => p.1 + p.2 - (intOf bv).toNat)
        case atStart => exact ⟨0, Nat.zero_le _, by go_num, HU7⟩
        case round =>
          obtain ⟨j, hj, rfl, HJ⟩ := hrel
          by_cases hlj : j < p.2
          · obtain ⟨U, hO, hu⟩ := HJ.out
            have hUf : U (p.1 + j) = false := by
              cases hU : U (p.1 + j) with
              | false => rfl
              | true =>
                exfalso
                rcases hu (p.1 + j) (by omega) hU with h | ⟨k, r, hk, hr, h⟩ | h
                · have hd := HD.out (p.1 + j) (by omega) (by omega)
                  unfold downs at hd
                  rw [h] at hd
                  exact absurd hd (by decide)
                · have := pairs_at HApart.out hk hr HP.out
                  omega
                · omega
            have hcell := hO.1 (p.1 + j) _ (boolsV_at U (by omega))
            rw [hUf] at hcell
            have hfr := hO.2.1 (p.1 + j)
            have hS := hO.store (k := p.1 + j) (y := .bool true) (by rw [boolsV_length]; omega)
            rw [boolsV_set _ (by omega)] at hS
            have HJ2 : Hid (∃ U, OwnV w5.heap.size w5 g (boolsV U 480) (wr.setCell ⟨g, p.1 + j, none⟩ (.bool true)) ∧ Ups zs s i (p.1 + (j + 1)) U) := Lib.hid ⟨_, hS, fun b hb h => by
              have h' : (if b = p.1 + j then true else U b) = true := h
              by_cases e : b = p.1 + j
              · exact Or.inr (Or.inr (by omega))
              · rw [if_neg e] at h'
                rcases hu b hb h' with h | h | h
                · exact Or.inl h
                · exact Or.inr (Or.inl h)
                · exact Or.inr (Or.inr (by omega))⟩
            have q1 : (0 : Int) ≤ (p.1 : Int) + (j : Int) := by omega
            have q2 : (p.1 : Int) + (j : Int) < 480 := by omega
            have q3 : (p.1 : Int) + (j : Int) < (p.1 : Int) + (p.2 : Int) := by omega
            clear hO hu hUf hS HJ
            go_wp2_with fail
            go_roundw
            case rel => exact ⟨j + 1, by omega, by go_num, HJ2⟩
            case measure => simp [intOf]; omega
          · have hjp : j = p.2 := by omega
            have HU8 : Hid (∃ U, OwnV w5.heap.size w5 g (boolsV U 480) wr ∧ Ups zs s (i + 1) 0 U) := Lib.hid (by
              obtain ⟨U, hO, hu⟩ := HJ.out
              refine ⟨U, hO, fun b hb h => ?_⟩
              rcases hu b hb h with h | ⟨k, r, hk, hr, h⟩ | h
              · exact Or.inl h
              · exact Or.inr (Or.inl ⟨k, r, by omega, hr, h⟩)
              · exact Or.inr (Or.inl ⟨i, p, by omega, HP.out, by omega⟩))
            have q3 : ¬ (p.1 : Int) + (j : Int) < (p.1 : Int) + (p.2 : Int) := by omega
            clear HJ hjp
            go_wp2_with fail
            go_roundw
            case rel => exact ⟨i + 1, by omega, by go_num, by rw [HT.out]; go_num, HU8⟩
            case measure => simp [intOf]; omega
      · have him : i = m := by omega
        have HT : Hid (sumG (s.take i) = n) := Lib.hid (by rw [him, ← HN.out, List.take_length]; exact HSum.out)
        rw [HT.out]
        have HBX := Lib.hid (HB5.out.trans (HBW.out.mono HB5.out.size))
        clear hst hbw HU
        subst him
        by_cases hF : F = 0
        · obtain ⟨p, q, e1, e2, hpq, hlen1, ⟨p1, p2, p3⟩, ⟨q1, q2, q3⟩⟩ := HOneRun.out hF
          have f3 := F3.out
          have g3 := G3.out
          have f4 := F4.out
          have g4 := G4.out
          rw [e1] at f3 g3
          rw [e2] at f4 g4
          have o1 := fi_eq g3 (fi_ofInt (n : Int) (by omega)) rfl
          have o2 := fi_eq g3 g4 rfl
          have o3 := fi_le f3 f4 (by show (p : Int) ≤ (q : Int); omega)
          have hm1 : ((i : Int) == 1) = true := by rw [← HN.out, hlen1]; rfl
          have CF1 := Lib.hid (fun w2 (h : Below w.heap.size w w2) => free_any a0 cap0 zs x3 y3 p n lo hi w2 (HA.out.1.later h) f3 g3 hnn p1 p2 hh480 p3)
          have CF2 := Lib.hid (fun w2 (h : Below w.heap.size w w2) => free_any a0 cap0 zs x4 y4 q n lo hi w2 (HA.out.1.later h) f4 g4 hnn q1 q2 hh480 q3)
          subst hF
          clear e1 e2 hpq hlen1 p1 p2 p3 q1 q2 q3 f3 g3 f4 g4
          go_wp2_with fail
          refine (CF1.out _ HBX.out).mono ?_
          rintro e w8 ⟨rfl, hb8⟩
          have HB8 := Lib.hid (HBX.out.trans (hb8.mono HBX.out.size))
          clear hb8
          go_wp2_with fail
          refine (CF2.out _ HB8.out).mono ?_
          rintro e w9 ⟨rfl, hb9⟩
          have HB9 := Lib.hid (HB8.out.trans (hb9.mono HB8.out.size))
          clear hb9
          go_wp2_with fail
          go_ret
          exact ⟨rfl, HB9.out⟩
        · have hne : (F != 0) = true := by simp; exact hF
          have hne2 : (F == 0) = false := by simp; exact hF
          clear hF
          go_wp2_with fail
          go_ret
          exact ⟨rfl, HBX.out⟩
  · have HF : Hid (pickErr E (firstGap l a1.toNat) = someErr E l a1.toNat) := Lib.hid (err_same hG)
    have HT : Hid (pickErr E (tightGap l a1.toNat) = someErr E l a1.toNat) := Lib.hid (by rw [← pick_same]; exact err_same hG)
    have HS : Hid (someOut E l a1.toNat = []) := Lib.hid (by
      unfold someOut
      rw [if_neg]
      intro h
      apply hG
      unfold someErr
      rw [if_pos h.1, if_neg (by omega)])
    have HX1 : Hid (pickOut E (firstGap l a1.toNat) a1.toNat = (0, 0)) := Lib.hid (by
      unfold pickOut
      by_cases hE : E = 0
      · rw [if_pos hE]
        cases hf : firstGap l a1.toNat with
        | none => rfl
        | some p =>
          have h := HF.out
          rw [hf] at h
          unfold pickErr at h
          rw [if_pos hE, if_neg (by simp)] at h
          exact absurd h.symm hG
      · rw [if_neg hE])
    have HX2 : Hid (pickOut E (tightGap l a1.toNat) a1.toNat = (0, 0)) := Lib.hid (by
      unfold pickOut
      by_cases hE : E = 0
      · rw [if_pos hE]
        cases hf : tightGap l a1.toNat with
        | none => rfl
        | some p =>
          have h := HT.out
          rw [hf] at h
          unfold pickErr at h
          rw [if_pos hE, if_neg (by simp)] at h
          exact absurd h.symm hG
      · rw [if_neg hE])
    rw [HS.out] at c1
    have C2 := Lib.hid (fun w2 (h : Below w.heap.size w w2) => by have := C2.out w2 h; rw [HF.out, HX1.out] at this; exact this)
    have C3 := Lib.hid (fun w2 (h : Below w.heap.size w w2) => by have := C3.out w2 h; rw [HT.out, HX2.out] at this; exact this)
    generalize someErr E l a1.toNat = G at *
    have hne : (G != 0) = true := by simp; exact hG
    have hne2 : (G == 0) = false := by simp; exact hG
    clear hG
    go_enter Try.func6, Try.ntmps6
    go_wp2_with fail
    refine c1.mono ?_
    rintro e w2 ⟨v2, xs, rfl, hf2, hs2, hb2⟩
    have HB2 := Lib.hid hb2
    obtain ⟨ao2, c2, hv2, _, _, _⟩ := hf2
    rw [hs2.1] at hv2
    rw [hv2]
    clear hv2 hs2 hb2 c1
    go_wp2_with fail
    refine (C2.out w2 HB2.out).mono ?_
    rintro e w3 ⟨x3, y3, rfl, f3, g3, hb3⟩
    have HB3 := Lib.hid (HB2.out.trans (hb3.mono HB2.out.size))
    have o1 : FloatKind.f64.format.order x3 0 = some .eq := fi_eq f3 fi_zero rfl
    have o2 : FloatKind.f64.format.order y3 0 = some .eq := fi_eq g3 fi_zero rfl
    clear hb3 f3 g3
    go_wp2_with fail
    refine (C3.out w3 HB3.out).mono ?_
    rintro e w4 ⟨x4, y4, rfl, f4, g4, hb4⟩
    have HB4 := Lib.hid (HB3.out.trans (hb4.mono HB3.out.size))
    have o3 : FloatKind.f64.format.order x4 0 = some .eq := fi_eq f4 fi_zero rfl
    have o4 : FloatKind.f64.format.order y4 0 = some .eq := fi_eq g4 fi_zero rfl
    clear hb4 f4 g4
    go_wp2_with fail
    refine (awake06_any _).mono ?_
    rintro e w5 ⟨rfl, hb5⟩
    have HB5 := Lib.hid (HB4.out.trans (hb5.mono HB4.out.size))
    clear hb5
    go_wp2_with fail
    go_ret
    exact ⟨rfl, HB5.out⟩

/-! ### THE ROW's STEP: WRITTEN OUT: LEAVE IT -/
set_option maxRecDepth 100000 in
theorem lifted (os : Os) (started : os.Started) (H : Type) (enc : TypeId × Value → H) :
    ReturnsInHanded {} Try.checked os 6 .any (Rows.chooseFreeSpec.pre6 enc Try.prog Try.f6 Rows.chooseFreeRow.domain false) (Rows.chooseFreeSpec.post enc Try.prog Try.f6 false true false false) := by
  refine returnsInHanded_of_change_sized (C := Try.checked) own started (by kernel_rfl) Try.func6
    (ChangeSpec.witness6 (enc := enc) (C := Try.checked) false ⟨#[], #[.slice none 0 0, .int .i64 0, .int .i64 0, .int .i64 0], []⟩ 8 (by kernel_rfl) (by kernel_rfl) (by kernel_rfl) (by kernel_rfl)) ?_
  intro W base args ds gs before hval0 hW hcnd hsz0 _
  have hsz : (DataW.weightsEach Try.prog (Try.f6.params.toList ++ Rows.chooseFreeSpec.plain.varTypes Try.prog) (ds ++ gs)).all (· ≤ reachBytes) = true := hsz0
  clear hsz0
  have hval : ∀ (j : Nat) t v, Try.f6.params[j]? = some t → args[j]? = some v → Value.okWide Try.prog W .any base t v := hval0
  have hW' := hW
  obtain ⟨p, q, hA0, hV, rfl, hfz, hnd⟩ := hW
  have hA : DataW.TrodAll enc Try.prog W 0 (fun _ => true) true Try.f6.params.toList args.toList ds p := hA0
  rw [Try.params6] at hA hval hsz
  obtain ⟨v0, vs0, d0, ds0, p0, q0, hargs, rfl, rfl, h0, r0⟩ := trodAll_cons hA
  obtain ⟨v1, vs1, d1, ds1, p1, q1, rfl, rfl, rfl, h1, r1⟩ := trodAll_cons r0
  obtain ⟨v2, vs2, d2, ds2, p2, q2, rfl, rfl, rfl, h2, r2⟩ := trodAll_cons r1
  obtain ⟨v3, vs3, d3, ds3, p3, q3, rfl, rfl, rfl, h3, r3⟩ := trodAll_cons r2
  obtain ⟨rfl, rfl, rfl⟩ := trodAll_nil r3
  obtain rfl : args = #[v0, v1, v2, v3] := by cases args; simp_all
  obtain ⟨rfl, rfl⟩ := trodVars_none hV
  obtain ⟨a0, len0, cap0, rfl⟩ := okWide_slice Try.underlying22 (hval 0 22 v0 rfl rfl)
  have k0 := h0
  have lt0 : ∀ x ∈ p0, x.block < W.heap.size := by obtain ⟨m, hm⟩ := k0; exact DataW.trod_lt m _ _ _ hm
  obtain ⟨z0, w0, rch0⟩ := open_bytes k0 (fun e s hd => sized_slice hsz (j := 0) (t := 22) (e := 5) rfl (by rw [hd]; rfl) Try.underlying22)
  obtain ⟨a1, rfl, rfl, rfl, w1⟩ := open_int Try.underlying3 (hval 1 3 v1 rfl rfl) h1
  obtain ⟨a2, rfl, rfl, rfl, w2⟩ := open_int Try.underlying3 (hval 2 3 v2 rfl rfl) h2
  obtain ⟨a3, rfl, rfl, rfl, w3⟩ := open_int Try.underlying3 (hval 3 3 v3 rfl rfl) h3
  clear hA0 hval0
  refine (walk a0 len0 cap0 z0 a1 a2 a3 W w0 rch0 w1 w2 w3).mono fun e W' ⟨he, bel⟩ => ?_
  subst he
  exact ⟨_, rfl, _, _, _, [], _, [], hW', trodAll_mk1 (shut_bool Try.underlying4 _), (trodAll_cons_mk (Below.trod laidOut (by kernel_rfl) (of_decide_eq_true (by kernel_rfl)) k0 bel lt0) (trodAll_cons_mk (shut_int Try.underlying3 w1) (trodAll_cons_mk (shut_int Try.underlying3 w2) (trodAll_cons_mk (shut_int Try.underlying3 w3) trodAll_mk0)))), rfl, bel.frame _, fun h => by cases h⟩

theorem over : Rows.chooseFreeRow.holds Try.pinned (OpenSpec.ofChange Rows.chooseFreeSpec) :=
  OpenClaim.holds_of_wide 6 Try.f6 rfl rfl rfl rfl rfl rfl rfl ⟨rfl, rfl, rfl, rfl, rfl⟩ rfl rfl rfl rfl rfl (by kernel_rfl) Try.func6 (by kernel_rfl)
    (of_decide_eq_true (by kernel_rfl)) (by unfold Func.isWrapper; first | (rw [if_pos (by decide +kernel)]; kernel_rfl) | (rw [if_neg (by decide +kernel)]; exact ⟨rfl, rfl⟩))
    (fun os started H enc _ => lifted os started H enc)

/-- THE STATEMENT -/
theorem proved : Rows.ChooseFreeSaid := over
end Go.Proofs.Ytfhfjnfejcggcaa.chooseFree
