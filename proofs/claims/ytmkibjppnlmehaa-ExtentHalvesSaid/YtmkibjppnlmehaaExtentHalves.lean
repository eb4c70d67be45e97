/-
  Proved here: the two halves of the landed extents of any pointers are the extents of the pointers' halves, and have all blocks. No conditions.
-/
import Derived.Test.YtmkibjppnlmehaaExtCutE
import Derived.Test.YtmkibjppnlmehaaTrIn
import Derived.Test.YtmkibjppnlmehaaTrTrim
namespace Go.Proofs.Ytmkibjppnlmehaa.extentHalves
open Go.ChangeShapes Go.WideShapes Go.ChangeAt Go.RowKit
open Go.ChangeMaps (open_string shut_string)
set_option linter.unusedVariables false
set_option linter.unusedSimpArgs false

theorem take_any {w : World} {ao : Option Addr} {len cap k : Nat} {zs : List Int} (h : IArg w ao len cap zs) (hk : k ≤ len) : IArg w ao k cap (zs.take k) := by
  refine ⟨⟨by rw [ints_length, List.length_take, h.len]; omega, by have := h.big; omega, ?_⟩, fun z hz => h.2.1 z (List.mem_of_mem_take hz), fun e => ⟨by have := (h.2.2.1 e).1; omega, (h.2.2.1 e).2⟩, by have := h.2.2.2; omega⟩
  rcases h.1.2.2 with h0 | ⟨b, off, he, hc⟩
  · exact Or.inl (by omega)
  · refine Or.inr ⟨b, off, he, fun j x hj => hc j x ?_⟩
    rw [ints_take, List.getElem?_take] at hj
    split at hj
    · exact hj
    · cases hj

set_option maxRecDepth 100000 in
set_option maxHeartbeats 12800000 in
theorem walk (a0 : Option Addr) (len0 cap0 : Nat) (z0 : List Int) (a1 : Int) (w : World) (w0 : IArg w a0 len0 cap0 z0 ∧ cap0 ≤ 17592186043904) (w1 : (Lit.int .i64 a1).wf = true) :
    Calls Try.prog 5 #[.slice a0 len0 cap0, .int .i64 a1] w fun e w' => e = .returned (.bool true) ∧ Below w.heap.size w w' := by
  obtain ⟨hA, -⟩ := w0
  have HA := Lib.hid hA
  have HC1 := Lib.hid (fun W (h : Below w.heap.size w W) => From_any a0 len0 cap0 z0 W (hA.later h))
  clear hA
  have B0 := Lib.hid (Below.refl w.heap.size w)
  cases hp : ptrsOk z0 with
  | false =>
    rw [hp] at HC1
    simp only [Bool.false_eq_true, if_false] at HC1
    clear hp
    by_cases hr : 0 ≤ a1 ∧ a1 ≤ 96
    · obtain ⟨k, rfl⟩ := Int.eq_ofNat_of_zero_le hr.1
      have HK96 : Hid (k ≤ 96) := Lib.hid (by omega)
      go_enter Try.func5, Try.ntmps5
      go_wp2_with (first
        | (go_at_call 8; refine (awake12_any w4).mono ?_; rintro e w5 ⟨rfl, hb⟩; have B5 := Lib.hid (B4.out.trans (hb.mono B4.out.size)); clear hb)
        | (go_at_call 8; refine (awake12_any w3).mono ?_; rintro e w4 ⟨rfl, hb⟩; have B4 := Lib.hid (B3.out.trans (hb.mono B3.out.size)); clear hb)
        | (go_at_call 15; refine (Cut_all (l := []) HE2.out rfl HK96.out).mono ?_; rintro e w3 ⟨v, rv, rfl, ho, hr, hb⟩; have B3 := Lib.hid (B2.out.trans (hb.mono B2.out.size)); clear hb)
        | (go_at_call 6; refine (HC1.out _ B0.out).mono ?_; rintro e w2 ⟨v, rfl, ho, hb⟩; obtain ⟨ao2, c2, rfl, he⟩ := ho.out (by decide); rw [show (fromE 0 []).length = 0 from rfl] at he ⊢; have HE2 := Lib.hid he; have B2 := Lib.hid (B0.out.trans (hb.mono B0.out.size)); clear ho hb he))
      go_ret
      exact ⟨rfl, B5.out⟩
    · have HBAD : Hid (a1 < 0 ∨ 96 < a1) := Lib.hid (by omega)
      go_enter Try.func5, Try.ntmps5
      go_wp2_with (first
        | (go_at_call 8; refine (awake12_any w4).mono ?_; rintro e w5 ⟨rfl, hb⟩; have B5 := Lib.hid (B4.out.trans (hb.mono B4.out.size)); clear hb)
        | (go_at_call 8; refine (awake12_any w3).mono ?_; rintro e w4 ⟨rfl, hb⟩; have B4 := Lib.hid (B3.out.trans (hb.mono B3.out.size)); clear hb)
        | (go_at_call 15; refine (Cut_bad (l := []) HE2.out rfl HBAD.out).mono ?_; rintro e w3 ⟨rfl, hb⟩; have B3 := Lib.hid (B2.out.trans (hb.mono B2.out.size)); clear hb)
        | (go_at_call 6; refine (HC1.out _ B0.out).mono ?_; rintro e w2 ⟨v, rfl, ho, hb⟩; obtain ⟨ao2, c2, rfl, he⟩ := ho.out (by decide); rw [show (fromE 0 []).length = 0 from rfl] at he ⊢; have HE2 := Lib.hid he; have B2 := Lib.hid (B0.out.trans (hb.mono B0.out.size)); clear ho hb he))
      go_ret
      exact ⟨rfl, B5.out⟩
  | true =>
    rw [hp] at HC1
    simp only [if_true] at HC1
    have HOK := Lib.hid hp
    have HLEN := Lib.hid HA.out.len
    have hl96 : z0.length ≤ 96 := by unfold ptrsOk at hp; rw [Bool.and_eq_true, decide_eq_true_eq] at hp; exact hp.1
    have hn96 : len0 ≤ 96 := by have := HA.out.len; omega
    have HL : Hid (z0.length ≤ 1000) := Lib.hid (by omega)
    by_cases hr : 0 ≤ a1 ∧ a1 ≤ 96
    · obtain ⟨k, rfl⟩ := Int.eq_ofNat_of_zero_le hr.1
      have hk96 : k ≤ 96 := by omega
      have HK96 := Lib.hid hk96
      have HPL := Lib.hid (padL_length hp)
      have HTK := Lib.hid (take_ok (padL_ok hp) k)
      have HTR0 := half_trim z0 k hl96 hk96
      have HNZ0 := half_nz z0 k
      have hxo := (from_sound12 (rest_ok (padL_ok hp) (padL_length hp) hk96)).2.1
      have hsum := rest_sum (padL z0) k
      rw [HNZ0, HLEN.out] at hsum
      rw [HLEN.out] at HTR0
      obtain ⟨l', hl'⟩ : ∃ l', (padL z0).take k = l' := ⟨_, rfl⟩
      obtain ⟨xs, hxs⟩ : ∃ xs, fromE 0 (restF (padL z0) k) = xs := ⟨_, rfl⟩
      have HLP := Lib.hid hl'
      have HXS := Lib.hid hxs
      have HLL : Hid (l'.length ≤ 96) := Lib.hid (by rw [← hl', List.length_take]; omega)
      rw [hxs] at hxo hsum
      rw [hl'] at HTR0 HTK
      have HXO := Lib.hid hxo
      have HSUM := Lib.hid hsum
      have HTR := Lib.hid HTR0
      have HMB : Hid (xs.length ≤ 96) := Lib.hid (by rw [← hxs]; exact (from_sound12 (rest_ok (padL_ok hp) (padL_length hp) hk96)).1)
      clear hp hl96 hk96 HNZ0 HTR0 hxo hsum hl' hxs hr
      by_cases hkl : k ≤ len0
      · have hkk : min k len0 = k := by omega
        rw [hkk] at HSUM HTR
        have HKL : Hid (k ≤ len0) := Lib.hid (by omega)
        clear hkk
        have kn : ¬ (len0 : Int) < (k : Int) := by omega
        go_enter Try.func5, Try.ntmps5
        go_wp2_with (first
          | (go_at_call 11; refine (To_any HE4.out HTK.out).mono ?_; rintro e w5 ⟨v, rfl, hf, hb⟩; rw [HTR.out] at hf; obtain ⟨ao5, c5, rfl, hA5, _⟩ := hf; have HP5 := Lib.hid hA5; have HR5 := Lib.hid (HR4.out.later hb); have B5 := Lib.hid (B4.out.trans (hb.mono B4.out.size)); clear hb hA5)
          | (go_at_call 8; refine (awake12_any w3).mono ?_; rintro e w4 ⟨rfl, hb⟩; have HE4 := Lib.hid (HE3.out.later hb); have HR4 := Lib.hid (HR3.out.later hb); have B4 := Lib.hid (B3.out.trans (hb.mono B3.out.size)); clear hb)
          | (go_at_call 15; refine (Cut_all HE2.out HOK.out HK96.out).mono ?_; rintro e w3 ⟨v, rv, rfl, ho, hr, hb⟩; rw [HLP.out] at ho; rw [HXS.out] at hr; obtain ⟨ao3, c3, rfl, he⟩ := ho.out (Nat.le_trans HLL.out (by decide)); obtain ⟨ao4, c4, rfl, hri⟩ := hr.ris; have HE3 := Lib.hid he; have HR3 := Lib.hid hri; have B3 := Lib.hid (B2.out.trans (hb.mono B2.out.size)); clear ho hr hb he hri)
          | (go_at_call 6; refine (HC1.out _ B0.out).mono ?_; rintro e w2 ⟨v, rfl, ho, hb⟩; obtain ⟨ao2, c2, rfl, he⟩ := ho.out HL.out; have HE2 := Lib.hid he; have B2 := Lib.hid (B0.out.trans (hb.mono B0.out.size)); clear ho hb he))
        obtain ⟨m, hm⟩ : ∃ m, xs.length = m := ⟨_, rfl⟩
        have HM := Lib.hid hm
        rw [hm]
        clear hm
        go_loopw [12, 13] (fun bv iv wr => ∃ i br : Nat, bv = .int .i64 (br : Int) ∧ iv = .int .i64 (i : Int) ∧ k ≤ i ∧ i ≤ len0 ∧ br ≤ i ∧ Hid (br + (nzL (z0.drop i)).length = (nzL (z0.drop k)).length) ∧ Hid (Below w5.heap.size w5 wr)) (fun _ iv _ => len0 - (intOf iv).toNat)
        case atStart => exact ⟨k, 0, rfl, rfl, Nat.le_refl _, HKL.out, Nat.zero_le _, Lib.hid (Nat.zero_add _), Lib.hid (Below.refl _ _)⟩
        case round =>
          obtain ⟨i, br, rfl, rfl, hki, hi, hbi, HQ, HW⟩ := hrel
          by_cases hlt : i < len0
          · obtain ⟨b, off, x, rfl, hx, c1, hI⟩ := ((HA.out.later B5.out).later HW.out).at hlt
            have hst := nz_step (l := z0) (i := i) (by rw [HLEN.out]; exact hlt)
            rw [show z0.getD i 0 = x from by rw [List.getD_eq_getElem?_getD, hx]; rfl] at hst
            have i1 : (i : Int) < (len0 : Int) := by omega
            have hq := HQ.out
            clear hx hI
            by_cases hx0 : x = 0
            · subst hx0
              rw [if_pos rfl] at hst
              have HN : Hid (br + (nzL (z0.drop (i + 1))).length = (nzL (z0.drop k)).length) := Lib.hid (by omega)
              clear hst hq
              go_wp2_with fail
              go_roundw
              case rel => exact ⟨i + 1, br, rfl, by go_num, by omega, by omega, by omega, HN, HW⟩
              case measure => simp [intOf]; omega
            · rw [if_neg hx0] at hst
              have b3 : (x != 0) = true := by simpa using hx0
              have b0 : (x == 0) = false := by simpa using hx0
              have HN : Hid (br + 1 + (nzL (z0.drop (i + 1))).length = (nzL (z0.drop k)).length) := Lib.hid (by omega)
              clear hst hq
              go_wp2_with fail
              go_roundw
              case rel => exact ⟨i + 1, br + 1, by go_num, by go_num, by omega, by omega, by omega, HN, HW⟩
              case measure => simp [intOf]; omega
          · have hin : i = len0 := by omega
            subst hin
            have hbr : ((br : Nat) : Int) = sumE xs := by
              have h := HQ.out
              have h2 : (nzL (z0.drop i)).length = 0 := by rw [List.drop_of_length_le (by rw [HLEN.out]; exact Nat.le_refl _)]; rfl
              rw [HSUM.out]
              omega
            have HBRS := Lib.hid hbr
            clear hbr
            go_wp2_with fail
            go_loopw [12, 14] (fun bv jv wr => ∃ (j : Nat) (s : Int), bv = .int .i64 s ∧ jv = .int .i64 (j : Int) ∧ j ≤ m ∧ (0 ≤ s ∧ s ≤ 1000) ∧ Hid (s = sumE (xs.drop j)) ∧ Hid (Below w5.heap.size w5 wr)) (fun _ jv _ => m - (intOf jv).toNat)
            case atStart => exact ⟨0, (br : Int), rfl, rfl, Nat.zero_le _, by omega, Lib.hid (by rw [List.drop_zero]; exact HBRS.out), HW⟩
            case round =>
              clear HW HQ
              obtain ⟨j, s, rfl, rfl, hj, hs, HS, HW⟩ := hrel
              by_cases hjm : j < m
              · obtain ⟨b, off, x, p, q, rfl, hx, c1, f1, f2⟩ := (HR5.out.later HW.out) j (by rw [HM.out]; exact hjm)
                have hst := sum_step hx
                have hxc := HXO.out x (List.mem_of_getElem? hx)
                unfold okE at hxc
                have hnn := sum_nonneg (xs := xs.drop (j + 1)) (fun y hy => (HXO.out y (List.mem_of_mem_drop hy)).1)
                have hs2 := HS.out
                have HN : Hid (s - x.c = sumE (xs.drop (j + 1))) := Lib.hid (by omega)
                have s1 : 0 ≤ s - x.c ∧ s - x.c ≤ 1000 := by omega
                have hv2 := fi_toInt .i64 f2 (by show -9223372036854775808 ≤ x.c; omega) (by show x.c ≤ 9223372036854775807; omega)
                have o2 : ∀ w, (convert 39 3 (.float .f64 q)).run Try.prog w = .ok (.int .i64 x.c) w := fun w => run_convert_float_int w 39 3 .f64 .i64 q x.c (by rw [Try.underlying39]; rfl) Try.underlying3 hv2
                have j1 : (j : Int) < (m : Int) := by omega
                have j2 : (m : Int) ≤ 1000 := by have := HM.out; have := HMB.out; omega
                obtain ⟨c, hc⟩ : ∃ c, x.c = c := ⟨_, rfl⟩
                rw [hc] at HN s1 o2 hxc
                clear hx f1 f2 hst hnn hs2 hv2 hc
                go_wp2_with fail
                go_roundw
                case rel => exact ⟨j + 1, s - c, by first | rfl | go_num, by go_num, by omega, s1, HN, HW⟩
                case measure => simp [intOf]; omega
              · have hjn : j = m := by omega
                subst hjn
                have hs0 : s = 0 := by
                  rw [HS.out, List.drop_of_length_le (by rw [HM.out]; exact Nat.le_refl _)]
                  rfl
                subst hs0
                have B6 := Lib.hid (B5.out.trans (HW.out.mono B5.out.size))
                have HS6 := Lib.hid (take_any (HA.out.later B6.out) HKL.out)
                have HP6 := Lib.hid (HP5.out.later HW.out)
                have hcap := (HA.out).2.2.2
                have kc : (k : Int) ≤ (cap0 : Int) := by omega
                have kc0 : (0 : Int) ≤ (k : Int) := by omega
                cases a0 with
                | none =>
                  have hz := (HA.out).2.2.1 rfl
                  obtain rfl : i = 0 := hz.1
                  obtain rfl : cap0 = 0 := hz.2
                  obtain rfl : k = 0 := by omega
                  go_wp2_with (first
                    | (go_at_call 12; refine (ints_true _ _ _ _ _ _ _ HP7.out HT7.out).mono ?_; rintro e w8 ⟨rfl, hb⟩; have B8 := Lib.hid (B7.out.trans (hb.mono B7.out.size)); clear hb)
                    | (go_at_call 13; refine (Trim_any _ _ _ _ _ HS6.out (by omega)).mono ?_; rintro e w7 ⟨v, rfl, hf, hb⟩; obtain ⟨ao7, c7, rfl, hA7, _⟩ := hf; have HT7 := Lib.hid hA7; have HP7 := Lib.hid (HP6.out.later hb); have B7 := Lib.hid (B6.out.trans (hb.mono B6.out.size)); clear hb hA7))
                  go_ret
                  exact ⟨rfl, B8.out⟩
                | some ad =>
                  go_wp2_with (first
                    | (go_at_call 12; refine (ints_true _ _ _ _ _ _ _ HP7.out HT7.out).mono ?_; rintro e w8 ⟨rfl, hb⟩; have B8 := Lib.hid (B7.out.trans (hb.mono B7.out.size)); clear hb)
                    | (go_at_call 13; refine (Trim_any _ _ _ _ _ HS6.out (by omega)).mono ?_; rintro e w7 ⟨v, rfl, hf, hb⟩; obtain ⟨ao7, c7, rfl, hA7, _⟩ := hf; have HT7 := Lib.hid hA7; have HP7 := Lib.hid (HP6.out.later hb); have B7 := Lib.hid (B6.out.trans (hb.mono B6.out.size)); clear hb hA7))
                  go_ret
                  exact ⟨rfl, B8.out⟩
      · have hkk : min k len0 = len0 := by omega
        rw [hkk] at HSUM HTR
        have HKL : Hid (len0 ≤ len0) := Lib.hid (by omega)
        clear hkk
        have kn : (len0 : Int) < (k : Int) := by omega
        go_enter Try.func5, Try.ntmps5
        go_wp2_with (first
          | (go_at_call 11; refine (To_any HE4.out HTK.out).mono ?_; rintro e w5 ⟨v, rfl, hf, hb⟩; rw [HTR.out] at hf; obtain ⟨ao5, c5, rfl, hA5, _⟩ := hf; have HP5 := Lib.hid hA5; have HR5 := Lib.hid (HR4.out.later hb); have B5 := Lib.hid (B4.out.trans (hb.mono B4.out.size)); clear hb hA5)
          | (go_at_call 8; refine (awake12_any w3).mono ?_; rintro e w4 ⟨rfl, hb⟩; have HE4 := Lib.hid (HE3.out.later hb); have HR4 := Lib.hid (HR3.out.later hb); have B4 := Lib.hid (B3.out.trans (hb.mono B3.out.size)); clear hb)
          | (go_at_call 15; refine (Cut_all HE2.out HOK.out HK96.out).mono ?_; rintro e w3 ⟨v, rv, rfl, ho, hr, hb⟩; rw [HLP.out] at ho; rw [HXS.out] at hr; obtain ⟨ao3, c3, rfl, he⟩ := ho.out (Nat.le_trans HLL.out (by decide)); obtain ⟨ao4, c4, rfl, hri⟩ := hr.ris; have HE3 := Lib.hid he; have HR3 := Lib.hid hri; have B3 := Lib.hid (B2.out.trans (hb.mono B2.out.size)); clear ho hr hb he hri)
          | (go_at_call 6; refine (HC1.out _ B0.out).mono ?_; rintro e w2 ⟨v, rfl, ho, hb⟩; obtain ⟨ao2, c2, rfl, he⟩ := ho.out HL.out; have HE2 := Lib.hid he; have B2 := Lib.hid (B0.out.trans (hb.mono B0.out.size)); clear ho hb he))
        obtain ⟨m, hm⟩ : ∃ m, xs.length = m := ⟨_, rfl⟩
        have HM := Lib.hid hm
        rw [hm]
        clear hm
        go_loopw [12, 13] (fun bv iv wr => ∃ i br : Nat, bv = .int .i64 (br : Int) ∧ iv = .int .i64 (i : Int) ∧ len0 ≤ i ∧ i ≤ len0 ∧ br ≤ i ∧ Hid (br + (nzL (z0.drop i)).length = (nzL (z0.drop len0)).length) ∧ Hid (Below w5.heap.size w5 wr)) (fun _ iv _ => len0 - (intOf iv).toNat)
        case atStart => exact ⟨len0, 0, rfl, rfl, Nat.le_refl _, HKL.out, Nat.zero_le _, Lib.hid (Nat.zero_add _), Lib.hid (Below.refl _ _)⟩
        case round =>
          obtain ⟨i, br, rfl, rfl, hki, hi, hbi, HQ, HW⟩ := hrel
          by_cases hlt : i < len0
          · obtain ⟨b, off, x, rfl, hx, c1, hI⟩ := ((HA.out.later B5.out).later HW.out).at hlt
            have hst := nz_step (l := z0) (i := i) (by rw [HLEN.out]; exact hlt)
            rw [show z0.getD i 0 = x from by rw [List.getD_eq_getElem?_getD, hx]; rfl] at hst
            have i1 : (i : Int) < (len0 : Int) := by omega
            have hq := HQ.out
            clear hx hI
            by_cases hx0 : x = 0
            · subst hx0
              rw [if_pos rfl] at hst
              have HN : Hid (br + (nzL (z0.drop (i + 1))).length = (nzL (z0.drop len0)).length) := Lib.hid (by omega)
              clear hst hq
              go_wp2_with fail
              go_roundw
              case rel => exact ⟨i + 1, br, rfl, by go_num, by omega, by omega, by omega, HN, HW⟩
              case measure => simp [intOf]; omega
            · rw [if_neg hx0] at hst
              have b3 : (x != 0) = true := by simpa using hx0
              have b0 : (x == 0) = false := by simpa using hx0
              have HN : Hid (br + 1 + (nzL (z0.drop (i + 1))).length = (nzL (z0.drop len0)).length) := Lib.hid (by omega)
              clear hst hq
              go_wp2_with fail
              go_roundw
              case rel => exact ⟨i + 1, br + 1, by go_num, by go_num, by omega, by omega, by omega, HN, HW⟩
              case measure => simp [intOf]; omega
          · have hin : i = len0 := by omega
            subst hin
            have hbr : ((br : Nat) : Int) = sumE xs := by
              have h := HQ.out
              have h2 : (nzL (z0.drop i)).length = 0 := by rw [List.drop_of_length_le (by rw [HLEN.out]; exact Nat.le_refl _)]; rfl
              rw [HSUM.out]
              omega
            have HBRS := Lib.hid hbr
            clear hbr
            go_wp2_with fail
            go_loopw [12, 14] (fun bv jv wr => ∃ (j : Nat) (s : Int), bv = .int .i64 s ∧ jv = .int .i64 (j : Int) ∧ j ≤ m ∧ (0 ≤ s ∧ s ≤ 1000) ∧ Hid (s = sumE (xs.drop j)) ∧ Hid (Below w5.heap.size w5 wr)) (fun _ jv _ => m - (intOf jv).toNat)
            case atStart => exact ⟨0, (br : Int), rfl, rfl, Nat.zero_le _, by omega, Lib.hid (by rw [List.drop_zero]; exact HBRS.out), HW⟩
            case round =>
              clear HW HQ
              obtain ⟨j, s, rfl, rfl, hj, hs, HS, HW⟩ := hrel
              by_cases hjm : j < m
              · obtain ⟨b, off, x, p, q, rfl, hx, c1, f1, f2⟩ := (HR5.out.later HW.out) j (by rw [HM.out]; exact hjm)
                have hst := sum_step hx
                have hxc := HXO.out x (List.mem_of_getElem? hx)
                unfold okE at hxc
                have hnn := sum_nonneg (xs := xs.drop (j + 1)) (fun y hy => (HXO.out y (List.mem_of_mem_drop hy)).1)
                have hs2 := HS.out
                have HN : Hid (s - x.c = sumE (xs.drop (j + 1))) := Lib.hid (by omega)
                have s1 : 0 ≤ s - x.c ∧ s - x.c ≤ 1000 := by omega
                have hv2 := fi_toInt .i64 f2 (by show -9223372036854775808 ≤ x.c; omega) (by show x.c ≤ 9223372036854775807; omega)
                have o2 : ∀ w, (convert 39 3 (.float .f64 q)).run Try.prog w = .ok (.int .i64 x.c) w := fun w => run_convert_float_int w 39 3 .f64 .i64 q x.c (by rw [Try.underlying39]; rfl) Try.underlying3 hv2
                have j1 : (j : Int) < (m : Int) := by omega
                have j2 : (m : Int) ≤ 1000 := by have := HM.out; have := HMB.out; omega
                obtain ⟨c, hc⟩ : ∃ c, x.c = c := ⟨_, rfl⟩
                rw [hc] at HN s1 o2 hxc
                clear hx f1 f2 hst hnn hs2 hv2 hc
                go_wp2_with fail
                go_roundw
                case rel => exact ⟨j + 1, s - c, by first | rfl | go_num, by go_num, by omega, s1, HN, HW⟩
                case measure => simp [intOf]; omega
              · have hjn : j = m := by omega
                subst hjn
                have hs0 : s = 0 := by
                  rw [HS.out, List.drop_of_length_le (by rw [HM.out]; exact Nat.le_refl _)]
                  rfl
                subst hs0
                have B6 := Lib.hid (B5.out.trans (HW.out.mono B5.out.size))
                have HS6 := Lib.hid (take_any (HA.out.later B6.out) HKL.out)
                have HP6 := Lib.hid (HP5.out.later HW.out)
                have hcap := (HA.out).2.2.2
                have kc : (i : Int) ≤ (cap0 : Int) := by omega
                have kc0 : (0 : Int) ≤ (i : Int) := by omega
                cases a0 with
                | none =>
                  have hz := (HA.out).2.2.1 rfl
                  obtain rfl : i = 0 := hz.1
                  obtain rfl : cap0 = 0 := hz.2
                  go_wp2_with (first
                    | (go_at_call 12; refine (ints_true _ _ _ _ _ _ _ HP7.out HT7.out).mono ?_; rintro e w8 ⟨rfl, hb⟩; have B8 := Lib.hid (B7.out.trans (hb.mono B7.out.size)); clear hb)
                    | (go_at_call 13; refine (Trim_any _ _ _ _ _ HS6.out (by omega)).mono ?_; rintro e w7 ⟨v, rfl, hf, hb⟩; obtain ⟨ao7, c7, rfl, hA7, _⟩ := hf; have HT7 := Lib.hid hA7; have HP7 := Lib.hid (HP6.out.later hb); have B7 := Lib.hid (B6.out.trans (hb.mono B6.out.size)); clear hb hA7))
                  go_ret
                  exact ⟨rfl, B8.out⟩
                | some ad =>
                  go_wp2_with (first
                    | (go_at_call 12; refine (ints_true _ _ _ _ _ _ _ HP7.out HT7.out).mono ?_; rintro e w8 ⟨rfl, hb⟩; have B8 := Lib.hid (B7.out.trans (hb.mono B7.out.size)); clear hb)
                    | (go_at_call 13; refine (Trim_any _ _ _ _ _ HS6.out (by omega)).mono ?_; rintro e w7 ⟨v, rfl, hf, hb⟩; obtain ⟨ao7, c7, rfl, hA7, _⟩ := hf; have HT7 := Lib.hid hA7; have HP7 := Lib.hid (HP6.out.later hb); have B7 := Lib.hid (B6.out.trans (hb.mono B6.out.size)); clear hb hA7))
                  go_ret
                  exact ⟨rfl, B8.out⟩
    · have HBAD : Hid (a1 < 0 ∨ 96 < a1) := Lib.hid (by omega)
      clear hp hl96 hr
      go_enter Try.func5, Try.ntmps5
      go_wp2_with (first
        | (go_at_call 8; refine (awake12_any w4).mono ?_; rintro e w5 ⟨rfl, hb⟩; have B5 := Lib.hid (B4.out.trans (hb.mono B4.out.size)); clear hb)
        | (go_at_call 8; refine (awake12_any w3).mono ?_; rintro e w4 ⟨rfl, hb⟩; have B4 := Lib.hid (B3.out.trans (hb.mono B3.out.size)); clear hb)
        | (go_at_call 15; refine (Cut_bad (l := z0) HE2.out HOK.out HBAD.out).mono ?_; rintro e w3 ⟨rfl, hb⟩; have B3 := Lib.hid (B2.out.trans (hb.mono B2.out.size)); clear hb)
        | (go_at_call 6; refine (HC1.out _ B0.out).mono ?_; rintro e w2 ⟨v, rfl, ho, hb⟩; obtain ⟨ao2, c2, rfl, he⟩ := ho.out HL.out; have HE2 := Lib.hid he; have B2 := Lib.hid (B0.out.trans (hb.mono B0.out.size)); clear ho hb he))
      go_ret
      exact ⟨rfl, B5.out⟩

/-! ### The law's step -/
set_option maxRecDepth 100000 in
theorem lifted (os : Os) (started : os.Started) (H : Type) (enc : TypeId × Value → H) :
    ReturnsInHanded {} Try.checked os 5 .any (Rows.extentHalvesSpec.pre6 enc Try.prog Try.f5 Rows.extentHalvesRow.domain false) (Rows.extentHalvesSpec.post enc Try.prog Try.f5 false true false false) := by
  refine returnsInHanded_of_change_sized (C := Try.checked) own started (by kernel_rfl) Try.func5
    (ChangeSpec.witness6 (enc := enc) (C := Try.checked) false ⟨#[], #[.slice none 0 0, .int .i64 0], []⟩ 8 (by kernel_rfl) (by kernel_rfl) (by kernel_rfl) (by kernel_rfl)) ?_
  intro W base args ds gs before hval0 hW hcnd hsz0 _
  have hsz : (DataW.weightsEach Try.prog (Try.f5.params.toList ++ Rows.extentHalvesSpec.plain.varTypes Try.prog) (ds ++ gs)).all (· ≤ reachBytes) = true := hsz0
  clear hsz0
  have hval : ∀ (j : Nat) t v, Try.f5.params[j]? = some t → args[j]? = some v → Value.okWide Try.prog W .any base t v := hval0
  have hW' := hW
  obtain ⟨p, q, hA0, hV, rfl, hfz, hnd⟩ := hW
  have hA : DataW.TrodAll enc Try.prog W 0 (fun _ => true) true Try.f5.params.toList args.toList ds p := hA0
  rw [Try.params5] at hA hval hsz
  obtain ⟨v0, vs0, d0, ds0, p0, q0, hargs, rfl, rfl, h0, r0⟩ := trodAll_cons hA
  obtain ⟨v1, vs1, d1, ds1, p1, q1, rfl, rfl, rfl, h1, r1⟩ := trodAll_cons r0
  obtain ⟨rfl, rfl, rfl⟩ := trodAll_nil r1
  obtain rfl : args = #[v0, v1] := by cases args; simp_all
  obtain ⟨rfl, rfl⟩ := trodVars_none hV
  have k0 := h0
  have lt0 : ∀ x ∈ p0, x.block < W.heap.size := by obtain ⟨m, hm⟩ := k0; exact DataW.trod_lt m _ _ _ hm
  obtain ⟨a0, len0, cap0, rfl⟩ := okWide_slice Try.underlying22 (hval 0 22 v0 rfl rfl)
  obtain ⟨z0, w0⟩ := open_nums_arg k0 (weights_ofT hsz (j := 0) rfl rfl)
  have k1 := h1
  have lt1 : ∀ x ∈ p1, x.block < W.heap.size := by obtain ⟨m, hm⟩ := k1; exact DataW.trod_lt m _ _ _ hm
  obtain ⟨a1, rfl, _, _, w1⟩ := open_int Try.underlying3 (hval 1 3 v1 rfl rfl) h1
  clear hA0 hval0
  refine (walk a0 len0 cap0 z0 a1 W w0 w1).mono fun e W' ⟨he, bel⟩ => ?_
  subst he
  exact ⟨_, rfl, _, _, _, [], _, [], hW', trodAll_mk1 (shut_bool Try.underlying4 _), (trodAll_cons_mk (Below.trod laidOut (by kernel_rfl) (of_decide_eq_true (by kernel_rfl)) k0 bel lt0) (trodAll_cons_mk (Below.trod laidOut (by kernel_rfl) (of_decide_eq_true (by kernel_rfl)) k1 bel lt1) trodAll_mk0)), rfl, bel.frame _, fun h => by cases h⟩

theorem over : Rows.extentHalvesRow.holds Try.pinned (OpenSpec.ofChange Rows.extentHalvesSpec) :=
  OpenClaim.holds_of_wide 5 Try.f5 rfl rfl rfl rfl rfl rfl rfl ⟨rfl, rfl, rfl, rfl, rfl⟩ rfl rfl rfl rfl rfl (by kernel_rfl) Try.func5 (by kernel_rfl)
    (of_decide_eq_true (by kernel_rfl)) (by unfold Func.isWrapper; first | (rw [if_pos (by decide +kernel)]; kernel_rfl) | (rw [if_neg (by decide +kernel)]; exact ⟨rfl, rfl⟩))
    (fun os started H enc _ => lifted os started H enc)

/-- The statement. -/
theorem proved : Rows.ExtentHalvesSaid := over
end Go.Proofs.Ytmkibjppnlmehaa.extentHalves
