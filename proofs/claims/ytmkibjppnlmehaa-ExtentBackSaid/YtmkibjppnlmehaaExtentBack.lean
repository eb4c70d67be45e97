/-
  Proved here: pointers that the landed code made extents are the pointers again, and the extents are as few as may be. No conditions.
-/
import Derived.Test.YtmkibjppnlmehaaAwake12
import Derived.Test.YtmkibjppnlmehaaTrIn
import Derived.Test.YtmkibjppnlmehaaTrTrim
namespace Go.Proofs.Ytmkibjppnlmehaa.extentBack
open Go.ChangeShapes Go.WideShapes Go.ChangeAt Go.RowKit
open Go.ChangeMaps (open_string shut_string)
set_option linter.unusedVariables false
set_option linter.unusedSimpArgs false

set_option maxRecDepth 100000 in
set_option maxHeartbeats 6400000 in
theorem walk (a0 : Option Addr) (len0 cap0 : Nat) (z0 : List Int) (w : World) (w0 : IArg w a0 len0 cap0 z0 ∧ cap0 ≤ 17592186043904) :
    Calls Try.prog 4 #[.slice a0 len0 cap0] w fun e w' => e = .returned (.bool true) ∧ Below w.heap.size w w' := by
  obtain ⟨hA, -⟩ := w0
  have HA := Lib.hid hA
  have HC1 := Lib.hid (fun W (h : Below w.heap.size w W) => From_any a0 len0 cap0 z0 W (hA.later h))
  clear hA
  have B0 := Lib.hid (Below.refl w.heap.size w)
  cases hp : ptrsOk z0 with
  | true =>
    rw [hp] at HC1
    simp only [if_true] at HC1
    have HOK := Lib.hid hp
    have HLEN := Lib.hid HA.out.len
    have hl96 : z0.length ≤ 96 := by unfold ptrsOk at hp; rw [Bool.and_eq_true, decide_eq_true_eq] at hp; exact hp.1
    have hap : apartL z0 = true := by unfold ptrsOk at hp; rw [Bool.and_eq_true] at hp; exact hp.2
    have HK := Lib.hid (fun k => ok_at hap k)
    have hn96 : len0 ≤ 96 := by have := HA.out.len; omega
    have HL : Hid (z0.length ≤ 1000) := Lib.hid (by omega)
    have HTO : Hid (ptrsOk (trimL z0) = true) := Lib.hid (trim_ok hp)
    have HTL : Hid ((trimL z0).length ≤ 96) := Lib.hid (Nat.le_trans (trim_le z0) hl96)
    have HBR := Lib.hid (from_breaks z0 0)
    have HFL : Hid ((fromE 0 z0).length ≤ 96) := Lib.hid (Nat.le_trans (from_le z0 0) hl96)
    clear hp hap hl96
    go_enter Try.func4, Try.ntmps4
    go_wp2_with (first
      | (go_at_call 6; refine (From_any _ _ _ _ _ HP4.out).mono ?_; rintro e w5 ⟨v, rfl, ho, hb⟩; rw [if_pos HTO.out] at ho ⊢; obtain ⟨ao5, c5, rfl, he⟩ := ho.out (Nat.le_trans HTL.out (by decide)); rw [from_trim] at he ⊢; have HG5 := Lib.hid he; have HE5 := Lib.hid (HE4.out.later hb); have HP5 := Lib.hid (HP4.out.later hb); have B5 := Lib.hid (B4.out.trans (hb.mono B4.out.size)); clear ho hb he)
      | (go_at_call 11; refine (To_any HE3.out HOK.out).mono ?_; rintro e w4 ⟨v, rfl, hf, hb⟩; obtain ⟨ao4, c4, rfl, hA4, _⟩ := hf; have HP4 := Lib.hid hA4; have HE4 := Lib.hid (HE3.out.later hb); have B4 := Lib.hid (B3.out.trans (hb.mono B3.out.size)); clear hb hA4)
      | (go_at_call 8; refine (awake12_any _).mono ?_; rintro e w3 ⟨rfl, hb⟩; have HE3 := Lib.hid (HE2.out.later hb); have B3 := Lib.hid (B2.out.trans (hb.mono B2.out.size)); clear hb)
      | (go_at_call 6; refine (HC1.out _ B0.out).mono ?_; rintro e w2 ⟨v, rfl, ho, hb⟩; obtain ⟨ao2, c2, rfl, he⟩ := ho.out HL.out; have HE2 := Lib.hid he; have B2 := Lib.hid (B0.out.trans (hb.mono B0.out.size)); clear ho hb he))
    go_loopw [9, 10] (fun bv iv wr => ∃ i br : Nat, bv = .int .i64 (br : Int) ∧ iv = .int .i64 (i : Int) ∧ i ≤ len0 ∧ br ≤ i ∧ Hid (br + breaksL (prevL z0 i) (z0.drop i) = breaksL 0 z0) ∧ Hid (Below w5.heap.size w5 wr)) (fun _ iv _ => len0 - (intOf iv).toNat)
    case atStart => exact ⟨0, 0, rfl, rfl, Nat.zero_le _, Nat.le_refl _, Lib.hid (by rw [Nat.zero_add]; rfl), Lib.hid (Below.refl _ _)⟩
    case round =>
      obtain ⟨i, br, rfl, rfl, hi, hbi, HQ, HW⟩ := hrel
      by_cases hlt : i < len0
      · have HAW := Lib.hid ((HA.out.later B5.out).later HW.out)
        obtain ⟨b, off, x, rfl, hx, c1, hI⟩ := HAW.out.at hlt
        have hgx : z0.getD i 0 = x := by rw [List.getD_eq_getElem?_getD, hx]; rfl
        have hst := breaks_step (l := z0) (i := i) (by rw [HLEN.out]; exact hlt)
        rw [hgx] at hst
        have hok := HK.out i
        rw [hgx] at hok
        have i1 : (i : Int) < (len0 : Int) := by omega
        clear hx hI
        by_cases hx0 : x = 0
        · subst hx0
          rw [if_neg (by simp)] at hst
          have HN : Hid (br + breaksL (prevL z0 (i + 1)) (z0.drop (i + 1)) = breaksL 0 z0) := Lib.hid (by have := HQ.out; omega)
          clear hst hgx
          go_wp2_with fail
          go_big_quiet (fail)
          go_wp2_with fail
          go_roundw
          case rel => exact ⟨i + 1, br, rfl, by go_num, by omega, by omega, HN, Lib.hid (below_drewN HW.out _)⟩
          case measure => simp [intOf]; omega
        · have hx59 := hok.resolve_left hx0
          have b0 : (x == 0) = false := by simpa using hx0
          have b3 : (x != 0) = true := by simpa using hx0
          by_cases hi0 : i = 0
          · subst hi0
            rw [Nat.add_zero] at c1
            rw [if_pos ⟨hx0, Or.inl rfl⟩] at hst
            have HN : Hid (br + 1 + breaksL (prevL z0 (0 + 1)) (z0.drop (0 + 1)) = breaksL 0 z0) := Lib.hid (by have := HQ.out; omega)
            clear hst hgx
            go_wp2_with fail
            go_big_quiet (fail)
            go_wp2_with fail
            go_roundw
            case rel => exact ⟨0 + 1, br + 1, by go_num, by go_num, by omega, by omega, HN, Lib.hid (below_drewN HW.out _)⟩
            case measure => simp [intOf]; omega
          · obtain ⟨q, rfl⟩ : ∃ q, i = q + 1 := ⟨i - 1, by omega⟩
            obtain ⟨b2, off2, y, he2, hy, c2, hIy⟩ := HAW.out.at (i := q) (by omega)
            cases he2
            have hgy : prevL z0 (q + 1) = y := by
              show z0.getD q 0 = y
              rw [List.getD_eq_getElem?_getD, hy]; rfl
            have hq := HQ.out
            rw [hgy] at hst hq
            have hoky := HK.out q
            rw [show z0.getD q 0 = y from hgy] at hoky
            have q1 : (q : Int) < (len0 : Int) := by omega
            have b5 : (((q + 1 : Nat) : Int) == 0) = false := by simp; omega
            have b6 : ((q : Int) + 1 == 0) = false := by simp; omega
            clear hy hIy hgy
            by_cases hy0 : y = 0
            · subst hy0
              rw [if_pos ⟨hx0, Or.inl rfl⟩] at hst
              have HN : Hid (br + 1 + breaksL (prevL z0 (q + 1 + 1)) (z0.drop (q + 1 + 1)) = breaksL 0 z0) := Lib.hid (by omega)
              clear hst hgx hq
              go_wp2_with fail
              go_big_quiet (fail)
              go_wp2_with fail
              go_roundw
              case rel => exact ⟨q + 1 + 1, br + 1, by go_num, by go_num, by omega, by omega, HN, Lib.hid (below_drewN HW.out _)⟩
              case measure => simp [intOf]; omega
            · have hy59 := hoky.resolve_left hy0
              have b1 : (y == 0) = false := by simpa using hy0
              by_cases hxy : x = y + 1
              · subst hxy
                rw [if_neg (fun h => h.2.elim hy0 (fun h => h rfl))] at hst
                have HN : Hid (br + breaksL (prevL z0 (q + 1 + 1)) (z0.drop (q + 1 + 1)) = breaksL 0 z0) := Lib.hid (by omega)
                clear hst hgx hq
                go_wp2_with fail
                go_big_quiet (fail)
                go_wp2_with fail
                go_roundw
                case rel => exact ⟨q + 1 + 1, br, rfl, by go_num, by omega, by omega, HN, Lib.hid (below_drewN HW.out _)⟩
                case measure => simp [intOf]; omega
              · rw [if_pos ⟨hx0, Or.inr hxy⟩] at hst
                have b2 : (x == y + 1) = false := by simpa using hxy
                have b4 : (x != y + 1) = true := by simpa using hxy
                have HN : Hid (br + 1 + breaksL (prevL z0 (q + 1 + 1)) (z0.drop (q + 1 + 1)) = breaksL 0 z0) := Lib.hid (by omega)
                clear hst hgx hq
                go_wp2_with fail
                go_big_quiet (fail)
                go_wp2_with fail
                go_roundw
                case rel => exact ⟨q + 1 + 1, br + 1, by go_num, by go_num, by omega, by omega, HN, Lib.hid (below_drewN HW.out _)⟩
                case measure => simp [intOf]; omega
      · have hin : i = len0 := by omega
        subst hin
        have hbr : (fromE 0 z0).length = br := by
          have h := HQ.out
          rw [List.drop_of_length_le (by rw [HLEN.out]; exact Nat.le_refl _), show breaksL (prevL z0 i) [] = 0 from rfl, Nat.add_zero] at h
          rw [HBR.out, h]
        have HG := Lib.hid (HG5.out.later HW.out)
        have HE := Lib.hid (HE5.out.later HW.out)
        have HP := Lib.hid (HP5.out.later HW.out)
        have B6 := Lib.hid (B5.out.trans (HW.out.mono B5.out.size))
        rw [hbr] at *
        go_wp2_with (first
          | (go_at_call 14; refine (ESound_any HE9.out HOK.out).mono ?_; rintro e w10 ⟨rfl, hb⟩; have B10 := Lib.hid (B9.out.trans (hb.mono B9.out.size)); clear hb)
          | (go_at_call 9; refine (sameE_true HG8.out HE8.out).mono ?_; rintro e w9 ⟨rfl, hb⟩; have HE9 := Lib.hid (HE8.out.later hb); have B9 := Lib.hid (B8.out.trans (hb.mono B8.out.size)); clear hb)
          | (go_at_call 12; refine (ints_true _ _ _ _ _ _ _ HP7.out HT7.out).mono ?_; rintro e w8 ⟨rfl, hb⟩; have HG8 := Lib.hid (HG7.out.later hb); have HE8 := Lib.hid (HE7.out.later hb); have B8 := Lib.hid (B7.out.trans (hb.mono B7.out.size)); clear hb)
          | (go_at_call 13; refine (Trim_any _ _ _ _ _ (HA.out.later B6.out) (by omega)).mono ?_; rintro e w7 ⟨v, rfl, hf, hb⟩; obtain ⟨ao7, c7, rfl, hA7, _⟩ := hf; have HT7 := Lib.hid hA7; have HP7 := Lib.hid (HP.out.later hb); have HG7 := Lib.hid (HG.out.later hb); have HE7 := Lib.hid (HE.out.later hb); have B7 := Lib.hid (B6.out.trans (hb.mono B6.out.size)); clear hb hA7))
        go_ret
        exact ⟨rfl, B10.out⟩
  | false =>
    rw [hp] at HC1
    simp only [Bool.false_eq_true, if_false] at HC1
    clear hp
    go_enter Try.func4, Try.ntmps4
    go_wp2_with (first
      | (go_at_call 8; refine (awake12_any w3).mono ?_; rintro e w4 ⟨rfl, hb⟩; have B4 := Lib.hid (B3.out.trans (hb.mono B3.out.size)); clear hb)
      | (go_at_call 8; refine (awake12_any w2).mono ?_; rintro e w3 ⟨rfl, hb⟩; have B3 := Lib.hid (B2.out.trans (hb.mono B2.out.size)); clear hb)
      | (go_at_call 6; refine (HC1.out _ B0.out).mono ?_; rintro e w2 ⟨v, rfl, ho, hb⟩; obtain ⟨ao2, c2, rfl, he⟩ := ho.out (by decide); rw [show (fromE 0 []).length = 0 from rfl]; have B2 := Lib.hid (B0.out.trans (hb.mono B0.out.size)); clear ho hb he))
    go_ret
    exact ⟨rfl, B4.out⟩

/-! ### The law's step -/
set_option maxRecDepth 100000 in
theorem lifted (os : Os) (started : os.Started) (H : Type) (enc : TypeId × Value → H) :
    ReturnsInHanded {} Try.checked os 4 .any (Rows.extentBackSpec.pre6 enc Try.prog Try.f4 Rows.extentBackRow.domain false) (Rows.extentBackSpec.post enc Try.prog Try.f4 false true false false) := by
  refine returnsInHanded_of_change_sized (C := Try.checked) own started (by kernel_rfl) Try.func4
    (ChangeSpec.witness6 (enc := enc) (C := Try.checked) false ⟨#[], #[.slice none 0 0], []⟩ 8 (by kernel_rfl) (by kernel_rfl) (by kernel_rfl) (by kernel_rfl)) ?_
  intro W base args ds gs before hval0 hW hcnd hsz0 _
  have hsz : (DataW.weightsEach Try.prog (Try.f4.params.toList ++ Rows.extentBackSpec.plain.varTypes Try.prog) (ds ++ gs)).all (· ≤ reachBytes) = true := hsz0
  clear hsz0
  have hval : ∀ (j : Nat) t v, Try.f4.params[j]? = some t → args[j]? = some v → Value.okWide Try.prog W .any base t v := hval0
  have hW' := hW
  obtain ⟨p, q, hA0, hV, rfl, hfz, hnd⟩ := hW
  have hA : DataW.TrodAll enc Try.prog W 0 (fun _ => true) true Try.f4.params.toList args.toList ds p := hA0
  rw [Try.params4] at hA hval hsz
  obtain ⟨v0, vs0, d0, ds0, p0, q0, hargs, rfl, rfl, h0, r0⟩ := trodAll_cons hA
  obtain ⟨rfl, rfl, rfl⟩ := trodAll_nil r0
  obtain rfl : args = #[v0] := by cases args; simp_all
  obtain ⟨rfl, rfl⟩ := trodVars_none hV
  have k0 := h0
  have lt0 : ∀ x ∈ p0, x.block < W.heap.size := by obtain ⟨m, hm⟩ := k0; exact DataW.trod_lt m _ _ _ hm
  obtain ⟨a0, len0, cap0, rfl⟩ := okWide_slice Try.underlying22 (hval 0 22 v0 rfl rfl)
  obtain ⟨z0, w0⟩ := open_nums_arg k0 (weights_ofT hsz (j := 0) rfl rfl)
  clear hA0 hval0
  refine (walk a0 len0 cap0 z0 W w0).mono fun e W' ⟨he, bel⟩ => ?_
  subst he
  exact ⟨_, rfl, _, _, _, [], _, [], hW', trodAll_mk1 (shut_bool Try.underlying4 _), (trodAll_cons_mk (Below.trod laidOut (by kernel_rfl) (of_decide_eq_true (by kernel_rfl)) k0 bel lt0) trodAll_mk0), rfl, bel.frame _, fun h => by cases h⟩

theorem over : Rows.extentBackRow.holds Try.pinned (OpenSpec.ofChange Rows.extentBackSpec) :=
  OpenClaim.holds_of_wide 4 Try.f4 rfl rfl rfl rfl rfl rfl rfl ⟨rfl, rfl, rfl, rfl, rfl⟩ rfl rfl rfl rfl rfl (by kernel_rfl) Try.func4 (by kernel_rfl)
    (of_decide_eq_true (by kernel_rfl)) (by unfold Func.isWrapper; first | (rw [if_pos (by decide +kernel)]; kernel_rfl) | (rw [if_neg (by decide +kernel)]; exact ⟨rfl, rfl⟩))
    (fun os started H enc _ => lifted os started H enc)

/-- The statement. -/
theorem proved : Rows.ExtentBackSaid := over
end Go.Proofs.Ytmkibjppnlmehaa.extentBack
