/-
  Proved here: behind as many blocks and barriers as were said the power of a disk is gone, till a restart. No conditions.
-/
import Derived.Test.YtinlbmlgfneolaaAwake07
import Derived.Test.YtinlbmlgfneolaaWrites
namespace Go.Proofs.Ytinlbmlgfneolaa.diskFails
open Go.ChangeShapes Go.WideShapes Go.ChangeAt Go.RowKit
open Go.ChangeMaps (open_string shut_string)
set_option linter.unusedVariables false

set_option maxRecDepth 100000 in
set_option maxHeartbeats 3200000 in
theorem walk (a0 : Int) (a1 : Option Addr) (len1 cap1 : Nat) (z1 : List Int) (w : World) (w0 : (Lit.int .u8 a0).wf = true) (w1 : IsRow .u8 w a1 len1 cap1 z1) (rch1 : cap1 ≤ 140737488351232) :
    Calls Try.prog 5 #[.int .u8 a0, .slice a1 len1 cap1] w fun e w' => e = .returned (.bool true) ∧ Below w.heap.size w w' := by
  have hA := w1.arg rch1
  obtain ⟨zs, HZ⟩ : ∃ zs, Hid (zs = z1.take len1) := ⟨_, Lib.hid rfl⟩
  rw [← HZ.out] at hA
  obtain ⟨l0, h1⟩ := wf_u8 w0
  obtain ⟨n, rfl⟩ : ∃ n : Nat, a0 = n := ⟨a0.toNat, by omega⟩
  clear w0 w1 HZ l0
  have HA := Lib.hid hA
  have hln := hA.1.1
  have HLN := Lib.hid hln
  clear hA hln
  have c := diskOk.new_ok 4 w (by decide) (by decide)
  rw [show ((4 : Nat) : Int) = 4 from rfl] at c
  go_enter Try.func5, Try.ntmps5
  go_wp2_with fail
  refine c.mono ?_
  rintro e w2 ⟨a, F, rfl, hD, hF, hb2⟩
  have HB2 := Lib.hid hb2
  have HD2 := Lib.hid hD
  have HF := Lib.hid hF
  clear c hD hF hb2
  go_wp2_with fail
  refine (awake07_any _).mono ?_
  rintro e w3 ⟨rfl, hb3⟩
  have HD3 := Lib.hid (diskOk.later HD2.out hb3)
  have HB3 := Lib.hid (HB2.out.trans (hb3.mono HB2.out.size))
  clear hb3
  go_wp2_with fail
  refine (diskOk.fail (n : Int) HD3.out (by omega)).mono ?_
  rintro e w4 ⟨F4, rfl, hD4, hG4⟩
  have HJ0 : Hid (∃ F s, DI w4 a F s ∧ (∀ k, F k → w.heap.size ≤ k) ∧ Below w.heap.size w w4 ∧ s.off = false ∧ s.left = (n : Int) ∧ s.n = 4 ∧ ∀ k, (s.hist k).length + n ≤ 256) := Lib.hid ⟨F4, _, hD4, fun k hk => by
    rcases hG4.2.2.2.2.2 k hk with h | h
    · exact HF.out k h
    · have := HB3.out.size; omega, hG4.below HB3.out HB3.out.size HF.out, rfl, by show (if (n : Int) < 0 then -1 else (n : Int)) = n; rw [if_neg (by omega)], rfl, fun k => by show 1 + n ≤ 256; omega⟩
  clear hD4 hG4
  go_wp2_with fail
  go_loopw [7, 8] (fun lv iv wr => ∃ i l : Nat, lv = .int .i64 (l : Int) ∧ iv = .int .i64 (i : Int) ∧ i ≤ len1 ∧ l ≤ 255 ∧ Hid (∃ F s, DI wr a F s ∧ (∀ k, F k → w.heap.size ≤ k) ∧ Below w.heap.size w wr ∧ s.off = false ∧ s.left = (l : Int) ∧ s.n = 4 ∧ ∀ k, (s.hist k).length + l ≤ 256)) (fun _ iv _ => len1 - (intOf iv).toNat)
  case atStart => exact ⟨0, n, rfl, rfl, Nat.zero_le _, by omega, HJ0⟩
  case round =>
    clear HJ0
    obtain ⟨i, l, rfl, rfl, hi, hl, HJ⟩ := hrel
    by_cases hlt : i < len1 ∧ i < 100
    · obtain ⟨hlt, h100⟩ := hlt
      have z1 : (i : Int) < (len1 : Int) := by omega
      have z2 : (i : Int) < 100 := by omega
      obtain ⟨FP, s, hDP, hFP, hBP, hoff, hleft, hn⟩ := HJ.out
      have HDP := Lib.hid hDP
      have HFP0 := Lib.hid hFP
      have HBP0 := Lib.hid hBP
      have hA1 := HA.out.later hBP
      obtain ⟨b, off, rfl, hc⟩ := hA1.1.2.2.2.resolve_left (by omega)
      have hx := hA1.1.2.2.1 _ (getD_mem (l := zs) (k := i) (by rw [HLN.out]; exact hlt))
      have hcell := hc i hlt
      obtain ⟨x, hxe⟩ : ∃ x, zs.getD i 0 = x := ⟨_, rfl⟩
      rw [hxe] at hx hcell
      obtain ⟨hx0, hx1⟩ := hx
      obtain ⟨k, hk⟩ : ∃ k : Nat, x % 4 = (k : Int) := ⟨(x % 4).toNat, by omega⟩
      have d1 : Int.tmod x 4 = (k : Int) := by rw [Int.tmod_eq_emod_of_nonneg hx0]; exact hk
      have hk4 : k < 4 := by omega
      have HST : Hid (s.off = false ∧ s.left = (l : Int) ∧ s.n = 4) := Lib.hid ⟨hoff, hleft, hn.1⟩
      have HHI : Hid (∀ k, (s.hist k).length + l ≤ 256) := Lib.hid hn.2
      clear hDP hFP hBP hA1 hc hxe hk hoff hleft hn HJ
      by_cases hk0 : k = 0
      · subst hk0
        go_wp2_with fail
        clear hcell hx0 hx1 d1
        refine (diskOk.barrier HDP.out).mono ?_
        rintro e w5 ⟨F5, rfl, hD5, hG5⟩
        have HBP := HBP0
        have HFP := HFP0
        have HB5 := Lib.hid (hG5.below HBP.out HBP.out.size HFP.out)
        have HF5 : Hid (∀ k, F5 k → w.heap.size ≤ k) := Lib.hid (fun k hk => by
          rcases hG5.2.2.2.2.2 k hk with h | h
          · exact HFP.out k h
          · have := HBP.out.size; omega)
        by_cases hlk : l < 1
        · have hr : barRes s = (gone s, 8) := by unfold barRes; rw [if_neg (by rw [HST.out.1]; decide), if_pos (by rw [HST.out.2.1]; omega)]
          rw [hr] at hD5 ⊢
          obtain ⟨s5, hs5⟩ : ∃ s5, s5 = gone s := ⟨_, rfl⟩
          rw [← hs5] at hD5
          have hoff : s5.off = true := by rw [hs5]; rfl
          have HD5 : Hid (DI w5 a F5 s5) := Lib.hid hD5
          have hlz : (l : Int) < 1 := by omega
          clear hD5 hG5 hr hs5
          -- the power is gone: HD5, HF5, HB5; hoff : s5.off = true
          have HOFF := Lib.hid hoff
          have HE5 : Hid (getErr s5 0 = 8) := Lib.hid (by unfold getErr; rw [if_pos hoff])
          have c5 := diskOk.get 0 HD5.out (by decide)
          rw [HE5.out] at c5
          clear hoff
          go_wp2_with fail
          refine c5.mono ?_
          rintro e w6 ⟨v6, rfl, hf6, hb6⟩
          have HD6 := Lib.hid (diskOk.later HD5.out hb6)
          have HB6 := Lib.hid (HB5.out.trans (hb6.mono HB5.out.size))
          have c6 := diskOk.barrier HD6.out
          rw [show barRes s5 = (s5, 8) from by unfold barRes; rw [if_pos HOFF.out]] at c6
          obtain ⟨ao6, cp6, hv6, _, _⟩ := hf6
          rw [hv6]
          clear hv6 hb6 c5
          go_wp2_with fail
          refine c6.mono ?_
          rintro e w7 ⟨F7, rfl, hD7, hG7⟩
          have HD7 : Hid (DI w7 a F7 s5) := Lib.hid hD7
          have HB7 := Lib.hid (hG7.below HB6.out HB6.out.size HF5.out)
          have HF7 : Hid (∀ k, F7 k → w.heap.size ≤ k) := Lib.hid (fun k hk => by
            rcases hG7.2.2.2.2.2 k hk with h | h
            · exact HF5.out k h
            · have := HB6.out.size; omega)
          clear c6 hD7 hG7
          go_wp2_with fail
          refine (diskOk.restart (fun _ => False) none 0 0 [] HD7.out ⟨rfl, Or.inl rfl⟩ (fun k _ h => h)).mono ?_
          rintro e w8 ⟨F8, rfl, hD8, hG8⟩
          have HD8 : Hid (DI w8 a F8 (restarted s5 [])) := Lib.hid hD8
          have HB8 := Lib.hid (hG8.below HB7.out HB7.out.size HF7.out)
          have HF8 : Hid (∀ k, F8 k → w.heap.size ≤ k) := Lib.hid (fun k hk => by
            rcases hG8.2.2.2.2.2 k hk with h | h
            · exact HF7.out k h
            · have := HB7.out.size; omega)
          clear hD8 hG8
          go_wp2_with fail
          have c9 := diskOk.barrier HD8.out
          rw [show (barRes (restarted s5 [])).2 = 0 from rfl] at c9
          refine c9.mono ?_
          rintro e w9 ⟨F9, rfl, hD9, hG9⟩
          have HB9 := Lib.hid (hG9.below HB8.out HB8.out.size HF8.out)
          clear c9 hD9 hG9
          go_wp2_with fail
          go_ret
          exact ⟨rfl, HB9.out⟩
        · have hr : barRes s = (lastOnly (step1 s), 0) := by unfold barRes; rw [if_neg (by rw [HST.out.1]; decide), if_neg (by rw [HST.out.2.1]; omega)]
          rw [hr] at hD5 ⊢
          obtain ⟨s5, hs5⟩ : ∃ s5, s5 = lastOnly (step1 s) := ⟨_, rfl⟩
          rw [← hs5] at hD5
          have hst : s5.off = false ∧ s5.left = (l : Int) - 1 ∧ s5.n = 4 ∧ ∀ k, (s5.hist k).length = 1 := by
            rw [hs5]
            refine ⟨HST.out.1, ?_, HST.out.2.2, fun k => rfl⟩
            show (if 0 < s.left then s.left - 1 else s.left) = _
            rw [HST.out.2.1, if_pos (by omega)]
          have HD5 : Hid (DI w5 a F5 s5) := Lib.hid hD5
          have hlz : ¬ (l : Int) < 1 := by omega
          clear hD5 hG5 hr hs5
          have HJ2 : Hid (∃ F s, DI w5 a F s ∧ (∀ k, F k → w.heap.size ≤ k) ∧ Below w.heap.size w w5 ∧ s.off = false ∧ s.left = ((l - 1 : Nat) : Int) ∧ s.n = 4 ∧ ∀ k, (s.hist k).length + (l - 1) ≤ 256) := Lib.hid ⟨F5, s5, HD5.out, HF5.out, HB5.out, hst.1, by rw [hst.2.1]; omega, hst.2.2.1, fun k => by rw [hst.2.2.2 k]; omega⟩
          clear hst
          go_wp2_with fail
          go_roundw
          case rel => exact ⟨i + 1, l - 1, by first | (congr 1; done) | (congr 1; omega), by go_num, by omega, by omega, HJ2⟩
          case measure => simp [intOf]; omega
      · have hkz : ¬ (k : Int) = 0 := by omega
        have hkb : ((k : Int) == 0) = false := by simp; omega
        obtain ⟨wo, rfl⟩ : ∃ wo, wo = wr := ⟨_, rfl⟩
        have HZ0 : Hid (ZL wo.heap.size (.slice (some ⟨wo.heap.size, 0, none⟩) 0 0) 0 (wo.alloc (.cells #[] 54))) := Lib.hid ⟨[], World.ownsRow_made wo #[] 0 (Nat.le_refl _) (by decide) rfl, fun i h => by omega⟩
        have HB0 : Hid (Below wo.heap.size wo (wo.alloc (.cells #[] 54))) := Lib.hid ((Below.refl _ _).alloc (Nat.le_refl _) _)
        go_wp2_with fail
        clear hcell hx0 hx1 d1
        go_loopw [11, 12] (fun vv jv wq => ∃ j : Nat, jv = .int .i64 (j : Int) ∧ j ≤ k ∧ Hid (ZL wo.heap.size vv j wq) ∧ Hid (Below wo.heap.size wo wq)) (fun _ jv _ => k - (intOf jv).toNat)
        case atStart => exact ⟨0, rfl, Nat.zero_le _, HZ0, HB0⟩
        case round =>
          clear HZ0 HB0
          obtain ⟨j, rfl, hj, HZL, HQ⟩ := hrel
          by_cases hjk : j < k
          · have hjz : (j : Int) < (k : Int) := by omega
            obtain ⟨xs, hown, hxs⟩ := HZL.out
            have HOWN := Lib.hid hown
            have HXS := Lib.hid hxs
            have hmk := run_make_bytes wr 64 (by decide)
            rw [show ((64 : Nat) : Int) = 64 from rfl] at hmk
            have HSZ : Hid (wo.heap.size ≤ wr.heap.size) := Lib.hid HQ.out.size
            clear hown hxs HZL
            have HNEW : Hid (∀ (i : Nat) (u : Value), [Value.int .i64 (j : Int), .slice (some ⟨wr.heap.size, 0, none⟩) 64 64][i]? = some u → ((wr.alloc zeroObj).alloc (.cells #[.int .i64 (j : Int), .slice (some ⟨wr.heap.size, 0, none⟩) 64 64] 54)).cell? ((⟨wr.heap.size + 1, 0, none⟩ : Addr).add i) = some u) := Lib.hid (by
              have h := two_cells_new (wr.alloc zeroObj) (.int .i64 (j : Int)) (.slice (some ⟨wr.heap.size, 0, none⟩) 64 64) 54
              rw [show (wr.alloc zeroObj).heap.size = wr.heap.size + 1 by simp] at h
              exact h)
            go_wp2_with (first | (at_builtin; refine wp_append_k elemWrite rfl (.tmp 61) (.tmp 65) rfl wo.heap.size j u11 xs rfl ((HOWN.out.alloc zeroObj).alloc _) ⟨wr.heap.size + 1, 0, none⟩ 1 [.int .i64 (j : Int), .slice (some ⟨wr.heap.size, 0, none⟩) 64 64] rfl rfl HNEW.out (by simp [Value.oneCell']) (by omega) (by have := HSZ.out; simp; omega) ?_; intro v1 w1 hown1 hb1; have HO1 := Lib.hid hown1; have HG1 := Lib.hid (show ((wr.alloc zeroObj).alloc (.cells #[.int .i64 (j : Int), .slice (some ⟨wr.heap.size, 0, none⟩) 64 64] 54)).grownBy w1 u11.ownBlock from hb1); clear hown1 hb1))
            go_roundw
            case rel =>
              refine ⟨j + 1, by go_num, by omega, Lib.hid (ZL.more (wr := (wr.alloc zeroObj).alloc (.cells #[.int .i64 (j : Int), .slice (some ⟨wr.heap.size, 0, none⟩) 64 64] 54)) (g := wr.heap.size) HSZ.out (fun i hi => ?_) ((HOWN.out.alloc zeroObj).alloc _) (heap_alloc2 wr zeroObj _) HO1.out HG1.out), Lib.hid ?_⟩
              · obtain ⟨g, g1, g2, g3, g4⟩ := HXS.out i hi
                exact ⟨g, g1, g2, g3, heap_alloc_keep (heap_alloc_keep g4 _) _⟩
              · refine Below.grown ((HQ.out.alloc HSZ.out _).alloc (by have := HSZ.out; simp; omega) _) HG1.out (by have := HSZ.out; simp; omega) (fun k hk => (HOWN.out.lt k hk).1)
            case measure => simp [intOf]; omega
          · have hjz : ¬ (j : Int) < (k : Int) := by omega
            have hjk' : j = k := by omega
            subst hjk'
            obtain ⟨ao, cp, hv, hL⟩ := HZL.out.list (by omega)
            subst hv
            have hp := diskOk.put (fun b => wo.heap.size ≤ b) ao j cp _ (diskOk.later HDP.out HQ.out) hL (fun b hb => by have := diskOk.lt HDP.out b hb; omega) (fun q _ => by rw [zero_length]; have := HHI.out q; omega)
            rw [zero_put HST.out.1 (by rw [HST.out.2.2]; omega)] at hp
            have HLEFT := Lib.hid (putAll_left (zeroWrites j) s HST.out.1 (by rw [HST.out.2.1]; omega))
            have HBP := Lib.hid (HBP0.out.trans (HQ.out.mono HBP0.out.size))
            have HFP := HFP0
            obtain ⟨R, hR⟩ : ∃ R, R = putAll s (zeroWrites j) := ⟨_, rfl⟩
            have HPH : Hid (∀ k, (R.1.hist k).length ≤ (s.hist k).length + j) := Lib.hid (fun k => by
              have h := putAll_hist (zeroWrites j) s k
              rw [← hR, zero_length] at h
              exact h)
            rw [← hR, zero_length] at HLEFT
            rw [← hR] at hp
            clear hL hR HZL
            go_wp2_with fail
            refine hp.mono ?_
            rintro e w5 ⟨F5, rfl, hD5, hG5⟩
            clear hp
            have HB5 := Lib.hid (hG5.below HBP.out HBP.out.size HFP.out)
            have HF5 : Hid (∀ k, F5 k → w.heap.size ≤ k) := Lib.hid (fun k hk => by
              rcases hG5.2.2.2.2.2 k hk with h | h
              · exact HFP.out k h
              · have := HBP.out.size; omega)
            obtain ⟨s5, r5⟩ := R
            by_cases hlk : l < j
            · obtain ⟨hr, hoff, _⟩ := HLEFT.out.2 (by rw [HST.out.2.1]; omega)
              have hr' : r5 = 8 := hr
              subst hr'
              have hoff : s5.off = true := hoff
              have HD5 : Hid (DI w5 a F5 s5) := Lib.hid hD5
              have hlz : (l : Int) < (j : Int) := by omega
              clear hD5 hG5 hr HLEFT
              -- the power is gone: HD5, HF5, HB5; hoff : s5.off = true
              have HOFF := Lib.hid hoff
              have HE5 : Hid (getErr s5 0 = 8) := Lib.hid (by unfold getErr; rw [if_pos hoff])
              have c5 := diskOk.get 0 HD5.out (by decide)
              rw [HE5.out] at c5
              clear hoff
              go_wp2_with fail
              refine c5.mono ?_
              rintro e w6 ⟨v6, rfl, hf6, hb6⟩
              have HD6 := Lib.hid (diskOk.later HD5.out hb6)
              have HB6 := Lib.hid (HB5.out.trans (hb6.mono HB5.out.size))
              have c6 := diskOk.barrier HD6.out
              rw [show barRes s5 = (s5, 8) from by unfold barRes; rw [if_pos HOFF.out]] at c6
              obtain ⟨ao6, cp6, hv6, _, _⟩ := hf6
              rw [hv6]
              clear hv6 hb6 c5
              go_wp2_with fail
              refine c6.mono ?_
              rintro e w7 ⟨F7, rfl, hD7, hG7⟩
              have HD7 : Hid (DI w7 a F7 s5) := Lib.hid hD7
              have HB7 := Lib.hid (hG7.below HB6.out HB6.out.size HF5.out)
              have HF7 : Hid (∀ k, F7 k → w.heap.size ≤ k) := Lib.hid (fun k hk => by
                rcases hG7.2.2.2.2.2 k hk with h | h
                · exact HF5.out k h
                · have := HB6.out.size; omega)
              clear c6 hD7 hG7
              go_wp2_with fail
              refine (diskOk.restart (fun _ => False) none 0 0 [] HD7.out ⟨rfl, Or.inl rfl⟩ (fun k _ h => h)).mono ?_
              rintro e w8 ⟨F8, rfl, hD8, hG8⟩
              have HD8 : Hid (DI w8 a F8 (restarted s5 [])) := Lib.hid hD8
              have HB8 := Lib.hid (hG8.below HB7.out HB7.out.size HF7.out)
              have HF8 : Hid (∀ k, F8 k → w.heap.size ≤ k) := Lib.hid (fun k hk => by
                rcases hG8.2.2.2.2.2 k hk with h | h
                · exact HF7.out k h
                · have := HB7.out.size; omega)
              clear hD8 hG8
              go_wp2_with fail
              have c9 := diskOk.barrier HD8.out
              rw [show (barRes (restarted s5 [])).2 = 0 from rfl] at c9
              refine c9.mono ?_
              rintro e w9 ⟨F9, rfl, hD9, hG9⟩
              have HB9 := Lib.hid (hG9.below HB8.out HB8.out.size HF8.out)
              clear c9 hD9 hG9
              go_wp2_with fail
              go_ret
              exact ⟨rfl, HB9.out⟩
            · obtain ⟨hr, ho5, hl5, hn5⟩ := HLEFT.out.1 (by rw [HST.out.2.1]; omega)
              have hr' : r5 = 0 := hr
              subst hr'
              have hst : s5.off = false ∧ s5.left = (l : Int) - (j : Int) ∧ s5.n = 4 := ⟨ho5, by rw [← HST.out.2.1]; exact hl5, hn5.trans HST.out.2.2⟩
              have HD5 : Hid (DI w5 a F5 s5) := Lib.hid hD5
              have hlz : ¬ (l : Int) < (j : Int) := by omega
              clear hD5 hG5 hr ho5 hl5 hn5 HLEFT
              have HJ2 : Hid (∃ F s, DI w5 a F s ∧ (∀ k, F k → w.heap.size ≤ k) ∧ Below w.heap.size w w5 ∧ s.off = false ∧ s.left = ((l - j : Nat) : Int) ∧ s.n = 4 ∧ ∀ k, (s.hist k).length + (l - j) ≤ 256) := Lib.hid ⟨F5, s5, HD5.out, HF5.out, HB5.out, hst.1, by rw [hst.2.1]; omega, hst.2.2, fun q => by
                have h1 : (s5.hist q).length ≤ (s.hist q).length + j := HPH.out q
                have h2 := HHI.out q
                omega⟩
              clear hst
              go_wp2_with fail
              go_roundw
              case rel => exact ⟨i + 1, l - j, by first | (congr 1; done) | (congr 1; omega), by go_num, by omega, by omega, HJ2⟩
              case measure => simp [intOf]; omega
    · have HE : Hid (Below w.heap.size w wr) := Lib.hid (by obtain ⟨_, _, _, _, h, _⟩ := HJ.out; exact h)
      by_cases hlt1 : i < len1
      · have z1 : (i : Int) < (len1 : Int) := by omega
        have z2 : ¬ (i : Int) < 100 := by omega
        go_wp2_with fail
        go_ret
        exact ⟨rfl, HE.out⟩
      · have z1 : ¬ (i : Int) < (len1 : Int) := by omega
        go_wp2_with fail
        go_ret
        exact ⟨rfl, HE.out⟩

/-! ### THE ROW's STEP: WRITTEN OUT: LEAVE IT -/
set_option maxRecDepth 100000 in
theorem lifted (os : Os) (started : os.Started) (H : Type) (enc : TypeId × Value → H) :
    ReturnsInHanded {} Try.checked os 5 .any (Rows.diskFailsSpec.pre6 enc Try.prog Try.f5 Rows.diskFailsRow.domain false) (Rows.diskFailsSpec.post enc Try.prog Try.f5 false true false false) := by
  refine returnsInHanded_of_change_sized (C := Try.checked) own started (by kernel_rfl) Try.func5
    (ChangeSpec.witness6 (enc := enc) (C := Try.checked) false ⟨#[], #[.int .u8 0, .slice none 0 0], []⟩ 8 (by kernel_rfl) (by kernel_rfl) (by kernel_rfl) (by kernel_rfl)) ?_
  intro W base args ds gs before hval0 hW hcnd hsz0 _
  have hsz : (DataW.weightsEach Try.prog (Try.f5.params.toList ++ Rows.diskFailsSpec.plain.varTypes Try.prog) (ds ++ gs)).all (· ≤ reachBytes) = true := hsz0
  clear hsz0
  have hval : ∀ (j : Nat) t v, Try.f5.params[j]? = some t → args[j]? = some v → Value.okWide Try.prog W .any base t v := hval0
  have hW' := hW
  obtain ⟨p, q, hA0, hV, rfl, hfz, hnd⟩ := hW
  have hA : DataW.TrodAll enc Try.prog W 0 (fun _ => true) true Try.f5.params.toList args.toList ds p := hA0
  rw [Try.params5] at hA hval hsz
  obtain ⟨v0, vs0, d0, ds0, p0, q0, hargs, rfl, rfl, h0, r0⟩ := trodAll_cons hA
  obtain ⟨v1, vs1, d1, ds1, p1, q1, rfl, rfl, rfl, h1, r1⟩ := trodAll_cons r0
  obtain ⟨rfl, rfl, rfl⟩ := trodAll_nil r1
  obtain rfl : args = #[v0, v1] := by cases args; simp_all
  obtain ⟨rfl, rfl⟩ := trodVars_none hV
  obtain ⟨a0, rfl, rfl, rfl, w0⟩ := open_int Try.underlying5 (hval 0 5 v0 rfl rfl) h0
  obtain ⟨a1, len1, cap1, rfl⟩ := okWide_slice Try.underlying36 (hval 1 36 v1 rfl rfl)
  have k1 := h1
  have lt1 : ∀ x ∈ p1, x.block < W.heap.size := by obtain ⟨m, hm⟩ := k1; exact DataW.trod_lt m _ _ _ hm
  obtain ⟨z1, w1, rch1⟩ := open_bytes k1 (fun e s hd => sized_slice hsz (j := 1) (t := 36) (e := 5) rfl (by rw [hd]; rfl) Try.underlying36)
  clear hA0 hval0
  refine (walk a0 a1 len1 cap1 z1 W w0 w1 rch1).mono fun e W' ⟨he, bel⟩ => ?_
  subst he
  exact ⟨_, rfl, _, _, _, [], _, [], hW', trodAll_mk1 (shut_bool Try.underlying4 _), (trodAll_cons_mk (shut_int Try.underlying5 w0) (trodAll_cons_mk (Below.trod laidOut (by kernel_rfl) (of_decide_eq_true (by kernel_rfl)) k1 bel lt1) trodAll_mk0)), rfl, bel.frame _, fun h => by cases h⟩

theorem over : Rows.diskFailsRow.holds Try.pinned (OpenSpec.ofChange Rows.diskFailsSpec) :=
  OpenClaim.holds_of_wide 5 Try.f5 rfl rfl rfl rfl rfl rfl rfl ⟨rfl, rfl, rfl, rfl, rfl⟩ rfl rfl rfl rfl rfl (by kernel_rfl) Try.func5 (by kernel_rfl)
    (of_decide_eq_true (by kernel_rfl)) (by unfold Func.isWrapper; first | (rw [if_pos (by decide +kernel)]; kernel_rfl) | (rw [if_neg (by decide +kernel)]; exact ⟨rfl, rfl⟩))
    (fun os started H enc _ => lifted os started H enc)

/-- THE STATEMENT -/
theorem proved : Rows.DiskFailsSaid := over
end Go.Proofs.Ytinlbmlgfneolaa.diskFails
