/-
  Proved here: the walk of DiskPlays: the landed disk and the document's own answer alike through any calls.
  The conditions stand at the theorem.
-/
import Derived.Test.YtinlbmlgfneolaaPlay
import Derived.Deep.CutBlock
import Derived.Deep.QuietTactic
import Derived.BigQuiet
namespace Go.Proofs.Ytinlbmlgfneolaa
open Go.RowKit
set_option linter.unusedVariables false

theorem two_open' {X : Nat → Prop} {w1 w0 w : World} {a b : Addr} {sd sr : DM} (n : Int) (h : Two X w1 w0 a b sd sr w) (hn : i64 n) : Calls Try.prog 20 #[.pointer (some a), .int .i64 n] w fun e w' => e = .returned (.int .i64 (openOf sd n)) ∧ w' = w :=
  (two_open n h hn).mono fun _ _ ⟨h1, h2⟩ => ⟨h1, h2.symm⟩

theorem two_drewN {X : Nat → Prop} {w1 w0 w : World} {a b : Addr} {sd sr : DM} (h : Two X w1 w0 a b sd sr w) (q : Nat) : Two X w1 w0 a b sd sr (w.drewN q) := h.later (below_drewN (Below.refl _ _) q)

set_option maxRecDepth 100000 in
set_option maxHeartbeats 1600000 in
theorem plays_out (x : Int) (hx : i64 x) (ha : x < 1 ∨ 480 < x) (ao : Option Addr) (len cap : Nat) (w : World) : Calls Try.prog 3 #[.int .i64 x, .slice ao len cap] w fun e w' => e = .returned (.bool true) ∧ Below w.heap.size w w' := by
  have c1 := new_no x w hx ha
  by_cases h1 : x < 1
  · clear ha hx
    go_enter Try.func3, Try.ntmps3
    go_wp2_with (go_at_call 8; refine c1.mono ?_; rintro e w2 ⟨rfl, hb2⟩; have HB2 := Lib.hid hb2; clear hb2)
    refine (awake07_any _).mono ?_
    rintro e w3 ⟨rfl, hb3⟩
    have HB3 := Lib.hid (HB2.out.trans (hb3.mono HB2.out.size))
    clear hb3
    go_wp2_with fail
    go_ret
    exact ⟨rfl, HB3.out⟩
  · have h2 : 480 < x := by omega
    clear ha hx
    go_enter Try.func3, Try.ntmps3
    go_wp2_with (go_at_call 8; refine c1.mono ?_; rintro e w2 ⟨rfl, hb2⟩; have HB2 := Lib.hid hb2; clear hb2)
    refine (awake07_any _).mono ?_
    rintro e w3 ⟨rfl, hb3⟩
    have HB3 := Lib.hid (HB2.out.trans (hb3.mono HB2.out.size))
    clear hb3
    go_wp2_with fail
    go_ret
    exact ⟨rfl, HB3.out⟩

set_option maxRecDepth 100000 in
set_option maxHeartbeats 6400000 in
theorem plays_in (n : Nat) (h1 : 1 ≤ n) (h2 : n ≤ 480) (ao : Option Addr) (len cap : Nat) (w : World) (hA : ActsIn w ao len) : Calls Try.prog 3 #[.int .i64 (n : Int), .slice ao len cap] w fun e w' => e = .returned (.bool true) ∧ Below w.heap.size w w' := by
  have HA := Lib.hid hA
  have hlb := hA.1
  clear hA
  have c1 := new_ok n w h1 h2
  have i1 : ¬ (n : Int) < 1 := by omega
  have i2 : ¬ (480 : Int) < (n : Int) := by omega
  go_enter Try.func3, Try.ntmps3
  go_wp2_with (go_at_call 8; refine c1.mono ?_; rintro e w2 ⟨a, F, rfl, hd2, hF2, hb2⟩; have HD2 := Lib.hid hd2; have HF2 := Lib.hid hF2; have HB2 := Lib.hid hb2; clear hb2 hd2 hF2)
  refine (awake07_any _).mono ?_
  rintro e w3 ⟨rfl, hb3⟩
  have HD3 := Lib.hid (di_kept HD2.out (fun k hk => hb3.block k (di_lt HD2.out k hk)))
  have HB3 := Lib.hid (HB2.out.trans (hb3.mono HB2.out.size))
  clear hb3 c1
  go_wp2_with fail
  refine (ri_new n w3 h1 h2).mono ?_
  rintro e w4 ⟨b, G, rfl, hr4, hG4, hb4⟩
  obtain ⟨db, rfl⟩ : ∃ db, b = ⟨db, 0, none⟩ := by
    obtain ⟨d, _, _, _, _, _, _, h, _⟩ := hr4
    exact ⟨d, h⟩
  have HP0 : Hid (Play w a ⟨db, 0, none⟩ n 0 w4) := Lib.hid ⟨freshD n, ⟨F, G, di_kept HD3.out (fun k hk => hb4.block k (di_lt HD3.out k hk)), hr4, HF2.out, fun k hk => Nat.le_trans HB3.out.size (hG4 k hk), fun k hk hg => by have h1 := hG4 k hg; have h2 := di_lt HD3.out k hk; omega, HB3.out.trans (hb4.mono HB3.out.size), fun k hk => hk.elim⟩, rfl, fun k => by show 1 ≤ _; omega⟩
  clear hr4 hG4 hb4
  go_wp2_with fail
  go_loopw [8] (fun iv wr => ∃ i : Nat, iv = .int .i64 (i : Int) ∧ i ≤ len ∧ i ≤ 100 ∧ Hid (Play w a ⟨db, 0, none⟩ n i wr)) (fun iv _ => len - (intOf iv).toNat)
  case atStart => exact ⟨0, rfl, Nat.zero_le _, Nat.zero_le _, HP0⟩
  case round =>
    clear HP0 HD2 HF2 HB2 HD3 HB3
    obtain ⟨i, rfl, hi, hi100, HP⟩ := hrel
    by_cases hlt : i < len ∧ i < 100
    · obtain ⟨hl1, hl2⟩ := hlt
      have z1 : (i : Int) < (len : Int) := by omega
      have z2 : (i : Int) < 100 := by omega
      obtain ⟨s, hT, hsn, hsh⟩ := HP.out
      have HT := Lib.hid hT
      have HSN := Lib.hid hsn
      have HSH := Lib.hid hsh
      obtain ⟨bb, off, rfl, hbl, hact⟩ := HA.out.2.resolve_left (by omega)
      obtain ⟨⟨pwhat, pnn, pws, pks⟩, p1, p2, pw, pn, pl, lo, ll, lc, ko, kl, kc, p3, pL, p4, pN⟩ := hact i hl1
      have q1 := cell_later hT.below p1
      have q2 := cell_later hT.below p2
      have q3 := cell_later hT.below p3
      have q4 := cell_later hT.below p4
      have HPN : Hid (i64 pnn) := Lib.hid pn
      have HPL : Hid (pws.length ≤ 1048576) := Lib.hid pl
      have HL : Hid (ListIs w (fun k => k < w.heap.size) lo ll pws) := Lib.hid pL
      have HN : Hid (NumsAre w (fun k => k < w.heap.size) ko kl pks) := Lib.hid pN
      clear hT hsn hsh hbl hact p1 p2 p3 p4 pw pn pl pL pN HP
      go_upto_block 2 with fail
      obtain ⟨g9, hg9⟩ : ∃ g9, g9 = wr.heap.size := ⟨_, rfl⟩
      obtain ⟨W1, hW1⟩ : ∃ W1, W1 = wr.alloc (.cells #[.int .i64 pwhat, .int .i64 pnn, .slice lo ll lc, .slice ko kl kc] 33) := ⟨_, rfl⟩
      rw [← hW1, ← hg9]
      have r1 : W1.cell? ⟨g9, 1, none⟩ = some (.int .i64 pnn) := by rw [hW1, hg9, World.cell?_alloc_new]; rfl
      have r2 : W1.cell? ⟨g9, 2, none⟩ = some (.slice lo ll lc) := by rw [hW1, hg9, World.cell?_alloc_new]; rfl
      have r3 : W1.cell? ⟨g9, 3, none⟩ = some (.slice ko kl kc) := by rw [hW1, hg9, World.cell?_alloc_new]; rfl
      have HT1 : Hid (Two (fun k => k = g9) W1 w a ⟨db, 0, none⟩ s s W1) := Lib.hid (HT.out.mark (by rw [hW1]; exact (Below.refl _ _).alloc (Nat.le_refl _) _) (by rw [hg9]; exact Nat.le_refl _) (by rw [hW1, hg9]; simp))
      have HR := Lib.hid (And.intro r1 (And.intro r2 r3))
      clear q1 q2 q3 q4 hW1 hg9
      go_cut [10, 11, 12, 13] from 49 to 147 (fun f g x y wx => ∃ e S, f = .int .i64 e ∧ g = .int .i64 e ∧ x = .string S ∧ y = .string S ∧ Hid (Play w a ⟨db, 0, none⟩ n (i + 1) wx))
      case first =>
        by_cases k0 : pwhat = 0
        · subst k0
          have c1 := two_put (lc := lc) HT1.out (HL.out.later HT1.out.below) (fun k _ => hist_few (HSH.out k) HPL.out hi100)
          obtain ⟨R, hR⟩ : ∃ R, R = putRes s pws := ⟨_, rfl⟩
          rw [← hR] at c1
          have HRR := Lib.hid hR
          clear hR r1 r3
          go_wp2_with (go_at_call 11; refine c1.mono ?_; rintro e w5 ⟨rfl, ht5⟩; have HT5 := Lib.hid ht5; have r2b := (ht5.cell (j := 2) rfl).trans HR.out.2.1; have c2 := two_rput (lc := lc) ht5 (HL.out.later ht5.below) (fun k _ => hist_few (HSH.out k) HPL.out hi100); rw [← HRR.out] at c2; clear ht5)
          refine c2.mono ?_
          rintro e w6 ⟨rfl, ht6⟩
          have HT6 := Lib.hid ht6
          clear ht6 c1 c2 r2b
          go_wp2_with fail
          go_meet
          case rel =>
            have hpn := put_n s pws
            rw [← HRR.out] at hpn
            refine ⟨R.2, ByteArray.empty, rfl, rfl, rfl, rfl, Lib.hid ⟨R.1, HT6.out.forget, hpn.1.trans HSN.out, fun k => hist_put (HSH.out k) HPL.out (hpn.2 k)⟩⟩
        · by_cases k1 : pwhat = 1
          · subst k1
            have c1 := two_get pnn HT1.out HPN.out
            clear k0 r2 r3
            go_wp2_with fail
            refine c1.mono ?_
            rintro e w5 ⟨v, rfl, hf5, ht5⟩
            have HT5 := Lib.hid ht5
            have r1b := (ht5.cell (j := 1) rfl).trans HR.out.1
            have hcv := fresh_str hf5
            have c2 := two_rget pnn ht5 HPN.out
            clear c1 ht5 hf5
            go_wp2_with fail
            refine c2.mono ?_
            rintro e w6 ⟨rfl, ht6⟩
            have HT6 := Lib.hid ht6
            clear ht6 c2 r1b hcv
            go_wp2_with fail
            go_meet
            case rel => exact ⟨getErr s pnn, str (getOut s pnn), rfl, rfl, rfl, rfl, Lib.hid ⟨s, HT6.out.forget, HSN.out, fun k => hist_up (HSH.out k)⟩⟩
          · by_cases k2 : pwhat = 2
            · subst k2
              have c1 := two_barrier HT1.out
              obtain ⟨R, hR⟩ : ∃ R, R = barRes s := ⟨_, rfl⟩
              rw [← hR] at c1
              have HRR := Lib.hid hR
              clear hR r1 r2 r3 k0 k1
              go_wp2_with fail
              refine c1.mono ?_
              rintro e w5 ⟨rfl, ht5⟩
              have HT5 := Lib.hid ht5
              have c2 := two_rbarrier ht5
              rw [← HRR.out] at c2
              clear ht5 c1
              go_wp2_with fail
              refine c2.mono ?_
              rintro e w6 ⟨rfl, ht6⟩
              have HT6 := Lib.hid ht6
              clear ht6 c2
              go_wp2_with fail
              go_meet
              case rel =>
                have hpn := bar_n s
                rw [← HRR.out] at hpn
                refine ⟨R.2, ByteArray.empty, rfl, rfl, rfl, rfl, Lib.hid ⟨R.1, HT6.out.forget, hpn.1.trans HSN.out, fun k => hist_put (HSH.out k) (by decide) (hpn.2 k)⟩⟩
            · by_cases k3 : pwhat = 3
              · subst k3
                have c1 := two_fail pnn HT1.out HPN.out
                clear r2 r3 k0 k1 k2
                go_wp2_with fail
                refine c1.mono ?_
                rintro e w5 ⟨rfl, ht5⟩
                obtain ⟨d, l, hbd, e2, f2, ht6⟩ := two_rfail pnn ht5 HPN.out
                have HT6 := Lib.hid ht6
                have r1b := (ht5.cell (j := 1) rfl).trans HR.out.1
                cases hbd
                clear ht5 c1 ht6
                go_wp2_with fail
                go_meet
                case rel => exact ⟨0, ByteArray.empty, rfl, rfl, rfl, rfl, Lib.hid ⟨failed s pnn, HT6.out.forget, HSN.out, fun k => hist_up (HSH.out k)⟩⟩
              · have c1 := two_restart (kc := kc) HT1.out (nums_later HN.out HT1.out.below)
                have b0 : (pwhat == 0) = false := by simp; exact k0
                have b1 : (pwhat == 1) = false := by simp; exact k1
                have b2 : (pwhat == 2) = false := by simp; exact k2
                have b3 : (pwhat == 3) = false := by simp; exact k3
                clear r1 r2 k0 k1 k2 k3
                go_wp2_with fail
                refine c1.mono ?_
                rintro e w5 ⟨rfl, ht5⟩
                have HT5 := Lib.hid ht5
                have r3b := (ht5.cell (j := 3) rfl).trans HR.out.2.2
                have c2 := two_rrestart (kc := kc) ht5 (nums_later HN.out ht5.below)
                clear ht5 c1
                go_wp2_with fail
                refine c2.mono ?_
                rintro e w6 ⟨rfl, ht6⟩
                have HT6 := Lib.hid ht6
                clear ht6 c2 r3b
                go_wp2_with fail
                go_meet
                case rel => exact ⟨0, ByteArray.empty, rfl, rfl, rfl, rfl, Lib.hid ⟨restarted s pks, HT6.out.forget, HSN.out, fun k => hist_one rfl⟩⟩
      case rest =>
        obtain ⟨e, S, rfl, rfl, rfl, rfl, HP2⟩ := hcut
        clear HT HT1 HSN HSH HPN HPL HL HN HR r1 r2 r3
        go_wp2_with fail
        go_loopw [16] (fun iv wq => ∃ j : Nat, iv = .int .i64 (j : Int) ∧ j ≤ n ∧ j ≤ 12 ∧ Hid (Play w a ⟨db, 0, none⟩ n (i + 1) wq)) (fun iv _ => n - (intOf iv).toNat)
        case atStart => exact ⟨0, rfl, Nat.zero_le _, Nat.zero_le _, HP2⟩
        case round =>
          clear HP2
          obtain ⟨j, rfl, hj, hj12, HQ⟩ := hrel
          by_cases hjn : j < n ∧ j < 12
          · obtain ⟨hj1, hj2⟩ := hjn
            have y1 : (j : Int) < (n : Int) := by omega
            have y2 : (j : Int) < 12 := by omega
            obtain ⟨s2, hT2, hsn2, hsh2⟩ := HQ.out
            have HT2 := Lib.hid hT2
            obtain ⟨d, go, co, ao9, c9, hbd, e1, e2⟩ := two_ropen j hT2 (by rw [hsn2]; exact hj1)
            rw [hsn2] at e1
            cases hbd
            have HJ : Hid (i64 (j : Int)) := Lib.hid (by unfold i64; omega)
            obtain ⟨o, ho⟩ : ∃ o, openOf s2 (j : Int) = o := ⟨_, rfl⟩
            rw [ho] at e2
            have HO := Lib.hid ho
            have HQ2 : Hid (∀ q, Play w a ⟨db, 0, none⟩ n (i + 1) (wr.drewN q)) := Lib.hid (fun q => ⟨s2, two_drewN HT2.out q, hsn2, hsh2⟩)
            have HCO : Hid (∀ q, Calls Try.prog 20 #[.pointer (some a), .int .i64 (j : Int)] (wr.drewN q) fun e w' => e = .returned (.int .i64 (o : Int)) ∧ w' = wr.drewN q) := Lib.hid (fun q => by have h := two_open' (j : Int) (two_drewN HT2.out q) HJ.out; rw [HO.out] at h; exact h)
            clear hT2 hsn2 hsh2 ho HT2 HO HQ
            go_wp2_with fail
            go_quiet ((go_at_call 20; exact Calls.quiet_of_same (HCO.out _)))
            go_wp2_with fail
            go_roundw
            case rel => exact ⟨j + 1, by go_num, by omega, by omega, HQ2.out _⟩
            case measure => simp [intOf]; omega
          · have HQ2 := HQ
            by_cases hj1 : j < n
            · have y1 : (j : Int) < (n : Int) := by omega
              have y2 : ¬ (j : Int) < 12 := by omega
              go_wp2_with fail
              go_roundw
              case rel => exact ⟨i + 1, by go_num, by omega, by omega, HQ2⟩
              case measure => simp [intOf]; omega
            · have y1 : ¬ (j : Int) < (n : Int) := by omega
              go_wp2_with fail
              go_roundw
              case rel => exact ⟨i + 1, by go_num, by omega, by omega, HQ2⟩
              case measure => simp [intOf]; omega
    · obtain ⟨s, hT, hsn, hsh⟩ := HP.out
      have HB := Lib.hid hT.below
      have c1 := two_open (-1) hT (by unfold i64; omega)
      have c2 := two_open (n : Int) hT (by unfold i64; omega)
      have c3 := two_blocks hT
      rw [show openOf s (-1) = 0 from by unfold openOf; rw [if_neg (by omega)]] at c1
      rw [show openOf s (n : Int) = 0 from by unfold openOf; rw [if_neg (by rw [hsn]; omega)]] at c2
      rw [hsn] at c3
      clear hT hsn hsh HP
      by_cases hl1 : i < len
      · have z1 : (i : Int) < (len : Int) := by omega
        have z2 : ¬ (i : Int) < 100 := by omega
        go_wp2_with fail
        refine c1.mono ?_
        rintro e w5 ⟨rfl, rfl⟩
        go_wp2_with fail
        refine c2.mono ?_
        rintro e w5 ⟨rfl, rfl⟩
        go_wp2_with fail
        refine c3.mono ?_
        rintro e w5 ⟨rfl, rfl⟩
        go_wp2_with fail
        go_ret
        exact ⟨rfl, HB.out⟩
      · have z1 : ¬ (i : Int) < (len : Int) := by omega
        go_wp2_with fail
        refine c1.mono ?_
        rintro e w5 ⟨rfl, rfl⟩
        go_wp2_with fail
        refine c2.mono ?_
        rintro e w5 ⟨rfl, rfl⟩
        go_wp2_with fail
        refine c3.mono ?_
        rintro e w5 ⟨rfl, rfl⟩
        go_wp2_with fail
        go_ret
        exact ⟨rfl, HB.out⟩

end Go.Proofs.Ytinlbmlgfneolaa
