/-
  Proved here: what the law's open answers, behind a restart; of a journal that answers as JournalOk and JournalGood say.
  The conditions stand at each theorem.
-/
import Derived.Test.YtbnepjojfaeggaaGameSet
namespace Go.Proofs.Ytbnepjojfaeggaa
open Go.RowKit
set_option linter.unusedVariables false
set_option linter.unusedSimpArgs false

theorem GI.lo_le {q : Nat} {O : Option Obj} {M : JM} {JI : World → Addr → Addr → (Nat → Prop) → M.S → Prop} {w : World} {lo g n nc mc : Nat} {a j : Addr} {F G : Nat → Prop} {na ma : Option Addr} {dead : Bool} {d : DM} {s : M.S} {xs ys : List ByteArray} (h : GI q O M JI w lo g a j F G na ma n nc mc dead d s xs ys) : lo ≤ w.heap.size := Nat.le_trans h.lo_g (Nat.le_of_lt h.at_.lt)

theorem readS_length (M : JM) (d : DM) (s : M.S) (n : Nat) : (readS M d s n).length = n := by unfold readS; simp
theorem readS_get (M : JM) (d : DM) (s : M.S) {n i : Nat} (h : i < n) : (readS M d s n)[i]? = some (str (M.readP d s (i : Int)).1) := by unfold readS; simp [h]
theorem sameB.symm {x y : List ByteArray} (h : sameB x y) : sameB y x := ⟨h.1.symm, fun j hj hh => (h.2 j (by rw [h.1]; exact hj) hh).symm⟩
theorem sameB.trans {x y z : List ByteArray} (h : sameB x y) (h2 : sameB y z) : sameB x z := ⟨h.1.trans h2.1, fun j hj hh => (h.2 j hj hh).trans (h2.2 j (by rw [← h.1]; exact hj) hh)⟩
theorem Holds.same {M : JM} {d : DM} {s : M.S} {z : List ByteArray} {n : Nat} (h : Holds M d s z) (hn : d.n = n) : sameB (readS M d s n) z :=
  ⟨by rw [readS_length, h.1, hn], fun j hj hh => by rw [readS_length] at hj; rw [readS_get M d s hj, (h.2 j (by omega)).2 hh]⟩
theorem SIs.of_own {base : Nat} {w0 w : World} {g n : Nat} {ns : List ByteArray} (h : OwnV base w0 g (strs ns) w) (hl : ns.length = n) (hn : n ≤ 140737488351232) : SIs w (some ⟨g, 0, none⟩) n ns :=
  ⟨by rw [strs_length, hl], hn, Or.inr ⟨g, 0, rfl, fun j x hx => by rw [Nat.zero_add]; exact h.1 j x hx⟩⟩

set_option maxRecDepth 100000 in
set_option maxHeartbeats 6400000 in
theorem open16_any {q : Nat} {O : Option Obj} {M : JM} {JI : World → Addr → Addr → (Nat → Prop) → M.S → Prop} (K : JournalOk M JI) (Q : JournalGood M) {w : World} {lo g n nc mc kl kc : Nat} {a j : Addr} {F G : Nat → Prop} {na ma ko : Option Addr} {dead : Bool} {d : DM} {s : M.S} {xs ys : List ByteArray} {ks : List Int} {k : Nat} (fail : Int) (hfi : I64 fail)
    (h : GI q O M JI w lo g a j F G na ma n nc mc dead d s xs ys) (hn : 0 < n) (hK : NumsAre w (fun k => k < lo) ko kl ks) (hR : Q.Rec (restarted d ks) xs ys k) :
    Calls Try.prog 13 #[.pointer (some ⟨g, 0, none⟩), .slice ko kl kc, .int .i64 fail] w fun e w' => ∃ j' F' G' va vc d' s' zs, e = .returned (.bool true) ∧ GI q O M JI w' lo g a j' F' G' va va n vc vc false d' s' zs zs ∧ Q.Live d' s' zs k ∧ (zs = xs ∨ zs = ys) ∧ Below lo w w' := by
  have HG := Lib.hid h
  have HK := Lib.hid hK
  have HR := Lib.hid hR
  have y0 := h.at_.1
  clear h hK hR
  go_enter Try.func13, Try.ntmps13
  by_cases hpos : fail > 0
  case' pos =>
    obtain ⟨m, hm⟩ : ∃ m, fail.tmod 30 = m := ⟨_, rfl⟩
    have hmi : -9223372036854775808 ≤ m ∧ m ≤ 9223372036854775807 := by
      have h1 := Int.tmod_nonneg 30 (show 0 ≤ fail by omega)
      have h2 := Int.tmod_lt_of_pos fail (show (0 : Int) < 30 by decide)
      omega
    obtain ⟨d2, hd2⟩ : ∃ d2, failed (restarted d ks) m = d2 := ⟨_, rfl⟩
    have hR2 : Q.Rec d2 xs ys k := by rw [← hd2]; exact Q.rec_fail m HR.out
    obtain ⟨d3, o3, e3, hO⟩ : ∃ d3 o3 e3, M.openP d2 = (d3, o3, e3) := ⟨_, _, _, rfl⟩
    have hop := (Q.opens hR2).2
    rw [hO] at hop
    simp only [Prod.mk.injEq] at hop
    have HM := Lib.hid hmi
    have HD2 := Lib.hid hd2
    have HS2 := Lib.hid (Q.rec_small hR2).1
    have HO := Lib.hid hO
    rcases hop with ⟨s3, x, ⟨rfl, rfl⟩, hx, hlv⟩ | ⟨⟨rfl, rfl⟩, hl3, hs3, hr3⟩
  case' pos.inl =>
    have HR5 : Hid (∃ x' y', (x' = xs ∨ x' = ys) ∧ (y' = xs ∨ y' = ys) ∧ Q.Rec (restarted d3 ks) x' y' k) := Lib.hid ⟨x, x, hx, hx, Q.live_restart ks hlv⟩
    obtain ⟨D, hDD⟩ : ∃ D, restarted d3 ks = D := ⟨_, rfl⟩
    have hlf : D.left < 0 := by rw [← hDD]; show (-1 : Int) < 0; decide
    rw [hDD] at HR5
    have HDD := Lib.hid hDD
    clear hmi hd2 hR2 hO hlv hx hDD
    go_wp2_with (first
      | (go_at_call 16; refine (diskOk.restart (fun k => k < lo) ko kl kc ks HG3.out.di (HK.out.under HB3.out) (fun k hk hk2 => by have := (HG3.out.outF k hk).1; omega)).mono ?_; rintro e w5 ⟨F5, rfl, hD5, hg5⟩; rw [HDD.out] at hD5; have HG5 := Lib.hid (HG3.out.disk K hn HG3.out.lo_le hD5 hg5); have HB5 := Lib.hid (HG3.out.below_disk HB3.out HG3.out.lo_le hg5); have y5 := HG5.out.at_.1; clear hD5 hg5)
      | (go_at_call 17; refine (K.opens HG2.out.di HS2.out).mono ?_; rintro e w3 ⟨F3, p, rfl, hD3, hg3, _, hj3⟩; rw [HO.out] at hD3 hj3; obtain ⟨j3, _, rfl, _⟩ := hj3 s3 rfl; rw [HO.out]; have HG3 := Lib.hid (HG2.out.disk K hn HG2.out.lo_le hD3 hg3); have HB3 := Lib.hid (HG2.out.below_disk HB2.out HG2.out.lo_le hg3); have y3 := HG3.out.at_.1; clear hD3 hg3 hj3)
      | (go_at_call 12; refine (diskOk.fail m HG1.out.di HM.out).mono ?_; rintro e w2 ⟨F2, rfl, hD2, hg2⟩; rw [HD2.out] at hD2; have HG2 := Lib.hid (HG1.out.disk K hn HG1.out.lo_le hD2 hg2); have HB2 := Lib.hid (HG1.out.below_disk HB1.out HG1.out.lo_le hg2); have y2 := HG2.out.at_.1; clear hD2 hg2)
      | (go_at_call 16; refine (diskOk.restart (fun k => k < lo) ko kl kc ks HG.out.di HK.out (fun k hk hk2 => by have := (HG.out.outF k hk).1; omega)).mono ?_; rintro e w1 ⟨F1, rfl, hD1, hg1⟩; have HG1 := Lib.hid (HG.out.disk K hn HG.out.lo_le hD1 hg1); have HB1 := Lib.hid (HG.out.below_disk (Below.refl _ _) HG.out.lo_le hg1); have y1 := HG1.out.at_.1; clear hD1 hg1))
  case' pos.inr =>
    have HR5 : Hid (∃ x' y', (x' = xs ∨ x' = ys) ∧ (y' = xs ∨ y' = ys) ∧ Q.Rec (restarted d3 ks) x' y' k) := Lib.hid ⟨xs, ys, Or.inl rfl, Or.inr rfl, hr3 ks⟩
    obtain ⟨D, hDD⟩ : ∃ D, restarted d3 ks = D := ⟨_, rfl⟩
    have hlf : D.left < 0 := by rw [← hDD]; show (-1 : Int) < 0; decide
    rw [hDD] at HR5
    have HDD := Lib.hid hDD
    clear hmi hd2 hR2 hO hl3 hs3 hr3 hDD
    go_wp2_with (first
      | (go_at_call 16; refine (diskOk.restart (fun k => k < lo) ko kl kc ks HG3.out.di (HK.out.under HB3.out) (fun k hk hk2 => by have := (HG3.out.outF k hk).1; omega)).mono ?_; rintro e w5 ⟨F5, rfl, hD5, hg5⟩; rw [HDD.out] at hD5; have HG5 := Lib.hid (HG3.out.disk K hn HG3.out.lo_le hD5 hg5); have HB5 := Lib.hid (HG3.out.below_disk HB3.out HG3.out.lo_le hg5); have y5 := HG5.out.at_.1; clear hD5 hg5)
      | (go_at_call 17; refine (K.opens HG2.out.di HS2.out).mono ?_; rintro e w3 ⟨F3, p, rfl, hD3, hg3, hn3, hj3⟩; rw [HO.out] at hD3 hn3; have hp3 := hn3 rfl; subst hp3; rw [HO.out]; have HG3 := Lib.hid (HG2.out.disk K hn HG2.out.lo_le hD3 hg3); have HB3 := Lib.hid (HG2.out.below_disk HB2.out HG2.out.lo_le hg3); have y3 := HG3.out.at_.1; clear hD3 hg3 hj3)
      | (go_at_call 12; refine (diskOk.fail m HG1.out.di HM.out).mono ?_; rintro e w2 ⟨F2, rfl, hD2, hg2⟩; rw [HD2.out] at hD2; have HG2 := Lib.hid (HG1.out.disk K hn HG1.out.lo_le hD2 hg2); have HB2 := Lib.hid (HG1.out.below_disk HB1.out HG1.out.lo_le hg2); have y2 := HG2.out.at_.1; clear hD2 hg2)
      | (go_at_call 16; refine (diskOk.restart (fun k => k < lo) ko kl kc ks HG.out.di HK.out (fun k hk hk2 => by have := (HG.out.outF k hk).1; omega)).mono ?_; rintro e w1 ⟨F1, rfl, hD1, hg1⟩; have HG1 := Lib.hid (HG.out.disk K hn HG.out.lo_le hD1 hg1); have HB1 := Lib.hid (HG.out.below_disk (Below.refl _ _) HG.out.lo_le hg1); have y1 := HG1.out.at_.1; clear hD1 hg1))
  case' neg =>
    have HR5 : Hid (∃ x' y', (x' = xs ∨ x' = ys) ∧ (y' = xs ∨ y' = ys) ∧ Q.Rec (restarted d ks) x' y' k) := Lib.hid ⟨xs, ys, Or.inl rfl, Or.inr rfl, HR.out⟩
    obtain ⟨D, hDD⟩ : ∃ D, restarted d ks = D := ⟨_, rfl⟩
    have hlf : D.left < 0 := by rw [← hDD]; show (-1 : Int) < 0; decide
    rw [hDD] at HR5
    have HDD := Lib.hid hDD
    clear hDD
    go_wp2_with (first
      | (go_at_call 16; refine (diskOk.restart (fun k => k < lo) ko kl kc ks HG.out.di HK.out (fun k hk hk2 => by have := (HG.out.outF k hk).1; omega)).mono ?_; rintro e w5 ⟨F5, rfl, hD5, hg5⟩; rw [HDD.out] at hD5; have HG5 := Lib.hid (HG.out.disk K hn HG.out.lo_le hD5 hg5); have HB5 := Lib.hid (HG.out.below_disk (Below.refl _ _) HG.out.lo_le hg5); have y5 := HG5.out.at_.1; clear hD5 hg5))
  all_goals
    obtain ⟨x, y, hx, hy, hr⟩ := HR5.out
    obtain ⟨hl0, hl1, hl2⟩ := Q.looks hr
    have hxn : x.length = n := by rcases hx with rfl | rfl; exact HG5.out.now.len; exact HG5.out.may.len
    have hDn : D.n = n := by rw [← hxn]; exact (Q.rec_small hr).2.2.2.1.symm
    have HSM := Lib.hid (Q.rec_small hr).1
    have hn4 : n ≤ 480 := by rw [← hDn]; exact (Q.rec_small hr).2.1
    have hon := (Q.opens hr).1
    obtain ⟨s7, z, he7, hz, hlv⟩ := (Q.opens hr).2.resolve_right (fun h => by have := h.2.1; omega)
    have hl3 := hl2 s7 he7
    obtain ⟨⟨d7, o7⟩, hE⟩ : ∃ r, M.openP D = r := ⟨_, rfl⟩
    rw [hE] at he7 hlv hon hl3
    simp only at he7 hlv hon hl3
    subst he7
    obtain ⟨⟨rows, e6⟩, hLK⟩ : ∃ r, M.lookP D = r := ⟨_, rfl⟩
    rw [hLK] at hl0 hl1 hl3
    simp only at hl0 hl1 hl3
    subst hl0
    have hh := Q.live_holds hlv
    have HE := Lib.hid hE
    have HLK := Lib.hid hLK
    have HLV := Lib.hid hlv
    have HHH := Lib.hid hh
    have HL3 := Lib.hid hl3
    have HZ : Hid (z = xs ∨ z = ys) := Lib.hid (by rcases hz with rfl | rfl; exact hx; exact hy)
    rw [hDn] at hl1
    have HL1 := Lib.hid hl1
    have HDN := Lib.hid hDn
    have HON := Lib.hid hon
    clear hE hLK hlv hh hl3 hz hx hy hr hl1 hl2 hon hDn hxn
    have hn48 := hn4
    go_wp2_with (first
      | (go_at_call 15; have hg68 := HG6.out.at_.lt; have HG8 := Lib.hid ((HG7.out.setJ K HJ7.out.1 (fun k hk => by have h1 := HJ7.out.2.1 k hk; exact ⟨Nat.le_trans HG6.out.lo_le h1, by omega⟩) (fun hq => by have h1 := HJ7.out.2.1 q hq; have h2 := HG6.out.qn.2.1; omega) (fun k hF hG => HJ7.out.2.2 k hG hF) (fun b o t e hG => by have h1 := HJ7.out.2.1 b hG; have h2 := HG6.out.now.lt hn e; omega) (fun b o t e hG => by have h1 := HJ7.out.2.1 b hG; have h2 := HG6.out.may.lt hn e; omega)).setDead K false); have HRW8 := Lib.hid ((HRW7.out.kept (fun k h1 h2 => set_heap w7 g 1 (.pointer (some j7)) (by have := HG5.out.at_.lt; omega))).kept (fun k h1 h2 => set_heap (w7.setCell ⟨g, 1, none⟩ (.pointer (some j7))) g 4 (.bool false) (by have := HG5.out.at_.lt; omega))); have HB8 := Lib.hid ((HB7.out.setCell (p := ⟨g, 1, none⟩) HG7.out.lo_g (.pointer (some j7))).setCell (p := ⟨g, 4, none⟩) HG7.out.lo_g (.bool false)); obtain ⟨W8, hW8⟩ : ∃ W8, (w7.setCell ⟨g, 1, none⟩ (.pointer (some j7))).setCell ⟨g, 4, none⟩ (.bool false) = W8 := ⟨_, rfl⟩; rw [hW8] at HG8 HRW8 HB8; rw [hW8]; refine (seen_any K HG8.out.at_ hn48 HG8.out.di HG8.out.ji (fun i hi => ((HHH.out.2 i (by rw [HON.out, HDN.out]; exact hi)).1))).mono ?_; rintro e w9 ⟨v9, rfl, hO9, hb9⟩; obtain ⟨g9, c9, rfl, hgc9, hOV⟩ := ownV_form hO9 hn hb9; have HG9 := Lib.hid (HG8.out.later K hb9); have HB9 := Lib.hid (HB8.out.trans (hb9.mono HG8.out.lo_le)); have HRW9 := Lib.hid (HRW8.out.kept (fun k h1 h2 => hb9.block k h2)); have HSN := Lib.hid hOV; clear hO9 hb9 hOV hW8 hg68)
      | (go_at_call 17; refine (K.opens HG6.out.di HSM.out).mono ?_; rintro e w7 ⟨F7, p, rfl, hD7, hg7, _, hj7⟩; rw [HE.out] at hD7 hj7; obtain ⟨j7, G7, rfl, hJ7, hJn, hJF⟩ := hj7 s7 rfl; rw [HE.out]; have HG7 := Lib.hid (HG6.out.disk K hn HG6.out.lo_le hD7 hg7); have HB7 := Lib.hid (HG6.out.below_disk HB6.out HG6.out.lo_le hg7); have HJ7 := Lib.hid (And.intro hJ7 (And.intro hJn hJF)); have HRW7 := Lib.hid (HRW.out.kept (fun k h1 h2 => grew_kept hg7 h2 (fun hF => by have := diskOk.lt HG5.out.di k hF; omega))); have y7 := HG7.out.at_.2.1; have y72 := HG7.out.at_.2.2.1; have y74 := HG7.out.at_.2.2.2.2.1; have f71 := HG7.out.at_.2.2.2.2.2 1; have f74 := HG7.out.at_.2.2.2.2.2 4; clear hD7 hg7 hj7 hJ7 hJn hJF)
      | (go_at_call 21; refine (K.look HG5.out.di HSM.out).mono ?_; rintro e w6 ⟨ao6, l6, c6, rfl, hRw, hb6⟩; rw [HLK.out]; rw [HLK.out] at hRw; have hl6 := hRw.1; rw [HL1.out] at hl6; subst hl6; have HG6 := Lib.hid (HG5.out.later K hb6); have HB6 := Lib.hid (HB5.out.trans (hb6.mono HG5.out.lo_le)); have HRW := Lib.hid hRw; have y6 := HG6.out.at_.1; clear hb6 hRw))
    have HSI := Lib.hid (SIs.of_own HSN.out (readS_length M d7 s7 n) (by omega))
    have hbig : n ≤ 480 := hn4
    clear y0 y5 y6 y7 y72 y74 f71 f74
    go_loopw [14] (fun iv wr => ∃ i : Nat, iv = .int .i64 (i : Int) ∧ i ≤ n ∧ Hid (Below w9.heap.size w9 wr)) (fun iv _ => n - (intOf iv).toNat)
    case atStart => exact ⟨0, rfl, Nat.zero_le _, Lib.hid (Below.refl _ _)⟩
    case round =>
      obtain ⟨i, rfl, hi, HB⟩ := hrel
      have HGr := Lib.hid (HG9.out.later K HB.out)
      have HSr := Lib.hid (HSI.out.later HB.out)
      by_cases hlt : i < n
      · have i1 : (i : Int) < (n : Int) := by omega
        obtain ⟨b6, o6, rfl, _, hc6⟩ := (HRW9.out.kept (fun k _ h2 => HB.out.block k h2)).2.2.resolve_left (by omega)
        obtain ⟨ad, l, c, hc1, hB6, _, _⟩ := hc6 i hlt
        have hcv := And.intro (str_bytes (w := wr.drew) hB6 (cap := c)) (str_bytes hB6 (cap := c))
        obtain ⟨b9, o9, x9, he9, hx9, hc9⟩ := HSr.out.at hlt
        cases he9
        rw [readS_get M d7 s7 hlt] at hx9
        cases hx9
        by_cases h1 : i = 1
        · subst h1
          obtain ⟨X, hX⟩ : ∃ X, str (M.readP d7 s7 ((1 : Nat) : Int)).1 = X := ⟨_, rfl⟩
          obtain ⟨Y, hY⟩ : ∃ Y, str (rows.getD 1 []) = Y := ⟨_, rfl⟩
          rw [hX] at hc9
          rw [hY] at hcv
          have hs := str_is X Y
          have hcvd := hcv.1
          by_cases hXY : X = Y
          · rw [decide_eq_true hXY] at hs
            clear hX hY hXY hc6 hB6
            go_wp2_with fail
            refine wp_region_held_drew (S := fun W => W.cell? ⟨g9, 0 + 1, none⟩ = some (.string X) ∧ W.cell? ⟨b6, o6 + 1, none⟩ = some (.slice ad l c) ∧ (convert 46 9 (.slice ad l c)).run Try.prog W = .ok (.string Y) W) (by kernel_rfl) ⟨hc9, hc1, hcvd⟩ (fun hHeld => ?_)
            refine wpAnyH_take (i := 0) (oi := ⟨some 115, _, _, _, _, _⟩) (v := .slice (some ⟨g9, 0, none⟩) n c9) rfl (by kernel_rfl) (by kernel_rfl) (by kernel_rfl) (fun _ _ _ h => h) (Or.inl ⟨by kernel_rfl, fun w _ => rfl⟩) (by assumption) ?_
            try simp only [Act.put, List.setIfInBounds_toArray, List.set_cons_zero, List.set_cons_succ]
            refine wpAnyH_take (i := 1) (oi := ⟨some 116, _, _, _, _, _⟩) (v := .int .i64 1) rfl (by kernel_rfl) (by kernel_rfl) (by kernel_rfl) (fun _ _ _ h => h) (Or.inl ⟨by kernel_rfl, fun w _ => rfl⟩) (by assumption) ?_
            try simp only [Act.put, List.setIfInBounds_toArray, List.set_cons_zero, List.set_cons_succ]
            refine wpAnyH_take (i := 2) (oi := ⟨some 117, _, _, _, _, _⟩) (v := .pointer (some ⟨g9, 0 + 1, none⟩)) rfl (by kernel_rfl) (by kernel_rfl) (by kernel_rfl) (fun _ _ _ h => h) (Or.inl ⟨by kernel_rfl, by intro w _; go_simp; (try omega)⟩) (by assumption) ?_
            try simp only [Act.put, List.setIfInBounds_toArray, List.set_cons_zero, List.set_cons_succ]
            refine wpAnyH_take (i := 3) (oi := ⟨some 118, _, _, _, _, _⟩) (v := .string X) rfl (by kernel_rfl) (by kernel_rfl) (by kernel_rfl) (fun _ _ _ h => h) (Or.inl ⟨by kernel_rfl, by intro w hSw; obtain ⟨s1, s2, s3⟩ := hSw; go_simp⟩) (by assumption) ?_
            try simp only [Act.put, List.setIfInBounds_toArray, List.set_cons_zero, List.set_cons_succ]
            refine wpAnyH_take (i := 4) (oi := ⟨some 119, _, _, _, _, _⟩) (v := .slice (some ⟨b6, o6, none⟩) n c6) rfl (by kernel_rfl) (by kernel_rfl) (by kernel_rfl) (fun _ _ _ h => h) (Or.inl ⟨by kernel_rfl, fun w _ => rfl⟩) (by assumption) ?_
            try simp only [Act.put, List.setIfInBounds_toArray, List.set_cons_zero, List.set_cons_succ]
            refine wpAnyH_take (i := 5) (oi := ⟨some 120, _, _, _, _, _⟩) (v := .int .i64 1) rfl (by kernel_rfl) (by kernel_rfl) (by kernel_rfl) (fun _ _ _ h => h) (Or.inl ⟨by kernel_rfl, fun w _ => rfl⟩) (by assumption) ?_
            try simp only [Act.put, List.setIfInBounds_toArray, List.set_cons_zero, List.set_cons_succ]
            refine wpAnyH_take (i := 6) (oi := ⟨some 121, _, _, _, _, _⟩) (v := .pointer (some ⟨b6, o6 + 1, none⟩)) rfl (by kernel_rfl) (by kernel_rfl) (by kernel_rfl) (fun _ _ _ h => h) (Or.inl ⟨by kernel_rfl, by intro w _; go_simp; (try omega)⟩) (by assumption) ?_
            try simp only [Act.put, List.setIfInBounds_toArray, List.set_cons_zero, List.set_cons_succ]
            refine wpAnyH_take (i := 7) (oi := ⟨some 122, _, _, _, _, _⟩) (v := .slice ad l c) rfl (by kernel_rfl) (by kernel_rfl) (by kernel_rfl) (fun _ _ _ h => h) (Or.inl ⟨by kernel_rfl, by intro w hSw; obtain ⟨s1, s2, s3⟩ := hSw; go_simp⟩) (by assumption) ?_
            try simp only [Act.put, List.setIfInBounds_toArray, List.set_cons_zero, List.set_cons_succ]
            refine wpAnyH_take (i := 8) (oi := ⟨some 123, _, _, _, _, _⟩) (v := .string Y) rfl (by kernel_rfl) (by kernel_rfl) (by kernel_rfl) (fun _ _ _ h => h) (Or.inl ⟨by kernel_rfl, by intro w hSw; obtain ⟨s1, s2, s3⟩ := hSw; go_simp⟩) (by assumption) ?_
            try simp only [Act.put, List.setIfInBounds_toArray, List.set_cons_zero, List.set_cons_succ]
            refine wpAnyH_take (i := 9) (oi := ⟨some 124, _, _, _, _, _⟩) (v := .bool false) rfl (by kernel_rfl) (by kernel_rfl) (by kernel_rfl) (fun _ _ _ h => h) (Or.inl ⟨by kernel_rfl, by intro w _; go_simp; (try omega)⟩) (by assumption) ?_
            try simp only [Act.put, List.setIfInBounds_toArray, List.set_cons_zero, List.set_cons_succ]
            refine wpAnyH_take (i := 10) (oi := ⟨some 125, _, _, _, _, _⟩) (v := .bool false) rfl (by kernel_rfl) (by kernel_rfl) (by kernel_rfl) (fun _ _ _ h => h) (Or.inl ⟨by kernel_rfl, fun w _ => rfl⟩) (by assumption) ?_
            try simp only [Act.put, List.setIfInBounds_toArray, List.set_cons_zero, List.set_cons_succ]
            refine wpAnyH_take (i := 11) (oi := ⟨some 126, _, _, _, _, _⟩) (v := undef) rfl (by kernel_rfl) (by kernel_rfl) (by kernel_rfl) (fun _ _ _ h => h) (Or.inr ⟨by kernel_rfl, rfl⟩) (by assumption) ?_
            try simp only [Act.put, List.setIfInBounds_toArray, List.set_cons_zero, List.set_cons_succ]
            refine wpAnyH_take (i := 12) (oi := ⟨some 127, _, _, _, _, _⟩) (v := undef) rfl (by kernel_rfl) (by kernel_rfl) (by kernel_rfl) (fun _ _ _ h => h) (Or.inr ⟨by kernel_rfl, rfl⟩) (by assumption) ?_
            try simp only [Act.put, List.setIfInBounds_toArray, List.set_cons_zero, List.set_cons_succ]
            refine wpAnyH_take (i := 13) (oi := ⟨some 128, _, _, _, _, _⟩) (v := .bool false) rfl (by kernel_rfl) (by kernel_rfl) (by kernel_rfl) (fun _ _ _ h => h) (Or.inl ⟨by kernel_rfl, by intro w _; go_simp; (try omega)⟩) (by assumption) ?_
            try simp only [Act.put, List.setIfInBounds_toArray, List.set_cons_zero, List.set_cons_succ]
            refine wpAnyH_done (by kernel_rfl) ?_ _
            go_wp2_with fail
            go_roundw
            case rel => exact ⟨2, by go_num, by omega, Lib.hid HB.out.drew⟩
            case measure => simp [intOf]; omega
          · rw [decide_eq_false hXY] at hs
            clear hX hY hXY hc6 hB6
            go_wp2_with fail
            refine wp_region_held_drew (S := fun W => W.cell? ⟨g9, 0 + 1, none⟩ = some (.string X) ∧ W.cell? ⟨b6, o6 + 1, none⟩ = some (.slice ad l c) ∧ (convert 46 9 (.slice ad l c)).run Try.prog W = .ok (.string Y) W) (by kernel_rfl) ⟨hc9, hc1, hcvd⟩ (fun hHeld => ?_)
            refine wpAnyH_take (i := 0) (oi := ⟨some 115, _, _, _, _, _⟩) (v := .slice (some ⟨g9, 0, none⟩) n c9) rfl (by kernel_rfl) (by kernel_rfl) (by kernel_rfl) (fun _ _ _ h => h) (Or.inl ⟨by kernel_rfl, fun w _ => rfl⟩) (by assumption) ?_
            try simp only [Act.put, List.setIfInBounds_toArray, List.set_cons_zero, List.set_cons_succ]
            refine wpAnyH_take (i := 1) (oi := ⟨some 116, _, _, _, _, _⟩) (v := .int .i64 1) rfl (by kernel_rfl) (by kernel_rfl) (by kernel_rfl) (fun _ _ _ h => h) (Or.inl ⟨by kernel_rfl, fun w _ => rfl⟩) (by assumption) ?_
            try simp only [Act.put, List.setIfInBounds_toArray, List.set_cons_zero, List.set_cons_succ]
            refine wpAnyH_take (i := 2) (oi := ⟨some 117, _, _, _, _, _⟩) (v := .pointer (some ⟨g9, 0 + 1, none⟩)) rfl (by kernel_rfl) (by kernel_rfl) (by kernel_rfl) (fun _ _ _ h => h) (Or.inl ⟨by kernel_rfl, by intro w _; go_simp; (try omega)⟩) (by assumption) ?_
            try simp only [Act.put, List.setIfInBounds_toArray, List.set_cons_zero, List.set_cons_succ]
            refine wpAnyH_take (i := 3) (oi := ⟨some 118, _, _, _, _, _⟩) (v := .string X) rfl (by kernel_rfl) (by kernel_rfl) (by kernel_rfl) (fun _ _ _ h => h) (Or.inl ⟨by kernel_rfl, by intro w hSw; obtain ⟨s1, s2, s3⟩ := hSw; go_simp⟩) (by assumption) ?_
            try simp only [Act.put, List.setIfInBounds_toArray, List.set_cons_zero, List.set_cons_succ]
            refine wpAnyH_take (i := 4) (oi := ⟨some 119, _, _, _, _, _⟩) (v := .slice (some ⟨b6, o6, none⟩) n c6) rfl (by kernel_rfl) (by kernel_rfl) (by kernel_rfl) (fun _ _ _ h => h) (Or.inl ⟨by kernel_rfl, fun w _ => rfl⟩) (by assumption) ?_
            try simp only [Act.put, List.setIfInBounds_toArray, List.set_cons_zero, List.set_cons_succ]
            refine wpAnyH_take (i := 5) (oi := ⟨some 120, _, _, _, _, _⟩) (v := .int .i64 1) rfl (by kernel_rfl) (by kernel_rfl) (by kernel_rfl) (fun _ _ _ h => h) (Or.inl ⟨by kernel_rfl, fun w _ => rfl⟩) (by assumption) ?_
            try simp only [Act.put, List.setIfInBounds_toArray, List.set_cons_zero, List.set_cons_succ]
            refine wpAnyH_take (i := 6) (oi := ⟨some 121, _, _, _, _, _⟩) (v := .pointer (some ⟨b6, o6 + 1, none⟩)) rfl (by kernel_rfl) (by kernel_rfl) (by kernel_rfl) (fun _ _ _ h => h) (Or.inl ⟨by kernel_rfl, by intro w _; go_simp; (try omega)⟩) (by assumption) ?_
            try simp only [Act.put, List.setIfInBounds_toArray, List.set_cons_zero, List.set_cons_succ]
            refine wpAnyH_take (i := 7) (oi := ⟨some 122, _, _, _, _, _⟩) (v := .slice ad l c) rfl (by kernel_rfl) (by kernel_rfl) (by kernel_rfl) (fun _ _ _ h => h) (Or.inl ⟨by kernel_rfl, by intro w hSw; obtain ⟨s1, s2, s3⟩ := hSw; go_simp⟩) (by assumption) ?_
            try simp only [Act.put, List.setIfInBounds_toArray, List.set_cons_zero, List.set_cons_succ]
            refine wpAnyH_take (i := 8) (oi := ⟨some 123, _, _, _, _, _⟩) (v := .string Y) rfl (by kernel_rfl) (by kernel_rfl) (by kernel_rfl) (fun _ _ _ h => h) (Or.inl ⟨by kernel_rfl, by intro w hSw; obtain ⟨s1, s2, s3⟩ := hSw; go_simp⟩) (by assumption) ?_
            try simp only [Act.put, List.setIfInBounds_toArray, List.set_cons_zero, List.set_cons_succ]
            refine wpAnyH_take (i := 9) (oi := ⟨some 124, _, _, _, _, _⟩) (v := .bool true) rfl (by kernel_rfl) (by kernel_rfl) (by kernel_rfl) (fun _ _ _ h => h) (Or.inl ⟨by kernel_rfl, by intro w _; go_simp; (try omega)⟩) (by assumption) ?_
            try simp only [Act.put, List.setIfInBounds_toArray, List.set_cons_zero, List.set_cons_succ]
            refine wpAnyH_take (i := 10) (oi := ⟨some 125, _, _, _, _, _⟩) (v := .bool true) rfl (by kernel_rfl) (by kernel_rfl) (by kernel_rfl) (fun _ _ _ h => h) (Or.inl ⟨by kernel_rfl, fun w _ => rfl⟩) (by assumption) ?_
            try simp only [Act.put, List.setIfInBounds_toArray, List.set_cons_zero, List.set_cons_succ]
            refine wpAnyH_take (i := 11) (oi := ⟨some 126, _, _, _, _, _⟩) (v := .int .i64 1) rfl (by kernel_rfl) (by kernel_rfl) (by kernel_rfl) (fun _ _ _ h => h) (Or.inl ⟨by kernel_rfl, fun w _ => rfl⟩) (by assumption) ?_
            try simp only [Act.put, List.setIfInBounds_toArray, List.set_cons_zero, List.set_cons_succ]
            refine wpAnyH_take (i := 12) (oi := ⟨some 127, _, _, _, _, _⟩) (v := .bool false) rfl (by kernel_rfl) (by kernel_rfl) (by kernel_rfl) (fun _ _ _ h => h) (Or.inl ⟨by kernel_rfl, by intro w _; go_simp; (try omega)⟩) (by assumption) ?_
            try simp only [Act.put, List.setIfInBounds_toArray, List.set_cons_zero, List.set_cons_succ]
            refine wpAnyH_take (i := 13) (oi := ⟨some 128, _, _, _, _, _⟩) (v := .bool false) rfl (by kernel_rfl) (by kernel_rfl) (by kernel_rfl) (fun _ _ _ h => h) (Or.inl ⟨by kernel_rfl, by intro w _; go_simp; (try omega)⟩) (by assumption) ?_
            try simp only [Act.put, List.setIfInBounds_toArray, List.set_cons_zero, List.set_cons_succ]
            refine wpAnyH_done (by kernel_rfl) ?_ _
            go_wp2_with fail
            go_roundw
            case rel => exact ⟨2, by go_num, by omega, Lib.hid HB.out.drew⟩
            case measure => simp [intOf]; omega
        · have hl := HL3.out i (by rw [HDN.out]; exact hlt) h1
          have hg : rows.getD i [] = (M.readP d7 s7 (i : Int)).1 := by rw [List.getD_eq_getElem?_getD, hl]; rfl
          rw [hg] at hcv
          obtain ⟨X, hX⟩ : ∃ X, str (M.readP d7 s7 (i : Int)).1 = X := ⟨_, rfl⟩
          rw [hX, Nat.zero_add] at hc9
          rw [hX] at hcv
          have hs := str_is X X
          rw [decide_eq_true rfl] at hs
          have hcvd := hcv.1
          clear hX hg hl hc6 hB6
          go_wp2_with fail
          refine wp_region_held_drew (S := fun W => W.cell? ⟨g9, i, none⟩ = some (.string X) ∧ W.cell? ⟨b6, o6 + i, none⟩ = some (.slice ad l c) ∧ (convert 46 9 (.slice ad l c)).run Try.prog W = .ok (.string X) W) (by kernel_rfl) ⟨hc9, hc1, hcvd⟩ (fun hHeld => ?_)
          refine wpAnyH_take (i := 0) (oi := ⟨some 115, _, _, _, _, _⟩) (v := .slice (some ⟨g9, 0, none⟩) n c9) rfl (by kernel_rfl) (by kernel_rfl) (by kernel_rfl) (fun _ _ _ h => h) (Or.inl ⟨by kernel_rfl, fun w _ => rfl⟩) (by assumption) ?_
          try simp only [Act.put, List.setIfInBounds_toArray, List.set_cons_zero, List.set_cons_succ]
          refine wpAnyH_take (i := 1) (oi := ⟨some 116, _, _, _, _, _⟩) (v := .int .i64 ((i : Nat) : Int)) rfl (by kernel_rfl) (by kernel_rfl) (by kernel_rfl) (fun _ _ _ h => h) (Or.inl ⟨by kernel_rfl, fun w _ => rfl⟩) (by assumption) ?_
          try simp only [Act.put, List.setIfInBounds_toArray, List.set_cons_zero, List.set_cons_succ]
          refine wpAnyH_take (i := 2) (oi := ⟨some 117, _, _, _, _, _⟩) (v := .pointer (some ⟨g9, i, none⟩)) rfl (by kernel_rfl) (by kernel_rfl) (by kernel_rfl) (fun _ _ _ h => h) (Or.inl ⟨by kernel_rfl, by intro w _; go_simp; (try omega)⟩) (by assumption) ?_
          try simp only [Act.put, List.setIfInBounds_toArray, List.set_cons_zero, List.set_cons_succ]
          refine wpAnyH_take (i := 3) (oi := ⟨some 118, _, _, _, _, _⟩) (v := .string X) rfl (by kernel_rfl) (by kernel_rfl) (by kernel_rfl) (fun _ _ _ h => h) (Or.inl ⟨by kernel_rfl, by intro w hSw; obtain ⟨s1, s2, s3⟩ := hSw; go_simp⟩) (by assumption) ?_
          try simp only [Act.put, List.setIfInBounds_toArray, List.set_cons_zero, List.set_cons_succ]
          refine wpAnyH_take (i := 4) (oi := ⟨some 119, _, _, _, _, _⟩) (v := .slice (some ⟨b6, o6, none⟩) n c6) rfl (by kernel_rfl) (by kernel_rfl) (by kernel_rfl) (fun _ _ _ h => h) (Or.inl ⟨by kernel_rfl, fun w _ => rfl⟩) (by assumption) ?_
          try simp only [Act.put, List.setIfInBounds_toArray, List.set_cons_zero, List.set_cons_succ]
          refine wpAnyH_take (i := 5) (oi := ⟨some 120, _, _, _, _, _⟩) (v := .int .i64 ((i : Nat) : Int)) rfl (by kernel_rfl) (by kernel_rfl) (by kernel_rfl) (fun _ _ _ h => h) (Or.inl ⟨by kernel_rfl, fun w _ => rfl⟩) (by assumption) ?_
          try simp only [Act.put, List.setIfInBounds_toArray, List.set_cons_zero, List.set_cons_succ]
          refine wpAnyH_take (i := 6) (oi := ⟨some 121, _, _, _, _, _⟩) (v := .pointer (some ⟨b6, o6 + i, none⟩)) rfl (by kernel_rfl) (by kernel_rfl) (by kernel_rfl) (fun _ _ _ h => h) (Or.inl ⟨by kernel_rfl, by intro w _; go_simp; (try omega)⟩) (by assumption) ?_
          try simp only [Act.put, List.setIfInBounds_toArray, List.set_cons_zero, List.set_cons_succ]
          refine wpAnyH_take (i := 7) (oi := ⟨some 122, _, _, _, _, _⟩) (v := .slice ad l c) rfl (by kernel_rfl) (by kernel_rfl) (by kernel_rfl) (fun _ _ _ h => h) (Or.inl ⟨by kernel_rfl, by intro w hSw; obtain ⟨s1, s2, s3⟩ := hSw; go_simp⟩) (by assumption) ?_
          try simp only [Act.put, List.setIfInBounds_toArray, List.set_cons_zero, List.set_cons_succ]
          refine wpAnyH_take (i := 8) (oi := ⟨some 123, _, _, _, _, _⟩) (v := .string X) rfl (by kernel_rfl) (by kernel_rfl) (by kernel_rfl) (fun _ _ _ h => h) (Or.inl ⟨by kernel_rfl, by intro w hSw; obtain ⟨s1, s2, s3⟩ := hSw; go_simp⟩) (by assumption) ?_
          try simp only [Act.put, List.setIfInBounds_toArray, List.set_cons_zero, List.set_cons_succ]
          refine wpAnyH_take (i := 9) (oi := ⟨some 124, _, _, _, _, _⟩) (v := .bool false) rfl (by kernel_rfl) (by kernel_rfl) (by kernel_rfl) (fun _ _ _ h => h) (Or.inl ⟨by kernel_rfl, by intro w _; go_simp; (try omega)⟩) (by assumption) ?_
          try simp only [Act.put, List.setIfInBounds_toArray, List.set_cons_zero, List.set_cons_succ]
          refine wpAnyH_take (i := 10) (oi := ⟨some 125, _, _, _, _, _⟩) (v := .bool false) rfl (by kernel_rfl) (by kernel_rfl) (by kernel_rfl) (fun _ _ _ h => h) (Or.inl ⟨by kernel_rfl, fun w _ => rfl⟩) (by assumption) ?_
          try simp only [Act.put, List.setIfInBounds_toArray, List.set_cons_zero, List.set_cons_succ]
          refine wpAnyH_take (i := 11) (oi := ⟨some 126, _, _, _, _, _⟩) (v := undef) rfl (by kernel_rfl) (by kernel_rfl) (by kernel_rfl) (fun _ _ _ h => h) (Or.inr ⟨by kernel_rfl, rfl⟩) (by assumption) ?_
          try simp only [Act.put, List.setIfInBounds_toArray, List.set_cons_zero, List.set_cons_succ]
          refine wpAnyH_take (i := 12) (oi := ⟨some 127, _, _, _, _, _⟩) (v := undef) rfl (by kernel_rfl) (by kernel_rfl) (by kernel_rfl) (fun _ _ _ h => h) (Or.inr ⟨by kernel_rfl, rfl⟩) (by assumption) ?_
          try simp only [Act.put, List.setIfInBounds_toArray, List.set_cons_zero, List.set_cons_succ]
          refine wpAnyH_take (i := 13) (oi := ⟨some 128, _, _, _, _, _⟩) (v := .bool false) rfl (by kernel_rfl) (by kernel_rfl) (by kernel_rfl) (fun _ _ _ h => h) (Or.inl ⟨by kernel_rfl, by intro w _; go_simp; (try omega)⟩) (by assumption) ?_
          try simp only [Act.put, List.setIfInBounds_toArray, List.set_cons_zero, List.set_cons_succ]
          refine wpAnyH_done (by kernel_rfl) ?_ _
          go_wp2_with fail
          go_roundw
          case rel => exact ⟨i + 1, by go_num, by omega, Lib.hid HB.out.drew⟩
          case measure => simp [intOf]; omega
      · obtain rfl : i = n := by omega
        have hsz : sameB (readS M d7 s7 i) z := HHH.out.same (by rw [HON.out, HDN.out])
        have m3 := HGr.out.at_.2.2.2.1
        have HWR := Lib.hid (HB9.out.trans (HB.out.mono HG9.out.lo_le))
        have hg9 : g < g9 := Nat.lt_of_lt_of_le HG8.out.at_.lt HSN.out.2.2.1
        by_cases hsm : sameB (readS M d7 s7 i) ys
        · have HSM1 := Lib.hid hsm
          have HZY := Lib.hid (hsz.symm.trans hsm)
          clear hsm hsz
          go_wp2_with (first
            | (go_at_call 14; refine (RSame16_any _ HSA.out HGA.out.now).mono ?_; rintro e w11 ⟨rfl, hb11⟩; rw [sameD_true HSM1.out]; have HGD := Lib.hid (HGA.out.later K hb11); have HBD := Lib.hid (HBA.out.trans (hb11.mono HGA.out.lo_le)); clear hb11)
            | (go_at_call 14; refine (RSame16_any _ HSr.out HGr.out.may).mono ?_; rintro e w10 ⟨rfl, hb10⟩; rw [sameD_true HSM1.out]; have HG10 := Lib.hid (HGr.out.later K hb10); have HB10 := Lib.hid (HWR.out.trans (hb10.mono HGr.out.lo_le)); have HS10 := Lib.hid (HSr.out.later hb10); have HGN := Lib.hid (HG10.out.setNow K (vc := mc) HG10.out.may HG10.out.offM); have HGA := Lib.hid (HGN.out.setMaybe K (vc := mc) HGN.out.now HGN.out.offN); have HBA := Lib.hid ((HB10.out.setCell (p := ⟨g, 2, none⟩) HG10.out.lo_g (.slice ma i mc)).setCell (p := ⟨g, 3, none⟩) HG10.out.lo_g (.slice ma i mc)); have HSA := Lib.hid ((HS10.out.kept (fun b o t e => set_heap w10 g 2 (.slice ma i mc) (by cases e; omega))).kept (fun b o t e => set_heap (w10.setCell ⟨g, 2, none⟩ (.slice ma i mc)) g 3 (.slice ma i mc) (by cases e; omega))); have n2 := HG10.out.at_.2.2.1; have n3 := HG10.out.at_.2.2.2.1; have p2 := HG10.out.at_.2.2.2.2.2 2; have q2 := HGN.out.at_.2.2.1; have q3 := HGN.out.at_.2.2.2.1; have r3 := HGN.out.at_.2.2.2.2.2 3; have t2 := HGA.out.at_.2.2.1; clear hb10))
          go_ret
          exact ⟨j7, F7, G7, ma, mc, d7, s7, ys, rfl, HGD.out, Q.live_same HLV.out HZY.out, Or.inr rfl, HBD.out⟩
        · have hzx : z = xs := HZ.out.resolve_right (fun h => hsm (by rw [← h]; exact hsz))
          have HSM1 := Lib.hid hsm
          rw [hzx] at hsz HLV
          have HZX := Lib.hid hsz
          clear hsm hsz hzx
          go_wp2_with (first
            | (go_at_call 14; refine (RSame16_any _ HSA.out HGA.out.now).mono ?_; rintro e w11 ⟨rfl, hb11⟩; rw [sameD_true HZX.out]; have HGD := Lib.hid (HGA.out.later K hb11); have HBD := Lib.hid (HBA.out.trans (hb11.mono HGA.out.lo_le)); clear hb11)
            | (go_at_call 14; refine (RSame16_any _ HSr.out HGr.out.may).mono ?_; rintro e w10 ⟨rfl, hb10⟩; rw [sameD_false HSM1.out]; have HG10 := Lib.hid (HGr.out.later K hb10); have HB10 := Lib.hid (HWR.out.trans (hb10.mono HGr.out.lo_le)); have HS10 := Lib.hid (HSr.out.later hb10); have HGA := Lib.hid (HG10.out.setMaybe K (vc := nc) HG10.out.now HG10.out.offN); have HBA := Lib.hid (HB10.out.setCell (p := ⟨g, 3, none⟩) HG10.out.lo_g (.slice na i nc)); have HSA := Lib.hid (HS10.out.kept (fun b o t e => set_heap w10 g 3 (.slice na i nc) (by cases e; omega))); have n2 := HG10.out.at_.2.2.1; have n3 := HG10.out.at_.2.2.2.1; have p3 := HG10.out.at_.2.2.2.2.2 3; have t2 := HGA.out.at_.2.2.1; clear hb10))
          go_ret
          exact ⟨j7, F7, G7, na, nc, d7, s7, xs, rfl, HGD.out, HLV.out, Or.inl rfl, HBD.out⟩

end Go.Proofs.Ytbnepjojfaeggaa
