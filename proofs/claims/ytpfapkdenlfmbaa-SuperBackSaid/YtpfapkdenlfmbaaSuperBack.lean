/-
  Proved here: what was written is read as it was; no block is both a Super's and a Head's; what is read as a Super is written as it was. No conditions.
-/
import Derived.Test.YtpfapkdenlfmbaaAwake08
import Derived.Test.YtpfapkdenlfmbaaSupIn
namespace Go.Proofs.Ytpfapkdenlfmbaa.superBack
open Go.ChangeShapes Go.WideShapes Go.ChangeAt Go.RowKit
open Go.ChangeMaps (open_string shut_string)
set_option linter.unusedVariables false
set_option linter.unusedSimpArgs false

theorem get_sup {w : World} {base : Nat} {v : Value} {s : PSup} (hs : s.sound = true) (h : Fresh w base v (supBlock s)) : Calls Try.prog 14 #[v] w fun e w' => e = .returned (.tuple #[(noHead).val, .int .i64 2]) ∧ Below w.heap.size w w' := by
  have c := get_fresh h
  unfold getHead getHeadErr at c
  rw [sup_not_head] at c
  exact c
theorem dec_head {w : World} {base : Nat} {v : Value} {s : PHead} (hs : s.sound = true) (h : Fresh w base v (headBlock s)) : Calls Try.prog 12 #[v] w fun e w' => e = .returned (.tuple #[(noSup).val, .int .i64 2]) ∧ Below w.heap.size w w' := by
  have c := dec_fresh h
  unfold getSup getSupErr at c
  rw [head_not_sup] at c
  exact c
set_option maxHeartbeats 1600000 in
theorem way_yyy (s0 : PSup) (s1 : PHead) (a2 : Option Addr) (len2 cap2 : Nat) (zs : List Int) (w : World) (w0 : s0.in64) (w1 : s1.in64) (HA : Hid (Arg w a2 len2 cap2 zs)) (hs : s0.sound = true) (hh : s1.sound = true) (hx : isSup zs = true) :
    Calls Try.prog 5 #[s0.val, s1.val, .slice a2 len2 cap2] w fun e w' => e = .returned (.bool true) ∧ Below w.heap.size w w' := by
  obtain ⟨a, b, c, d, e⟩ := s0
  obtain ⟨g, h⟩ := s1
  have HM := Lib.hid (fun w5 => made_two (w := w) (w5 := w5) (T0 := 23) (T1 := 25) (c0 := #[.int .i64 a, .int .i64 b, .int .i64 c, .int .i64 d, .int .i64 e]) (c1 := #[.int .i64 g, .int .i64 h]))
  have cS := fun W => enc_ok hs W
  have cH := fun W => put_ok hh W
  have hxs := isSup_block hx
  have cX := fun W (h : Below w.heap.size w W) => supOk.dec a2 len2 cap2 zs W (HA.out.later h)
  have cY := fun W => enc_ok hxs.1 W
  rw [hxs.2] at cY
  unfold getSup getSupErr at cX
  rw [if_pos hx, if_pos hx] at cX
  generalize readSup zs = S2 at *
  obtain ⟨xa, xb, xc, xd, xe⟩ := S2
  clear hxs hx
  clear w0 w1
  have HSS := Lib.hid hs
  have HHS := Lib.hid hh
  unfold PSup.val PHead.val at *
  have CS := Lib.hid cS
  have CH := Lib.hid cH
  have CX := Lib.hid cX
  clear cS cH cX
  have CY := Lib.hid cY
  clear cY
  go_enter Try.func5, Try.ntmps5
  go_wp2_with (first
      | (go_at_call 11; refine (awake08_any _).mono ?_; rintro e10 w10 ⟨rfl, hb10⟩; have B10 := Lib.hid (HM.out _ (B9.out.trans (hb10.mono B9.out.size))).2.2; have k8 := fresh_str (FY_9.out.later hb10); have k9 := str_bytes (cap := cap2) (HA.out.later B10.out).1; clear hb10)
      | (go_at_call 7; have gt := B8; clear gt; refine (CY.out _).mono ?_; (try simp only [PSup.val, PHead.val, noSup, noHead]); rintro e9 w9 ⟨v9, rfl, hf9, hb9⟩; have b9 := B8.out.trans (hb9.mono B8.out.size); have FS_9 := Lib.hid ((FS_8.out.later hb9)); have FH_9 := Lib.hid ((FH_8.out.later hb9)); have FY_9 := Lib.hid hf9; have B9 := Lib.hid b9; clear hb9 b9 hf9)
      | (go_at_call 12; have gt := B7; clear gt; refine (CX.out _ (HM.out _ B7.out).2.2).mono ?_; (try simp only [PSup.val, PHead.val, noSup, noHead]); rintro e8 w8 ⟨rfl, hb8⟩; have b8 := B7.out.trans (hb8.mono B7.out.size); have FS_8 := Lib.hid ((FS_7.out.later hb8).later ((Below.refl _ _).alloc (Nat.le_refl _) (.cells #[.int .i64 xa, .int .i64 xb, .int .i64 xc, .int .i64 xd, .int .i64 xe] 23))); have FH_8 := Lib.hid ((FH_7.out.later hb8).later ((Below.refl _ _).alloc (Nat.le_refl _) (.cells #[.int .i64 xa, .int .i64 xb, .int .i64 xc, .int .i64 xd, .int .i64 xe] 23))); have m8 := hb8.alloc hb8.size (.cells #[.int .i64 xa, .int .i64 xb, .int .i64 xc, .int .i64 xd, .int .i64 xe] 23); have B8 := Lib.hid (b8.alloc b8.size (.cells #[.int .i64 xa, .int .i64 xb, .int .i64 xc, .int .i64 xd, .int .i64 xe] 23)); clear hb8 b8 m8)
      | (go_at_call 12; have gt := B6; clear gt; refine (dec_head hh FH_6.out).mono ?_; (try simp only [PSup.val, PHead.val, noSup, noHead]); rintro e7 w7 ⟨rfl, hb7⟩; have b7 := B6.out.trans (hb7.mono B6.out.size); have FS_7 := Lib.hid ((FS_6.out.later hb7).later ((Below.refl _ _).alloc (Nat.le_refl _) (.cells #[.int .i64 0, .int .i64 0, .int .i64 0, .int .i64 0, .int .i64 0] 23))); have FH_7 := Lib.hid ((FH_6.out.later hb7).later ((Below.refl _ _).alloc (Nat.le_refl _) (.cells #[.int .i64 0, .int .i64 0, .int .i64 0, .int .i64 0, .int .i64 0] 23))); have m7 := hb7.alloc hb7.size (.cells #[.int .i64 0, .int .i64 0, .int .i64 0, .int .i64 0, .int .i64 0] 23); have B7 := Lib.hid (b7.alloc b7.size (.cells #[.int .i64 0, .int .i64 0, .int .i64 0, .int .i64 0, .int .i64 0] 23)); have u0 := cell_later m7 (made_at w6 _ _ 0 (.int .i64 g) rfl); have u1 := cell_later m7 (made_at w6 _ _ 1 (.int .i64 h) rfl); obtain ⟨t0, t1, t2⟩ := HM.out _ B7.out; have k0 := t1 0 _ rfl; have k1 := t1 1 _ rfl; clear t0 t1 t2; clear hb7 b7 m7)
      | (go_at_call 14; have gt := B5; clear gt; refine (get_block hh FH_5.out).mono ?_; (try simp only [PSup.val, PHead.val, noSup, noHead]); rintro e6 w6 ⟨rfl, hb6⟩; have b6 := B5.out.trans (hb6.mono B5.out.size); have FS_6 := Lib.hid ((FS_5.out.later hb6).later ((Below.refl _ _).alloc (Nat.le_refl _) (.cells #[.int .i64 g, .int .i64 h] 25))); have FH_6 := Lib.hid ((FH_5.out.later hb6).later ((Below.refl _ _).alloc (Nat.le_refl _) (.cells #[.int .i64 g, .int .i64 h] 25))); have m6 := hb6.alloc hb6.size (.cells #[.int .i64 g, .int .i64 h] 25); have B6 := Lib.hid (b6.alloc b6.size (.cells #[.int .i64 g, .int .i64 h] 25)); clear hb6 b6 m6)
      | (go_at_call 14; have gt := B4; clear gt; refine (get_sup hs FS_4.out).mono ?_; (try simp only [PSup.val, PHead.val, noSup, noHead]); rintro e5 w5 ⟨rfl, hb5⟩; have b5 := B4.out.trans (hb5.mono B4.out.size); have FS_5 := Lib.hid ((FS_4.out.later hb5).later ((Below.refl _ _).alloc (Nat.le_refl _) (.cells #[.int .i64 0, .int .i64 0] 25))); have FH_5 := Lib.hid ((FH_4.out.later hb5).later ((Below.refl _ _).alloc (Nat.le_refl _) (.cells #[.int .i64 0, .int .i64 0] 25))); have m5 := hb5.alloc hb5.size (.cells #[.int .i64 0, .int .i64 0] 25); have B5 := Lib.hid (b5.alloc b5.size (.cells #[.int .i64 0, .int .i64 0] 25)); have p0 := cell_later m5 (made_at w4 _ _ 0 (.int .i64 a) rfl); have p1 := cell_later m5 (made_at w4 _ _ 1 (.int .i64 b) rfl); have p2 := cell_later m5 (made_at w4 _ _ 2 (.int .i64 c) rfl); have p3 := cell_later m5 (made_at w4 _ _ 3 (.int .i64 d) rfl); have p4 := cell_later m5 (made_at w4 _ _ 4 (.int .i64 e) rfl); obtain ⟨t0, t1, t2⟩ := HM.out _ B5.out; have z0 := t0 0 _ rfl; have z1 := t0 1 _ rfl; have z2 := t0 2 _ rfl; have z3 := t0 3 _ rfl; have z4 := t0 4 _ rfl; clear t0 t1 t2; clear hb5 b5 m5)
      | (go_at_call 12; have gt := B3; clear gt; refine (dec_block hs FS_3.out).mono ?_; (try simp only [PSup.val, PHead.val, noSup, noHead]); rintro e4 w4 ⟨rfl, hb4⟩; have b4 := B3.out.trans (hb4.mono B3.out.size); have FS_4 := Lib.hid ((FS_3.out.later hb4).later ((Below.refl _ _).alloc (Nat.le_refl _) (.cells #[.int .i64 a, .int .i64 b, .int .i64 c, .int .i64 d, .int .i64 e] 23))); have FH_4 := Lib.hid ((FH_3.out.later hb4).later ((Below.refl _ _).alloc (Nat.le_refl _) (.cells #[.int .i64 a, .int .i64 b, .int .i64 c, .int .i64 d, .int .i64 e] 23))); have m4 := hb4.alloc hb4.size (.cells #[.int .i64 a, .int .i64 b, .int .i64 c, .int .i64 d, .int .i64 e] 23); have B4 := Lib.hid (b4.alloc b4.size (.cells #[.int .i64 a, .int .i64 b, .int .i64 c, .int .i64 d, .int .i64 e] 23)); clear hb4 b4 m4)
      | (go_at_call 9; have gt := B2; clear gt; refine (CH.out _).mono ?_; (try simp only [PSup.val, PHead.val, noSup, noHead]); rintro e3 w3 ⟨v3, rfl, hf3, hb3⟩; have b3 := B2.out.trans (hb3.mono B2.out.size); have FS_3 := Lib.hid ((FS_2.out.later hb3)); have FH_3 := Lib.hid hf3; have B3 := Lib.hid b3; have q2 := trivial; clear hb3 b3 hf3)
      | (go_at_call 7; refine (CS.out _).mono ?_; (try simp only [PSup.val, PHead.val, noSup, noHead]); rintro e2 w2 ⟨v2, rfl, hf2, hb2⟩; have b2 := hb2; have FS_2 := Lib.hid hf2; have B2 := Lib.hid b2; obtain ⟨t0, t1, t2⟩ := HM.out _ B2.out; have y0 := t1 0 _ rfl; have y1 := t1 1 _ rfl; clear t0 t1 t2 hb2 b2 hf2))
  go_ret
  exact ⟨rfl, B10.out⟩

set_option maxHeartbeats 1600000 in
theorem way_yyn (s0 : PSup) (s1 : PHead) (a2 : Option Addr) (len2 cap2 : Nat) (zs : List Int) (w : World) (w0 : s0.in64) (w1 : s1.in64) (HA : Hid (Arg w a2 len2 cap2 zs)) (hs : s0.sound = true) (hh : s1.sound = true) (hx : ¬ isSup zs = true) :
    Calls Try.prog 5 #[s0.val, s1.val, .slice a2 len2 cap2] w fun e w' => e = .returned (.bool true) ∧ Below w.heap.size w w' := by
  obtain ⟨a, b, c, d, e⟩ := s0
  obtain ⟨g, h⟩ := s1
  have HM := Lib.hid (fun w5 => made_two (w := w) (w5 := w5) (T0 := 23) (T1 := 25) (c0 := #[.int .i64 a, .int .i64 b, .int .i64 c, .int .i64 d, .int .i64 e]) (c1 := #[.int .i64 g, .int .i64 h]))
  have cS := fun W => enc_ok hs W
  have cH := fun W => put_ok hh W
  have cX := fun W (h : Below w.heap.size w W) => supOk.dec a2 len2 cap2 zs W (HA.out.later h)
  unfold getSup getSupErr at cX
  rw [if_neg hx, if_neg hx] at cX
  unfold noSup at cX
  clear hx
  clear w0 w1
  have HSS := Lib.hid hs
  have HHS := Lib.hid hh
  unfold PSup.val PHead.val at *
  have CS := Lib.hid cS
  have CH := Lib.hid cH
  have CX := Lib.hid cX
  clear cS cH cX
  go_enter Try.func5, Try.ntmps5
  go_wp2_with (first
      | (go_at_call 11; refine (awake08_any _).mono ?_; rintro e9 w9 ⟨rfl, hb9⟩; have B9 := Lib.hid (HM.out _ (B8.out.trans (hb9.mono B8.out.size))).2.2; clear hb9)
      | (go_at_call 12; have gt := B7; clear gt; refine (CX.out _ (HM.out _ B7.out).2.2).mono ?_; (try simp only [PSup.val, PHead.val, noSup, noHead]); rintro e8 w8 ⟨rfl, hb8⟩; have b8 := B7.out.trans (hb8.mono B7.out.size); have FS_8 := Lib.hid ((FS_7.out.later hb8).later ((Below.refl _ _).alloc (Nat.le_refl _) (.cells #[.int .i64 0, .int .i64 0, .int .i64 0, .int .i64 0, .int .i64 0] 23))); have FH_8 := Lib.hid ((FH_7.out.later hb8).later ((Below.refl _ _).alloc (Nat.le_refl _) (.cells #[.int .i64 0, .int .i64 0, .int .i64 0, .int .i64 0, .int .i64 0] 23))); have m8 := hb8.alloc hb8.size (.cells #[.int .i64 0, .int .i64 0, .int .i64 0, .int .i64 0, .int .i64 0] 23); have B8 := Lib.hid (b8.alloc b8.size (.cells #[.int .i64 0, .int .i64 0, .int .i64 0, .int .i64 0, .int .i64 0] 23)); clear hb8 b8 m8)
      | (go_at_call 12; have gt := B6; clear gt; refine (dec_head hh FH_6.out).mono ?_; (try simp only [PSup.val, PHead.val, noSup, noHead]); rintro e7 w7 ⟨rfl, hb7⟩; have b7 := B6.out.trans (hb7.mono B6.out.size); have FS_7 := Lib.hid ((FS_6.out.later hb7).later ((Below.refl _ _).alloc (Nat.le_refl _) (.cells #[.int .i64 0, .int .i64 0, .int .i64 0, .int .i64 0, .int .i64 0] 23))); have FH_7 := Lib.hid ((FH_6.out.later hb7).later ((Below.refl _ _).alloc (Nat.le_refl _) (.cells #[.int .i64 0, .int .i64 0, .int .i64 0, .int .i64 0, .int .i64 0] 23))); have m7 := hb7.alloc hb7.size (.cells #[.int .i64 0, .int .i64 0, .int .i64 0, .int .i64 0, .int .i64 0] 23); have B7 := Lib.hid (b7.alloc b7.size (.cells #[.int .i64 0, .int .i64 0, .int .i64 0, .int .i64 0, .int .i64 0] 23)); have u0 := cell_later m7 (made_at w6 _ _ 0 (.int .i64 g) rfl); have u1 := cell_later m7 (made_at w6 _ _ 1 (.int .i64 h) rfl); obtain ⟨t0, t1, t2⟩ := HM.out _ B7.out; have k0 := t1 0 _ rfl; have k1 := t1 1 _ rfl; clear t0 t1 t2; clear hb7 b7 m7)
      | (go_at_call 14; have gt := B5; clear gt; refine (get_block hh FH_5.out).mono ?_; (try simp only [PSup.val, PHead.val, noSup, noHead]); rintro e6 w6 ⟨rfl, hb6⟩; have b6 := B5.out.trans (hb6.mono B5.out.size); have FS_6 := Lib.hid ((FS_5.out.later hb6).later ((Below.refl _ _).alloc (Nat.le_refl _) (.cells #[.int .i64 g, .int .i64 h] 25))); have FH_6 := Lib.hid ((FH_5.out.later hb6).later ((Below.refl _ _).alloc (Nat.le_refl _) (.cells #[.int .i64 g, .int .i64 h] 25))); have m6 := hb6.alloc hb6.size (.cells #[.int .i64 g, .int .i64 h] 25); have B6 := Lib.hid (b6.alloc b6.size (.cells #[.int .i64 g, .int .i64 h] 25)); clear hb6 b6 m6)
      | (go_at_call 14; have gt := B4; clear gt; refine (get_sup hs FS_4.out).mono ?_; (try simp only [PSup.val, PHead.val, noSup, noHead]); rintro e5 w5 ⟨rfl, hb5⟩; have b5 := B4.out.trans (hb5.mono B4.out.size); have FS_5 := Lib.hid ((FS_4.out.later hb5).later ((Below.refl _ _).alloc (Nat.le_refl _) (.cells #[.int .i64 0, .int .i64 0] 25))); have FH_5 := Lib.hid ((FH_4.out.later hb5).later ((Below.refl _ _).alloc (Nat.le_refl _) (.cells #[.int .i64 0, .int .i64 0] 25))); have m5 := hb5.alloc hb5.size (.cells #[.int .i64 0, .int .i64 0] 25); have B5 := Lib.hid (b5.alloc b5.size (.cells #[.int .i64 0, .int .i64 0] 25)); have p0 := cell_later m5 (made_at w4 _ _ 0 (.int .i64 a) rfl); have p1 := cell_later m5 (made_at w4 _ _ 1 (.int .i64 b) rfl); have p2 := cell_later m5 (made_at w4 _ _ 2 (.int .i64 c) rfl); have p3 := cell_later m5 (made_at w4 _ _ 3 (.int .i64 d) rfl); have p4 := cell_later m5 (made_at w4 _ _ 4 (.int .i64 e) rfl); obtain ⟨t0, t1, t2⟩ := HM.out _ B5.out; have z0 := t0 0 _ rfl; have z1 := t0 1 _ rfl; have z2 := t0 2 _ rfl; have z3 := t0 3 _ rfl; have z4 := t0 4 _ rfl; clear t0 t1 t2; clear hb5 b5 m5)
      | (go_at_call 12; have gt := B3; clear gt; refine (dec_block hs FS_3.out).mono ?_; (try simp only [PSup.val, PHead.val, noSup, noHead]); rintro e4 w4 ⟨rfl, hb4⟩; have b4 := B3.out.trans (hb4.mono B3.out.size); have FS_4 := Lib.hid ((FS_3.out.later hb4).later ((Below.refl _ _).alloc (Nat.le_refl _) (.cells #[.int .i64 a, .int .i64 b, .int .i64 c, .int .i64 d, .int .i64 e] 23))); have FH_4 := Lib.hid ((FH_3.out.later hb4).later ((Below.refl _ _).alloc (Nat.le_refl _) (.cells #[.int .i64 a, .int .i64 b, .int .i64 c, .int .i64 d, .int .i64 e] 23))); have m4 := hb4.alloc hb4.size (.cells #[.int .i64 a, .int .i64 b, .int .i64 c, .int .i64 d, .int .i64 e] 23); have B4 := Lib.hid (b4.alloc b4.size (.cells #[.int .i64 a, .int .i64 b, .int .i64 c, .int .i64 d, .int .i64 e] 23)); clear hb4 b4 m4)
      | (go_at_call 9; have gt := B2; clear gt; refine (CH.out _).mono ?_; (try simp only [PSup.val, PHead.val, noSup, noHead]); rintro e3 w3 ⟨v3, rfl, hf3, hb3⟩; have b3 := B2.out.trans (hb3.mono B2.out.size); have FS_3 := Lib.hid ((FS_2.out.later hb3)); have FH_3 := Lib.hid hf3; have B3 := Lib.hid b3; have q2 := trivial; clear hb3 b3 hf3)
      | (go_at_call 7; refine (CS.out _).mono ?_; (try simp only [PSup.val, PHead.val, noSup, noHead]); rintro e2 w2 ⟨v2, rfl, hf2, hb2⟩; have b2 := hb2; have FS_2 := Lib.hid hf2; have B2 := Lib.hid b2; obtain ⟨t0, t1, t2⟩ := HM.out _ B2.out; have y0 := t1 0 _ rfl; have y1 := t1 1 _ rfl; clear t0 t1 t2 hb2 b2 hf2))
  go_ret
  exact ⟨rfl, B9.out⟩

set_option maxHeartbeats 1600000 in
theorem way_yny (s0 : PSup) (s1 : PHead) (a2 : Option Addr) (len2 cap2 : Nat) (zs : List Int) (w : World) (w0 : s0.in64) (w1 : s1.in64) (HA : Hid (Arg w a2 len2 cap2 zs)) (hs : s0.sound = true) (hh : ¬ s1.sound = true) (hx : isSup zs = true) :
    Calls Try.prog 5 #[s0.val, s1.val, .slice a2 len2 cap2] w fun e w' => e = .returned (.bool true) ∧ Below w.heap.size w w' := by
  obtain ⟨a, b, c, d, e⟩ := s0
  obtain ⟨g, h⟩ := s1
  have HM := Lib.hid (fun w5 => made_two (w := w) (w5 := w5) (T0 := 23) (T1 := 25) (c0 := #[.int .i64 a, .int .i64 b, .int .i64 c, .int .i64 d, .int .i64 e]) (c1 := #[.int .i64 g, .int .i64 h]))
  have cS := fun W => enc_ok hs W
  have cH := fun W => put_no w1 (by simpa using hh) W
  have hxs := isSup_block hx
  have cX := fun W (h : Below w.heap.size w W) => supOk.dec a2 len2 cap2 zs W (HA.out.later h)
  have cY := fun W => enc_ok hxs.1 W
  rw [hxs.2] at cY
  unfold getSup getSupErr at cX
  rw [if_pos hx, if_pos hx] at cX
  generalize readSup zs = S2 at *
  obtain ⟨xa, xb, xc, xd, xe⟩ := S2
  clear hxs hx
  clear w0 w1 hh
  have HSS := Lib.hid hs
  unfold PSup.val PHead.val at *
  have CS := Lib.hid cS
  have CH := Lib.hid cH
  have CX := Lib.hid cX
  clear cS cH cX
  have CY := Lib.hid cY
  clear cY
  go_enter Try.func5, Try.ntmps5
  go_wp2_with (first
      | (go_at_call 11; refine (awake08_any _).mono ?_; rintro e8 w8 ⟨rfl, hb8⟩; have B8 := Lib.hid (HM.out _ (B7.out.trans (hb8.mono B7.out.size))).2.2; have k8 := fresh_str (FY_7.out.later hb8); have k9 := str_bytes (cap := cap2) (HA.out.later B8.out).1; clear hb8)
      | (go_at_call 7; have gt := B6; clear gt; refine (CY.out _).mono ?_; (try simp only [PSup.val, PHead.val, noSup, noHead]); rintro e7 w7 ⟨v7, rfl, hf7, hb7⟩; have b7 := B6.out.trans (hb7.mono B6.out.size); have FS_7 := Lib.hid ((FS_6.out.later hb7)); have FH_7 := Lib.hid ((FH_6.out.later hb7)); have FY_7 := Lib.hid hf7; have B7 := Lib.hid b7; clear hb7 b7 hf7)
      | (go_at_call 12; have gt := B5; clear gt; refine (CX.out _ (HM.out _ B5.out).2.2).mono ?_; (try simp only [PSup.val, PHead.val, noSup, noHead]); rintro e6 w6 ⟨rfl, hb6⟩; have b6 := B5.out.trans (hb6.mono B5.out.size); have FS_6 := Lib.hid ((FS_5.out.later hb6).later ((Below.refl _ _).alloc (Nat.le_refl _) (.cells #[.int .i64 xa, .int .i64 xb, .int .i64 xc, .int .i64 xd, .int .i64 xe] 23))); have FH_6 := Lib.hid ((FH_5.out.later hb6).later ((Below.refl _ _).alloc (Nat.le_refl _) (.cells #[.int .i64 xa, .int .i64 xb, .int .i64 xc, .int .i64 xd, .int .i64 xe] 23))); have m6 := hb6.alloc hb6.size (.cells #[.int .i64 xa, .int .i64 xb, .int .i64 xc, .int .i64 xd, .int .i64 xe] 23); have B6 := Lib.hid (b6.alloc b6.size (.cells #[.int .i64 xa, .int .i64 xb, .int .i64 xc, .int .i64 xd, .int .i64 xe] 23)); clear hb6 b6 m6)
      | (go_at_call 14; have gt := B4; clear gt; refine (get_sup hs FS_4.out).mono ?_; (try simp only [PSup.val, PHead.val, noSup, noHead]); rintro e5 w5 ⟨rfl, hb5⟩; have b5 := B4.out.trans (hb5.mono B4.out.size); have FS_5 := Lib.hid ((FS_4.out.later hb5).later ((Below.refl _ _).alloc (Nat.le_refl _) (.cells #[.int .i64 0, .int .i64 0] 25))); have FH_5 := Lib.hid ((FH_4.out.later hb5).later ((Below.refl _ _).alloc (Nat.le_refl _) (.cells #[.int .i64 0, .int .i64 0] 25))); have m5 := hb5.alloc hb5.size (.cells #[.int .i64 0, .int .i64 0] 25); have B5 := Lib.hid (b5.alloc b5.size (.cells #[.int .i64 0, .int .i64 0] 25)); have p0 := cell_later m5 (made_at w4 _ _ 0 (.int .i64 a) rfl); have p1 := cell_later m5 (made_at w4 _ _ 1 (.int .i64 b) rfl); have p2 := cell_later m5 (made_at w4 _ _ 2 (.int .i64 c) rfl); have p3 := cell_later m5 (made_at w4 _ _ 3 (.int .i64 d) rfl); have p4 := cell_later m5 (made_at w4 _ _ 4 (.int .i64 e) rfl); obtain ⟨t0, t1, t2⟩ := HM.out _ B5.out; have z0 := t0 0 _ rfl; have z1 := t0 1 _ rfl; have z2 := t0 2 _ rfl; have z3 := t0 3 _ rfl; have z4 := t0 4 _ rfl; clear t0 t1 t2; clear hb5 b5 m5)
      | (go_at_call 12; have gt := B3; clear gt; refine (dec_block hs FS_3.out).mono ?_; (try simp only [PSup.val, PHead.val, noSup, noHead]); rintro e4 w4 ⟨rfl, hb4⟩; have b4 := B3.out.trans (hb4.mono B3.out.size); have FS_4 := Lib.hid ((FS_3.out.later hb4).later ((Below.refl _ _).alloc (Nat.le_refl _) (.cells #[.int .i64 a, .int .i64 b, .int .i64 c, .int .i64 d, .int .i64 e] 23))); have FH_4 := Lib.hid ((FH_3.out.later hb4).later ((Below.refl _ _).alloc (Nat.le_refl _) (.cells #[.int .i64 a, .int .i64 b, .int .i64 c, .int .i64 d, .int .i64 e] 23))); have m4 := hb4.alloc hb4.size (.cells #[.int .i64 a, .int .i64 b, .int .i64 c, .int .i64 d, .int .i64 e] 23); have B4 := Lib.hid (b4.alloc b4.size (.cells #[.int .i64 a, .int .i64 b, .int .i64 c, .int .i64 d, .int .i64 e] 23)); clear hb4 b4 m4)
      | (go_at_call 9; have gt := B2; clear gt; refine (CH.out _).mono ?_; (try simp only [PSup.val, PHead.val, noSup, noHead]); rintro e3 w3 ⟨v3, rfl, hf3, hb3⟩; have b3 := B2.out.trans (hb3.mono B2.out.size); have FS_3 := Lib.hid ((FS_2.out.later hb3)); have FH_3 := Lib.hid hf3; have B3 := Lib.hid b3; have q2 := trivial; clear hb3 b3 hf3)
      | (go_at_call 7; refine (CS.out _).mono ?_; (try simp only [PSup.val, PHead.val, noSup, noHead]); rintro e2 w2 ⟨v2, rfl, hf2, hb2⟩; have b2 := hb2; have FS_2 := Lib.hid hf2; have B2 := Lib.hid b2; obtain ⟨t0, t1, t2⟩ := HM.out _ B2.out; have y0 := t1 0 _ rfl; have y1 := t1 1 _ rfl; clear t0 t1 t2 hb2 b2 hf2))
  go_ret
  exact ⟨rfl, B8.out⟩

set_option maxHeartbeats 1600000 in
theorem way_ynn (s0 : PSup) (s1 : PHead) (a2 : Option Addr) (len2 cap2 : Nat) (zs : List Int) (w : World) (w0 : s0.in64) (w1 : s1.in64) (HA : Hid (Arg w a2 len2 cap2 zs)) (hs : s0.sound = true) (hh : ¬ s1.sound = true) (hx : ¬ isSup zs = true) :
    Calls Try.prog 5 #[s0.val, s1.val, .slice a2 len2 cap2] w fun e w' => e = .returned (.bool true) ∧ Below w.heap.size w w' := by
  obtain ⟨a, b, c, d, e⟩ := s0
  obtain ⟨g, h⟩ := s1
  have HM := Lib.hid (fun w5 => made_two (w := w) (w5 := w5) (T0 := 23) (T1 := 25) (c0 := #[.int .i64 a, .int .i64 b, .int .i64 c, .int .i64 d, .int .i64 e]) (c1 := #[.int .i64 g, .int .i64 h]))
  have cS := fun W => enc_ok hs W
  have cH := fun W => put_no w1 (by simpa using hh) W
  have cX := fun W (h : Below w.heap.size w W) => supOk.dec a2 len2 cap2 zs W (HA.out.later h)
  unfold getSup getSupErr at cX
  rw [if_neg hx, if_neg hx] at cX
  unfold noSup at cX
  clear hx
  clear w0 w1 hh
  have HSS := Lib.hid hs
  unfold PSup.val PHead.val at *
  have CS := Lib.hid cS
  have CH := Lib.hid cH
  have CX := Lib.hid cX
  clear cS cH cX
  go_enter Try.func5, Try.ntmps5
  go_wp2_with (first
      | (go_at_call 11; refine (awake08_any _).mono ?_; rintro e7 w7 ⟨rfl, hb7⟩; have B7 := Lib.hid (HM.out _ (B6.out.trans (hb7.mono B6.out.size))).2.2; clear hb7)
      | (go_at_call 12; have gt := B5; clear gt; refine (CX.out _ (HM.out _ B5.out).2.2).mono ?_; (try simp only [PSup.val, PHead.val, noSup, noHead]); rintro e6 w6 ⟨rfl, hb6⟩; have b6 := B5.out.trans (hb6.mono B5.out.size); have FS_6 := Lib.hid ((FS_5.out.later hb6).later ((Below.refl _ _).alloc (Nat.le_refl _) (.cells #[.int .i64 0, .int .i64 0, .int .i64 0, .int .i64 0, .int .i64 0] 23))); have FH_6 := Lib.hid ((FH_5.out.later hb6).later ((Below.refl _ _).alloc (Nat.le_refl _) (.cells #[.int .i64 0, .int .i64 0, .int .i64 0, .int .i64 0, .int .i64 0] 23))); have m6 := hb6.alloc hb6.size (.cells #[.int .i64 0, .int .i64 0, .int .i64 0, .int .i64 0, .int .i64 0] 23); have B6 := Lib.hid (b6.alloc b6.size (.cells #[.int .i64 0, .int .i64 0, .int .i64 0, .int .i64 0, .int .i64 0] 23)); clear hb6 b6 m6)
      | (go_at_call 14; have gt := B4; clear gt; refine (get_sup hs FS_4.out).mono ?_; (try simp only [PSup.val, PHead.val, noSup, noHead]); rintro e5 w5 ⟨rfl, hb5⟩; have b5 := B4.out.trans (hb5.mono B4.out.size); have FS_5 := Lib.hid ((FS_4.out.later hb5).later ((Below.refl _ _).alloc (Nat.le_refl _) (.cells #[.int .i64 0, .int .i64 0] 25))); have FH_5 := Lib.hid ((FH_4.out.later hb5).later ((Below.refl _ _).alloc (Nat.le_refl _) (.cells #[.int .i64 0, .int .i64 0] 25))); have m5 := hb5.alloc hb5.size (.cells #[.int .i64 0, .int .i64 0] 25); have B5 := Lib.hid (b5.alloc b5.size (.cells #[.int .i64 0, .int .i64 0] 25)); have p0 := cell_later m5 (made_at w4 _ _ 0 (.int .i64 a) rfl); have p1 := cell_later m5 (made_at w4 _ _ 1 (.int .i64 b) rfl); have p2 := cell_later m5 (made_at w4 _ _ 2 (.int .i64 c) rfl); have p3 := cell_later m5 (made_at w4 _ _ 3 (.int .i64 d) rfl); have p4 := cell_later m5 (made_at w4 _ _ 4 (.int .i64 e) rfl); obtain ⟨t0, t1, t2⟩ := HM.out _ B5.out; have z0 := t0 0 _ rfl; have z1 := t0 1 _ rfl; have z2 := t0 2 _ rfl; have z3 := t0 3 _ rfl; have z4 := t0 4 _ rfl; clear t0 t1 t2; clear hb5 b5 m5)
      | (go_at_call 12; have gt := B3; clear gt; refine (dec_block hs FS_3.out).mono ?_; (try simp only [PSup.val, PHead.val, noSup, noHead]); rintro e4 w4 ⟨rfl, hb4⟩; have b4 := B3.out.trans (hb4.mono B3.out.size); have FS_4 := Lib.hid ((FS_3.out.later hb4).later ((Below.refl _ _).alloc (Nat.le_refl _) (.cells #[.int .i64 a, .int .i64 b, .int .i64 c, .int .i64 d, .int .i64 e] 23))); have FH_4 := Lib.hid ((FH_3.out.later hb4).later ((Below.refl _ _).alloc (Nat.le_refl _) (.cells #[.int .i64 a, .int .i64 b, .int .i64 c, .int .i64 d, .int .i64 e] 23))); have m4 := hb4.alloc hb4.size (.cells #[.int .i64 a, .int .i64 b, .int .i64 c, .int .i64 d, .int .i64 e] 23); have B4 := Lib.hid (b4.alloc b4.size (.cells #[.int .i64 a, .int .i64 b, .int .i64 c, .int .i64 d, .int .i64 e] 23)); clear hb4 b4 m4)
      | (go_at_call 9; have gt := B2; clear gt; refine (CH.out _).mono ?_; (try simp only [PSup.val, PHead.val, noSup, noHead]); rintro e3 w3 ⟨v3, rfl, hf3, hb3⟩; have b3 := B2.out.trans (hb3.mono B2.out.size); have FS_3 := Lib.hid ((FS_2.out.later hb3)); have FH_3 := Lib.hid hf3; have B3 := Lib.hid b3; have q2 := trivial; clear hb3 b3 hf3)
      | (go_at_call 7; refine (CS.out _).mono ?_; (try simp only [PSup.val, PHead.val, noSup, noHead]); rintro e2 w2 ⟨v2, rfl, hf2, hb2⟩; have b2 := hb2; have FS_2 := Lib.hid hf2; have B2 := Lib.hid b2; obtain ⟨t0, t1, t2⟩ := HM.out _ B2.out; have y0 := t1 0 _ rfl; have y1 := t1 1 _ rfl; clear t0 t1 t2 hb2 b2 hf2))
  go_ret
  exact ⟨rfl, B7.out⟩

set_option maxHeartbeats 1600000 in
theorem way_nyy (s0 : PSup) (s1 : PHead) (a2 : Option Addr) (len2 cap2 : Nat) (zs : List Int) (w : World) (w0 : s0.in64) (w1 : s1.in64) (HA : Hid (Arg w a2 len2 cap2 zs)) (hs : ¬ s0.sound = true) (hh : s1.sound = true) (hx : isSup zs = true) :
    Calls Try.prog 5 #[s0.val, s1.val, .slice a2 len2 cap2] w fun e w' => e = .returned (.bool true) ∧ Below w.heap.size w w' := by
  obtain ⟨a, b, c, d, e⟩ := s0
  obtain ⟨g, h⟩ := s1
  have HM := Lib.hid (fun w5 => made_two (w := w) (w5 := w5) (T0 := 23) (T1 := 25) (c0 := #[.int .i64 a, .int .i64 b, .int .i64 c, .int .i64 d, .int .i64 e]) (c1 := #[.int .i64 g, .int .i64 h]))
  have cS := fun W => enc_no w0 (by simpa using hs) W
  have cH := fun W => put_ok hh W
  have hxs := isSup_block hx
  have cX := fun W (h : Below w.heap.size w W) => supOk.dec a2 len2 cap2 zs W (HA.out.later h)
  have cY := fun W => enc_ok hxs.1 W
  rw [hxs.2] at cY
  unfold getSup getSupErr at cX
  rw [if_pos hx, if_pos hx] at cX
  generalize readSup zs = S2 at *
  obtain ⟨xa, xb, xc, xd, xe⟩ := S2
  clear hxs hx
  clear w0 w1 hs
  have HHS := Lib.hid hh
  unfold PSup.val PHead.val at *
  have CS := Lib.hid cS
  have CH := Lib.hid cH
  have CX := Lib.hid cX
  clear cS cH cX
  have CY := Lib.hid cY
  clear cY
  go_enter Try.func5, Try.ntmps5
  go_wp2_with (first
      | (go_at_call 11; refine (awake08_any _).mono ?_; rintro e8 w8 ⟨rfl, hb8⟩; have B8 := Lib.hid (HM.out _ (B7.out.trans (hb8.mono B7.out.size))).2.2; have k8 := fresh_str (FY_7.out.later hb8); have k9 := str_bytes (cap := cap2) (HA.out.later B8.out).1; clear hb8)
      | (go_at_call 7; have gt := B6; clear gt; refine (CY.out _).mono ?_; (try simp only [PSup.val, PHead.val, noSup, noHead]); rintro e7 w7 ⟨v7, rfl, hf7, hb7⟩; have b7 := B6.out.trans (hb7.mono B6.out.size); have FS_7 := Lib.hid ((FS_6.out.later hb7)); have FH_7 := Lib.hid ((FH_6.out.later hb7)); have FY_7 := Lib.hid hf7; have B7 := Lib.hid b7; clear hb7 b7 hf7)
      | (go_at_call 12; have gt := B5; clear gt; refine (CX.out _ (HM.out _ B5.out).2.2).mono ?_; (try simp only [PSup.val, PHead.val, noSup, noHead]); rintro e6 w6 ⟨rfl, hb6⟩; have b6 := B5.out.trans (hb6.mono B5.out.size); have FS_6 := Lib.hid ((FS_5.out.later hb6).later ((Below.refl _ _).alloc (Nat.le_refl _) (.cells #[.int .i64 xa, .int .i64 xb, .int .i64 xc, .int .i64 xd, .int .i64 xe] 23))); have FH_6 := Lib.hid ((FH_5.out.later hb6).later ((Below.refl _ _).alloc (Nat.le_refl _) (.cells #[.int .i64 xa, .int .i64 xb, .int .i64 xc, .int .i64 xd, .int .i64 xe] 23))); have m6 := hb6.alloc hb6.size (.cells #[.int .i64 xa, .int .i64 xb, .int .i64 xc, .int .i64 xd, .int .i64 xe] 23); have B6 := Lib.hid (b6.alloc b6.size (.cells #[.int .i64 xa, .int .i64 xb, .int .i64 xc, .int .i64 xd, .int .i64 xe] 23)); clear hb6 b6 m6)
      | (go_at_call 12; have gt := B4; clear gt; refine (dec_head hh FH_4.out).mono ?_; (try simp only [PSup.val, PHead.val, noSup, noHead]); rintro e5 w5 ⟨rfl, hb5⟩; have b5 := B4.out.trans (hb5.mono B4.out.size); have FS_5 := Lib.hid ((FS_4.out.later hb5).later ((Below.refl _ _).alloc (Nat.le_refl _) (.cells #[.int .i64 0, .int .i64 0, .int .i64 0, .int .i64 0, .int .i64 0] 23))); have FH_5 := Lib.hid ((FH_4.out.later hb5).later ((Below.refl _ _).alloc (Nat.le_refl _) (.cells #[.int .i64 0, .int .i64 0, .int .i64 0, .int .i64 0, .int .i64 0] 23))); have m5 := hb5.alloc hb5.size (.cells #[.int .i64 0, .int .i64 0, .int .i64 0, .int .i64 0, .int .i64 0] 23); have B5 := Lib.hid (b5.alloc b5.size (.cells #[.int .i64 0, .int .i64 0, .int .i64 0, .int .i64 0, .int .i64 0] 23)); have u0 := cell_later m5 (made_at w4 _ _ 0 (.int .i64 g) rfl); have u1 := cell_later m5 (made_at w4 _ _ 1 (.int .i64 h) rfl); obtain ⟨t0, t1, t2⟩ := HM.out _ B5.out; have k0 := t1 0 _ rfl; have k1 := t1 1 _ rfl; clear t0 t1 t2; clear hb5 b5 m5)
      | (go_at_call 14; have gt := B3; clear gt; refine (get_block hh FH_3.out).mono ?_; (try simp only [PSup.val, PHead.val, noSup, noHead]); rintro e4 w4 ⟨rfl, hb4⟩; have b4 := B3.out.trans (hb4.mono B3.out.size); have FS_4 := Lib.hid ((FS_3.out.later hb4).later ((Below.refl _ _).alloc (Nat.le_refl _) (.cells #[.int .i64 g, .int .i64 h] 25))); have FH_4 := Lib.hid ((FH_3.out.later hb4).later ((Below.refl _ _).alloc (Nat.le_refl _) (.cells #[.int .i64 g, .int .i64 h] 25))); have m4 := hb4.alloc hb4.size (.cells #[.int .i64 g, .int .i64 h] 25); have B4 := Lib.hid (b4.alloc b4.size (.cells #[.int .i64 g, .int .i64 h] 25)); clear hb4 b4 m4)
      | (go_at_call 9; have gt := B2; clear gt; refine (CH.out _).mono ?_; (try simp only [PSup.val, PHead.val, noSup, noHead]); rintro e3 w3 ⟨v3, rfl, hf3, hb3⟩; have b3 := B2.out.trans (hb3.mono B2.out.size); have FS_3 := Lib.hid ((FS_2.out.later hb3)); have FH_3 := Lib.hid hf3; have B3 := Lib.hid b3; have q2 := trivial; clear hb3 b3 hf3)
      | (go_at_call 7; refine (CS.out _).mono ?_; (try simp only [PSup.val, PHead.val, noSup, noHead]); rintro e2 w2 ⟨v2, rfl, hf2, hb2⟩; have b2 := hb2; have FS_2 := Lib.hid hf2; have B2 := Lib.hid b2; obtain ⟨t0, t1, t2⟩ := HM.out _ B2.out; have y0 := t1 0 _ rfl; have y1 := t1 1 _ rfl; clear t0 t1 t2 hb2 b2 hf2))
  go_ret
  exact ⟨rfl, B8.out⟩

set_option maxHeartbeats 1600000 in
theorem way_nyn (s0 : PSup) (s1 : PHead) (a2 : Option Addr) (len2 cap2 : Nat) (zs : List Int) (w : World) (w0 : s0.in64) (w1 : s1.in64) (HA : Hid (Arg w a2 len2 cap2 zs)) (hs : ¬ s0.sound = true) (hh : s1.sound = true) (hx : ¬ isSup zs = true) :
    Calls Try.prog 5 #[s0.val, s1.val, .slice a2 len2 cap2] w fun e w' => e = .returned (.bool true) ∧ Below w.heap.size w w' := by
  obtain ⟨a, b, c, d, e⟩ := s0
  obtain ⟨g, h⟩ := s1
  have HM := Lib.hid (fun w5 => made_two (w := w) (w5 := w5) (T0 := 23) (T1 := 25) (c0 := #[.int .i64 a, .int .i64 b, .int .i64 c, .int .i64 d, .int .i64 e]) (c1 := #[.int .i64 g, .int .i64 h]))
  have cS := fun W => enc_no w0 (by simpa using hs) W
  have cH := fun W => put_ok hh W
  have cX := fun W (h : Below w.heap.size w W) => supOk.dec a2 len2 cap2 zs W (HA.out.later h)
  unfold getSup getSupErr at cX
  rw [if_neg hx, if_neg hx] at cX
  unfold noSup at cX
  clear hx
  clear w0 w1 hs
  have HHS := Lib.hid hh
  unfold PSup.val PHead.val at *
  have CS := Lib.hid cS
  have CH := Lib.hid cH
  have CX := Lib.hid cX
  clear cS cH cX
  go_enter Try.func5, Try.ntmps5
  go_wp2_with (first
      | (go_at_call 11; refine (awake08_any _).mono ?_; rintro e7 w7 ⟨rfl, hb7⟩; have B7 := Lib.hid (HM.out _ (B6.out.trans (hb7.mono B6.out.size))).2.2; clear hb7)
      | (go_at_call 12; have gt := B5; clear gt; refine (CX.out _ (HM.out _ B5.out).2.2).mono ?_; (try simp only [PSup.val, PHead.val, noSup, noHead]); rintro e6 w6 ⟨rfl, hb6⟩; have b6 := B5.out.trans (hb6.mono B5.out.size); have FS_6 := Lib.hid ((FS_5.out.later hb6).later ((Below.refl _ _).alloc (Nat.le_refl _) (.cells #[.int .i64 0, .int .i64 0, .int .i64 0, .int .i64 0, .int .i64 0] 23))); have FH_6 := Lib.hid ((FH_5.out.later hb6).later ((Below.refl _ _).alloc (Nat.le_refl _) (.cells #[.int .i64 0, .int .i64 0, .int .i64 0, .int .i64 0, .int .i64 0] 23))); have m6 := hb6.alloc hb6.size (.cells #[.int .i64 0, .int .i64 0, .int .i64 0, .int .i64 0, .int .i64 0] 23); have B6 := Lib.hid (b6.alloc b6.size (.cells #[.int .i64 0, .int .i64 0, .int .i64 0, .int .i64 0, .int .i64 0] 23)); clear hb6 b6 m6)
      | (go_at_call 12; have gt := B4; clear gt; refine (dec_head hh FH_4.out).mono ?_; (try simp only [PSup.val, PHead.val, noSup, noHead]); rintro e5 w5 ⟨rfl, hb5⟩; have b5 := B4.out.trans (hb5.mono B4.out.size); have FS_5 := Lib.hid ((FS_4.out.later hb5).later ((Below.refl _ _).alloc (Nat.le_refl _) (.cells #[.int .i64 0, .int .i64 0, .int .i64 0, .int .i64 0, .int .i64 0] 23))); have FH_5 := Lib.hid ((FH_4.out.later hb5).later ((Below.refl _ _).alloc (Nat.le_refl _) (.cells #[.int .i64 0, .int .i64 0, .int .i64 0, .int .i64 0, .int .i64 0] 23))); have m5 := hb5.alloc hb5.size (.cells #[.int .i64 0, .int .i64 0, .int .i64 0, .int .i64 0, .int .i64 0] 23); have B5 := Lib.hid (b5.alloc b5.size (.cells #[.int .i64 0, .int .i64 0, .int .i64 0, .int .i64 0, .int .i64 0] 23)); have u0 := cell_later m5 (made_at w4 _ _ 0 (.int .i64 g) rfl); have u1 := cell_later m5 (made_at w4 _ _ 1 (.int .i64 h) rfl); obtain ⟨t0, t1, t2⟩ := HM.out _ B5.out; have k0 := t1 0 _ rfl; have k1 := t1 1 _ rfl; clear t0 t1 t2; clear hb5 b5 m5)
      | (go_at_call 14; have gt := B3; clear gt; refine (get_block hh FH_3.out).mono ?_; (try simp only [PSup.val, PHead.val, noSup, noHead]); rintro e4 w4 ⟨rfl, hb4⟩; have b4 := B3.out.trans (hb4.mono B3.out.size); have FS_4 := Lib.hid ((FS_3.out.later hb4).later ((Below.refl _ _).alloc (Nat.le_refl _) (.cells #[.int .i64 g, .int .i64 h] 25))); have FH_4 := Lib.hid ((FH_3.out.later hb4).later ((Below.refl _ _).alloc (Nat.le_refl _) (.cells #[.int .i64 g, .int .i64 h] 25))); have m4 := hb4.alloc hb4.size (.cells #[.int .i64 g, .int .i64 h] 25); have B4 := Lib.hid (b4.alloc b4.size (.cells #[.int .i64 g, .int .i64 h] 25)); clear hb4 b4 m4)
      | (go_at_call 9; have gt := B2; clear gt; refine (CH.out _).mono ?_; (try simp only [PSup.val, PHead.val, noSup, noHead]); rintro e3 w3 ⟨v3, rfl, hf3, hb3⟩; have b3 := B2.out.trans (hb3.mono B2.out.size); have FS_3 := Lib.hid ((FS_2.out.later hb3)); have FH_3 := Lib.hid hf3; have B3 := Lib.hid b3; have q2 := trivial; clear hb3 b3 hf3)
      | (go_at_call 7; refine (CS.out _).mono ?_; (try simp only [PSup.val, PHead.val, noSup, noHead]); rintro e2 w2 ⟨v2, rfl, hf2, hb2⟩; have b2 := hb2; have FS_2 := Lib.hid hf2; have B2 := Lib.hid b2; obtain ⟨t0, t1, t2⟩ := HM.out _ B2.out; have y0 := t1 0 _ rfl; have y1 := t1 1 _ rfl; clear t0 t1 t2 hb2 b2 hf2))
  go_ret
  exact ⟨rfl, B7.out⟩

set_option maxHeartbeats 1600000 in
theorem way_nny (s0 : PSup) (s1 : PHead) (a2 : Option Addr) (len2 cap2 : Nat) (zs : List Int) (w : World) (w0 : s0.in64) (w1 : s1.in64) (HA : Hid (Arg w a2 len2 cap2 zs)) (hs : ¬ s0.sound = true) (hh : ¬ s1.sound = true) (hx : isSup zs = true) :
    Calls Try.prog 5 #[s0.val, s1.val, .slice a2 len2 cap2] w fun e w' => e = .returned (.bool true) ∧ Below w.heap.size w w' := by
  obtain ⟨a, b, c, d, e⟩ := s0
  obtain ⟨g, h⟩ := s1
  have HM := Lib.hid (fun w5 => made_two (w := w) (w5 := w5) (T0 := 23) (T1 := 25) (c0 := #[.int .i64 a, .int .i64 b, .int .i64 c, .int .i64 d, .int .i64 e]) (c1 := #[.int .i64 g, .int .i64 h]))
  have cS := fun W => enc_no w0 (by simpa using hs) W
  have cH := fun W => put_no w1 (by simpa using hh) W
  have hxs := isSup_block hx
  have cX := fun W (h : Below w.heap.size w W) => supOk.dec a2 len2 cap2 zs W (HA.out.later h)
  have cY := fun W => enc_ok hxs.1 W
  rw [hxs.2] at cY
  unfold getSup getSupErr at cX
  rw [if_pos hx, if_pos hx] at cX
  generalize readSup zs = S2 at *
  obtain ⟨xa, xb, xc, xd, xe⟩ := S2
  clear hxs hx
  clear w0 w1 hs hh
  unfold PSup.val PHead.val at *
  have CS := Lib.hid cS
  have CH := Lib.hid cH
  have CX := Lib.hid cX
  clear cS cH cX
  have CY := Lib.hid cY
  clear cY
  go_enter Try.func5, Try.ntmps5
  go_wp2_with (first
      | (go_at_call 11; refine (awake08_any _).mono ?_; rintro e6 w6 ⟨rfl, hb6⟩; have B6 := Lib.hid (HM.out _ (B5.out.trans (hb6.mono B5.out.size))).2.2; have k8 := fresh_str (FY_5.out.later hb6); have k9 := str_bytes (cap := cap2) (HA.out.later B6.out).1; clear hb6)
      | (go_at_call 7; have gt := B4; clear gt; refine (CY.out _).mono ?_; (try simp only [PSup.val, PHead.val, noSup, noHead]); rintro e5 w5 ⟨v5, rfl, hf5, hb5⟩; have b5 := B4.out.trans (hb5.mono B4.out.size); have FS_5 := Lib.hid ((FS_4.out.later hb5)); have FH_5 := Lib.hid ((FH_4.out.later hb5)); have FY_5 := Lib.hid hf5; have B5 := Lib.hid b5; clear hb5 b5 hf5)
      | (go_at_call 12; have gt := B3; clear gt; refine (CX.out _ (HM.out _ B3.out).2.2).mono ?_; (try simp only [PSup.val, PHead.val, noSup, noHead]); rintro e4 w4 ⟨rfl, hb4⟩; have b4 := B3.out.trans (hb4.mono B3.out.size); have FS_4 := Lib.hid ((FS_3.out.later hb4).later ((Below.refl _ _).alloc (Nat.le_refl _) (.cells #[.int .i64 xa, .int .i64 xb, .int .i64 xc, .int .i64 xd, .int .i64 xe] 23))); have FH_4 := Lib.hid ((FH_3.out.later hb4).later ((Below.refl _ _).alloc (Nat.le_refl _) (.cells #[.int .i64 xa, .int .i64 xb, .int .i64 xc, .int .i64 xd, .int .i64 xe] 23))); have m4 := hb4.alloc hb4.size (.cells #[.int .i64 xa, .int .i64 xb, .int .i64 xc, .int .i64 xd, .int .i64 xe] 23); have B4 := Lib.hid (b4.alloc b4.size (.cells #[.int .i64 xa, .int .i64 xb, .int .i64 xc, .int .i64 xd, .int .i64 xe] 23)); clear hb4 b4 m4)
      | (go_at_call 9; have gt := B2; clear gt; refine (CH.out _).mono ?_; (try simp only [PSup.val, PHead.val, noSup, noHead]); rintro e3 w3 ⟨v3, rfl, hf3, hb3⟩; have b3 := B2.out.trans (hb3.mono B2.out.size); have FS_3 := Lib.hid ((FS_2.out.later hb3)); have FH_3 := Lib.hid hf3; have B3 := Lib.hid b3; have q2 := trivial; clear hb3 b3 hf3)
      | (go_at_call 7; refine (CS.out _).mono ?_; (try simp only [PSup.val, PHead.val, noSup, noHead]); rintro e2 w2 ⟨v2, rfl, hf2, hb2⟩; have b2 := hb2; have FS_2 := Lib.hid hf2; have B2 := Lib.hid b2; obtain ⟨t0, t1, t2⟩ := HM.out _ B2.out; have y0 := t1 0 _ rfl; have y1 := t1 1 _ rfl; clear t0 t1 t2 hb2 b2 hf2))
  go_ret
  exact ⟨rfl, B6.out⟩

set_option maxHeartbeats 1600000 in
theorem way_nnn (s0 : PSup) (s1 : PHead) (a2 : Option Addr) (len2 cap2 : Nat) (zs : List Int) (w : World) (w0 : s0.in64) (w1 : s1.in64) (HA : Hid (Arg w a2 len2 cap2 zs)) (hs : ¬ s0.sound = true) (hh : ¬ s1.sound = true) (hx : ¬ isSup zs = true) :
    Calls Try.prog 5 #[s0.val, s1.val, .slice a2 len2 cap2] w fun e w' => e = .returned (.bool true) ∧ Below w.heap.size w w' := by
  obtain ⟨a, b, c, d, e⟩ := s0
  obtain ⟨g, h⟩ := s1
  have HM := Lib.hid (fun w5 => made_two (w := w) (w5 := w5) (T0 := 23) (T1 := 25) (c0 := #[.int .i64 a, .int .i64 b, .int .i64 c, .int .i64 d, .int .i64 e]) (c1 := #[.int .i64 g, .int .i64 h]))
  have cS := fun W => enc_no w0 (by simpa using hs) W
  have cH := fun W => put_no w1 (by simpa using hh) W
  have cX := fun W (h : Below w.heap.size w W) => supOk.dec a2 len2 cap2 zs W (HA.out.later h)
  unfold getSup getSupErr at cX
  rw [if_neg hx, if_neg hx] at cX
  unfold noSup at cX
  clear hx
  clear w0 w1 hs hh
  unfold PSup.val PHead.val at *
  have CS := Lib.hid cS
  have CH := Lib.hid cH
  have CX := Lib.hid cX
  clear cS cH cX
  go_enter Try.func5, Try.ntmps5
  go_wp2_with (first
      | (go_at_call 11; refine (awake08_any _).mono ?_; rintro e5 w5 ⟨rfl, hb5⟩; have B5 := Lib.hid (HM.out _ (B4.out.trans (hb5.mono B4.out.size))).2.2; clear hb5)
      | (go_at_call 12; have gt := B3; clear gt; refine (CX.out _ (HM.out _ B3.out).2.2).mono ?_; (try simp only [PSup.val, PHead.val, noSup, noHead]); rintro e4 w4 ⟨rfl, hb4⟩; have b4 := B3.out.trans (hb4.mono B3.out.size); have FS_4 := Lib.hid ((FS_3.out.later hb4).later ((Below.refl _ _).alloc (Nat.le_refl _) (.cells #[.int .i64 0, .int .i64 0, .int .i64 0, .int .i64 0, .int .i64 0] 23))); have FH_4 := Lib.hid ((FH_3.out.later hb4).later ((Below.refl _ _).alloc (Nat.le_refl _) (.cells #[.int .i64 0, .int .i64 0, .int .i64 0, .int .i64 0, .int .i64 0] 23))); have m4 := hb4.alloc hb4.size (.cells #[.int .i64 0, .int .i64 0, .int .i64 0, .int .i64 0, .int .i64 0] 23); have B4 := Lib.hid (b4.alloc b4.size (.cells #[.int .i64 0, .int .i64 0, .int .i64 0, .int .i64 0, .int .i64 0] 23)); clear hb4 b4 m4)
      | (go_at_call 9; have gt := B2; clear gt; refine (CH.out _).mono ?_; (try simp only [PSup.val, PHead.val, noSup, noHead]); rintro e3 w3 ⟨v3, rfl, hf3, hb3⟩; have b3 := B2.out.trans (hb3.mono B2.out.size); have FS_3 := Lib.hid ((FS_2.out.later hb3)); have FH_3 := Lib.hid hf3; have B3 := Lib.hid b3; have q2 := trivial; clear hb3 b3 hf3)
      | (go_at_call 7; refine (CS.out _).mono ?_; (try simp only [PSup.val, PHead.val, noSup, noHead]); rintro e2 w2 ⟨v2, rfl, hf2, hb2⟩; have b2 := hb2; have FS_2 := Lib.hid hf2; have B2 := Lib.hid b2; obtain ⟨t0, t1, t2⟩ := HM.out _ B2.out; have y0 := t1 0 _ rfl; have y1 := t1 1 _ rfl; clear t0 t1 t2 hb2 b2 hf2))
  go_ret
  exact ⟨rfl, B5.out⟩
set_option maxHeartbeats 1600000 in
theorem walk (s0 : PSup) (s1 : PHead) (a2 : Option Addr) (len2 cap2 : Nat) (z2 : List Int) (w : World) (w0 : s0.in64) (w1 : s1.in64) (w2 : IsRow .u8 w a2 len2 cap2 z2) (rch2 : cap2 ≤ 140737488351232) :
    Calls Try.prog 5 #[s0.val, s1.val, .slice a2 len2 cap2] w fun e w' => e = .returned (.bool true) ∧ Below w.heap.size w w' := by
  have hA := w2.arg rch2
  obtain ⟨zs, HZ⟩ : ∃ zs, Hid (zs = z2.take len2) := ⟨_, Lib.hid rfl⟩
  rw [← HZ.out] at hA
  have HA := Lib.hid hA
  by_cases hs : s0.sound = true
  · by_cases hh : s1.sound = true
    · by_cases hx : isSup zs = true
      · exact way_yyy s0 s1 a2 len2 cap2 zs w w0 w1 HA hs hh hx
      · exact way_yyn s0 s1 a2 len2 cap2 zs w w0 w1 HA hs hh hx
    · by_cases hx : isSup zs = true
      · exact way_yny s0 s1 a2 len2 cap2 zs w w0 w1 HA hs hh hx
      · exact way_ynn s0 s1 a2 len2 cap2 zs w w0 w1 HA hs hh hx
  · by_cases hh : s1.sound = true
    · by_cases hx : isSup zs = true
      · exact way_nyy s0 s1 a2 len2 cap2 zs w w0 w1 HA hs hh hx
      · exact way_nyn s0 s1 a2 len2 cap2 zs w w0 w1 HA hs hh hx
    · by_cases hx : isSup zs = true
      · exact way_nny s0 s1 a2 len2 cap2 zs w w0 w1 HA hs hh hx
      · exact way_nnn s0 s1 a2 len2 cap2 zs w w0 w1 HA hs hh hx

/-! ### The law's step -/
set_option maxRecDepth 100000 in
theorem lifted (os : Os) (started : os.Started) (H : Type) (enc : TypeId × Value → H) :
    ReturnsInHanded {} Try.checked os 5 .any (Rows.superBackSpec.pre6 enc Try.prog Try.f5 Rows.superBackRow.domain false) (Rows.superBackSpec.post enc Try.prog Try.f5 false true false false) := by
  refine returnsInHanded_of_change_sized (C := Try.checked) own started (by kernel_rfl) Try.func5
    (ChangeSpec.witness6 (enc := enc) (C := Try.checked) false ⟨#[], #[.agg #[.int .i64 0, .int .i64 0, .int .i64 0, .int .i64 0, .int .i64 0], .agg #[.int .i64 0, .int .i64 0], .slice none 0 0], []⟩ 8 (by kernel_rfl) (by kernel_rfl) (by kernel_rfl) (by kernel_rfl)) ?_
  intro W base args ds gs before hval0 hW hcnd hsz0 _
  have hsz : (DataW.weightsEach Try.prog (Try.f5.params.toList ++ Rows.superBackSpec.plain.varTypes Try.prog) (ds ++ gs)).all (· ≤ reachBytes) = true := hsz0
  clear hsz0
  have hval : ∀ (j : Nat) t v, Try.f5.params[j]? = some t → args[j]? = some v → Value.okWide Try.prog W .any base t v := hval0
  have hW' := hW
  obtain ⟨p, q, hA0, hV, rfl, hfz, hnd⟩ := hW
  have hA : DataW.TrodAll enc Try.prog W 0 (fun _ => true) true Try.f5.params.toList args.toList ds p := hA0
  rw [Try.params5] at hA hval hsz
  obtain ⟨v0, vs0, d0, ds0, p0, q0, hargs, rfl, rfl, h0, r0⟩ := trodAll_cons hA
  obtain ⟨v1, vs1, d1, ds1, p1, q1, rfl, rfl, rfl, h1, r1⟩ := trodAll_cons r0
  obtain ⟨v2, vs2, d2, ds2, p2, q2, rfl, rfl, rfl, h2, r2⟩ := trodAll_cons r1
  obtain ⟨rfl, rfl, rfl⟩ := trodAll_nil r2
  obtain rfl : args = #[v0, v1, v2] := by cases args; simp_all
  obtain ⟨rfl, rfl⟩ := trodVars_none hV
  have k0 := h0
  have lt0 : ∀ x ∈ p0, x.block < W.heap.size := by obtain ⟨m, hm⟩ := k0; exact DataW.trod_lt m _ _ _ hm
  obtain ⟨s0, rfl, w0⟩ := open_sup (hval 0 23 v0 rfl rfl) h0
  have k1 := h1
  have lt1 : ∀ x ∈ p1, x.block < W.heap.size := by obtain ⟨m, hm⟩ := k1; exact DataW.trod_lt m _ _ _ hm
  obtain ⟨s1, rfl, w1⟩ := open_head (hval 1 25 v1 rfl rfl) h1
  have k2 := h2
  have lt2 : ∀ x ∈ p2, x.block < W.heap.size := by obtain ⟨m, hm⟩ := k2; exact DataW.trod_lt m _ _ _ hm
  obtain ⟨a2, len2, cap2, rfl⟩ := okWide_slice Try.underlying26 (hval 2 26 v2 rfl rfl)
  obtain ⟨z2, w2, rch2⟩ := open_bytes k2 (fun e s hd => sized_slice hsz (j := 2) (t := 26) (e := 5) rfl (by rw [hd]; rfl) Try.underlying26)
  clear hA0 hval0
  refine (walk s0 s1 a2 len2 cap2 z2 W w0 w1 w2 rch2).mono fun e W' ⟨he, bel⟩ => ?_
  subst he
  exact ⟨_, rfl, _, _, _, [], _, [], hW', trodAll_mk1 (shut_bool Try.underlying4 _), (trodAll_cons_mk (Below.trod laidOut (by kernel_rfl) (of_decide_eq_true (by kernel_rfl)) k0 bel lt0) (trodAll_cons_mk (Below.trod laidOut (by kernel_rfl) (of_decide_eq_true (by kernel_rfl)) k1 bel lt1) (trodAll_cons_mk (Below.trod laidOut (by kernel_rfl) (of_decide_eq_true (by kernel_rfl)) k2 bel lt2) trodAll_mk0))), rfl, bel.frame _, fun h => by cases h⟩

theorem over : Rows.superBackRow.holds Try.pinned (OpenSpec.ofChange Rows.superBackSpec) :=
  OpenClaim.holds_of_wide 5 Try.f5 rfl rfl rfl rfl rfl rfl rfl ⟨rfl, rfl, rfl, rfl, rfl⟩ rfl rfl rfl rfl rfl (by kernel_rfl) Try.func5 (by kernel_rfl)
    (of_decide_eq_true (by kernel_rfl)) (by unfold Func.isWrapper; first | (rw [if_pos (by decide +kernel)]; kernel_rfl) | (rw [if_neg (by decide +kernel)]; exact ⟨rfl, rfl⟩))
    (fun os started H enc _ => lifted os started H enc)

/-- The statement. -/
theorem proved : Rows.SuperBackSaid := over
end Go.Proofs.Ytpfapkdenlfmbaa.superBack
