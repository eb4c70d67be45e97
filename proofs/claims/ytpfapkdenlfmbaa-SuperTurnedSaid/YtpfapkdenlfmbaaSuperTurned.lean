/-
  Proved here: a block of a Super, or of a Head, of which one byte of the first 60 is another one is none. No conditions.
-/
import Derived.Test.YtpfapkdenlfmbaaAwake08
import Derived.Test.YtpfapkdenlfmbaaSupIn
import Derived.Test.YtpfapkdenlfmbaaFresh
namespace Go.Proofs.Ytpfapkdenlfmbaa.superTurned
open Go.ChangeShapes Go.WideShapes Go.ChangeAt Go.RowKit
open Go.ChangeMaps (open_string shut_string)
set_option linter.unusedVariables false
set_option linter.unusedSimpArgs false

theorem turn_sup (s : PSup) {k : Nat} {x : Int} (hk : k < 60) (hx : ¬ x = 0) (hw : 0 ≤ x ∧ x ≤ 255) : ∃ y, bits .xor .u8 ((supBlock s)[k]?.getD 0) x = y ∧ (0 ≤ y ∧ y ≤ 255) ∧ isSup ((supBlock s).set k y) = false := by
  have h := xor_u8 (a := (supBlock s)[k]?.getD 0) (b := x) (supBlock_bytes s _ (getD_mem (l := supBlock s) (k := k) (by rw [supBlock_length]; omega))) hw
  exact ⟨_, rfl, h.1, sup_turned hk h.1 (fun e => hx (h.2.1 e))⟩
theorem turn_head (s : PHead) {k : Nat} {x : Int} (hk : k < 60) (hx : ¬ x = 0) (hw : 0 ≤ x ∧ x ≤ 255) : ∃ y, bits .xor .u8 ((headBlock s)[k]?.getD 0) x = y ∧ (0 ≤ y ∧ y ≤ 255) ∧ isHead ((headBlock s).set k y) = false := by
  have h := xor_u8 (a := (headBlock s)[k]?.getD 0) (b := x) (headBlock_bytes s _ (getD_mem (l := headBlock s) (k := k) (by rw [headBlock_length]; omega))) hw
  exact ⟨_, rfl, h.1, head_turned hk h.1 (fun e => hx (h.2.1 e))⟩
theorem dec_turned {w : World} {ao : Option Addr} {len cap : Nat} {zs : List Int} (h : Arg w ao len cap zs) (hn : isSup zs = false) : Calls Try.prog 12 #[.slice ao len cap] w fun e w' => e = .returned (.tuple #[(noSup).val, .int .i64 2]) ∧ Below w.heap.size w w' := by
  have c := supOk.dec ao len cap zs w h
  unfold getSup getSupErr at c
  rw [hn] at c
  exact c
theorem get_turned {w : World} {ao : Option Addr} {len cap : Nat} {zs : List Int} (h : Arg w ao len cap zs) (hn : isHead zs = false) : Calls Try.prog 14 #[.slice ao len cap] w fun e w' => e = .returned (.tuple #[(noHead).val, .int .i64 2]) ∧ Below w.heap.size w w' := by
  have c := supOk.get ao len cap zs w h
  unfold getHead getHeadErr at c
  rw [hn] at c
  exact c
/-- A store into an older block. -/
theorem _root_.Go.Proofs.Ytpfapkdenlfmbaa.Fresh.far {w : World} {base : Nat} {v : Value} {l : List Int} (h : Fresh w base v l) {p : Addr} {u : Value} (hp : p.block < base) : Fresh (w.setCell p u) base v l := by
  obtain ⟨ao, cap, hv, hA, hf⟩ := h
  obtain ⟨⟨h1, h2, h3, h4⟩, h5, h6, h7⟩ := hA
  rcases hf with h0 | ⟨g, off, rfl, hg, hr⟩
  · exact ⟨ao, cap, hv, ⟨⟨h1, h2, h3, Or.inl (by rw [h0]; rfl)⟩, h5, h6, h7⟩, Or.inl h0⟩
  · refine ⟨_, cap, hv, ⟨⟨h1, h2, h3, ?_⟩, h5, h6, h7⟩, Or.inr ⟨g, off, rfl, hg, fun j hj => by simpa using hr j hj⟩⟩
    rcases h4 with h4 | ⟨b, o, he, hc⟩
    · exact Or.inl h4
    · simp only [Option.some.injEq, Addr.mk.injEq, and_true] at he
      obtain ⟨rfl, rfl⟩ := he
      exact Or.inr ⟨g, off, rfl, fun j hj => by rw [World.cell?_setCell_other (h := by intro e; rw [e] at hp; simp at hp; omega)]; exact hc j hj⟩
/-- A slice that a call handed back may be written later; its block is older than what was made since. -/
theorem _root_.Go.Proofs.Ytpfapkdenlfmbaa.Fresh.open_before {w2 w4 : World} {base : Nat} {v : Value} {l : List Int} (h : Fresh w2 base v l) (hb : Below w2.heap.size w2 w4) {k : Nat} (hk : k < l.length) :
    ∃ g off cap, v = .slice (some ⟨g, off, none⟩) l.length cap ∧ base ≤ g ∧ g < w2.heap.size ∧ w4.cell? ⟨g, off + k, none⟩ = some (.int .u8 (l.getD k 0)) ∧ w4.frozen? ⟨g, off + k, none⟩ = false ∧
      ∀ y : Int, 0 ≤ y ∧ y ≤ 255 → Arg (w4.setCell ⟨g, off + k, none⟩ (.int .u8 y)) (some ⟨g, off, none⟩) l.length cap (l.set k y) := by
  obtain ⟨g, off, cap, hv, hg, hc, _, _⟩ := h.open_at hk
  obtain ⟨g', off', cap', hv', _, hc', hr', hS'⟩ := (h.later hb).open_at hk
  rw [hv] at hv'
  simp only [Value.slice.injEq, Option.some.injEq, Addr.mk.injEq, and_true, true_and] at hv'
  obtain ⟨⟨rfl, rfl⟩, rfl⟩ := hv'
  exact ⟨g, off, cap, hv, hg, World.block_lt_of_cell? _ _ hc, hc', hr', hS'⟩
set_option maxHeartbeats 1600000 in
theorem way_zero (s0 : PSup) (s1 : PHead) (a2 : Int) (w : World) (w0 : s0.in64) (w1 : s1.in64) :
    Calls Try.prog 6 #[s0.val, s1.val, .int .u8 a2, .int .u8 0] w fun e w' => e = .returned (.bool true) ∧ Below w.heap.size w w' := by
  have c1 := Lib.hid (fun W => supOk.enc s0 W w0)
  have c3 := Lib.hid (fun W => supOk.put s1 W w1)
  clear w0 w1
  generalize supOut s0 = O0 at *
  generalize supErr s0 = E0 at *
  generalize headOut s1 = O1 at *
  generalize headErr s1 = E1 at *
  obtain ⟨a, b, c, d, e⟩ := s0
  obtain ⟨g, h⟩ := s1
  have HM := Lib.hid (fun w5 => made_two (w := w) (w5 := w5) (T0 := 23) (T1 := 25) (c0 := #[.int .i64 a, .int .i64 b, .int .i64 c, .int .i64 d, .int .i64 e]) (c1 := #[.int .i64 g, .int .i64 h]))
  unfold PSup.val PHead.val at *
  go_enter Try.func6, Try.ntmps6
  go_wp2_with (first
    | (go_at_call 11; have gt := B4; clear gt; refine (awake08_any _).mono ?_; rintro e5 w5 ⟨rfl, hb5⟩; have B5 := Lib.hid (B4.out.trans (hb5.mono B4.out.size)); clear hb5)
    | (go_at_call 11; have gt := B3; clear gt; refine (awake08_any _).mono ?_; rintro e4 w4 ⟨rfl, hb4⟩; have B4 := Lib.hid (B3.out.trans (hb4.mono B3.out.size)); clear hb4)
    | (go_at_call 9; have gt := B2; clear gt; refine (c3.out _).mono ?_; (try simp only [PSup.val, PHead.val, noSup, noHead]); rintro e3 w3 ⟨v3, rfl, hf3, hb3⟩; have B3 := Lib.hid (B2.out.trans (hb3.mono B2.out.size)); clear hb3 hf3)
    | (go_at_call 7; refine (c1.out _).mono ?_; (try simp only [PSup.val, PHead.val, noSup, noHead]); rintro e2 w2 ⟨v2, rfl, hf2, hb2⟩; have B2 := Lib.hid hb2; obtain ⟨t0, t1, t2⟩ := HM.out _ B2.out; have cy0 := t1 0 _ rfl; have cy1 := t1 1 _ rfl; clear t0 t1 t2; clear hb2 hf2))
  go_ret
  exact ⟨rfl, (HM.out _ B5.out).2.2⟩

set_option maxHeartbeats 1600000 in
theorem way_yy (s0 : PSup) (s1 : PHead) (a2 a3 : Int) (k : Nat) (w : World) (w0 : s0.in64) (w1 : s1.in64) (hw2 : 0 ≤ a2 ∧ a2 ≤ 255) (hw3 : 0 ≤ a3 ∧ a3 ≤ 255) (hx : ¬ a3 = 0) (Hk : Hid (a2 % 60 = (k : Int))) (hk : k < 60) (hs : s0.sound = true) (hh : s1.sound = true) :
    Calls Try.prog 6 #[s0.val, s1.val, .int .u8 a2, .int .u8 a3] w fun e w' => e = .returned (.bool true) ∧ Below w.heap.size w w' := by
  have hxb : (a3 == 0) = false := by simp; exact hx
  obtain ⟨a, b, c, d, e⟩ := s0
  obtain ⟨g, h⟩ := s1
  have HM := Lib.hid (fun w5 => made_two (w := w) (w5 := w5) (T0 := 23) (T1 := 25) (c0 := #[.int .i64 a, .int .i64 b, .int .i64 c, .int .i64 d, .int .i64 e]) (c1 := #[.int .i64 g, .int .i64 h]))
  have CS := Lib.hid (fun W => enc_ok hs W)
  have CH := Lib.hid (fun W => put_ok hh W)
  obtain ⟨y1, hy1, hyb1, hn1⟩ := turn_sup ⟨a, b, c, d, e⟩ hk hx hw3
  have HY1 := Lib.hid hy1
  have HB1 := Lib.hid hyb1
  have HN1 := Lib.hid hn1
  have HL1 := Lib.hid (supBlock_length ⟨a, b, c, d, e⟩)
  clear hy1 hyb1 hn1
  obtain ⟨y2, hy2, hyb2, hn2⟩ := turn_head ⟨g, h⟩ hk hx hw3
  have HY2 := Lib.hid hy2
  have HB2 := Lib.hid hyb2
  have HN2 := Lib.hid hn2
  have HL2 := Lib.hid (headBlock_length ⟨g, h⟩)
  clear hy2 hyb2 hn2
  generalize supBlock ⟨a, b, c, d, e⟩ = L1 at *
  generalize headBlock ⟨g, h⟩ = L2 at *
  have HK := Lib.hid hk
  have hmod := Hk.out
  clear hs hh w0 w1 hx hk
  unfold PSup.val PHead.val at *
  go_enter Try.func6, Try.ntmps6
  go_wp2_with (first
    | (go_at_call 14; have gt := B5; clear gt; refine (get_turned HS2.out HN2.out).mono ?_; (try simp only [PSup.val, PHead.val, noSup, noHead]); rintro e6 w6 ⟨rfl, hb6⟩; have b6 := B5.out.trans (hb6.mono B5.out.size); have B6 := Lib.hid (b6.alloc b6.size (.cells #[.int .i64 0, .int .i64 0] 25)); clear hb6 b6)
    | (go_at_call 12; have gt := B4; clear gt; refine (dec_turned HS1.out HN1.out).mono ?_; (try simp only [PSup.val, PHead.val, noSup, noHead]); rintro e5 w5 ⟨rfl, hb5⟩; have b5 := B4.out.trans (hb5.mono B4.out.size); obtain ⟨g2, o2, p2, hv2, hg2, hc2, hr2, hS2⟩ := ((FH4.out.later hb5).later ((Below.refl _ _).alloc (Nat.le_refl _) (.cells #[.int .i64 0, .int .i64 0, .int .i64 0, .int .i64 0, .int .i64 0] 23))).open_at (k := k) (by rw [HL2.out]; have := HK.out; omega); rw [HL2.out] at hv2 hS2; have HS2 := Lib.hid (hS2 y2 HB2.out); have HG2 := Lib.hid hg2; subst hv2; have hyy2 := HY2.out; have B5 := Lib.hid ((b5.alloc b5.size (.cells #[.int .i64 0, .int .i64 0, .int .i64 0, .int .i64 0, .int .i64 0] 23)).setCell (p := ⟨g2, o2 + k, none⟩) (Nat.le_trans B2.out.size hg2) (.int .u8 y2)); clear hS2 hg2 hyy1 hc1 hr1 hb5 b5)
    | (go_at_call 11; have gt := B3; clear gt; refine (awake08_any _).mono ?_; rintro e4 w4 ⟨rfl, hb4⟩; have B4 := Lib.hid (B3.out.trans (hb4.mono B3.out.size)); obtain ⟨g1, o1, p1, hv1, hg1, hl1, hc1, hr1, hS1⟩ := FS.out.open_before (M3.out.trans (hb4.mono M3.out.size)) (k := k) (by rw [HL1.out]; have := HK.out; omega); rw [HL1.out] at hv1 hS1; have HS1 := Lib.hid (hS1 y1 HB1.out); have HG1 := Lib.hid (And.intro hg1 hl1); subst hv1; have hyy1 := HY1.out; have B4 := Lib.hid (B4.out.setCell (p := ⟨g1, o1 + k, none⟩) hg1 (.int .u8 y1)); have FH4 := Lib.hid ((FH.out.later hb4).far (p := ⟨g1, o1 + k, none⟩) (u := .int .u8 y1) hl1); clear hS1 hg1 hl1 hb4)
    | (go_at_call 9; have gt := B2; clear gt; refine (CH.out _).mono ?_; (try simp only [PSup.val, PHead.val, noSup, noHead]); rintro e3 w3 ⟨v3, rfl, hf3, hb3⟩; have M3 := Lib.hid hb3; have B3 := Lib.hid (B2.out.trans (hb3.mono B2.out.size)); have FH := Lib.hid hf3; clear hb3 hf3)
    | (go_at_call 7; refine (CS.out _).mono ?_; (try simp only [PSup.val, PHead.val, noSup, noHead]); rintro e2 w2 ⟨v2, rfl, hf2, hb2⟩; have B2 := Lib.hid hb2; have FS := Lib.hid hf2; obtain ⟨t0, t1, t2⟩ := HM.out _ B2.out; have cy0 := t1 0 _ rfl; have cy1 := t1 1 _ rfl; clear t0 t1 t2; clear hb2 hf2))
  go_ret
  exact ⟨rfl, (HM.out _ B6.out).2.2⟩

set_option maxHeartbeats 1600000 in
theorem way_yn (s0 : PSup) (s1 : PHead) (a2 a3 : Int) (k : Nat) (w : World) (w0 : s0.in64) (w1 : s1.in64) (hw2 : 0 ≤ a2 ∧ a2 ≤ 255) (hw3 : 0 ≤ a3 ∧ a3 ≤ 255) (hx : ¬ a3 = 0) (Hk : Hid (a2 % 60 = (k : Int))) (hk : k < 60) (hs : s0.sound = true) (hh : ¬ s1.sound = true) :
    Calls Try.prog 6 #[s0.val, s1.val, .int .u8 a2, .int .u8 a3] w fun e w' => e = .returned (.bool true) ∧ Below w.heap.size w w' := by
  have hxb : (a3 == 0) = false := by simp; exact hx
  obtain ⟨a, b, c, d, e⟩ := s0
  obtain ⟨g, h⟩ := s1
  have HM := Lib.hid (fun w5 => made_two (w := w) (w5 := w5) (T0 := 23) (T1 := 25) (c0 := #[.int .i64 a, .int .i64 b, .int .i64 c, .int .i64 d, .int .i64 e]) (c1 := #[.int .i64 g, .int .i64 h]))
  have CS := Lib.hid (fun W => enc_ok hs W)
  have CH := Lib.hid (fun W => put_no w1 (by simpa using hh) W)
  obtain ⟨y1, hy1, hyb1, hn1⟩ := turn_sup ⟨a, b, c, d, e⟩ hk hx hw3
  have HY1 := Lib.hid hy1
  have HB1 := Lib.hid hyb1
  have HN1 := Lib.hid hn1
  have HL1 := Lib.hid (supBlock_length ⟨a, b, c, d, e⟩)
  clear hy1 hyb1 hn1
  generalize supBlock ⟨a, b, c, d, e⟩ = L1 at *
  have HK := Lib.hid hk
  have hmod := Hk.out
  clear hs hh w0 w1 hx hk
  unfold PSup.val PHead.val at *
  go_enter Try.func6, Try.ntmps6
  go_wp2_with (first
    | (go_at_call 12; have gt := B4; clear gt; refine (dec_turned HS1.out HN1.out).mono ?_; (try simp only [PSup.val, PHead.val, noSup, noHead]); rintro e5 w5 ⟨rfl, hb5⟩; have b5 := B4.out.trans (hb5.mono B4.out.size); have B5 := Lib.hid (b5.alloc b5.size (.cells #[.int .i64 0, .int .i64 0, .int .i64 0, .int .i64 0, .int .i64 0] 23)); clear hyy1 hc1 hr1 hb5 b5)
    | (go_at_call 11; have gt := B3; clear gt; refine (awake08_any _).mono ?_; rintro e4 w4 ⟨rfl, hb4⟩; have B4 := Lib.hid (B3.out.trans (hb4.mono B3.out.size)); obtain ⟨g1, o1, p1, hv1, hg1, hl1, hc1, hr1, hS1⟩ := FS.out.open_before (M3.out.trans (hb4.mono M3.out.size)) (k := k) (by rw [HL1.out]; have := HK.out; omega); rw [HL1.out] at hv1 hS1; have HS1 := Lib.hid (hS1 y1 HB1.out); have HG1 := Lib.hid (And.intro hg1 hl1); subst hv1; have hyy1 := HY1.out; have B4 := Lib.hid (B4.out.setCell (p := ⟨g1, o1 + k, none⟩) hg1 (.int .u8 y1)); clear hS1 hg1 hl1 hb4)
    | (go_at_call 9; have gt := B2; clear gt; refine (CH.out _).mono ?_; (try simp only [PSup.val, PHead.val, noSup, noHead]); rintro e3 w3 ⟨v3, rfl, hf3, hb3⟩; have M3 := Lib.hid hb3; have B3 := Lib.hid (B2.out.trans (hb3.mono B2.out.size)); have FH := Lib.hid hf3; clear hb3 hf3)
    | (go_at_call 7; refine (CS.out _).mono ?_; (try simp only [PSup.val, PHead.val, noSup, noHead]); rintro e2 w2 ⟨v2, rfl, hf2, hb2⟩; have B2 := Lib.hid hb2; have FS := Lib.hid hf2; obtain ⟨t0, t1, t2⟩ := HM.out _ B2.out; have cy0 := t1 0 _ rfl; have cy1 := t1 1 _ rfl; clear t0 t1 t2; clear hb2 hf2))
  go_ret
  exact ⟨rfl, (HM.out _ B5.out).2.2⟩

set_option maxHeartbeats 1600000 in
theorem way_ny (s0 : PSup) (s1 : PHead) (a2 a3 : Int) (k : Nat) (w : World) (w0 : s0.in64) (w1 : s1.in64) (hw2 : 0 ≤ a2 ∧ a2 ≤ 255) (hw3 : 0 ≤ a3 ∧ a3 ≤ 255) (hx : ¬ a3 = 0) (Hk : Hid (a2 % 60 = (k : Int))) (hk : k < 60) (hs : ¬ s0.sound = true) (hh : s1.sound = true) :
    Calls Try.prog 6 #[s0.val, s1.val, .int .u8 a2, .int .u8 a3] w fun e w' => e = .returned (.bool true) ∧ Below w.heap.size w w' := by
  have hxb : (a3 == 0) = false := by simp; exact hx
  obtain ⟨a, b, c, d, e⟩ := s0
  obtain ⟨g, h⟩ := s1
  have HM := Lib.hid (fun w5 => made_two (w := w) (w5 := w5) (T0 := 23) (T1 := 25) (c0 := #[.int .i64 a, .int .i64 b, .int .i64 c, .int .i64 d, .int .i64 e]) (c1 := #[.int .i64 g, .int .i64 h]))
  have CS := Lib.hid (fun W => enc_no w0 (by simpa using hs) W)
  have CH := Lib.hid (fun W => put_ok hh W)
  obtain ⟨y2, hy2, hyb2, hn2⟩ := turn_head ⟨g, h⟩ hk hx hw3
  have HY2 := Lib.hid hy2
  have HB2 := Lib.hid hyb2
  have HN2 := Lib.hid hn2
  have HL2 := Lib.hid (headBlock_length ⟨g, h⟩)
  clear hy2 hyb2 hn2
  generalize headBlock ⟨g, h⟩ = L2 at *
  have HK := Lib.hid hk
  have hmod := Hk.out
  clear hs hh w0 w1 hx hk
  unfold PSup.val PHead.val at *
  go_enter Try.func6, Try.ntmps6
  go_wp2_with (first
    | (go_at_call 14; have gt := B4; clear gt; refine (get_turned HS2.out HN2.out).mono ?_; (try simp only [PSup.val, PHead.val, noSup, noHead]); rintro e6 w6 ⟨rfl, hb6⟩; have b6 := B4.out.trans (hb6.mono B4.out.size); have B6 := Lib.hid (b6.alloc b6.size (.cells #[.int .i64 0, .int .i64 0] 25)); clear hb6 b6)
    | (go_at_call 11; have gt := B3; clear gt; refine (awake08_any _).mono ?_; rintro e4 w4 ⟨rfl, hb4⟩; have B4 := Lib.hid (B3.out.trans (hb4.mono B3.out.size)); obtain ⟨g2, o2, p2, hv2, hg2, hc2, hr2, hS2⟩ := (FH.out.later hb4).open_at (k := k) (by rw [HL2.out]; have := HK.out; omega); rw [HL2.out] at hv2 hS2; have HS2 := Lib.hid (hS2 y2 HB2.out); have HG2 := Lib.hid hg2; subst hv2; have hyy2 := HY2.out; have B4 := Lib.hid (B4.out.setCell (p := ⟨g2, o2 + k, none⟩) (Nat.le_trans B2.out.size hg2) (.int .u8 y2)); clear hS2 hg2 hb4)
    | (go_at_call 9; have gt := B2; clear gt; refine (CH.out _).mono ?_; (try simp only [PSup.val, PHead.val, noSup, noHead]); rintro e3 w3 ⟨v3, rfl, hf3, hb3⟩; have M3 := Lib.hid hb3; have B3 := Lib.hid (B2.out.trans (hb3.mono B2.out.size)); have FH := Lib.hid hf3; clear hb3 hf3)
    | (go_at_call 7; refine (CS.out _).mono ?_; (try simp only [PSup.val, PHead.val, noSup, noHead]); rintro e2 w2 ⟨v2, rfl, hf2, hb2⟩; have B2 := Lib.hid hb2; have FS := Lib.hid hf2; obtain ⟨t0, t1, t2⟩ := HM.out _ B2.out; have cy0 := t1 0 _ rfl; have cy1 := t1 1 _ rfl; clear t0 t1 t2; clear hb2 hf2))
  go_ret
  exact ⟨rfl, (HM.out _ B6.out).2.2⟩

set_option maxHeartbeats 1600000 in
theorem way_nn (s0 : PSup) (s1 : PHead) (a2 a3 : Int) (k : Nat) (w : World) (w0 : s0.in64) (w1 : s1.in64) (hw2 : 0 ≤ a2 ∧ a2 ≤ 255) (hw3 : 0 ≤ a3 ∧ a3 ≤ 255) (hx : ¬ a3 = 0) (Hk : Hid (a2 % 60 = (k : Int))) (hk : k < 60) (hs : ¬ s0.sound = true) (hh : ¬ s1.sound = true) :
    Calls Try.prog 6 #[s0.val, s1.val, .int .u8 a2, .int .u8 a3] w fun e w' => e = .returned (.bool true) ∧ Below w.heap.size w w' := by
  have hxb : (a3 == 0) = false := by simp; exact hx
  obtain ⟨a, b, c, d, e⟩ := s0
  obtain ⟨g, h⟩ := s1
  have HM := Lib.hid (fun w5 => made_two (w := w) (w5 := w5) (T0 := 23) (T1 := 25) (c0 := #[.int .i64 a, .int .i64 b, .int .i64 c, .int .i64 d, .int .i64 e]) (c1 := #[.int .i64 g, .int .i64 h]))
  have CS := Lib.hid (fun W => enc_no w0 (by simpa using hs) W)
  have CH := Lib.hid (fun W => put_no w1 (by simpa using hh) W)
  have HK := Lib.hid hk
  have hmod := Hk.out
  clear hs hh w0 w1 hx hk
  unfold PSup.val PHead.val at *
  go_enter Try.func6, Try.ntmps6
  go_wp2_with (first
    | (go_at_call 11; have gt := B3; clear gt; refine (awake08_any _).mono ?_; rintro e4 w4 ⟨rfl, hb4⟩; have B4 := Lib.hid (B3.out.trans (hb4.mono B3.out.size)); clear hb4)
    | (go_at_call 9; have gt := B2; clear gt; refine (CH.out _).mono ?_; (try simp only [PSup.val, PHead.val, noSup, noHead]); rintro e3 w3 ⟨v3, rfl, hf3, hb3⟩; have M3 := Lib.hid hb3; have B3 := Lib.hid (B2.out.trans (hb3.mono B2.out.size)); have FH := Lib.hid hf3; clear hb3 hf3)
    | (go_at_call 7; refine (CS.out _).mono ?_; (try simp only [PSup.val, PHead.val, noSup, noHead]); rintro e2 w2 ⟨v2, rfl, hf2, hb2⟩; have B2 := Lib.hid hb2; have FS := Lib.hid hf2; obtain ⟨t0, t1, t2⟩ := HM.out _ B2.out; have cy0 := t1 0 _ rfl; have cy1 := t1 1 _ rfl; clear t0 t1 t2; clear hb2 hf2))
  go_ret
  exact ⟨rfl, (HM.out _ B4.out).2.2⟩
set_option maxHeartbeats 1600000 in
theorem walk (s0 : PSup) (s1 : PHead) (a2 : Int) (a3 : Int) (w : World) (w0 : s0.in64) (w1 : s1.in64) (w2 : (Lit.int .u8 a2).wf = true) (w3 : (Lit.int .u8 a3).wf = true) :
    Calls Try.prog 6 #[s0.val, s1.val, .int .u8 a2, .int .u8 a3] w fun e w' => e = .returned (.bool true) ∧ Below w.heap.size w w' := by
  have hw2 := wf_u8 w2
  have hw3 := wf_u8 w3
  by_cases hx : a3 = 0
  · subst hx
    exact way_zero s0 s1 a2 w w0 w1
  · obtain ⟨k, Hk⟩ : ∃ k : Nat, Hid (a2 % 60 = (k : Int)) := ⟨(a2 % 60).toNat, Lib.hid (by omega)⟩
    have hk : k < 60 := by have := Hk.out; omega
    by_cases hs : s0.sound = true
    · by_cases hh : s1.sound = true
      · exact way_yy s0 s1 a2 a3 k w w0 w1 hw2 hw3 hx Hk hk hs hh
      · exact way_yn s0 s1 a2 a3 k w w0 w1 hw2 hw3 hx Hk hk hs hh
    · by_cases hh : s1.sound = true
      · exact way_ny s0 s1 a2 a3 k w w0 w1 hw2 hw3 hx Hk hk hs hh
      · exact way_nn s0 s1 a2 a3 k w w0 w1 hw2 hw3 hx Hk hk hs hh

/-! ### The law's step -/
set_option maxRecDepth 100000 in
theorem lifted (os : Os) (started : os.Started) (H : Type) (enc : TypeId × Value → H) :
    ReturnsInHanded {} Try.checked os 6 .any (Rows.superTurnedSpec.pre6 enc Try.prog Try.f6 Rows.superTurnedRow.domain false) (Rows.superTurnedSpec.post enc Try.prog Try.f6 false true false false) := by
  refine returnsInHanded_of_change_sized (C := Try.checked) own started (by kernel_rfl) Try.func6
    (ChangeSpec.witness6 (enc := enc) (C := Try.checked) false ⟨#[], #[.agg #[.int .i64 0, .int .i64 0, .int .i64 0, .int .i64 0, .int .i64 0], .agg #[.int .i64 0, .int .i64 0], .int .u8 0, .int .u8 0], []⟩ 8 (by kernel_rfl) (by kernel_rfl) (by kernel_rfl) (by kernel_rfl)) ?_
  intro W base args ds gs before hval0 hW hcnd hsz0 _
  have hsz : (DataW.weightsEach Try.prog (Try.f6.params.toList ++ Rows.superTurnedSpec.plain.varTypes Try.prog) (ds ++ gs)).all (· ≤ reachBytes) = true := hsz0
  clear hsz0
  have hval : ∀ (j : Nat) t v, Try.f6.params[j]? = some t → args[j]? = some v → Value.okWide Try.prog W .any base t v := hval0
  have hW' := hW
  obtain ⟨p, q, hA0, hV, rfl, hfz, hnd⟩ := hW
  have hA : DataW.TrodAll enc Try.prog W 0 (fun _ => true) true Try.f6.params.toList args.toList ds p := hA0
  rw [Try.params6] at hA hval hsz
  obtain ⟨v0, vs0, d0, ds0, p0, q0, hargs, rfl, rfl, h0, r0⟩ := trodAll_cons hA
  obtain ⟨v1, vs1, d1, ds1, p1, q1, rfl, rfl, rfl, h1, r1⟩ := trodAll_cons r0
  obtain ⟨v2, vs2, d2, ds2, p2, q2, rfl, rfl, rfl, h2, r2⟩ := trodAll_cons r1
  obtain ⟨v3, vs3, d3, ds3, p3, q3, rfl, rfl, rfl, h3, r3⟩ := trodAll_cons r2
  obtain ⟨rfl, rfl, rfl⟩ := trodAll_nil r3
  obtain rfl : args = #[v0, v1, v2, v3] := by cases args; simp_all
  obtain ⟨rfl, rfl⟩ := trodVars_none hV
  have k0 := h0
  have lt0 : ∀ x ∈ p0, x.block < W.heap.size := by obtain ⟨m, hm⟩ := k0; exact DataW.trod_lt m _ _ _ hm
  obtain ⟨s0, rfl, w0⟩ := open_sup (hval 0 23 v0 rfl rfl) h0
  have k1 := h1
  have lt1 : ∀ x ∈ p1, x.block < W.heap.size := by obtain ⟨m, hm⟩ := k1; exact DataW.trod_lt m _ _ _ hm
  obtain ⟨s1, rfl, w1⟩ := open_head (hval 1 25 v1 rfl rfl) h1
  have k2 := h2
  have lt2 : ∀ x ∈ p2, x.block < W.heap.size := by obtain ⟨m, hm⟩ := k2; exact DataW.trod_lt m _ _ _ hm
  obtain ⟨a2, rfl, _, _, w2⟩ := open_int Try.underlying5 (hval 2 5 v2 rfl rfl) h2
  have k3 := h3
  have lt3 : ∀ x ∈ p3, x.block < W.heap.size := by obtain ⟨m, hm⟩ := k3; exact DataW.trod_lt m _ _ _ hm
  obtain ⟨a3, rfl, _, _, w3⟩ := open_int Try.underlying5 (hval 3 5 v3 rfl rfl) h3
  clear hA0 hval0
  refine (walk s0 s1 a2 a3 W w0 w1 w2 w3).mono fun e W' ⟨he, bel⟩ => ?_
  subst he
  exact ⟨_, rfl, _, _, _, [], _, [], hW', trodAll_mk1 (shut_bool Try.underlying4 _), (trodAll_cons_mk (Below.trod laidOut (by kernel_rfl) (of_decide_eq_true (by kernel_rfl)) k0 bel lt0) (trodAll_cons_mk (Below.trod laidOut (by kernel_rfl) (of_decide_eq_true (by kernel_rfl)) k1 bel lt1) (trodAll_cons_mk (Below.trod laidOut (by kernel_rfl) (of_decide_eq_true (by kernel_rfl)) k2 bel lt2) (trodAll_cons_mk (Below.trod laidOut (by kernel_rfl) (of_decide_eq_true (by kernel_rfl)) k3 bel lt3) trodAll_mk0)))), rfl, bel.frame _, fun h => by cases h⟩

theorem over : Rows.superTurnedRow.holds Try.pinned (OpenSpec.ofChange Rows.superTurnedSpec) :=
  OpenClaim.holds_of_wide 6 Try.f6 rfl rfl rfl rfl rfl rfl rfl ⟨rfl, rfl, rfl, rfl, rfl⟩ rfl rfl rfl rfl rfl (by kernel_rfl) Try.func6 (by kernel_rfl)
    (of_decide_eq_true (by kernel_rfl)) (by unfold Func.isWrapper; first | (rw [if_pos (by decide +kernel)]; kernel_rfl) | (rw [if_neg (by decide +kernel)]; exact ⟨rfl, rfl⟩))
    (fun os started H enc _ => lifted os started H enc)

/-- The statement. -/
theorem proved : Rows.SuperTurnedSaid := over
end Go.Proofs.Ytpfapkdenlfmbaa.superTurned
