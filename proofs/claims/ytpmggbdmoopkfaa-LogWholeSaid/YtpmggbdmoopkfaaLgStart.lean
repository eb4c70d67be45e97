/-
  Proved here: what the landed log's small parts answer: numbered, start, told; End and Ends.
  The conditions stand at each theorem.
-/
import Derived.Test.YtpmggbdmoopkfaaLgPlain
namespace Go.Proofs.Ytpmggbdmoopkfaa
open Go.RowKit
set_option linter.unusedVariables false
set_option linter.unusedSimpArgs false

theorem numbered_any (s c : Int) (w : World) : Calls Try.prog 22 #[.int .i64 s, .int .i64 c] w fun e w' => e = .returned (.bool (okEnd s c)) ∧ w = w' := by
  by_cases h1 : 1 ≤ s
  · by_cases h2 : s ≤ 1073741824
    · by_cases h3 : 1 ≤ c
      · by_cases h4 : c ≤ 20
        · have HE : Hid (okEnd s c = true) := Lib.hid (decide_eq_true ⟨h1, h2, h3, h4⟩)
          go_enter Try.func22, Try.ntmps22
          go_wp2
          go_ret
          exact ⟨by rw [HE.out]; rfl, rfl⟩
        · have HE : Hid (okEnd s c = false) := Lib.hid (decide_eq_false (fun h => h4 h.2.2.2))
          go_enter Try.func22, Try.ntmps22
          go_wp2
          go_ret
          exact ⟨by rw [HE.out]; rfl, rfl⟩
      · have HE : Hid (okEnd s c = false) := Lib.hid (decide_eq_false (fun h => h3 h.2.2.1))
        go_enter Try.func22, Try.ntmps22
        go_wp2
        go_ret
        exact ⟨by rw [HE.out]; rfl, rfl⟩
    · have HE : Hid (okEnd s c = false) := Lib.hid (decide_eq_false (fun h => h2 h.2.1))
      go_enter Try.func22, Try.ntmps22
      go_wp2
      go_ret
      exact ⟨by rw [HE.out]; rfl, rfl⟩
  · have HE : Hid (okEnd s c = false) := Lib.hid (decide_eq_false (fun h => h1 h.1))
    go_enter Try.func22, Try.ntmps22
    go_wp2
    go_ret
    exact ⟨by rw [HE.out]; rfl, rfl⟩

theorem told_any (ao : Option Addr) (len cap : Nat) (zs : List Int) (w : World) (hA : Arg w ao len cap zs) : Calls Try.prog 30 #[.slice ao len cap] w fun e w' => e = .returned (.tuple #[.int .i64 (getOut zs 4 4), .int .i64 (getOut zs 8 1)]) ∧ w = w' := by
  have c1 := fGet_any ao len cap zs 4 4 w hA (by decide) (by decide)
  have c2 := fGet_any ao len cap zs 8 1 w hA (by decide) (by decide)
  clear hA
  generalize getOut zs 4 4 = x at *
  generalize getOut zs 8 1 = y at *
  generalize fErr len 4 4 = e1 at *
  generalize fErr len 8 1 = e2 at *
  go_enter Try.func30, Try.ntmps30
  go_wp2_with (first | (go_at_call 31; refine c1.mono ?_; rintro e w' ⟨rfl, rfl⟩; clear c1) | (go_at_call 31; refine c2.mono ?_; rintro e w' ⟨rfl, rfl⟩))
  go_ret2
  exact ⟨rfl, rfl⟩

set_option maxHeartbeats 1600000 in
theorem start_any (s : ByteArray) (q c : Int) (w : World) (hs : s.size ≤ 60) (hq : i64w q) (hc : i64w c) : Calls Try.prog 24 #[.string s, .int .i64 q, .int .i64 c] w (Gives w.heap.size w (startL (bytesOf s) q c)) := by
  have hmk := run_make_bytes w 64 (by decide)
  rw [show ((64 : Nat) : Int) = 64 from rfl] at hmk
  have hA0 := made_arg w 64 (by decide)
  have hB0 : Below w.heap.size w (w.alloc (.cells (madeCells #[.int .u8 0] 64) 5)) := (Below.refl _ _).alloc (Nat.le_refl _) _
  have HQ := Lib.hid hq
  have HC := Lib.hid hc
  generalize hw1 : w.alloc (.cells (madeCells #[.int .u8 0] 64) 5) = w1 at *
  have HW1 := Lib.hid hw1
  have HB0 := Lib.hid hB0
  have cT := fText_any _ 64 64 (List.replicate 64 0) 0 s w1 hA0 (by decide) (by omega)
  have HST : Hid (startL (bytesOf s) q c = setOut (setOut (textOut (List.replicate 64 0) 0 (bytesOf s)) 4 4 q) 8 1 c) := Lib.hid rfl
  rw [HST.out]
  clear hw1 hB0 hA0 hq hc
  generalize textOut (List.replicate 64 0) 0 (bytesOf s) = L1 at *
  go_enter Try.func24, Try.ntmps24
  go_wp2_with (first
    | (go_at_call 25; refine (fSet_any _ _ _ _ 8 1 c w3 hA3 (by decide) (by decide) HC.out).mono ?_; rintro e w4 ⟨v4, rfl, hf4, hb4⟩; have HF4 := Lib.hid hf4; have HB4 := Lib.hid hb4; clear hf4 hb4)
    | (go_at_call 25; refine (fSet_any _ _ _ _ 4 4 q w2 hA2 (by decide) (by decide) HQ.out).mono ?_; rintro e w3 ⟨v3, rfl, hf3, hb3⟩; obtain ⟨ao3, c3, rfl, hA3⟩ := fresh_form hf3; have HB3 := Lib.hid hb3; clear hf3 hb3)
    | (go_at_call 39; refine cT.mono ?_; rintro e w2 ⟨v2, rfl, hf2, hb2⟩; obtain ⟨ao2, c2, rfl, hA2⟩ := fresh_form hf2; have HB2 := Lib.hid hb2; clear hf2 hb2))
  go_ret
  have b2 := HB0.out.trans (HB2.out.mono HB0.out.size)
  have b3 := b2.trans (HB3.out.mono b2.size)
  exact ⟨v4, rfl, HF4.out.mono b3.size, b3.trans (HB4.out.mono b3.size)⟩

set_option maxHeartbeats 1600000 in
theorem lEnd_any (q c : Int) (w : World) (hq : i64w q) (hc : i64w c) : Calls Try.prog 15 #[.int .i64 q, .int .i64 c] w (Handed w.heap.size w (endOut q c) (endErr q c)) := by
  have cN := numbered_any q c w
  cases hok : okEnd q c with
  | false =>
    have HE : Hid (endOut q c = [] ∧ endErr q c = 2) := Lib.hid (by unfold endOut endErr; rw [hok]; exact ⟨rfl, rfl⟩)
    rw [hok] at cN
    clear hok
    go_enter Try.func15, Try.ntmps15
    go_wp2_with (go_at_call 22; refine cN.mono ?_; rintro e w' ⟨rfl, rfl⟩)
    go_ret2
    exact ⟨.slice none 0 0, by rw [HE.out.2]; rfl, by rw [HE.out.1]; exact Fresh.nil _ _, Below.refl _ _⟩
  | true =>
    have HE : Hid (endOut q c = sealOut sumS (startL endT q c) ∧ endErr q c = 0) := Lib.hid (by rw [made_end hok]; unfold endOut endErr; rw [hok]; exact ⟨rfl, rfl⟩)
    have cS := start_any ⟨#[68, 79, 78, 69]⟩ q c w (by decide) hq hc
    rw [show bytesOf ⟨#[68, 79, 78, 69]⟩ = endT from rfl] at cS
    rw [hok] at cN
    clear hok
    generalize startL endT q c = L at *
    go_enter Try.func15, Try.ntmps15
    go_wp2_with (first
      | (go_at_call 26; refine (fSeal_any _ _ _ _ w3 hA3).mono ?_; rintro e w4 ⟨v4, rfl, hf4, hb4⟩; have HF4 := Lib.hid hf4; have HB4 := Lib.hid hb4; clear hf4 hb4)
      | (go_at_call 24; refine cS.mono ?_; rintro e w3 ⟨v3, rfl, hf3, hb3⟩; obtain ⟨ao3, c3, rfl, hA3⟩ := fresh_form hf3; have HB3 := Lib.hid hb3; clear hf3 hb3)
      | (go_at_call 22; refine cN.mono ?_; rintro e w' ⟨rfl, rfl⟩))
    go_ret2
    exact ⟨v4, by rw [HE.out.2]; rfl, by rw [HE.out.1]; exact HF4.out.mono HB3.out.size, HB3.out.trans (HB4.out.mono HB3.out.size)⟩

set_option maxHeartbeats 3200000 in
theorem lEnds_any (ao : Option Addr) (len cap : Nat) (zs : List Int) (w : World) (hA : Arg w ao len cap zs) : Calls Try.prog 17 #[.slice ao len cap] w fun e w' => e = .returned (.tuple #[.int .i64 (getEndSeq zs), .int .i64 (getEndCount zs), .int .i64 (getEndErr zs)]) ∧ Below w.heap.size w w' := by
  have HA := Lib.hid hA
  have cT := told_any ao len cap zs w hA
  have hz := hA.1.2.2.1
  have hq : i64w (getOut zs 4 4) := by have := getS_in hz 4 4 (by decide); unfold i64w; rw [show ((4 : Nat) : Int) = 4 from rfl] at this; omega
  have hc : i64w (getOut zs 8 1) := by have := getC_in hz; unfold i64w; omega
  have cE := lEnd_any (getOut zs 4 4) (getOut zs 8 1) w hq hc
  have hw := end_ways zs
  clear hA hz hq hc
  generalize getOut zs 4 4 = q at *
  generalize getOut zs 8 1 = c at *
  rcases hw with ⟨h1, h2, h3, h4, h5⟩ | ⟨h1, h2, h3, h4, h5⟩ | ⟨h1, h3, h4, h5⟩
  · have HD : Hid (decide (endB q c = zs) = true) := Lib.hid (decide_eq_true h2)
    unfold endOut endErr at cE
    rw [if_pos h1, if_pos h1] at cE
    rw [h3, h4, h5]
    clear h1 h2 h3 h4 h5
    generalize endB q c = O at *
    go_enter Try.func17, Try.ntmps17
    go_wp2_with (first
      | (go_at_call 32; refine (bytesEq_any a5 ao _ c5 len cap O zs _ A5.out.1 (HA.out.later B5.out).1).mono ?_; rintro e w6 ⟨rfl, rfl⟩; rw [HD.out])
      | (go_at_call 15; refine cE.mono ?_; rintro e w5 ⟨v5, rfl, hf5, hb5⟩; obtain ⟨a5, c5, rfl, hA5⟩ := fresh_form hf5; have A5 := Lib.hid hA5; have B5 := Lib.hid hb5; clear hf5 hb5 hA5)
      | (go_at_call 30; refine cT.mono ?_; rintro e w' ⟨rfl, rfl⟩))
    go_ret3
    exact ⟨rfl, B5.out⟩
  · have HD : Hid (decide (endB q c = zs) = false) := Lib.hid (decide_eq_false h2)
    unfold endOut endErr at cE
    rw [if_pos h1, if_pos h1] at cE
    rw [h3, h4, h5]
    clear h1 h2 h3 h4 h5
    generalize endB q c = O at *
    go_enter Try.func17, Try.ntmps17
    go_wp2_with (first
      | (go_at_call 32; refine (bytesEq_any a5 ao _ c5 len cap O zs _ A5.out.1 (HA.out.later B5.out).1).mono ?_; rintro e w6 ⟨rfl, rfl⟩; rw [HD.out])
      | (go_at_call 15; refine cE.mono ?_; rintro e w5 ⟨v5, rfl, hf5, hb5⟩; obtain ⟨a5, c5, rfl, hA5⟩ := fresh_form hf5; have A5 := Lib.hid hA5; have B5 := Lib.hid hb5; clear hf5 hb5 hA5)
      | (go_at_call 30; refine cT.mono ?_; rintro e w' ⟨rfl, rfl⟩))
    go_ret3
    exact ⟨rfl, B5.out⟩
  · unfold endOut endErr at cE
    rw [if_neg (by rw [h1]; decide), if_neg (by rw [h1]; decide)] at cE
    rw [h3, h4, h5]
    clear h1 h3 h4 h5
    go_enter Try.func17, Try.ntmps17
    go_wp2_with (first
      | (go_at_call 15; refine cE.mono ?_; rintro e w5 ⟨v5, rfl, hf5, hb5⟩; obtain ⟨a5, c5, rfl, hA5⟩ := fresh_form hf5; have A5 := Lib.hid hA5; have B5 := Lib.hid hb5; clear hf5 hb5 hA5)
      | (go_at_call 30; refine cT.mono ?_; rintro e w' ⟨rfl, rfl⟩))
    go_ret3
    exact ⟨rfl, B5.out⟩

end Go.Proofs.Ytpmggbdmoopkfaa
