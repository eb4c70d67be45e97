/-
  Proved here: what the landed chain's write answers: a block of extents, in the words of what field's Set and Seal answer.
  The conditions stand at each theorem.
-/
import Derived.Test.YtmgmlebkmdpddaaChNeed
import Derived.Test.YtmgmlebkmdpddaaExtMem
import Derived.Test.YtmgmlebkmdpddaaFieldSet
import Derived.Test.YtmgmlebkmdpddaaFieldSeal
import Derived.Test.YtmgmlebkmdpddaaRun
namespace Go.Proofs.Ytmgmlebkmdpddaa
open Go.RowKit
set_option linter.unusedVariables false
set_option linter.unusedSimpArgs false

def zeros64c : List Int := List.replicate 64 0
/-- A block into which an extent was written at its place. -/
def setX (L : List Int) (i : Nat) (x : EX) : List Int := setOut (setOut (setOut L (4 + 4 * (i : Int)) 1 x.a) (4 + 4 * (i : Int) + 1) 2 x.f) (4 + 4 * (i : Int) + 3) 1 x.c
/-- A block into which the first extents were written. -/
def putX (L : List Int) (xs : List EX) : Nat → List Int
  | 0 => L
  | k + 1 => setX (putX L xs k) k (xs.getD k ⟨0, 0, 0⟩)
/-- A block of extents. -/
def chBlock (xs : List EX) (nx : Int) : List Int := sealOut sumS (putX (setOut (setOut zeros64c 0 1 xs.length) 2 2 nx) xs xs.length)
/-- An extent whose numbers are those of a run. -/
def fineX (x : EX) : Prop := I64 x.a ∧ 0 ≤ x.f ∧ 1 ≤ x.c ∧ x.f + x.c ≤ 480

/-- A store of a complex number, for the walk. -/
theorem st_cxC : ∀ (a : Addr) (x y : Nat) (m : Mode) (w : World), (store a (.complex .f64 x y) m).run Try.prog w = stored Try.prog w a (.complex .f64 x y) m := fun a x y m w => run_store Try.prog w a _ m rfl

theorem fresh_form {w : World} {base : Nat} {v : Value} {l : List Int} (h : Fresh w base v l) : ∃ ao cap, v = .slice ao l.length cap ∧ Arg w ao l.length cap l := by
  obtain ⟨ao, cap, h1, h2, _⟩ := h
  exact ⟨ao, cap, h1, h2⟩

set_option maxRecDepth 100000 in
set_option maxHeartbeats 3200000 in
theorem chWrite_any {w : World} {ao : Option Addr} {n cap : Nat} {xs : List EX} (nx : Int) (hX : EIs w ao n xs) (hok : ∀ x ∈ xs, fineX x) (hnx : I64 nx) :
    Calls Try.prog 15 #[.slice ao n cap, .int .i64 nx] w (Gives w.heap.size w (chBlock xs nx)) := by
  have hn := hX.2.1
  have HX := Lib.hid hX
  have HOK := Lib.hid hok
  have HNX := Lib.hid hnx
  have HL := Lib.hid hX.1
  have HCH : Hid (chBlock xs nx = sealOut sumS (putX (setOut (setOut zeros64c 0 1 n) 2 2 nx) xs n)) := Lib.hid (by unfold chBlock; rw [hX.1])
  rw [HCH.out]
  have hmk := run_make_bytes w 64 (by decide)
  rw [show ((64 : Nat) : Int) = 64 from rfl] at hmk
  have hB1 : Below w.heap.size w (w.alloc (.cells (madeCells #[.int .u8 0] 64) 5)) := (Below.refl _ _).alloc (Nat.le_refl _) _
  have hF0 := (made_own w 64).fresh (cap := 64) (by decide) (by decide)
  generalize hw2 : w.alloc (.cells (madeCells #[.int .u8 0] 64) 5) = W2 at *
  have HF0 : Hid (Fresh W2 w.heap.size (.slice (some ⟨w.heap.size, 0, none⟩) 64 64) zeros64c) := Lib.hid (by
    rw [List.length_replicate] at hF0
    exact hF0)
  have hA2 : Arg W2 (some ⟨w.heap.size, 0, none⟩) 64 64 zeros64c := by
    obtain ⟨ao2, c2, he2, hA2⟩ := fresh_form HF0.out
    rw [show zeros64c.length = 64 from rfl] at he2 hA2
    simp only [Value.slice.injEq, true_and] at he2
    obtain ⟨rfl, rfl⟩ := he2
    exact hA2
  have cS := fSet_any _ 64 64 _ 0 1 (n : Int) W2 hA2 (by decide) (by decide) (by omega)
  have HW2 := Lib.hid hw2
  have HB1 := Lib.hid hB1
  clear hF0 hA2 hB1 hX hok hnx HCH
  generalize hL1 : setOut zeros64c 0 1 n = L1 at *
  generalize hE1 : setErr 64 0 1 n = E1 at *
  go_enter Try.func15, Try.ntmps15
  go_wp2_with (first
    | (go_at_call 22; refine (fSet_any _ _ _ _ 2 2 nx w3 hA3 (by decide) (by decide) HNX.out).mono ?_; rintro e w4 ⟨v4, rfl, hf4, hb4⟩; have HF4 := Lib.hid hf4; have HB4 := Lib.hid hb4; clear hf4 hb4)
    | (go_at_call 22; refine cS.mono ?_; rintro e w3 ⟨v3, rfl, hf3, hb3⟩; obtain ⟨ao3, c3, rfl, hA3⟩ := fresh_form hf3; have HF3 := Lib.hid hf3; have HB3 := Lib.hid hb3; clear hf3 hb3 cS))
  generalize hL2 : setOut L1 2 2 nx = L2 at *
  have HBW0 : Hid (Below w.heap.size w w4) := Lib.hid ((HB1.out.trans (HB3.out.mono HB1.out.size)).trans (HB4.out.mono (Nat.le_trans HB1.out.size HB3.out.size)))
  have HF0' : Hid (Fresh w4 w.heap.size v4 (putX L2 xs 0)) := Lib.hid (HF4.out.mono (Nat.le_trans HB1.out.size HB3.out.size))
  go_loopw [5, 28] (fun bv iv wr => ∃ i : Nat, iv = .int .i64 (i : Int) ∧ i ≤ n ∧ Hid (Fresh wr w.heap.size bv (putX L2 xs i)) ∧ Hid (Below w.heap.size w wr)) (fun _ iv _ => n - (intOf iv).toNat)
  case atStart => exact ⟨0, rfl, Nat.zero_le _, HF0', HBW0⟩
  case round =>
    obtain ⟨i, rfl, hi, HF, HBR⟩ := hrel
    by_cases hlt : i < n
    · obtain ⟨b, off, x, p, q, rfl, hx, hmem, c1, c2, f1, f2⟩ := HX.out.at hlt
      have d1 : wr.cell? ⟨b, off + i * 2, none⟩ = some (.int .i64 x.a) := cell_later HBR.out c1
      have d2 : wr.cell? ⟨b, off + i * 2 + 1, none⟩ = some (.complex .f64 p q) := cell_later HBR.out c2
      obtain ⟨k1, k2, k3, k4⟩ := HOK.out x hmem
      have HP : Hid (∀ W, Calls Try.prog 23 #[.complex .f64 p q] W fun e w' => e = .returned (.tuple #[.int .i64 x.f, .int .i64 x.c, .int .i64 0]) ∧ W = w') := Lib.hid (fun W => Parts_any p q x.f x.c W f1 f2 k2 k3 k4)
      have HS : Hid (putX L2 xs (i + 1) = setX (putX L2 xs i) i x) := Lib.hid (by
        show setX _ _ (xs.getD i _) = _
        rw [List.getD_eq_getElem?_getD, hx]
        rfl)
      have HK1 := Lib.hid k1
      have HK2 : Hid (I64 x.f) := Lib.hid ⟨by omega, by omega⟩
      have HK3 : Hid (I64 x.c) := Lib.hid ⟨by omega, by omega⟩
      obtain ⟨ao5, c5, rfl, hA5⟩ := fresh_form HF.out
      have HA5 := Lib.hid hA5
      have i1 : (i : Int) < (n : Int) := by omega
      have i0 : (0 : Int) ≤ (i : Int) := by omega
      have w1 : wrap64 (4 * (i : Int)) = 4 * (i : Int) := by unfold wrap64; omega
      have w2 : wrap64 (4 + 4 * (i : Int)) = 4 + 4 * (i : Int) := by unfold wrap64; omega
      have w3 : wrap64 (4 + 4 * (i : Int) + 1) = 4 + 4 * (i : Int) + 1 := by unfold wrap64; omega
      have w4 : wrap64 (4 + 4 * (i : Int) + 3) = 4 + 4 * (i : Int) + 3 := by unfold wrap64; omega
      clear hx hmem c1 c2 f1 f2 k1 k2 k3 k4 hA5
      obtain ⟨xa, xf, xc⟩ := x
      simp only at *
      have SC := st_cxC
      have g1 : (wr.alloc (.cells #[.int .i64 xa, .complex .f64 p q] 33)).cell? ⟨wr.heap.size, 0, none⟩ = some (.int .i64 xa) := by rw [World.cell?_alloc_new]; rfl
      have g2 : (wr.alloc (.cells #[.int .i64 xa, .complex .f64 p q] 33)).cell? ⟨wr.heap.size, 1, none⟩ = some (.complex .f64 p q) := by rw [World.cell?_alloc_new]; rfl
      have HBX : Hid (Below wr.heap.size wr (wr.alloc (.cells #[.int .i64 xa, .complex .f64 p q] 33))) := Lib.hid ((Below.refl _ _).alloc (Nat.le_refl _) _)
      have HAI : Hid ((-9223372036854775808 ≤ 4 + 4 * (i : Int) ∧ 4 + 4 * (i : Int) ≤ 9223372036854775807) ∧ (-9223372036854775808 ≤ 4 + 4 * (i : Int) + 1 ∧ 4 + 4 * (i : Int) + 1 ≤ 9223372036854775807) ∧ (-9223372036854775808 ≤ 4 + 4 * (i : Int) + 3 ∧ 4 + 4 * (i : Int) + 3 ≤ 9223372036854775807)) := Lib.hid (by omega)
      generalize putX L2 xs i = L5 at *
      go_wp2_with (first
        | (go_at_call 22; refine (fSet_any _ _ _ _ (4 + 4 * (i : Int) + 3) 1 xc w7 hA7 HAI.out.2.2 (by decide) HK3.out).mono ?_; rintro e w8 ⟨v8, rfl, hf8, hb8⟩; have HF8 := Lib.hid hf8; have HB8 := Lib.hid hb8; clear hf8 hb8)
        | (go_at_call 22; refine (fSet_any _ _ _ _ (4 + 4 * (i : Int) + 1) 2 xf w6 hA6 HAI.out.2.1 (by decide) HK2.out).mono ?_; rintro e w7 ⟨v7, rfl, hf7, hb7⟩; obtain ⟨ao7, c7, rfl, hA7⟩ := fresh_form hf7; have HB7 := Lib.hid hb7; clear hf7 hb7)
        | (go_at_call 22; refine (fSet_any _ _ _ _ (4 + 4 * (i : Int)) 1 xa _ (HA5.out.later HBX.out) HAI.out.1 (by decide) HK1.out).mono ?_; rintro e w6 ⟨v6, rfl, hf6, hb6⟩; obtain ⟨ao6, c6, rfl, hA6⟩ := fresh_form hf6; have HB6 := Lib.hid hb6; clear hf6 hb6 g1 g2)
        | (go_at_call 23; refine (HP.out _).mono ?_; rintro e w5 ⟨rfl, rfl⟩))
      have HB9 : Hid (Below wr.heap.size wr w8) := Lib.hid (((HBX.out.trans (HB6.out.mono HBX.out.size)).trans (HB7.out.mono (Nat.le_trans HBX.out.size HB6.out.size))).trans (HB8.out.mono (Nat.le_trans (Nat.le_trans HBX.out.size HB6.out.size) HB7.out.size)))
      go_roundw
      case rel => exact ⟨i + 1, by go_num, by omega, Lib.hid (by rw [HS.out]; exact HF8.out.mono (Nat.le_trans HBR.out.size (Nat.le_trans (Nat.le_trans HBX.out.size HB6.out.size) HB7.out.size))), Lib.hid (HBR.out.trans (HB9.out.mono HBR.out.size))⟩
      case measure => simp [intOf]; omega
    · obtain rfl : i = n := by omega
      obtain ⟨ao5, c5, rfl, hA5⟩ := fresh_form HF.out
      go_wp2_with (go_at_call 24; refine (fSeal_any _ _ _ _ wr hA5).mono ?_; rintro e w6 ⟨v6, rfl, hf6, hb6⟩; have HF6 := Lib.hid hf6; have HB6 := Lib.hid hb6; clear hf6 hb6)
      go_ret
      exact ⟨v6, rfl, HF6.out.mono HBR.out.size, HBR.out.trans (HB6.out.mono HBR.out.size)⟩

end Go.Proofs.Ytmgmlebkmdpddaa
