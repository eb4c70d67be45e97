/-
  Proved here: what the document's own Data, Apart, Pointers, at, part and Need answer.
  The conditions stand at each theorem.
-/
import Derived.Test.YtmkibjppnlmehaaTrApart
namespace Go.Proofs.Ytmkibjppnlmehaa
open Go.RowKit
set_option linter.unusedVariables false
set_option linter.unusedSimpArgs false

theorem Data11_any (n : Int) (w : World) : Calls Try.prog 29 #[.int .i64 n] w fun e w' => e = .returned (.bool (dataP n)) ∧ w = w' := by
  by_cases h1 : 59 ≤ n
  · by_cases h2 : n < 480
    · have e : dataP n = true := decide_eq_true (by omega)
      rw [e]
      clear e
      go_enter Try.func29, Try.ntmps29
      go_wp2_with fail
      go_ret
      exact ⟨rfl, rfl⟩
    · have e : dataP n = false := decide_eq_false (by omega)
      rw [e]
      clear e
      go_enter Try.func29, Try.ntmps29
      go_wp2_with fail
      go_ret
      exact ⟨rfl, rfl⟩
  · have e : dataP n = false := decide_eq_false (by omega)
    rw [e]
    clear e
    go_enter Try.func29, Try.ntmps29
    go_wp2_with fail
    go_ret
    exact ⟨rfl, rfl⟩

/-- Which blocks were seen. -/
def seenF (l : List Int) (n : Nat) : Bool := decide (n ≠ 0 ∧ (n : Int) ∈ l)
theorem seenF_zero (l : List Int) (n : Nat) : seenF (l ++ [0]) n = seenF l n := by
  unfold seenF
  rw [decide_eq_decide]
  simp only [List.mem_append, List.mem_singleton]
  exact ⟨fun ⟨h1, h2⟩ => ⟨h1, h2.resolve_right (by omega)⟩, fun ⟨h1, h2⟩ => ⟨h1, Or.inl h2⟩⟩
theorem seenF_snoc (l : List Int) (k n : Nat) (hk : k ≠ 0) : seenF (l ++ [(k : Int)]) n = if n = k then true else seenF l n := by
  unfold seenF
  by_cases h : n = k
  · subst h
    rw [if_pos rfl]
    exact decide_eq_true ⟨hk, by simp⟩
  · rw [if_neg h, decide_eq_decide]
    simp only [List.mem_append, List.mem_singleton]
    exact ⟨fun ⟨h1, h2⟩ => ⟨h1, h2.resolve_right (by omega)⟩, fun ⟨h1, h2⟩ => ⟨h1, Or.inl h2⟩⟩

/-- The list of what was seen, in memory. -/
def SeenB (w0 : World) (g : Nat) (P : Nat → Bool) (wr : World) : Prop :=
  Below w0.heap.size w0 wr ∧ (∀ n, n < 480 → wr.cell? ⟨g, n, none⟩ = some (.bool (P n))) ∧ ∀ j, wr.frozen? ⟨g, j, none⟩ = false
theorem SeenB.set {w0 wr : World} {g k : Nat} {P : Nat → Bool} (h : SeenB w0 g P wr) (hg : w0.heap.size ≤ g) (hk : k < 480) : SeenB w0 g (fun n => if n = k then true else P n) (wr.setCell ⟨g, k, none⟩ (.bool true)) := by
  refine ⟨h.1.setCell (p := ⟨g, k, none⟩) hg _, fun n hn => ?_, fun j => by simpa using h.2.2 j⟩
  show (wr.setCell ⟨g, k, none⟩ (.bool true)).cell? ⟨g, n, none⟩ = some (.bool (if n = k then true else P n))
  by_cases e : n = k
  · subst e
    rw [if_pos rfl]
    exact World.cell?_setCell_same wr _ _ (h.2.1 n hn)
  · rw [if_neg e, World.cell?_setCell_other (h := by intro e'; exact e (by simpa using (congrArg Addr.off e').symm))]
    exact h.2.1 n hn
theorem SeenB.congr {w0 wr : World} {g : Nat} {P Q : Nat → Bool} (h : SeenB w0 g P wr) (he : ∀ n, P n = Q n) : SeenB w0 g Q wr :=
  ⟨h.1, fun n hn => by rw [h.2.1 n hn, he n], h.2.2⟩
theorem seen_new (w : World) : SeenB w w.heap.size (fun _ => false) (w.alloc (.cells (madeCells (Value.bool false).cells 480) 4)) := by
  refine ⟨(Below.refl _ _).alloc (Nat.le_refl _) _, fun n hn => ?_, fun j => by rw [World.frozen?_alloc_mark]; simp⟩
  rw [World.cell?_alloc_new]
  show (madeCells #[Value.bool false] 480)[n]? = _
  simp [madeCells, hn, Nat.mod_one]
theorem elemBool11 : Elem 63 4 (.bool false) 1 := ⟨Try.underlying63, by kernel_rfl, rfl, by decide⟩

theorem take_snocI {l : List Int} {i : Nat} {x : Int} (h : l[i]? = some x) : l.take (i + 1) = l.take i ++ [x] := by
  rw [List.take_add_one, h]; rfl

set_option maxRecDepth 100000 in
set_option maxHeartbeats 6400000 in
theorem RApart_any (ao : Option Addr) (len cap : Nat) (zs : List Int) (w : World) (hA : IArg w ao len cap zs) : Calls Try.prog 18 #[.slice ao len cap] w fun e w' => e = .returned (.bool (apartL zs)) ∧ Below w.heap.size w w' := by
  have HA := Lib.hid hA
  have hbig := hA.big
  have HN := Lib.hid hA.len
  have hmk := run_make_vals elemBool11 w 480 (by decide)
  rw [show ((480 : Nat) : Int) = 480 from rfl] at hmk
  have HD0 := Lib.hid (seen_new w)
  clear hA
  generalize w.alloc (.cells (madeCells (Value.bool false).cells 480) 4) = W1 at *
  obtain ⟨R, hR⟩ : ∃ R, apartL zs = R := ⟨_, rfl⟩
  have HR := Lib.hid hR
  rw [hR]
  clear hR
  go_enter Try.func18, Try.ntmps18
  go_wp2_with fail
  clear hmk
  go_loopw [4] (fun iv wr => ∃ i : Nat, iv = .int .i64 (i : Int) ∧ i ≤ len ∧ Hid (SeenB w w.heap.size (seenF (zs.take i)) wr) ∧ Hid (apartL (zs.take i) = true)) (fun iv _ => len - (intOf iv).toNat)
  case atStart => exact ⟨0, rfl, Nat.zero_le _, Lib.hid (HD0.out.congr (fun n => by unfold seenF; simp)), Lib.hid rfl⟩
  case round =>
    obtain ⟨i, rfl, hi, HD, HP⟩ := hrel
    clear HD0
    obtain ⟨w1, hw1⟩ : ∃ w1, w1 = wr := ⟨_, rfl⟩
    subst hw1
    by_cases hlt : i < len
    · obtain ⟨b, off, x, rfl, hx, hcell, hI⟩ := (HA.out.later HD.out.1).at hlt
      have i1 : (i : Int) < (len : Int) := by omega
      have HT := Lib.hid (take_snocI hx)
      have HS := Lib.hid (apart_snoc (zs.take i) x)
      clear hx hI
      by_cases hx0 : x = 0
      · subst hx0
        go_wp2_with fail
        go_roundw
        case rel => exact ⟨i + 1, by go_num, by omega, Lib.hid (HD.out.congr (fun n => by rw [HT.out, seenF_zero])), Lib.hid (by rw [HT.out, HS.out, HP.out]; rfl)⟩
        case measure => simp [intOf]; omega
      · have b0 : (x == 0) = false := by simpa using hx0
        by_cases hd : dataP x = true
        · obtain ⟨k, rfl⟩ : ∃ k : Nat, x = (k : Int) := ⟨x.toNat, by unfold dataP at hd; simp only [decide_eq_true_eq] at hd; omega⟩
          have hk : 59 ≤ k ∧ k < 480 := by unfold dataP at hd; simp only [decide_eq_true_eq] at hd; omega
          obtain ⟨k1, k2⟩ := hk
          have cD := fun W => Data11_any (k : Int) W
          rw [hd] at cD
          have hc : w1.cell? ⟨w.heap.size, k, none⟩ = some (.bool (seenF (zs.take i) k)) := HD.out.2.1 k k2
          have hf : w1.frozen? ⟨w.heap.size, k, none⟩ = false := HD.out.2.2 k
          have j1 : (k : Int) < 480 := by omega
          cases hs : seenF (zs.take i) k with
          | true =>
            have HE : Hid (R = false) := Lib.hid (by
              rw [← HR.out]
              refine apart_take (i := i + 1) ?_
              rw [HT.out, HS.out]
              unfold seenF at hs
              simp only [decide_eq_true_eq] at hs
              rw [decide_eq_false hx0, decide_eq_true (show (k : Int) ∈ zs.take i from hs.2)]
              simp)
            rw [hs] at hc
            clear hs hd hx0
            go_wp2_with (go_at_call 29; refine (cD _).mono ?_; rintro e w2 ⟨rfl, rfl⟩)
            go_ret
            exact ⟨by rw [HE.out]; rfl, HD.out.1⟩
          | false =>
            have HP2 : Hid (apartL (zs.take (i + 1)) = true) := Lib.hid (by
              rw [HT.out, HS.out, HP.out]
              unfold seenF at hs
              simp only [decide_eq_false_iff_not] at hs
              have : ¬ (k : Int) ∈ zs.take i := fun h => hs ⟨by omega, h⟩
              rw [decide_eq_false this, decide_eq_true (show 59 ≤ (k : Int) ∧ (k : Int) ≤ 479 by omega)]
              simp)
            have HD2 : Hid (SeenB w w.heap.size (seenF (zs.take (i + 1))) (w1.setCell ⟨w.heap.size, k, none⟩ (.bool true))) := Lib.hid ((HD.out.set (Nat.le_refl _) k2).congr (fun n => by rw [HT.out, seenF_snoc _ _ _ (by omega)]))
            rw [hs] at hc
            clear hs hd hx0
            go_wp2_with (go_at_call 29; refine (cD _).mono ?_; rintro e w2 ⟨rfl, rfl⟩)
            go_roundw
            case rel => exact ⟨i + 1, by go_num, by omega, HD2, HP2⟩
            case measure => simp [intOf]; omega
        · rw [Bool.not_eq_true] at hd
          have cD := fun W => Data11_any x W
          rw [hd] at cD
          have HE : Hid (R = false) := Lib.hid (by
            rw [← HR.out]
            refine apart_take (i := i + 1) ?_
            rw [HT.out, HS.out, decide_eq_false hx0]
            have : decide (59 ≤ x ∧ x ≤ 479) = false := hd
            rw [this]
            simp)
          clear hd hx0
          go_wp2_with (go_at_call 29; refine (cD _).mono ?_; rintro e w2 ⟨rfl, rfl⟩)
          go_ret
          exact ⟨by rw [HE.out]; rfl, HD.out.1⟩
    · obtain rfl : i = len := by omega
      have HE : Hid (R = true) := Lib.hid (by rw [← HR.out, ← HP.out, ← HN.out, List.take_length])
      go_wp2_with fail
      go_ret
      exact ⟨by rw [HE.out]; rfl, HD.out.1⟩

set_option maxHeartbeats 1600000 in
theorem RPointers_any (ao : Option Addr) (len cap : Nat) (zs : List Int) (w : World) (hA : IArg w ao len cap zs) : Calls Try.prog 7 #[.slice ao len cap] w fun e w' => e = .returned (.bool (ptrsOk zs)) ∧ Below w.heap.size w w' := by
  have c := RApart_any ao len cap zs w hA
  have hl := hA.len
  by_cases h : len ≤ 96
  · have HE : Hid (ptrsOk zs = apartL zs) := Lib.hid (by unfold ptrsOk; rw [decide_eq_true (by omega)]; rfl)
    have i1 : (len : Int) ≤ 96 := by omega
    clear hA hl
    go_enter Try.func7, Try.ntmps7
    go_wp2_with (go_at_call 18; refine c.mono ?_; rintro e w2 ⟨rfl, hb⟩; have HB := Lib.hid hb; clear hb)
    go_ret
    exact ⟨by rw [HE.out]; rfl, HB.out⟩
  · have HE : Hid (ptrsOk zs = false) := Lib.hid (by unfold ptrsOk; rw [decide_eq_false (by omega)]; rfl)
    have i1 : ¬ (len : Int) ≤ 96 := by omega
    clear hA hl
    go_enter Try.func7, Try.ntmps7
    go_wp2_with fail
    go_ret
    exact ⟨by rw [HE.out]; rfl, Below.refl _ _⟩


/-! ### One pointer, and so many -/

end Go.Proofs.Ytmkibjppnlmehaa
