/-
  Proved here: what the landed log's Begin and Begins answer.
  The conditions stand at each theorem.
-/
import Derived.Test.YtpmggbdmoopkfaaLgPlace
import Derived.Test.YtpmggbdmoopkfaaRef15G
namespace Go.Proofs.Ytpmggbdmoopkfaa
open Go.RowKit
set_option linter.unusedVariables false
set_option linter.unusedSimpArgs false

theorem putT_next (L : List Int) {to : List Int} {i : Nat} {x : Int} (h : to[i]? = some x) : putT L to (i + 1) = setOut (putT L to i) (10 + 2 * (i : Int)) 2 x := by
  show setOut _ _ _ (to.getD i 0) = _
  rw [List.getD_eq_getElem?_getD, h]
  rfl

set_option maxRecDepth 100000 in
set_option maxHeartbeats 3200000 in
theorem lBegin_any {w : World} {ao : Option Addr} {n cap : Nat} {to : List Int} (q : Int) (hq : I64 q) (hA : IArg w ao n cap to) :
    Calls Try.prog 9 #[.agg #[.int .i64 q, .slice ao n cap]] w (Handed w.heap.size w (begOut ⟨q, to⟩) (begErr ⟨q, to⟩)) := by
  have HN := Lib.hid hA.len
  have hbig := hA.big
  have HA := Lib.hid hA
  have HQ := Lib.hid hq
  obtain ⟨W0, hW0⟩ : ∃ W0, w.alloc (.cells #[.int .i64 q, .slice ao n cap] 24) = W0 := ⟨_, rfl⟩
  have B0 : Hid (Below w.heap.size w W0) := Lib.hid (by rw [← hW0]; exact (Below.refl _ _).alloc (Nat.le_refl _) _)
  have n0 : W0.cell? ⟨w.heap.size, 0, none⟩ = some (.int .i64 q) := by rw [← hW0, World.cell?_alloc_new]; rfl
  have n1 : W0.cell? ⟨w.heap.size, 1, none⟩ = some (.slice ao n cap) := by rw [← hW0, World.cell?_alloc_new]; rfl
  have cN := fun W => numbered_any q n W
  have cP := placed_any (hA.later B0.out)
  have hsp := sound_parts q to
  rw [hA.len] at hsp
  clear hA hq
  cases hok : okEnd q n with
  | false =>
    have HE : Hid (begOut ⟨q, to⟩ = [] ∧ begErr ⟨q, to⟩ = 2) := Lib.hid (by unfold begOut begErr; rw [hsp, hok]; exact ⟨rfl, rfl⟩)
    rw [hok] at cN
    clear hok hsp
    go_enter Try.func9, Try.ntmps9
    go_wp2_with (go_at_call 22; refine (cN _).mono ?_; rintro e w' ⟨rfl, rfl⟩)
    go_ret2
    exact ⟨.slice none 0 0, by rw [HE.out.2]; rfl, by rw [HE.out.1]; exact Fresh.nil _ _, B0.out⟩
  | true =>
    rw [hok] at cN
    cases hpl : placedB to with
    | false =>
      have HE : Hid (begOut ⟨q, to⟩ = [] ∧ begErr ⟨q, to⟩ = 2) := Lib.hid (by unfold begOut begErr; rw [hsp, hok, hpl]; exact ⟨rfl, rfl⟩)
      rw [hpl] at cP
      clear hok hsp hpl
      go_enter Try.func9, Try.ntmps9
      go_wp2_with (first | (go_at_call 22; refine (cN _).mono ?_; rintro e w' ⟨rfl, rfl⟩) | (go_at_call 23; refine cP.mono ?_; rintro e w' ⟨rfl, rfl⟩))
      go_ret2
      exact ⟨.slice none 0 0, by rw [HE.out.2]; rfl, by rw [HE.out.1]; exact Fresh.nil _ _, B0.out⟩
    | true =>
      have hs : soundD ⟨q, to⟩ = true := by rw [hsp, hok, hpl]; rfl
      have HE : Hid (begOut ⟨q, to⟩ = sealOut sumS (putT (startL begT q n) to n) ∧ begErr ⟨q, to⟩ = 0) := Lib.hid (by
        have h := made_beg hs
        simp only [HN.out] at h
        rw [h]
        unfold begOut begErr; rw [hs]; exact ⟨rfl, rfl⟩)
      have H20 : Hid (n ≤ 20) := Lib.hid (by have := (soundD_parts hs).1.2.1; rw [← HN.out]; exact this)
      have cS := start_any ⟨#[66, 69, 71, 78]⟩ q n W0 (by decide) HQ.out (by have := H20.out; unfold i64w; omega)
      rw [show bytesOf ⟨#[66, 69, 71, 78]⟩ = begT from rfl] at cS
      rw [hpl] at cP
      clear hok hsp hpl hs
      generalize startL begT q n = L at *
      go_enter Try.func9, Try.ntmps9
      go_wp2_with (first
        | (go_at_call 24; refine cS.mono ?_; rintro e w3 ⟨v3, rfl, hf3, hb3⟩; have HF3 := Lib.hid (hf3.mono B0.out.size); have B3 := Lib.hid (B0.out.trans (hb3.mono B0.out.size)); have m1 := cell_later hb3 n1; clear hf3 hb3)
        | (go_at_call 22; refine (cN _).mono ?_; rintro e w' ⟨rfl, rfl⟩)
        | (go_at_call 23; refine cP.mono ?_; rintro e w' ⟨rfl, rfl⟩))
      go_loopw [4, 29] (fun bv iv wr => ∃ i : Nat, iv = .int .i64 (i : Int) ∧ i ≤ n ∧ Hid (Fresh wr w.heap.size bv (putT L to i)) ∧ Hid (Below w.heap.size w wr)) (fun _ iv _ => n - (intOf iv).toNat)
      case atStart => exact ⟨0, rfl, Nat.zero_le _, HF3, B3⟩
      case round =>
        obtain ⟨i, rfl, hi, HF, HB⟩ := hrel
        by_cases hlt : i < n
        · obtain ⟨b, off, x, rfl, hx, d0, hx64⟩ := HA.out.at hlt
          have d1 : wr.cell? ⟨b, off + i, none⟩ = some (.int .i64 x) := cell_later HB.out d0
          have HS : Hid (putT L to (i + 1) = setOut (putT L to i) (10 + 2 * (i : Int)) 2 x) := Lib.hid (putT_next L hx)
          have h20 := H20.out
          have i1 : (i : Int) < (n : Int) := by omega
          have i0 : (0 : Int) ≤ (i : Int) := by omega
          have w1 : wrap64 (2 * (i : Int)) = 2 * (i : Int) := by unfold wrap64; omega
          have w2 : wrap64 (10 + 2 * (i : Int)) = 10 + 2 * (i : Int) := by unfold wrap64; omega
          obtain ⟨a5, c5, rfl, hA5⟩ := fresh_form HF.out
          have HA5 := Lib.hid hA5
          have HX := Lib.hid hx64
          have HI : Hid (-9223372036854775808 ≤ 10 + 2 * (i : Int) ∧ 10 + 2 * (i : Int) ≤ 9223372036854775807) := Lib.hid (by omega)
          clear hx d0 hA5 hx64
          generalize putT L to i = L5 at *
          go_wp2_with (go_at_call 25; refine (fSet_any _ _ _ _ (10 + 2 * (i : Int)) 2 x wr HA5.out HI.out (by decide) HX.out).mono ?_; rintro e w6 ⟨v6, rfl, hf6, hb6⟩; have HF6 := Lib.hid hf6; have HB6 := Lib.hid hb6; clear hf6 hb6)
          go_roundw
          case rel => exact ⟨i + 1, by go_num, by omega, Lib.hid (by rw [HS.out]; exact HF6.out.mono HB.out.size), Lib.hid (HB.out.trans (HB6.out.mono HB.out.size))⟩
          case measure => simp [intOf]; omega
        · obtain rfl : i = n := by omega
          obtain ⟨a5, c5, rfl, hA5⟩ := fresh_form HF.out
          generalize putT L to i = L5 at *
          go_wp2_with (go_at_call 26; refine (fSeal_any _ _ _ _ wr hA5).mono ?_; rintro e w6 ⟨v6, rfl, hf6, hb6⟩; have HF6 := Lib.hid hf6; have HB6 := Lib.hid hb6; clear hf6 hb6)
          go_ret2
          exact ⟨v6, by rw [HE.out.2]; rfl, by rw [HE.out.1]; exact HF6.out.mono HB.out.size, HB.out.trans (HB6.out.mono HB.out.size)⟩

theorem made_intsC (w : World) (C : Nat) : OwnV w.heap.size w w.heap.size (ints (List.replicate C 0)) (w.alloc (.cells (madeCells #[.int .i64 0] C) 3)) := by
  refine ⟨fun j x hj => ?_, fun j => by rw [World.frozen?_alloc_mark]; simp, Nat.le_refl _, (Below.refl _ _).alloc (Nat.le_refl _) _⟩
  obtain ⟨y, hy, rfl⟩ := ints_inv hj
  rw [List.getElem?_replicate] at hy
  split at hy
  · next h =>
    cases hy
    rw [World.cell?_alloc_new]
    simp [madeCells, h, Nat.mod_one]
  · cases hy
theorem OwnV.laterL {base g : Nat} {w0 wr wx : World} {xs : List Value} (h : OwnV base w0 g xs wr) (hb : Below wr.heap.size wr wx) (hlt : g < wr.heap.size) : OwnV base w0 g xs wx := by
  obtain ⟨h1, h2, h3, h4⟩ := h
  refine ⟨fun j x hj => cell_later hb (h1 j x hj), fun j => ?_, h3, h4.trans (hb.mono (Nat.le_of_lt (Nat.lt_of_le_of_lt h3 hlt)))⟩
  rw [hb.frozen (p := ⟨g, j, none⟩) hlt]
  exact h2 j

/-- The list, so far, and the variable that holds it. -/
def RdD (W0 : World) (g dd : Nat) (q : Int) (C : Nat) (L : List Int) (wr : World) : Prop :=
  OwnV g W0 g (ints L) wr ∧ L.length = C ∧ (wr.cell? ⟨dd, 0, none⟩ = some (.int .i64 q) ∧ wr.cell? ⟨dd, 1, none⟩ = some (.slice (some ⟨g, 0, none⟩) C C)) ∧ g < wr.heap.size
theorem RdD.step {W0 wr : World} {g dd C i : Nat} {q x : Int} {L : List Int} (h : RdD W0 g dd q C L wr) (hi : i < C) (hne : g ≠ dd) : RdD W0 g dd q C (L.set i x) (wr.setCell ⟨g, i, none⟩ (.int .i64 x)).drew := by
  obtain ⟨h1, h2, ⟨h3, h4⟩, h5⟩ := h
  refine ⟨?_, by rw [List.length_set]; exact h2, ⟨?_, ?_⟩, ?_⟩
  · rw [ints_set]
    exact (h1.store (k := i) (y := .int .i64 x) (by rw [ints_length]; omega)).drew
  · show (wr.setCell ⟨g, i, none⟩ (.int .i64 x)).cell? _ = _
    rw [World.cell?_setCell_other (h := by intro e; exact hne (by simpa using (congrArg Addr.block e)))]; exact h3
  · show (wr.setCell ⟨g, i, none⟩ (.int .i64 x)).cell? _ = _
    rw [World.cell?_setCell_other (h := by intro e; exact hne (by simpa using (congrArg Addr.block e)))]; exact h4
  · show g < (wr.setCell ⟨g, i, none⟩ (.int .i64 x)).heap.size
    simpa using h5
theorem RdD.later {W0 wr wx : World} {g dd C : Nat} {q : Int} {L : List Int} (h : RdD W0 g dd q C L wr) (hb : Below wr.heap.size wr wx) : RdD W0 g dd q C L wx :=
  ⟨h.1.laterL hb h.2.2.2, h.2.1, ⟨cell_later hb h.2.2.1.1, cell_later hb h.2.2.1.2⟩, Nat.lt_of_lt_of_le h.2.2.2 hb.size⟩
/-- What is read so far, and zeros. -/
def soFar (zs : List Int) (C i : Nat) : List Int := toG zs i ++ List.replicate (C - i) 0
theorem soFar_length (zs : List Int) {C i : Nat} (h : i ≤ C) : (soFar zs C i).length = C := by unfold soFar; rw [List.length_append, toG_length, List.length_replicate]; omega
theorem toG_succ (zs : List Int) (i : Nat) : toG zs (i + 1) = toG zs i ++ [getOut zs (10 + 2 * (i : Int)) 2] := by
  unfold toG
  rw [List.range_succ, List.map_append]
  rfl
theorem soFar_step (zs : List Int) {C i : Nat} (h : i < C) : (soFar zs C i).set i (getOut zs (10 + 2 * (i : Int)) 2) = soFar zs C (i + 1) := by
  unfold soFar
  rw [toG_succ, List.set_append_right _ _ (by rw [toG_length]; exact Nat.le_refl _), toG_length, Nat.sub_self]
  rw [show C - i = (C - (i + 1)) + 1 by omega, List.replicate_succ, List.set_cons_zero, List.append_assoc]
  rfl
theorem soFar_at (zs : List Int) {C i : Nat} (h : i < C) : (ints (soFar zs C i))[i]? = some (.int .i64 0) := by
  refine ints_get ?_
  unfold soFar
  rw [List.getElem?_append_right (by rw [toG_length]; exact Nat.le_refl _), toG_length, Nat.sub_self, List.getElem?_replicate, if_pos (by omega)]
theorem soFar_end (zs : List Int) (C : Nat) : soFar zs C C = toG zs C := by
  unfold soFar
  rw [Nat.sub_self, List.replicate_zero, List.append_nil]
theorem toG_in {zs : List Int} (hz : ∀ z ∈ zs, 0 ≤ z ∧ z ≤ 255) (C : Nat) : ∀ z ∈ toG zs C, I64 z := by
  intro z h
  unfold toG at h
  obtain ⟨k, _, rfl⟩ := List.mem_map.1 h
  have := getS_in hz (10 + 2 * (k : Int)) 2 (by decide)
  rw [show ((2 : Nat) : Int) = 2 from rfl] at this
  unfold I64
  omega
theorem RdD.arg {W0 W : World} {g dd C : Nat} {q : Int} {zs : List Int} (h : RdD W0 g dd q C (toG zs C) W) (hz : ∀ z ∈ zs, 0 ≤ z ∧ z ≤ 255) (hC : C ≤ 255) : IArg W (some ⟨g, 0, none⟩) C C (toG zs C) := by
  have := iarg_of_range (cap := C) (own_range h.1) (toG_in hz C) (by rw [toG_length]; omega) (by rw [toG_length]; exact Nat.le_refl _)
  rwa [toG_length] at this
/-- The answer's variable written: the list is as it was. -/
theorem RdD.out {W0 W : World} {g dd C B : Nat} {q : Int} {zs : List Int} {u v : Value} (h : RdD W0 g dd q C (toG zs C) W) (hz : ∀ z ∈ zs, 0 ≤ z ∧ z ≤ 255) (hC : C ≤ 255) (hB : B < g) : FreshI ((W.setCell ⟨B, 0, none⟩ u).setCell ⟨B, 1, none⟩ v) B (.slice (some ⟨g, 0, none⟩) C C) (toG zs C) := by
  have hr : ((W.setCell ⟨B, 0, none⟩ u).setCell ⟨B, 1, none⟩ v).rangeAt g 0 (ints (toG zs C)) := fun j x hj => by
    rw [Nat.zero_add, World.cell?_setCell_other (h := by intro e; cases e; omega), World.cell?_setCell_other (h := by intro e; cases e; omega)]
    exact h.1.1 j x hj
  have := iarg_of_range (cap := C) hr (toG_in hz C) (by rw [toG_length]; omega) (by rw [toG_length]; exact Nat.le_refl _)
  exact ⟨some ⟨g, 0, none⟩, C, by rw [toG_length], this, Or.inr ⟨g, 0, rfl, Nat.le_of_lt hB⟩⟩

set_option maxRecDepth 100000 in
set_option maxHeartbeats 3200000 in
theorem lBegins_any (ao : Option Addr) (len cap : Nat) (zs : List Int) (w : World) (hA : Arg w ao len cap zs) : Calls Try.prog 11 #[.slice ao len cap] w (HandedD w.heap.size w (getBeg zs) (getBegErr zs)) := by
  have HA := Lib.hid hA
  have HZ := Lib.hid hA.1.2.2.1
  obtain ⟨W0, hW0⟩ : ∃ W0, w.alloc (.cells #[.int .i64 0, .slice none 0 0] 24) = W0 := ⟨_, rfl⟩
  have B0 : Hid (Below w.heap.size w W0) := Lib.hid (by rw [← hW0]; exact (Below.refl _ _).alloc (Nat.le_refl _) _)
  have cT := told_any ao len cap zs W0 (hA.later B0.out)
  obtain ⟨C, hC⟩ : ∃ C : Nat, getOut zs 8 1 = (C : Int) := ⟨(getOut zs 8 1).toNat, by have := getC_in hA.1.2.2.1; omega⟩
  have HC : Hid (C ≤ 255) := Lib.hid (by have := getC_in hA.1.2.2.1; omega)
  have HT : Hid (getT zs = ⟨getOut zs 4 4, toG zs C⟩) := Lib.hid (by unfold getT; rw [hC]; rfl)
  rw [hC] at cT
  have HQ : Hid (I64 (getOut zs 4 4)) := Lib.hid (by have := getS_in hA.1.2.2.1 4 4 (by decide); rw [show ((4 : Nat) : Int) = 4 from rfl] at this; unfold I64; omega)
  have hw := Lib.hid (beg_ways zs hA.1.2.2.1)
  generalize getOut zs 4 4 = q at *
  clear hA hC
  have hmk := run_make_vals elemI W0 C (by have := HC.out; omega)
  rw [show (Value.int .i64 0).cells = #[.int .i64 0] from rfl] at hmk
  have HM := Lib.hid (made_intsC W0 C)
  have B1 : Hid (Below w.heap.size w (W0.alloc (.cells (madeCells #[.int .i64 0] C) 3))) := Lib.hid (B0.out.alloc B0.out.size _)
  obtain ⟨g, hg⟩ : ∃ g, W0.heap.size = g := ⟨_, rfl⟩
  have HG : Hid (w.heap.size < g ∧ g < (W0.alloc (.cells (madeCells #[.int .i64 0] C) 3)).heap.size) := Lib.hid (by rw [← hg, ← hW0]; simp)
  obtain ⟨W1, hW1⟩ : ∃ W1, W0.alloc (.cells (madeCells #[.int .i64 0] C) 3) = W1 := ⟨_, rfl⟩
  rw [hW1] at hmk HM B1 HG
  rw [hg] at hmk HM
  have HW := Lib.hid (And.intro hW0 (And.intro hW1 hg))
  clear hW1 hg
  go_enter Try.func11, Try.ntmps11
  go_wp2_with (go_at_call 30; refine cT.mono ?_; rintro e w' ⟨rfl, rfl⟩)
  have HM2 : Hid (RdD W0 g W1.heap.size q C (soFar zs C 0) (W1.alloc (.cells #[.int .i64 q, .slice (some ⟨g, 0, none⟩) C C] 24))) := Lib.hid (by
    have hb : Below W1.heap.size W1 (W1.alloc (.cells #[.int .i64 q, .slice (some ⟨g, 0, none⟩) C C] 24)) := (Below.refl _ _).alloc (Nat.le_refl _) _
    refine ⟨?_, soFar_length zs (Nat.zero_le _), ⟨?_, ?_⟩, Nat.lt_of_lt_of_le HG.out.2 hb.size⟩
    · exact HM.out.laterL hb HG.out.2
    · rw [World.cell?_alloc_new]; rfl
    · rw [World.cell?_alloc_new]; rfl)
  have HDD : Hid (g ≠ W1.heap.size ∧ w.heap.size < g) := Lib.hid ⟨by have := HG.out.2; omega, HG.out.1⟩
  have HRES : Hid (∀ wr, Below g W0 wr → wr.cell? ⟨w.heap.size, 0, none⟩ = some (.int .i64 0) ∧ wr.cell? ⟨w.heap.size, 1, none⟩ = some (.slice none 0 0) ∧ (∀ j, wr.frozen? ⟨w.heap.size, j, none⟩ = false) ∧ Below w.heap.size w wr) := Lib.hid (fun wr hb => by
    obtain ⟨e0, e1, e2⟩ := HW.out
    rw [← e2] at hb
    refine ⟨cell_later hb ?_, cell_later hb ?_, fun j => ?_, B0.out.trans (hb.mono B0.out.size)⟩
    · rw [← e0, World.cell?_alloc_new]; rfl
    · rw [← e0, World.cell?_alloc_new]; rfl
    · rw [hb.frozen (p := ⟨w.heap.size, j, none⟩) (by rw [← e0]; simp), ← e0, World.frozen?_alloc_mark]; simp)
  generalize W1.heap.size = dd at *
  clear hmk HM HG HW hW0
  go_loopw [22] (fun iv wr => ∃ i : Nat, iv = .int .i64 (i : Int) ∧ i ≤ C ∧ Hid (RdD W0 g dd q C (soFar zs C i) wr)) (fun iv _ => C - (intOf iv).toNat)
  case atStart => exact ⟨0, rfl, Nat.zero_le _, HM2⟩
  case round =>
    obtain ⟨i, rfl, hi, HR⟩ := hrel
    by_cases hlt : i < C
    · obtain ⟨x, hx⟩ : ∃ x, getOut zs (10 + 2 * (i : Int)) 2 = x := ⟨_, rfl⟩
      have hC := HC.out
      have HS : Hid (RdD W0 g dd q C (soFar zs C (i + 1)) (wr.setCell ⟨g, i, none⟩ (.int .i64 x)).drew) := Lib.hid (by rw [← soFar_step zs hlt, hx]; exact HR.out.step hlt HDD.out.1)
      have HBW : Hid (Below g W0 wr) := Lib.hid HR.out.1.2.2.2
      have d1 := HR.out.2.2.1.2
      have e4 : wr.cell? ⟨g, i, none⟩ = some (.int .i64 0) := HR.out.1.1 i _ (soFar_at zs hlt)
      have f4 : wr.frozen? ⟨g, i, none⟩ = false := HR.out.1.2.1 i
      have i1 : (i : Int) < (C : Int) := by omega
      have i0 : (0 : Int) ≤ (i : Int) := by omega
      have x1 : IntKind.i64.wrap (2 * (i : Int)) = 2 * (i : Int) := IntWalk.i64_in _ (by omega)
      have x2 : IntKind.i64.wrap (10 + 2 * (i : Int)) = 10 + 2 * (i : Int) := IntWalk.i64_in _ (by omega)
      obtain ⟨E, hE⟩ : ∃ E, fErr len (10 + 2 * (i : Int)) 2 = E := ⟨_, rfl⟩
      have HGT : Hid (∀ W, Below g W0 W → Calls Try.prog 31 #[.slice ao len cap, .int .i64 (10 + 2 * (i : Int)), .int .i64 2] W (fun e w' => e = .returned (.tuple #[.int .i64 x, .int .i64 E]) ∧ w' = W)) := Lib.hid (fun W hW => by
        have c := fGet_any ao len cap zs (10 + 2 * (i : Int)) 2 W (HA.out.later (HRES.out W hW).2.2.2) (by omega) (by decide)
        rw [hx, hE] at c
        exact c.mono (fun e w' h => ⟨h.1, h.2.symm⟩))
      have HBD : Hid (Below g W0 wr.drew) := Lib.hid HBW.out.drew
      have dS : ∀ u, (wr.drew.setCell ⟨g, i, none⟩ u).cell? ⟨dd, 1, none⟩ = some (.slice (some ⟨g, 0, none⟩) C C) := fun u => by
        rw [World.cell?_setCell_other (h := by intro e; exact HDD.out.1 (by simpa using (congrArg Addr.block e)))]; exact d1
      clear hx hE
      go_wp2_with fail
      refine wp_region_held_drew (S := fun W => W.cell? ⟨dd, 1, none⟩ = some (.slice (some ⟨g, 0, none⟩) C C)) (by kernel_rfl) d1 (fun hHeld => ?_)
      refine wpAnyH_take (i := 0) (oi := ⟨some 26, _, _, _, _, _⟩) (v := .pointer (some ⟨dd, 1, none⟩)) rfl (by kernel_rfl) (by kernel_rfl) (by kernel_rfl) (fun _ _ _ h => h) (Or.inl ⟨by kernel_rfl, by intro w _; go_simp; (try omega)⟩) (by assumption) ?_
      try simp only [Act.put, List.setIfInBounds_toArray, List.set_cons_zero, List.set_cons_succ]
      refine wpAnyH_take (i := 1) (oi := ⟨some 27, _, _, _, _, _⟩) (v := .slice (some ⟨g, 0, none⟩) C C) rfl (by kernel_rfl) (by kernel_rfl) (by kernel_rfl) (fun _ _ _ h => h) (Or.inl ⟨by kernel_rfl, by intro w hSw; (try dsimp only at hSw); go_simp⟩) (by assumption) ?_
      try simp only [Act.put, List.setIfInBounds_toArray, List.set_cons_zero, List.set_cons_succ]
      refine wpAnyH_take (i := 2) (oi := ⟨some 28, _, _, _, _, _⟩) (v := .int .i64 (i : Int)) rfl (by kernel_rfl) (by kernel_rfl) (by kernel_rfl) (fun _ _ _ h => h) (Or.inl ⟨by kernel_rfl, fun w _ => rfl⟩) (by assumption) ?_
      try simp only [Act.put, List.setIfInBounds_toArray, List.set_cons_zero, List.set_cons_succ]
      refine wpAnyH_take (i := 3) (oi := ⟨some 29, _, _, _, _, _⟩) (v := .slice ao len cap) rfl (by kernel_rfl) (by kernel_rfl) (by kernel_rfl) (fun _ _ _ h => h) (Or.inl ⟨by kernel_rfl, fun w _ => rfl⟩) (by assumption) ?_
      try simp only [Act.put, List.setIfInBounds_toArray, List.set_cons_zero, List.set_cons_succ]
      refine wpAnyH_take (i := 4) (oi := ⟨some 30, _, _, _, _, _⟩) (v := .int .i64 (i : Int)) rfl (by kernel_rfl) (by kernel_rfl) (by kernel_rfl) (fun _ _ _ h => h) (Or.inl ⟨by kernel_rfl, fun w _ => rfl⟩) (by assumption) ?_
      try simp only [Act.put, List.setIfInBounds_toArray, List.set_cons_zero, List.set_cons_succ]
      refine wpAnyH_take (i := 5) (oi := ⟨some 31, _, _, _, _, _⟩) (v := .int .i64 (2 * (i : Int))) rfl (by kernel_rfl) (by kernel_rfl) (by kernel_rfl) (fun _ _ _ h => h) (Or.inl ⟨by kernel_rfl, by intro w _; go_simp; (try omega)⟩) (by assumption) ?_
      try simp only [Act.put, List.setIfInBounds_toArray, List.set_cons_zero, List.set_cons_succ]
      refine wpAnyH_take (i := 6) (oi := ⟨some 32, _, _, _, _, _⟩) (v := .int .i64 (10 + 2 * (i : Int))) rfl (by kernel_rfl) (by kernel_rfl) (by kernel_rfl) (fun _ _ _ h => h) (Or.inl ⟨by kernel_rfl, by intro w _; go_simp; (try omega)⟩) (by assumption) ?_
      try simp only [Act.put, List.setIfInBounds_toArray, List.set_cons_zero, List.set_cons_succ]
      refine wpAnyH_ready (rs := [7]) (by kernel_rfl) (by simp) ?_
      refine AllReadyH.cons (o := ⟨some 33, _, _, _, _, _⟩) rfl (fun K hK => ?_) AllReadyH.nil
      go_simp
      go_at_call 31
      refine (HGT.out _ HBD.out).mono ?_
      rintro e w5 ⟨rfl, rfl⟩
      try (go_wp2_with fail)
      refine hK.out _ _ ?_ (fun hHeld1 => ?_)
      · exact d1
      clear hK K
      try simp only [Act.put, List.setIfInBounds_toArray, List.set_cons_zero, List.set_cons_succ]
      refine wpAnyH_take (i := 8) (oi := ⟨some 25, _, _, _, _, _⟩) (v := .tuple #[.int .i64 x, .int .i64 E]) rfl (by kernel_rfl) (by kernel_rfl) (by kernel_rfl) (fun _ _ _ h => h) (Or.inl ⟨by kernel_rfl, fun w _ => rfl⟩) (by assumption) ?_
      try simp only [Act.put, List.setIfInBounds_toArray, List.set_cons_zero, List.set_cons_succ]
      refine wpAnyH_take (i := 9) (oi := ⟨some 34, _, _, _, _, _⟩) (v := .int .i64 x) rfl (by kernel_rfl) (by kernel_rfl) (by kernel_rfl) (fun _ _ _ h => h) (Or.inl ⟨by kernel_rfl, by intro w _; go_simp; (try omega)⟩) (by assumption) ?_
      try simp only [Act.put, List.setIfInBounds_toArray, List.set_cons_zero, List.set_cons_succ]
      refine wpAnyH_take (i := 10) (oi := ⟨some 35, _, _, _, _, _⟩) (v := .int .i64 E) rfl (by kernel_rfl) (by kernel_rfl) (by kernel_rfl) (fun _ _ _ h => h) (Or.inl ⟨by kernel_rfl, by intro w _; go_simp; (try omega)⟩) (by assumption) ?_
      try simp only [Act.put, List.setIfInBounds_toArray, List.set_cons_zero, List.set_cons_succ]
      refine wpAnyH_take (i := 11) (oi := ⟨some 36, _, _, _, _, _⟩) (v := .pointer (some ⟨g, i, none⟩)) rfl (by kernel_rfl) (by kernel_rfl) (by kernel_rfl) (fun _ _ _ h => h) (Or.inl ⟨by kernel_rfl, by intro w _; go_simp; (try omega)⟩) (by assumption) ?_
      try simp only [Act.put, List.setIfInBounds_toArray, List.set_cons_zero, List.set_cons_succ]
      refine wpAnyH_ready (rs := [12]) (by kernel_rfl) (by simp) ?_
      refine AllReadyH.cons (o := ⟨none, _, _, _, _, _⟩) rfl (fun K hK => ?_) AllReadyH.nil
      go_simp
      refine hK.out _ _ ?_ (fun hHeld2 => ?_)
      · exact dS _
      clear hK K
      try simp only [Act.put, List.setIfInBounds_toArray, List.set_cons_zero, List.set_cons_succ]
      refine wpAnyH_done (by kernel_rfl) ?_ _
      all_goals go_wp2_with fail
      all_goals go_roundw
      all_goals first
        | (exact ⟨i + 1, by go_num, by omega, HS⟩)
        | (simp [intOf]; omega)
    · obtain rfl : i = C := by omega
      have HR2 : Hid (RdD W0 g dd q i (toG zs i) wr) := Lib.hid (by have := HR.out; rwa [soFar_end] at this)
      have cB := lBegin_any q HQ.out (HR2.out.arg HZ.out HC.out)
      have c0 := HR2.out.2.2.1.1
      have c1 := HR2.out.2.2.1.2
      obtain ⟨E, O, hEO⟩ : ∃ E O, begErr ⟨q, toG zs i⟩ = E ∧ begOut ⟨q, toG zs i⟩ = O := ⟨_, _, rfl, rfl⟩
      rw [hEO.1, hEO.2] at cB
      have H3 : Hid ((E = 2 ∧ getBegErr zs = 2 ∧ getBeg zs = ⟨0, []⟩) ∨ (E = 0 ∧ decide (O = zs) = true ∧ getBegErr zs = 0 ∧ getBeg zs = ⟨q, toG zs i⟩) ∨ (E = 0 ∧ decide (O = zs) = false ∧ getBegErr zs = 2 ∧ getBeg zs = ⟨0, []⟩)) := Lib.hid (by
        have h := hw.out
        rw [HT.out] at h
        obtain ⟨e1, e2⟩ := hEO
        unfold begErr begOut at *
        rcases h with ⟨h1, h2, h3, h4⟩ | ⟨h1, h2, h3, h4⟩ | ⟨h1, h3, h4⟩
        · right; left
          rw [if_pos h1] at e1 e2
          exact ⟨e1.symm, by rw [← e2]; exact decide_eq_true h2, h4, h3⟩
        · right; right
          rw [if_pos h1] at e1 e2
          exact ⟨e1.symm, by rw [← e2]; exact decide_eq_false h2, h4, h3⟩
        · left
          rw [if_neg (by rw [h1]; decide)] at e1
          exact ⟨e1.symm, h4, h3⟩)
      clear hEO hw HT HM2 HR
      have HBW : Hid (Below g W0 wr) := Lib.hid HR2.out.1.2.2.2
      rcases H3.out with ⟨h1, h2, h3⟩ | ⟨h1, h4, h2, h3⟩ | ⟨h1, h4, h2, h3⟩
      all_goals
        subst h1
        have G2 := Lib.hid h2
        have G3 := Lib.hid h3
        clear h2 h3
        go_wp2_with (first
          | (go_at_call 32; refine (bytesEq_any a5 ao _ c5 len cap O zs _ HA5.out.1 (HA.out.later q3.out).1).mono ?_; rintro e w6 ⟨rfl, rfl⟩; rw [h4])
          | (go_at_call 9; refine cB.mono ?_; rintro e w5 ⟨v5, rfl, hf5, hb5⟩; obtain ⟨a5, c5, rfl, hA5⟩ := fresh_form hf5; have HA5 := Lib.hid hA5; have HD5 := Lib.hid (HR2.out.later hb5); have p0 := cell_later hb5 c0; have p1 := cell_later hb5 c1; obtain ⟨q0, q1, q2, q3'⟩ := HRES.out w5 HD5.out.1.2.2.2; have q3 := Lib.hid q3'; clear hf5 hb5 hA5 q3'))
      all_goals
        refine bodyPost_ret (v := .tuple #[.agg #[.int .i64 (getBeg zs).seq, if getBegErr zs = 0 then .slice (some ⟨g, 0, none⟩) i i else .slice none 0 0], .int .i64 (getBegErr zs)]) ?_ rfl ⟨_, rfl, ?_, ((q3.out.setCell (Nat.le_refl _) _).setCell (Nat.le_refl _) _)⟩
        · rw [G2.out, G3.out, results_cell_tmp rfl]
          go_simp
          try rfl
        · rw [G2.out, G3.out]
          first
            | exact FreshI.nil _ _
            | exact HD5.out.out HZ.out HC.out HDD.out.2

end Go.Proofs.Ytpmggbdmoopkfaa
