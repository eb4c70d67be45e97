/-
  Proved here: what the document's own Data, Apart, Pointers, at, part and Need answer.
  The conditions stand at each theorem.
-/
import Derived.Test.YtdbkhhmadefccaaTrApart
import Derived.Test.YtdbkhhmadefccaaTrPlan
namespace Go.Proofs.Ytdbkhhmadefccaa
open Go.RowKit
set_option linter.unusedVariables false
set_option linter.unusedSimpArgs false

theorem Data11_any (n : Int) (w : World) : Calls Try.prog 38 #[.int .i64 n] w fun e w' => e = .returned (.bool (dataP n)) ∧ w = w' := by
  by_cases h1 : 59 ≤ n
  · by_cases h2 : n < 480
    · have e : dataP n = true := decide_eq_true (by omega)
      rw [e]
      clear e
      go_enter Try.func38, Try.ntmps38
      go_wp2_with fail
      go_ret
      exact ⟨rfl, rfl⟩
    · have e : dataP n = false := decide_eq_false (by omega)
      rw [e]
      clear e
      go_enter Try.func38, Try.ntmps38
      go_wp2_with fail
      go_ret
      exact ⟨rfl, rfl⟩
  · have e : dataP n = false := decide_eq_false (by omega)
    rw [e]
    clear e
    go_enter Try.func38, Try.ntmps38
    go_wp2_with fail
    go_ret
    exact ⟨rfl, rfl⟩

/-- Which blocks were seen. -/
def seenF (l : List Int) (n : Nat) : Bool := decide (n ≠ 0 ∧ (n : Int) ∈ l)
theorem seenF_zero (l : List Int) (n : Nat) : seenF (l ++ [0]) n = seenF l n := by
  unfold seenF
  rw [decide_eq_decide]
  simp only [List.mem_append, List.mem_singleton]
  exact ⟨fun ⟨h1, h2⟩ => ⟨h1, h2.resolve_right (by omega)⟩, fun ⟨h1, h2⟩ => ⟨h1, Or.inl h2⟩⟩
theorem seenF_snoc (l : List Int) (k n : Nat) (hk : k ≠ 0) : seenF (l ++ [(k : Int)]) n = if n = k then true else seenF l n := by
  unfold seenF
  by_cases h : n = k
  · subst h
    rw [if_pos rfl]
    exact decide_eq_true ⟨hk, by simp⟩
  · rw [if_neg h, decide_eq_decide]
    simp only [List.mem_append, List.mem_singleton]
    exact ⟨fun ⟨h1, h2⟩ => ⟨h1, h2.resolve_right (by omega)⟩, fun ⟨h1, h2⟩ => ⟨h1, Or.inl h2⟩⟩

/-- The list of what was seen, in memory. -/
def SeenB (w0 : World) (g : Nat) (P : Nat → Bool) (wr : World) : Prop :=
  Below w0.heap.size w0 wr ∧ (∀ n, n < 480 → wr.cell? ⟨g, n, none⟩ = some (.bool (P n))) ∧ ∀ j, wr.frozen? ⟨g, j, none⟩ = false
theorem SeenB.set {w0 wr : World} {g k : Nat} {P : Nat → Bool} (h : SeenB w0 g P wr) (hg : w0.heap.size ≤ g) (hk : k < 480) : SeenB w0 g (fun n => if n = k then true else P n) (wr.setCell ⟨g, k, none⟩ (.bool true)) := by
  refine ⟨h.1.setCell (p := ⟨g, k, none⟩) hg _, fun n hn => ?_, fun j => by simpa using h.2.2 j⟩
  show (wr.setCell ⟨g, k, none⟩ (.bool true)).cell? ⟨g, n, none⟩ = some (.bool (if n = k then true else P n))
  by_cases e : n = k
  · subst e
    rw [if_pos rfl]
    exact World.cell?_setCell_same wr _ _ (h.2.1 n hn)
  · rw [if_neg e, World.cell?_setCell_other (h := by intro e'; exact e (by simpa using (congrArg Addr.off e').symm))]
    exact h.2.1 n hn
theorem SeenB.congr {w0 wr : World} {g : Nat} {P Q : Nat → Bool} (h : SeenB w0 g P wr) (he : ∀ n, P n = Q n) : SeenB w0 g Q wr :=
  ⟨h.1, fun n hn => by rw [h.2.1 n hn, he n], h.2.2⟩
theorem seen_new (w : World) : SeenB w w.heap.size (fun _ => false) (w.alloc (.cells (madeCells (Value.bool false).cells 480) 4)) := by
  refine ⟨(Below.refl _ _).alloc (Nat.le_refl _) _, fun n hn => ?_, fun j => by rw [World.frozen?_alloc_mark]; simp⟩
  rw [World.cell?_alloc_new]
  show (madeCells #[Value.bool false] 480)[n]? = _
  simp [madeCells, hn, Nat.mod_one]
theorem elemBool11 : Elem 76 4 (.bool false) 1 := ⟨Try.underlying76, by kernel_rfl, rfl, by decide⟩

theorem take_snocI {l : List Int} {i : Nat} {x : Int} (h : l[i]? = some x) : l.take (i + 1) = l.take i ++ [x] := by
  rw [List.take_add_one, h]; rfl

set_option maxRecDepth 100000 in
set_option maxHeartbeats 6400000 in
theorem RApart_any (ao : Option Addr) (len cap : Nat) (zs : List Int) (w : World) (hA : IArg w ao len cap zs) : Calls Try.prog 21 #[.slice ao len cap] w fun e w' => e = .returned (.bool (apartL zs)) ∧ Below w.heap.size w w' := by
  have HA := Lib.hid hA
  have hbig := hA.big
  have HN := Lib.hid hA.len
  have hmk := run_make_vals elemBool11 w 480 (by decide)
  rw [show ((480 : Nat) : Int) = 480 from rfl] at hmk
  have HD0 := Lib.hid (seen_new w)
  clear hA
  generalize w.alloc (.cells (madeCells (Value.bool false).cells 480) 4) = W1 at *
  obtain ⟨R, hR⟩ : ∃ R, apartL zs = R := ⟨_, rfl⟩
  have HR := Lib.hid hR
  rw [hR]
  clear hR
  go_enter Try.func21, Try.ntmps21
  go_wp2_with fail
  clear hmk
  go_loopw [4] (fun iv wr => ∃ i : Nat, iv = .int .i64 (i : Int) ∧ i ≤ len ∧ Hid (SeenB w w.heap.size (seenF (zs.take i)) wr) ∧ Hid (apartL (zs.take i) = true)) (fun iv _ => len - (intOf iv).toNat)
  case atStart => exact ⟨0, rfl, Nat.zero_le _, Lib.hid (HD0.out.congr (fun n => by unfold seenF; simp)), Lib.hid rfl⟩
  case round =>
    obtain ⟨i, rfl, hi, HD, HP⟩ := hrel
    clear HD0
    obtain ⟨w1, hw1⟩ : ∃ w1, w1 = wr := ⟨_, rfl⟩
    subst hw1
    by_cases hlt : i < len
    · obtain ⟨b, off, x, rfl, hx, hcell, hI⟩ := (HA.out.later HD.out.1).at hlt
      have i1 : (i : Int) < (len : Int) := by omega
      have HT := Lib.hid (take_snocI hx)
      have HS := Lib.hid (apart_snoc (zs.take i) x)
      clear hx hI
      by_cases hx0 : x = 0
      · subst hx0
        go_wp2_with fail
        go_roundw
        case rel => exact ⟨i + 1, by go_num, by omega, Lib.hid (HD.out.congr (fun n => by rw [HT.out, seenF_zero])), Lib.hid (by rw [HT.out, HS.out, HP.out]; rfl)⟩
        case measure => simp [intOf]; omega
      · have b0 : (x == 0) = false := by simpa using hx0
        by_cases hd : dataP x = true
        · obtain ⟨k, rfl⟩ : ∃ k : Nat, x = (k : Int) := ⟨x.toNat, by unfold dataP at hd; simp only [decide_eq_true_eq] at hd; omega⟩
          have hk : 59 ≤ k ∧ k < 480 := by unfold dataP at hd; simp only [decide_eq_true_eq] at hd; omega
          obtain ⟨k1, k2⟩ := hk
          have cD := fun W => Data11_any (k : Int) W
          rw [hd] at cD
          have hc : w1.cell? ⟨w.heap.size, k, none⟩ = some (.bool (seenF (zs.take i) k)) := HD.out.2.1 k k2
          have hf : w1.frozen? ⟨w.heap.size, k, none⟩ = false := HD.out.2.2 k
          have j1 : (k : Int) < 480 := by omega
          cases hs : seenF (zs.take i) k with
          | true =>
            have HE : Hid (R = false) := Lib.hid (by
              rw [← HR.out]
              refine apart_take (i := i + 1) ?_
              rw [HT.out, HS.out]
              unfold seenF at hs
              simp only [decide_eq_true_eq] at hs
              rw [decide_eq_false hx0, decide_eq_true (show (k : Int) ∈ zs.take i from hs.2)]
              simp)
            rw [hs] at hc
            clear hs hd hx0
            go_wp2_with (go_at_call 38; refine (cD _).mono ?_; rintro e w2 ⟨rfl, rfl⟩)
            go_ret
            exact ⟨by rw [HE.out]; rfl, HD.out.1⟩
          | false =>
            have HP2 : Hid (apartL (zs.take (i + 1)) = true) := Lib.hid (by
              rw [HT.out, HS.out, HP.out]
              unfold seenF at hs
              simp only [decide_eq_false_iff_not] at hs
              have : ¬ (k : Int) ∈ zs.take i := fun h => hs ⟨by omega, h⟩
              rw [decide_eq_false this, decide_eq_true (show 59 ≤ (k : Int) ∧ (k : Int) ≤ 479 by omega)]
              simp)
            have HD2 : Hid (SeenB w w.heap.size (seenF (zs.take (i + 1))) (w1.setCell ⟨w.heap.size, k, none⟩ (.bool true))) := Lib.hid ((HD.out.set (Nat.le_refl _) k2).congr (fun n => by rw [HT.out, seenF_snoc _ _ _ (by omega)]))
            rw [hs] at hc
            clear hs hd hx0
            go_wp2_with (go_at_call 38; refine (cD _).mono ?_; rintro e w2 ⟨rfl, rfl⟩)
            go_roundw
            case rel => exact ⟨i + 1, by go_num, by omega, HD2, HP2⟩
            case measure => simp [intOf]; omega
        · rw [Bool.not_eq_true] at hd
          have cD := fun W => Data11_any x W
          rw [hd] at cD
          have HE : Hid (R = false) := Lib.hid (by
            rw [← HR.out]
            refine apart_take (i := i + 1) ?_
            rw [HT.out, HS.out, decide_eq_false hx0]
            have : decide (59 ≤ x ∧ x ≤ 479) = false := hd
            rw [this]
            simp)
          clear hd hx0
          go_wp2_with (go_at_call 38; refine (cD _).mono ?_; rintro e w2 ⟨rfl, rfl⟩)
          go_ret
          exact ⟨by rw [HE.out]; rfl, HD.out.1⟩
    · obtain rfl : i = len := by omega
      have HE : Hid (R = true) := Lib.hid (by rw [← HR.out, ← HP.out, ← HN.out, List.take_length])
      go_wp2_with fail
      go_ret
      exact ⟨by rw [HE.out]; rfl, HD.out.1⟩

set_option maxHeartbeats 1600000 in
theorem RPointers_any (ao : Option Addr) (len cap : Nat) (zs : List Int) (w : World) (hA : IArg w ao len cap zs) : Calls Try.prog 8 #[.slice ao len cap] w fun e w' => e = .returned (.bool (ptrsOk zs)) ∧ Below w.heap.size w w' := by
  have c := RApart_any ao len cap zs w hA
  have hl := hA.len
  by_cases h : len ≤ 96
  · have HE : Hid (ptrsOk zs = apartL zs) := Lib.hid (by unfold ptrsOk; rw [decide_eq_true (by omega)]; rfl)
    have i1 : (len : Int) ≤ 96 := by omega
    clear hA hl
    go_enter Try.func8, Try.ntmps8
    go_wp2_with (go_at_call 21; refine c.mono ?_; rintro e w2 ⟨rfl, hb⟩; have HB := Lib.hid hb; clear hb)
    go_ret
    exact ⟨by rw [HE.out]; rfl, HB.out⟩
  · have HE : Hid (ptrsOk zs = false) := Lib.hid (by unfold ptrsOk; rw [decide_eq_false (by omega)]; rfl)
    have i1 : ¬ (len : Int) ≤ 96 := by omega
    clear hA hl
    go_enter Try.func8, Try.ntmps8
    go_wp2_with fail
    go_ret
    exact ⟨by rw [HE.out]; rfl, Below.refl _ _⟩


/-! ### One pointer, and so many -/

theorem Rat_any (ao : Option Addr) (len cap : Nat) (zs : List Int) (i : Nat) (w : World) (hA : IArg w ao len cap zs) : Calls Try.prog 27 #[.slice ao len cap, .int .i64 (i : Int)] w fun e w' => e = .returned (.int .i64 (zs.getD i 0)) ∧ w = w' := by
  have hl := hA.len
  have i0 : (0 : Int) ≤ (i : Int) := by omega
  generalize hX : zs.getD i 0 = X
  by_cases h : i < len
  · obtain ⟨b, off, x, rfl, hx, hcell, hI⟩ := hA.at h
    obtain rfl : X = x := by rw [← hX, List.getD_eq_getElem?_getD, hx]; rfl
    have i1 : (i : Int) < (len : Int) := by omega
    clear hA hl hx hI hX
    go_enter Try.func27, Try.ntmps27
    go_wp2_with fail
    go_ret
    exact ⟨rfl, rfl⟩
  · obtain rfl : X = 0 := by rw [← hX]; exact getD_behind _ _ (by omega)
    have i1 : ¬ (i : Int) < (len : Int) := by omega
    clear hA hl hX
    go_enter Try.func27, Try.ntmps27
    go_wp2_with fail
    go_ret
    exact ⟨rfl, rfl⟩

theorem getD_i64' {zs : List Int} (h : ∀ z ∈ zs, I64 z) (k : Nat) : I64 (zs.getD k 0) := by
  by_cases hk : k < zs.length
  · rw [List.getD_eq_getElem?_getD, List.getElem?_eq_getElem hk]
    exact h _ (List.getElem_mem _)
  · rw [getD_behind _ _ (by omega)]
    exact ⟨by decide, by decide⟩

theorem someP_succ (l : List Int) (s n : Nat) : someP l s (n + 1) = (someP l s n || nzB (l.getD (s + n) 0)) := by
  unfold someP partP
  rw [List.range_succ, List.map_append, List.any_append]
  simp
theorem partP_succ (l : List Int) (s n : Nat) : partP l s (n + 1) = partP l s n ++ [l.getD (s + n) 0] := by
  unfold partP
  rw [List.range_succ, List.map_append]
  rfl

/-- What a call hands back of a list that it made. -/
def PartDone (w : World) (zs : List Int) (s n : Nat) (e : Ending) (w' : World) : Prop :=
  ∃ v c, e = .returned (.tuple #[.slice v n c, .bool (someP zs s n)]) ∧ (IArg w' v n c (partP zs s n) ∧ (partP zs s n = [] ∨ ∃ g off, v = some ⟨g, off, none⟩ ∧ w.heap.size ≤ g)) ∧ Below w.heap.size w w'

theorem news_one (w : World) (x : Value) (T : TypeId) : ∀ (j : Nat) (u : Value), [x][j]? = some u → (w.alloc (.cells #[x] T)).cell? ((⟨w.heap.size, 0, none⟩ : Addr).add j) = some u := news_r w [x] T

set_option maxRecDepth 100000 in
set_option maxHeartbeats 6400000 in
theorem Rpart_any (ao : Option Addr) (len cap : Nat) (zs : List Int) (s n : Nat) (w : World) (hA : IArg w ao len cap zs) (hs : s ≤ 1000) (hn : n ≤ 1000) : Calls Try.prog 22 #[.slice ao len cap, .int .i64 (s : Int), .int .i64 (n : Int)] w (PartDone w zs s n) := by
  have HA := Lib.hid hA
  have HB0 : Hid (Below w.heap.size w (w.alloc (.cells #[] 3))) := Lib.hid ((Below.refl _ _).alloc (Nat.le_refl _) _)
  have HO0 : Hid ((w.alloc (.cells #[] 3)).ownsRow w.heap.size 3 1 (.slice (some ⟨w.heap.size, 0, none⟩) 0 0) 0 []) := Lib.hid (World.ownsRow_made (base := w.heap.size) (e := 3) (size := 1) w #[] 0 (Nat.le_refl _) (by decide) rfl)
  have hbound : (s : Int) + (n : Int) ≤ 2000 := by omega
  clear hA
  go_enter Try.func22, Try.ntmps22
  go_wp2_with fail
  go_loopw [8, 9, 10] (fun ov sv iv wr => ∃ (k : Nat) (v : Option Addr) (c : Nat), iv = .int .i64 ((s + k : Nat) : Int) ∧ k ≤ n ∧ ov = .slice v k c ∧ sv = .bool (someP zs s k) ∧ Hid (wr.ownsRow w.heap.size 3 1 (.slice v k c) k (ints (partP zs s k))) ∧ Hid (Below w.heap.size w wr)) (fun _ _ iv _ => (s + n) - (intOf iv).toNat)
  case atStart => exact ⟨0, _, 0, rfl, Nat.zero_le _, rfl, rfl, HO0, HB0⟩
  case round =>
    obtain ⟨k, v, c, rfl, hk, rfl, rfl, HO, HB⟩ := hrel
    clear HO0 HB0
    by_cases hlt : k < n
    · have i1 : ((s + k : Nat) : Int) < (s : Int) + (n : Int) := by omega
      have cA := fun W (h : Below w.heap.size w W) => Rat_any ao len cap zs (s + k) W (HA.out.later h)
      have HSS := someP_succ zs s k
      have HPS := Lib.hid (partP_succ zs s k)
      generalize zs.getD (s + k) 0 = x at *
      have CA := Lib.hid cA
      clear cA
      cases hS : someP zs s k with
      | true =>
        rw [hS, Bool.true_or] at HSS
        have HE := Lib.hid HSS
        clear HSS hS
        go_wp2_with (first
          | (at_builtin; refine wp_append_r elemIR rfl (.tmp 20) (.tmp 24) rfl w.heap.size k (.slice v k c) (ints (partP zs s k)) rfl (owns_later_r HO.out ((Below.refl _ _).alloc (Nat.le_refl _) _)) ⟨wr.heap.size, 0, none⟩ 1 1 (ints [x]) rfl rfl (news_r wr (ints [x]) _) (ints_one _) (by omega) (by have := HB.out.size; simp; omega) ?_; intro v1 w1 hown1 hg1 hb1; obtain ⟨v1, c1, rfl⟩ := owns_shape_r hown1; rw [← ints_append, ← HPS.out] at hown1; have HO1 := Lib.hid hown1; have HB1 := Lib.hid ((HB.out.alloc HB.out.size _).trans hb1); clear hown1 hg1 hb1)
          | (go_at_call 27; refine (CA.out _ HB.out).mono ?_; rintro e w2 ⟨rfl, rfl⟩))
        go_roundw
        case rel => exact ⟨k + 1, v1, c1, by go_num, by omega, rfl, by rw [HE.out], HO1, HB1⟩
        case measure => simp [intOf]; omega
      | false =>
        rw [hS, Bool.false_or] at HSS
        by_cases hx : x = 0
        · subst hx
          have HE : Hid (someP zs s (k + 1) = false) := Lib.hid (by rw [HSS]; rfl)
          clear HSS hS
          go_wp2_with (first
            | (at_builtin; refine wp_append_r elemIR rfl (.tmp 20) (.tmp 24) rfl w.heap.size k (.slice v k c) (ints (partP zs s k)) rfl (owns_later_r HO.out ((Below.refl _ _).alloc (Nat.le_refl _) _)) ⟨wr.heap.size, 0, none⟩ 1 1 (ints [0]) rfl rfl (news_r wr (ints [0]) _) (ints_one _) (by omega) (by have := HB.out.size; simp; omega) ?_; intro v1 w1 hown1 hg1 hb1; obtain ⟨v1, c1, rfl⟩ := owns_shape_r hown1; rw [← ints_append, ← HPS.out] at hown1; have HO1 := Lib.hid hown1; have HB1 := Lib.hid ((HB.out.alloc HB.out.size _).trans hb1); clear hown1 hg1 hb1)
            | (go_at_call 27; have gt := HB1; clear gt; refine (CA.out _ HB1.out).mono ?_; rintro e w2 ⟨rfl, rfl⟩)
            | (go_at_call 27; refine (CA.out _ HB.out).mono ?_; rintro e w2 ⟨rfl, rfl⟩))
          go_roundw
          case rel => exact ⟨k + 1, v1, c1, by go_num, by omega, rfl, by rw [HE.out], HO1, HB1⟩
          case measure => simp [intOf]; omega
        · have HE : Hid (someP zs s (k + 1) = true) := Lib.hid (by rw [HSS]; unfold nzB; exact decide_eq_true hx)
          have b0 : (x == 0) = false := by simpa using hx
          have b1 : (x != 0) = true := by simp [bne, b0]
          clear HSS hS hx
          go_wp2_with (first
            | (at_builtin; refine wp_append_r elemIR rfl (.tmp 20) (.tmp 24) rfl w.heap.size k (.slice v k c) (ints (partP zs s k)) rfl (owns_later_r HO.out ((Below.refl _ _).alloc (Nat.le_refl _) _)) ⟨wr.heap.size, 0, none⟩ 1 1 (ints [x]) rfl rfl (news_r wr (ints [x]) _) (ints_one _) (by omega) (by have := HB.out.size; simp; omega) ?_; intro v1 w1 hown1 hg1 hb1; obtain ⟨v1, c1, rfl⟩ := owns_shape_r hown1; rw [← ints_append, ← HPS.out] at hown1; have HO1 := Lib.hid hown1; have HB1 := Lib.hid ((HB.out.alloc HB.out.size _).trans hb1); clear hown1 hg1 hb1)
            | (go_at_call 27; have gt := HB1; clear gt; refine (CA.out _ HB1.out).mono ?_; rintro e w2 ⟨rfl, rfl⟩)
            | (go_at_call 27; refine (CA.out _ HB.out).mono ?_; rintro e w2 ⟨rfl, rfl⟩))
          go_roundw
          case rel => exact ⟨k + 1, v1, c1, by go_num, by omega, rfl, by rw [HE.out], HO1, HB1⟩
          case measure => simp [intOf]; omega
    · obtain rfl : k = n := by omega
      have i1 : ¬ ((s + k : Nat) : Int) < (s : Int) + (k : Int) := by omega
      have HI : Hid (∀ z ∈ partP zs s k, I64 z) := Lib.hid (fun z hz => by
        unfold partP at hz
        obtain ⟨i, _, rfl⟩ := List.mem_map.1 hz
        exact getD_i64' HA.out.2.1 _)
      go_wp2_with fail
      go_ret2
      refine ⟨v, c, rfl, ?_, HB.out⟩
      have := fresh_of_ints HO.out HI.out (by omega)
      obtain ⟨ao', cap', h1, h2, h4⟩ := this
      simp only [Value.slice.injEq] at h1
      obtain ⟨rfl, h3, rfl⟩ := h1
      rw [← h3] at h2
      exact ⟨h2, h4⟩

/-! ### How many blocks -/

def underC (zs : List Int) : Nat → Nat
  | 0 => 0
  | i + 1 => underC zs i + (someP zs (34 + 30 * i) 30).toNat
theorem underC_le (zs : List Int) : ∀ i, underC zs i ≤ i
  | 0 => Nat.le_refl _
  | i + 1 => by
    have := underC_le zs i
    unfold underC
    cases someP zs (34 + 30 * i) 30 <;> simp <;> omega
theorem underC_three (zs : List Int) : underC zs 3 = underN zs := by
  show 0 + (someP zs 34 30).toNat + (someP zs 64 30).toNat + (someP zs 94 30).toNat = _
  unfold underN
  omega

set_option maxRecDepth 100000 in
set_option maxHeartbeats 6400000 in
theorem Rneed_any (ao : Option Addr) (len cap : Nat) (zs : List Int) (w : World) (hA : IArg w ao len cap zs) : Calls Try.prog 10 #[.slice ao len cap] w fun e w' => e = .returned (.int .i64 (needP zs : Int)) ∧ Below w.heap.size w w' := by
  have HP : Hid (∀ W (s : Nat), Below w.heap.size w W → s ≤ 1000 → Calls Try.prog 22 #[.slice ao len cap, .int .i64 (s : Int), .int .i64 30] W (PartDone W zs s 30)) := Lib.hid (fun W s hW hs => Rpart_any ao len cap zs s 30 W (hA.later hW) hs (by decide))
  have HQ : Hid (Calls Try.prog 22 #[.slice ao len cap, .int .i64 4, .int .i64 30] w (PartDone w zs 4 30)) := Lib.hid (HP.out w 4 (Below.refl _ _) (by decide))
  have HN : Hid (needP zs = (someP zs 4 30).toNat + (if underN zs = 0 then 0 else underN zs + 1)) := Lib.hid rfl
  have HU3 := Lib.hid (underC_three zs)
  clear hA
  generalize needP zs = N at *
  generalize underN zs = U at *
  obtain ⟨S, hS⟩ : ∃ S, someP zs 4 30 = S := ⟨_, rfl⟩
  have HS := Lib.hid hS
  clear hS
  cases S
  all_goals
    rw [HS.out] at HN
    go_enter Try.func10, Try.ntmps10
    go_wp2_with (go_at_call 22; refine HQ.out.mono ?_; rintro e w2 ⟨v2, c2, rfl, -, hb2⟩; rw [HS.out]; have HB2 := Lib.hid hb2; clear hb2)
    go_loopw [6, 7] (fun uv fv wr => ∃ i : Nat, i ≤ 3 ∧ uv = .int .i64 (underC zs i : Int) ∧ fv = .int .i64 ((34 + 30 * i : Nat) : Int) ∧ Hid (Below w.heap.size w wr)) (fun _ fv _ => 124 - (intOf fv).toNat)
    case atStart => exact ⟨0, by decide, rfl, rfl, HB2⟩
    case round =>
      obtain ⟨i, hi, rfl, rfl, HB⟩ := hrel
      clear HB2
      have hle := underC_le zs i
      by_cases hlt : i < 3
      · have i1 : ((34 + 30 * i : Nat) : Int) < 96 := by omega
        have cP := HP.out _ (34 + 30 * i) HB.out (by omega)
        have HUC : Hid (underC zs (i + 1) = underC zs i + (someP zs (34 + 30 * i) 30).toNat) := Lib.hid rfl
        cases hb : someP zs (34 + 30 * i) 30 with
        | true =>
          have HBB := Lib.hid hb
          have HU1 : Hid (underC zs (i + 1) = underC zs i + 1) := Lib.hid (by rw [HUC.out, hb]; rfl)
          clear hb HUC
          go_wp2_with (go_at_call 22; refine cP.mono ?_; rintro e w3 ⟨v3, c3, rfl, -, hb3⟩; rw [HBB.out]; have HB3 := Lib.hid (HB.out.trans (hb3.mono HB.out.size)); clear hb3)
          go_roundw
          case rel => exact ⟨i + 1, by omega, by rw [HU1.out]; go_num, by go_num, HB3⟩
          case measure => simp [intOf]; omega
        | false =>
          have HBB := Lib.hid hb
          have HU1 : Hid (underC zs (i + 1) = underC zs i) := Lib.hid (by rw [HUC.out, hb]; rfl)
          clear hb HUC
          go_wp2_with (go_at_call 22; refine cP.mono ?_; rintro e w3 ⟨v3, c3, rfl, -, hb3⟩; rw [HBB.out]; have HB3 := Lib.hid (HB.out.trans (hb3.mono HB.out.size)); clear hb3)
          go_roundw
          case rel => exact ⟨i + 1, by omega, by rw [HU1.out], by go_num, HB3⟩
          case measure => simp [intOf]; omega
      · obtain rfl : i = 3 := by omega
        have i1 : ¬ ((34 + 30 * 3 : Nat) : Int) < 96 := by omega
        obtain ⟨u, hu⟩ : ∃ u, underC zs 3 = u := ⟨_, rfl⟩
        have HU4 : Hid (U = u) := Lib.hid (by rw [← HU3.out, hu])
        rw [hu] at hle ⊢
        clear hu
        by_cases h0 : u = 0
        · subst h0
          go_wp2_with fail
          go_ret
          exact ⟨by rw [HN.out, HU4.out]; rfl, HB.out⟩
        · have u1 : (0 : Int) < (u : Int) := by omega
          have HU0 := Lib.hid h0
          clear h0
          go_wp2_with fail
          go_ret
          exact ⟨by rw [HN.out, HU4.out, if_neg HU0.out]; first | done | rfl | go_num | (simp; try omega), HB.out⟩

end Go.Proofs.Ytdbkhhmadefccaa
