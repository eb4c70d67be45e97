/-
  Proved here: that the simplest facts of layer 12 hold (awake); that two lists of the same numbers are the same (ints).
  The conditions stand at each theorem.
-/
import Derived.Test.YtmkibjppnlmehaaExtTo
namespace Go.Proofs.Ytmkibjppnlmehaa
open Go.RowKit
set_option linter.unusedVariables false
set_option linter.unusedSimpArgs false

def five : List Int := [60, 61, 0, 62, 80]
theorem five_ok : ptrsOk five = true := by decide
theorem five_from : fromE 0 five = [⟨0, 60, 2⟩, ⟨3, 62, 1⟩, ⟨4, 80, 1⟩] := by decide
theorem five_trim : trimL five = five := by decide
theorem five_pad : (padL five).getD 3 0 = 62 := by decide

theorem trim_le (l : List Int) : (trimL l).length ≤ l.length := by
  obtain ⟨n, hn⟩ := trim_prefix l
  conv => rhs; rw [hn]
  rw [List.length_append]
  exact Nat.le_add_right _ _
theorem trim_ok {l : List Int} (h : ptrsOk l = true) : ptrsOk (trimL l) = true := by
  obtain ⟨n, hn⟩ := trim_prefix l
  have h2 := h
  unfold ptrsOk at h2
  rw [Bool.and_eq_true, decide_eq_true_eq] at h2
  have h3 := h2.1
  rw [hn, List.length_append, List.length_replicate] at h3
  rw [hn, ptrs_zeros h3] at h
  exact h

/-- The pointer ahead of a place; 0 at the first. -/
def prevL (l : List Int) (i : Nat) : Int := if i = 0 then 0 else l.getD (i - 1) 0
theorem breaks_cons (p x : Int) (r : List Int) : breaksL p (x :: r) = (if x ≠ 0 ∧ (p = 0 ∨ x ≠ p + 1) then 1 else 0) + breaksL x r := rfl
theorem breaks_step {l : List Int} {i : Nat} (h : i < l.length) : breaksL (prevL l i) (l.drop i) = (if l.getD i 0 ≠ 0 ∧ (prevL l i = 0 ∨ l.getD i 0 ≠ prevL l i + 1) then 1 else 0) + breaksL (prevL l (i + 1)) (l.drop (i + 1)) := by
  rw [drop_cons h, breaks_cons]
  rfl

/-- A list of extents that a call hands back, as a slice. -/
theorem OutE.out {w : World} {base : Nat} {v : Value} {zs : List Int} (h : OutE w base v zs) (hl : zs.length ≤ 1000) : ∃ ao cap, v = .slice ao (fromE 0 zs).length cap ∧ EIs w ao (fromE 0 zs).length (fromE 0 zs) := by
  obtain ⟨n, vs, ho, hc⟩ := h
  obtain ⟨ao, cap, rfl⟩ := owns_shape_r ho
  have h1 := ho.1
  have h2 := hc.1
  have h3 := from_le zs 0
  obtain rfl : n = (fromE 0 zs).length := by omega
  exact ⟨ao, cap, rfl, hc.eis ho (by omega)⟩

theorem nums_new (w : World) : IArg (w.alloc (.cells (ints five).toArray 3)) (some ⟨w.heap.size, 0, none⟩) 5 5 five :=
  iarg_of_range (zs := five) (cap := 5) (fun j v hj => by rw [Nat.zero_add, World.cell?_alloc_new]; simpa using hj) (fun z hz => ptr_i64 five_ok hz) (by decide) (by decide)

set_option maxRecDepth 100000 in
set_option maxHeartbeats 1600000 in
theorem awake12_any (w : World) : Calls Try.prog 8 #[] w fun e w' => e = .returned (.bool true) ∧ Below w.heap.size w w' := by
  have HA := Lib.hid (nums_new w)
  have HB0 : Hid (Below w.heap.size w (w.alloc (.cells (ints five).toArray 3))) := Lib.hid ((Below.refl _ _).alloc (Nat.le_refl _) _)
  unfold ints five at HB0
  simp only [List.map_cons, List.map_nil] at HB0
  go_enter Try.func8, Try.ntmps8
  go_wp2_with (first
    | (go_at_call 14; refine (ESound_any HE5.out five_ok).mono ?_; rintro e w6 ⟨rfl, hb⟩; have HB6 := Lib.hid (HB5.out.trans (hb.mono HB5.out.size)); clear hb)
    | (go_at_call 19; refine (Find_any (k := 3) HE4.out five_ok (by decide)).mono ?_; rintro e w5 ⟨rfl, hb⟩; have HB5 := Lib.hid (HB4.out.trans (hb.mono HB4.out.size)); have HE5 := Lib.hid (HE4.out.later hb); rw [five_pad]; clear hb)
    | (go_at_call 11; refine (To_any HE3.out five_ok).mono ?_; rintro e w4 ⟨v, rfl, hf, hb⟩; obtain ⟨ao4, c4, rfl, hA4, _⟩ := hf; have HB4 := Lib.hid (HB3.out.trans (hb.mono HB3.out.size)); have HE4 := Lib.hid (HE3.out.later hb); have HL4 : (trimL five).length = 5 := rfl; rw [HL4]; clear hb hA4)
    | (go_at_call 6; refine (From_any _ _ _ five _ HA.out).mono ?_; rintro e w3 ⟨v, rfl, ho, hb⟩; rw [if_pos five_ok] at ho ⊢; obtain ⟨ao3, c3, rfl, he⟩ := ho.out (by decide); have HL3 : (fromE 0 five).length = 3 := (by rw [five_from]; rfl); rw [HL3] at he ⊢; have HE3 := Lib.hid he; have HB3 := Lib.hid (HB0.out.trans (hb.mono HB0.out.size)); clear ho he hb))
  go_ret
  exact ⟨rfl, HB6.out⟩

set_option maxRecDepth 100000 in
set_option maxHeartbeats 1600000 in
theorem ints_true (ao bo : Option Addr) (len c1 c2 : Nat) (zs : List Int) (w : World) (h1 : IArg w ao len c1 zs) (h2 : IArg w bo len c2 zs) :
    Calls Try.prog 12 #[.slice ao len c1, .slice bo len c2] w fun e w' => e = .returned (.bool true) ∧ Below w.heap.size w w' := by
  have H1 := Lib.hid h1
  have H2 := Lib.hid h2
  have hlen := h1.big
  clear h1 h2
  go_enter Try.func12, Try.ntmps12
  go_wp2_with fail
  go_loopw [5] (fun iv wr => ∃ i : Nat, iv = .int .i64 (i : Int) ∧ i ≤ len ∧ Hid (Below w.heap.size w wr)) (fun iv _ => len - (intOf iv).toNat)
  case atStart => exact ⟨0, rfl, Nat.zero_le _, Lib.hid (Below.refl _ _)⟩
  case round =>
    obtain ⟨i, rfl, hi, HB⟩ := hrel
    by_cases hlt : i < len
    · obtain ⟨g1, o1, x, rfl, hx, d1, _⟩ := (H1.out.later HB.out).at hlt
      obtain ⟨g2, o2, y, rfl, hy, d2, _⟩ := (H2.out.later HB.out).at hlt
      rw [hx] at hy
      obtain rfl : x = y := by simpa using hy
      have i0 : 0 ≤ (i : Int) := by omega
      have i1 : (i : Int) < (len : Int) := by omega
      clear hx hy
      go_wp2_with fail
      go_quiet (fail)
      go_wp2_with fail
      go_roundw
      case rel => exact ⟨i + 1, by go_num, by omega, Lib.hid (below_drewN HB.out _)⟩
      case measure => simp [intOf]; omega
    · obtain rfl : i = len := by omega
      go_wp2_with fail
      go_ret
      exact ⟨rfl, HB.out⟩

end Go.Proofs.Ytmkibjppnlmehaa
