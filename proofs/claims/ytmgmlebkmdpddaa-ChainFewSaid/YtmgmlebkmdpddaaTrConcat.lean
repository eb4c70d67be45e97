/-
  Proved here: what slices.Grow of nothing and slices.Concat of lists of numbers answer.
  The conditions stand at each theorem.
-/
import Derived.Test.YtmgmlebkmdpddaaInts
import Derived.Lib.AppendZeros
namespace Go.Proofs.Ytmgmlebkmdpddaa
open Go.RowKit
set_option linter.unusedVariables false
set_option linter.unusedSimpArgs false

theorem grown_row (w : World) (n : Nat) (h0 : 0 < n) (hn : n ≤ 100000) : (w.drew.alloc (.cells (Builtin.zeroCells (Value.int .i64 0).cells n ++ Builtin.zeroCells (Value.int .i64 0).cells (grownCap w n 0 3 - n)) 3)).ownsRow w.heap.size 3 1 (.slice (some ⟨w.heap.size, 0, none⟩) 0 (grownCap w n 0 3)) 0 [] := by
  have hge := grownCap_ge w n 0 3
  have hcm : grownCap w n 0 3 ≤ maxLen := grownCap_le_maxLen w n 0 _ (by unfold maxLen; omega)
  refine ⟨rfl, .inr ⟨w.heap.size, _, _, rfl, Nat.le_refl _, heap_alloc_new w.drew _, Nat.zero_le _, hcm, ?_, by simp⟩⟩
  rw [Array.size_append, size_zeroCells, size_zeroCells]
  show n * 1 + _ * 1 = _
  omega

set_option maxRecDepth 100000 in
set_option maxHeartbeats 1600000 in
theorem Grow_any (n : Nat) (w : World) (hn : n ≤ 100000) : Calls Try.prog 61 #[.slice none 0 0, .int .i64 n] w fun e w' => ∃ v, e = .returned v ∧ w'.ownsRow w.heap.size 3 1 v 0 [] ∧ Below w.heap.size w w' := by
  by_cases h0 : n = 0
  · subst h0
    go_enter Try.func61, Try.ntmps61
    go_wp2_with fail
    go_ret
    exact ⟨_, rfl, owns_nil_r _ _ _ _, Below.refl _ _⟩
  · obtain ⟨i0, hi0, hz0, hz1, hz2⟩ := info_parts elemI.2.1
    have hr := fun ty => Lib.run_append_nil_zeros (P := Try.prog) w 34 3 ty 3 i0 (.int .i64 0) .i64 .i64 Try.underlying34 Try.underlying3 hi0 hz0 n (by omega) (by rw [hz1]; decide) (by omega) (by rw [hz2]; omega)
    have HO := Lib.hid (grown_row w n (by omega) hn)
    have HG : Hid (0 ≤ grownCap w n 0 3) := Lib.hid (Nat.zero_le _)
    have HR := Lib.hid hr
    have n1 : ¬ ((n : Int) < 0) := by omega
    have n2 : wrap64 (0 - 0) = 0 := by unfold wrap64; omega
    have n3 : wrap64 ((n : Int) - 0) = (n : Int) := by unfold wrap64; omega
    have n4 : (0 : Int) < (n : Int) := by omega
    clear hr hi0 hz0 hz1 hz2 h0
    go_enter Try.func61, Try.ntmps61
    go_wp2_with (at_builtin; refine Lib.wpList_append_run _ rfl (.tmp 20) (.tmp 21) _ _ rfl _ _ rfl rfl _ _ (HR.out _) ?_)
    go_ret
    exact ⟨_, rfl, HO.out, (((Below.refl _ _).drew).alloc (Nat.le_refl _) _)⟩

/-- A row of lists of numbers. -/
def ListsIn (w : World) (b off : Nat) (ls : List (List Int)) : Prop :=
  ∀ j zs, ls[j]? = some zs → ∃ a l c, w.cell? ⟨b, off + j, none⟩ = some (.slice a l c) ∧ IArg w a l c zs

theorem ListsIn.later {w wx : World} {b off : Nat} {ls : List (List Int)} (h : ListsIn w b off ls) (hb : Below w.heap.size w wx) : ListsIn wx b off ls := fun j zs hj => by
  obtain ⟨a, l, c, h1, h2⟩ := h j zs hj
  exact ⟨a, l, c, cell_later hb h1, h2.later hb⟩

def lenL (ls : List (List Int)) : Nat := (ls.map List.length).sum
theorem len_take {ls : List (List Int)} {i : Nat} {zs : List Int} (h : ls[i]? = some zs) : lenL (ls.take (i + 1)) = lenL (ls.take i) + zs.length := by
  unfold lenL
  rw [List.take_add_one, h]
  simp
theorem len_le (ls : List (List Int)) (i : Nat) : lenL (ls.take i) ≤ lenL ls := by
  conv => rhs; rw [← List.take_append_drop i ls]
  unfold lenL
  rw [List.map_append, List.sum_append]
  omega

set_option maxRecDepth 100000 in
set_option maxHeartbeats 3200000 in
theorem Concat_any (b off n cap : Nat) (ls : List (List Int)) (w : World) (hn : ls.length = n) (hL : ListsIn w b off ls) (h100 : lenL ls ≤ 10000) (hn100 : n ≤ 100) : Calls Try.prog 55 #[.slice (some ⟨b, off, none⟩) n cap] w fun e w' => ∃ v, e = .returned v ∧ w'.ownsRow w.heap.size 3 1 v (lenL ls) (ints ls.flatten) ∧ Below w.heap.size w w' := by
  have HL := Lib.hid hL
  have HN := Lib.hid hn
  have H100 := Lib.hid h100
  clear hL h100
  go_enter Try.func55, Try.ntmps55
  go_wp2_with fail
  go_loopw [3, 11] (fun sv iv wr => ∃ i : Nat, iv = .int .i64 (i : Int) ∧ sv = .int .i64 ((lenL (ls.take i) : Nat) : Int) ∧ i ≤ n ∧ Hid (w = wr)) (fun _ iv _ => n - (intOf iv).toNat)
  case atStart => exact ⟨0, rfl, rfl, Nat.zero_le _, Lib.hid rfl⟩
  case round =>
    obtain ⟨i, rfl, rfl, hi, HW⟩ := hrel
    by_cases hlt : i < n
    · obtain ⟨zs, hzs⟩ : ∃ zs, ls[i]? = some zs := ⟨_, List.getElem?_eq_getElem (by rw [hn]; exact hlt)⟩
      obtain ⟨a, l, c, d1, d2⟩ := HL.out i zs hzs
      have d1 : wr.cell? ⟨b, off + i, none⟩ = some (.slice a l c) := by rw [← HW.out]; exact d1
      have hs := len_take hzs
      have hle := len_le ls (i + 1)
      have h100 := H100.out
      rw [d2.len] at hs
      have HS := Lib.hid hs
      have i1 : (i : Int) < (n : Int) := by omega
      have s1 : wrap64 (((lenL (ls.take i) : Nat) : Int) + (l : Int)) = ((lenL (ls.take (i + 1)) : Nat) : Int) := by unfold wrap64; omega
      have s2 : ¬ (((lenL (ls.take (i + 1)) : Nat) : Int) < 0) := by omega
      clear d2 hs hle h100 hzs
      go_wp2_with fail
      go_roundw
      case rel => exact ⟨i + 1, by go_num, by rw [s1], by omega, HW⟩
      case measure => simp [intOf]; omega
    · obtain rfl : i = n := by omega
      have HT : Hid (lenL (ls.take i) = lenL ls) := Lib.hid (by rw [← hn, List.take_length])
      have HT2 : Hid ((ints (ls.take i).flatten) = ints ls.flatten) := Lib.hid (by rw [← hn, List.take_length])
      have cG := Grow_any (lenL ls) wr (by have := H100.out; omega)
      rw [← HW.out] at cG
      have HW2 := HW.out
      subst HW2
      rw [HT.out]
      go_wp2_with (go_at_call 61; refine cG.mono ?_; rintro e w2 ⟨v, rfl, ho, hb⟩; have HO := Lib.hid ho; have HB := Lib.hid hb; clear ho hb)
      go_loopw [6, 27] (fun sv iv wr => ∃ k : Nat, iv = .int .i64 (k : Int) ∧ k ≤ i ∧ Hid (wr.ownsRow w.heap.size 3 1 sv (lenL (ls.take k)) (ints (ls.take k).flatten)) ∧ Hid (Below w.heap.size w wr)) (fun _ iv _ => i - (intOf iv).toNat)
      case atStart => exact ⟨0, rfl, Nat.zero_le _, HO, HB⟩
      case round =>
        obtain ⟨k, rfl, hk, HR, HBR⟩ := hrel
        by_cases hlt : k < i
        · obtain ⟨zs, hzs⟩ : ∃ zs, ls[k]? = some zs := ⟨_, List.getElem?_eq_getElem (by rw [hn]; exact hlt)⟩
          obtain ⟨a, l, c, d1, d2⟩ := (HL.out.later HBR.out) k zs hzs
          have hs := len_take hzs
          have hle := len_le ls (k + 1)
          have h100 := H100.out
          have hlen := d2.len
          rw [hlen] at hs
          have HS := Lib.hid hs
          have HF : Hid (ints (ls.take (k + 1)).flatten = ints (ls.take k).flatten ++ ints zs) := Lib.hid (by rw [List.take_add_one, hzs, List.flatten_append, ints_append]; simp)
          have k1 : (k : Int) < (i : Int) := by omega
          have HNum : Hid (lenL (ls.take k) + l ≤ 100000) := Lib.hid (by omega)
          have HSZ := Lib.hid HBR.out.size
          have HLn := Lib.hid hlen
          cases a with
          | none =>
            obtain ⟨rfl, rfl⟩ := d2.2.2.1 rfl
            have HZ : Hid (zs = []) := Lib.hid (List.length_eq_zero_iff.1 hlen)
            clear d2 hs hle h100 hzs hlen
            go_wp2_with (at_builtin; refine wp_append_nothing elemIR rfl (.tmp 31) (.tmp 32) rfl w.heap.size (lenL (ls.take k)) _ _ rfl HR.out rfl ?_)
            go_roundw
            case rel => exact ⟨k + 1, by go_num, by omega, Lib.hid (by rw [HF.out, HS.out, HZ.out]; simpa [ints] using HR.out), HBR⟩
            case measure => simp [intOf]; omega
          | some ad =>
            have HNW := Lib.hid d2.news
            clear d2 hs hle h100 hzs hlen
            go_wp2_with (at_builtin; refine wp_append_r elemIR rfl (.tmp 31) (.tmp 32) rfl w.heap.size (lenL (ls.take k)) _ _ rfl HR.out ad l c (ints zs) (by rw [ints_length, HLn.out, Nat.mul_one]) rfl HNW.out (ints_one zs) HNum.out HSZ.out ?_; intro v1 w1 hown1 hg1 hb1; have HO1 := Lib.hid hown1; have HB1 := Lib.hid (HBR.out.trans hb1); clear hown1 hg1 hb1)
            go_roundw
            case rel => exact ⟨k + 1, by go_num, by omega, Lib.hid (by rw [HF.out, HS.out]; exact HO1.out), HB1⟩
            case measure => simp [intOf]; omega
        · obtain rfl : k = i := by omega
          have HR2 : Hid (wr.ownsRow w.heap.size 3 1 u6 (lenL ls) (ints ls.flatten)) := Lib.hid (by rw [← HT.out, ← HT2.out]; exact HR.out)
          go_wp2_with fail
          go_ret
          exact ⟨_, rfl, HR2.out, HBR.out⟩

end Go.Proofs.Ytmgmlebkmdpddaa
