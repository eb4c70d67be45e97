/-
  Proved here: what the landed tree's Need answers.
  The conditions stand at each theorem.
-/
import Derived.Test.YtmgmlebkmdpddaaTrSplit
import Derived.Test.YtmgmlebkmdpddaaTrApart
namespace Go.Proofs.Ytmgmlebkmdpddaa
open Go.RowKit
set_option linter.unusedVariables false
set_option linter.unusedSimpArgs false

theorem take_getD' (zs : List Int) (n i : Nat) (h : i < n) : (zs.take n).getD i 0 = zs.getD i 0 := by
  rw [List.getD_eq_getElem?_getD, List.getD_eq_getElem?_getD, List.getElem?_take, if_pos h]
theorem drop_getD' (zs : List Int) (k i : Nat) : (zs.drop k).getD i 0 = zs.getD (k + i) 0 := by
  rw [List.getD_eq_getElem?_getD, List.getD_eq_getElem?_getD, List.getElem?_drop]
theorem getD_behind (zs : List Int) (i : Nat) (h : zs.length ≤ i) : zs.getD i 0 = 0 := by
  rw [List.getD_eq_getElem?_getD, List.getElem?_eq_none h]; rfl

theorem lay_zero {L zs : List Int} {off n j : Nat} (hfit : off + n ≤ L.length) (h0 : off ≤ j → j < off + n → L.getD j 0 = 0) :
    (lay L off (zs.take n)).getD j 0 = if off ≤ j ∧ j < off + n then zs.getD (j - off) 0 else L.getD j 0 := by
  have hl : (zs.take n).length = min n zs.length := List.length_take
  rw [lay_get _ _ _ _ (by omega), hl]
  by_cases h : off ≤ j ∧ j < off + n
  · rw [if_pos h]
    by_cases h2 : j < off + min n zs.length
    · rw [if_pos ⟨h.1, h2⟩, take_getD' _ _ _ (by omega)]
    · rw [if_neg (fun h' => h2 h'.2), h0 h.1 h.2, getD_behind _ _ (by omega)]
  · rw [if_neg h, if_neg (by omega)]

theorem rep_getD (n j : Nat) : (List.replicate n (0 : Int)).getD j 0 = 0 := by
  rw [List.getD_eq_getElem?_getD, List.getElem?_replicate]
  split <;> rfl

theorem split_length (zs : List Int) : (splitL zs).length = 159 := by
  unfold splitL
  rw [fillL_length]
  exact List.length_replicate

theorem split_get (zs : List Int) (j : Nat) : (splitL zs).getD j 0 = if j < 34 then zs.getD j 0 else if j < 64 then 0 else if j < 154 then zs.getD (j - 30) 0 else 0 := by
  have e : splitL zs = lay (lay (lay (lay (lay (List.replicate 159 0) 0 (zs.take 4)) 4 ((zs.drop 4).take 30)) 64 (((zs.drop 4).drop 30).take 30)) 94 ((((zs.drop 4).drop 30).drop 30).take 30)) 124 (((((zs.drop 4).drop 30).drop 30).drop 30).take 30) := rfl
  rw [e]
  have l0 : (List.replicate 159 (0 : Int)).length = 159 := List.length_replicate
  have g0 := lay_zero (L := List.replicate 159 0) (zs := zs) (off := 0) (n := 4) (j := j) (by rw [l0]; decide) (fun _ _ => rep_getD _ _)
  generalize hL1 : lay (List.replicate 159 (0 : Int)) 0 (zs.take 4) = L1 at *
  have l1 : L1.length = 159 := by rw [← hL1, lay_length, l0]
  rw [rep_getD] at g0
  have g1 := lay_zero (L := L1) (zs := zs.drop 4) (off := 4) (n := 30) (j := j) (by rw [l1]; decide) (fun h _ => by rw [g0, if_neg (by omega)])
  generalize hL2 : lay L1 4 ((zs.drop 4).take 30) = L2 at *
  have l2 : L2.length = 159 := by rw [← hL2, lay_length, l1]
  rw [drop_getD', g0] at g1
  have g2 := lay_zero (L := L2) (zs := (zs.drop 4).drop 30) (off := 64) (n := 30) (j := j) (by rw [l2]; decide) (fun h _ => by rw [g1, if_neg (by omega), if_neg (by omega)])
  generalize hL3 : lay L2 64 (((zs.drop 4).drop 30).take 30) = L3 at *
  have l3 : L3.length = 159 := by rw [← hL3, lay_length, l2]
  rw [drop_getD', drop_getD', g1] at g2
  have g3 := lay_zero (L := L3) (zs := ((zs.drop 4).drop 30).drop 30) (off := 94) (n := 30) (j := j) (by rw [l3]; decide) (fun h _ => by rw [g2, if_neg (by omega), if_neg (by omega), if_neg (by omega)])
  generalize hL4 : lay L3 94 ((((zs.drop 4).drop 30).drop 30).take 30) = L4 at *
  have l4 : L4.length = 159 := by rw [← hL4, lay_length, l3]
  rw [drop_getD', drop_getD', drop_getD', g2] at g3
  have g4 := lay_zero (L := L4) (zs := (((zs.drop 4).drop 30).drop 30).drop 30) (off := 124) (n := 30) (j := j) (by rw [l4]; decide) (fun h _ => by rw [g3, if_neg (by omega), if_neg (by omega), if_neg (by omega), if_neg (by omega)])
  rw [drop_getD', drop_getD', drop_getD', drop_getD', g3] at g4
  rw [g4]
  by_cases h1 : j < 4
  · rw [if_neg (by omega), if_neg (by omega), if_neg (by omega), if_neg (by omega), if_pos (by omega), if_pos (by omega)]
    exact congrArg (fun k => zs.getD k 0) (by omega)
  · by_cases h2 : j < 34
    · rw [if_neg (by omega), if_neg (by omega), if_neg (by omega), if_pos (by omega), if_pos (by omega)]
      exact congrArg (fun k => zs.getD k 0) (by omega)
    · by_cases h3 : j < 64
      · rw [if_neg (by omega), if_neg (by omega), if_neg (by omega), if_neg (by omega), if_neg (by omega), if_neg (by omega), if_pos (by omega)]
      · by_cases h4 : j < 94
        · rw [if_neg (by omega), if_neg (by omega), if_pos (by omega), if_neg (by omega), if_neg (by omega), if_pos (by omega)]
          exact congrArg (fun k => zs.getD k 0) (by omega)
        · by_cases h5 : j < 124
          · rw [if_neg (by omega), if_pos (by omega), if_neg (by omega), if_neg (by omega), if_pos (by omega)]
            exact congrArg (fun k => zs.getD k 0) (by omega)
          · by_cases h6 : j < 154
            · rw [if_pos (by omega), if_neg (by omega), if_neg (by omega), if_pos (by omega)]
              exact congrArg (fun k => zs.getD k 0) (by omega)
            · rw [if_neg (by omega), if_neg (by omega), if_neg (by omega), if_neg (by omega), if_neg (by omega), if_neg (by omega), if_neg (by omega), if_neg (by omega)]

theorem part_of {L : List Int} {o n : Nat} (h : o + n ≤ L.length) : (L.drop o).take n = (List.range n).map fun i => L.getD (o + i) 0 := by
  apply List.ext_getElem?
  intro i
  by_cases hi : i < n
  · rw [List.getElem?_take, if_pos hi, List.getElem?_drop, List.getElem?_map, List.getElem?_range hi, List.getElem?_eq_getElem (by omega)]
    show some L[o + i] = some (L.getD (o + i) 0)
    rw [List.getD_eq_getElem?_getD, List.getElem?_eq_getElem (show o + i < L.length by omega)]
    rfl
  · rw [List.getElem?_eq_none (by rw [List.length_take]; omega), List.getElem?_eq_none (by simp; omega)]

/-- The pages of a chart that pointers were laid into. -/
theorem split_page {zs : List Int} {i s : Nat} (h : i = 0 ∧ s = 4 ∨ i = 2 ∧ s = 34 ∨ i = 3 ∧ s = 64 ∨ i = 4 ∧ s = 94) : pageL (splitL zs) i = partP zs s 30 := by
  unfold pageL partP
  rw [part_of (by rw [split_length]; omega)]
  apply List.map_congr_left
  intro k hk
  have hk' := List.mem_range.1 hk
  show (splitL zs).getD _ 0 = zs.getD _ 0
  rw [split_get]
  rcases h with ⟨rfl, rfl⟩ | ⟨rfl, rfl⟩ | ⟨rfl, rfl⟩ | ⟨rfl, rfl⟩
  · rw [if_pos (by omega)]
  · rw [if_neg (by omega), if_neg (by omega), if_pos (by omega)]; exact congrArg (fun k => zs.getD k 0) (by omega)
  · rw [if_neg (by omega), if_neg (by omega), if_pos (by omega)]; exact congrArg (fun k => zs.getD k 0) (by omega)
  · rw [if_neg (by omega), if_neg (by omega), if_pos (by omega)]; exact congrArg (fun k => zs.getD k 0) (by omega)

theorem split_direct (zs : List Int) : (splitL zs).take 4 = partP zs 0 4 := by
  have := part_of (L := splitL zs) (o := 0) (n := 4) (by rw [split_length]; decide)
  rw [List.drop_zero] at this
  rw [this]
  unfold partP
  apply List.map_congr_left
  intro k hk
  have hk' := List.mem_range.1 hk
  show (splitL zs).getD _ 0 = zs.getD _ 0
  rw [split_get, if_pos (by omega)]

theorem split_zero {zs : List Int} {j : Nat} (h : 34 ≤ j ∧ j < 64 ∨ 154 ≤ j) : (splitL zs).getD j 0 = 0 := by
  rw [split_get]
  rcases h with h | h
  · rw [if_neg (by omega), if_pos (by omega)]
  · rw [if_neg (by omega), if_neg (by omega), if_neg (by omega)]

def usedN (L : List Int) (i : Nat) : Nat := ((List.range i).filter (needsB L)).length
theorem usedN_succ (L : List Int) (i : Nat) : usedN L (i + 1) = usedN L i + (needsB L i).toNat := by
  unfold usedN
  rw [List.range_succ, List.filter_append, List.length_append]
  cases h : needsB L i <;> simp [List.filter, h]
theorem usedN_le (L : List Int) (i : Nat) : usedN L i ≤ i := by
  unfold usedN
  have := List.length_filter_le (needsB L) (List.range i)
  rwa [List.length_range] at this

/-- Which pages are needed. -/
theorem split_needs (zs : List Int) : needsB (splitL zs) 0 = someP zs 4 30 ∧ needsB (splitL zs) 1 = doubleB zs ∧ needsB (splitL zs) 2 = someP zs 34 30 ∧ needsB (splitL zs) 3 = someP zs 64 30 ∧ needsB (splitL zs) 4 = someP zs 94 30 := by
  have p0 := split_page (zs := zs) (i := 0) (s := 4) (by omega)
  have p2 := split_page (zs := zs) (i := 2) (s := 34) (by omega)
  have p3 := split_page (zs := zs) (i := 3) (s := 64) (by omega)
  have p4 := split_page (zs := zs) (i := 4) (s := 94) (by omega)
  unfold needsB
  rw [p0, p2, p3, p4]
  refine ⟨rfl, ?_, rfl, rfl, rfl⟩
  rw [if_pos rfl]
  unfold doubleB underN
  show ((someP zs 34 30) || (someP zs 64 30 || (someP zs 94 30 || false))) = _
  cases someP zs 34 30 <;> cases someP zs 64 30 <;> cases someP zs 94 30 <;> rfl

theorem usedN_need (zs : List Int) : usedN (splitL zs) 5 = needP zs := by
  obtain ⟨h0, h1, h2, h3, h4⟩ := split_needs zs
  rw [usedN_succ, usedN_succ, usedN_succ, usedN_succ, usedN_succ, h0, h1, h2, h3, h4]
  unfold needP doubleB underN
  cases someP zs 4 30 <;> cases someP zs 34 30 <;> cases someP zs 64 30 <;> cases someP zs 94 30 <;> rfl

theorem lists_one {w : World} {ao : Option Addr} {len cap : Nat} {zs : List Int} (h : IArg w ao len cap zs) (T : TypeId) : ListsIn (w.alloc (.cells #[.slice ao len cap] T)) w.heap.size 0 [zs] := by
  intro j ys hj
  match j, hj with
  | 0, hj =>
    cases hj
    refine ⟨ao, len, cap, ?_, h.later ((Below.refl _ _).alloc (Nat.le_refl _) _)⟩
    rw [World.cell?_alloc_new]
    rfl
  | j + 1, hj => simp at hj

theorem chart_of_own {base g : Nat} {w0 w : World} {L : List Int} (h : OwnV base w0 g (ints L) w) (hl : L.length = 159) : ChartAt w g L := ⟨hl, own_range h⟩

set_option maxRecDepth 100000 in
set_option maxHeartbeats 6400000 in
theorem Need_any (ao : Option Addr) (len cap : Nat) (zs : List Int) (w : World) (hA : IArg w ao len cap zs) : Calls Try.prog 39 #[.slice ao len cap] w fun e w' => e = .returned (.tuple #[.int .i64 (needOut zs), .int .i64 (needErr zs)]) ∧ Below w.heap.size w w' := by
  have hlen := hA.len
  by_cases h96 : 96 < len
  · have HE : Hid (needErr zs = 1 ∧ needOut zs = 0) := Lib.hid (by
      unfold needErr needOut ptrsOk
      rw [decide_eq_false (by omega)]
      exact ⟨rfl, rfl⟩)
    have i1 : (96 : Int) < (len : Int) := by omega
    clear hA hlen
    go_enter Try.func39, Try.ntmps39
    go_wp2_with fail
    go_ret2
    exact ⟨by rw [HE.out.1, HE.out.2]; rfl, Below.refl _ _⟩
  · have i1 : ¬ (96 : Int) < (len : Int) := by omega
    have cA := apart_any w.heap.size 0 1 1 [zs] _ rfl (lists_one hA 34) (by show zs.length + 0 ≤ 10000; omega) (by decide)
    rw [show [zs].flatten = zs from by simp] at cA
    have HP : Hid (ptrsOk zs = apartL zs) := Lib.hid (by unfold ptrsOk; rw [decide_eq_true (by omega)]; rfl)
    have HA := Lib.hid hA
    clear hA hlen
    cases hap : apartL zs with
    | false =>
      have HE : Hid (needErr zs = 1 ∧ needOut zs = 0) := Lib.hid (by
        unfold needErr needOut
        rw [HP.out, hap]
        exact ⟨rfl, rfl⟩)
      rw [hap] at cA
      clear hap
      go_enter Try.func39, Try.ntmps39
      go_wp2_with (go_at_call 45; refine cA.mono ?_; rintro e w2 ⟨rfl, hb⟩; have HB := Lib.hid hb; clear hb)
      go_ret2
      exact ⟨by rw [HE.out.1, HE.out.2]; rfl, ((Below.refl _ _).alloc (Nat.le_refl _) _).trans (HB.out.mono (by simp))⟩
    | true =>
      have HE : Hid (needErr zs = 0 ∧ needOut zs = (needP zs : Int)) := Lib.hid (by
        unfold needErr needOut
        rw [HP.out, hap]
        exact ⟨rfl, rfl⟩)
      rw [hap] at cA
      clear hap
      have HS : Hid (∀ W, Below w.heap.size w W → Calls Try.prog 46 #[.slice ao len cap] W fun e w' => ∃ g, e = .returned (.pointer (some ⟨g, 0, none⟩)) ∧ OwnV W.heap.size W g (ints (splitL zs)) w') := Lib.hid (fun W hW => split_any ao len cap zs W (HA.out.later hW))
      go_enter Try.func39, Try.ntmps39
      go_wp2_with (first | (go_at_call 45; refine cA.mono ?_; rintro e w2 ⟨rfl, hb⟩; have HB := Lib.hid (((Below.refl _ _).alloc (Nat.le_refl _) _).trans (hb.mono (by simp))); clear hb) | (go_at_call 46; refine (HS.out _ HB.out).mono ?_; rintro e w3 ⟨g, rfl, ho⟩; have HC := Lib.hid (chart_of_own ho (split_length zs)); have HB3 := Lib.hid (HB.out.trans (ho.2.2.2.mono HB.out.size)); clear ho))
      go_loopw [4, 18] (fun nv iv wr => ∃ i : Nat, iv = .int .i64 (i : Int) ∧ nv = .int .i64 ((usedN (splitL zs) i : Nat) : Int) ∧ i ≤ 5 ∧ Hid (Below w.heap.size w wr) ∧ Hid (ChartAt wr g (splitL zs))) (fun _ iv _ => 5 - (intOf iv).toNat)
      case atStart => exact ⟨0, rfl, rfl, Nat.zero_le _, HB3, HC⟩
      case round =>
        obtain ⟨i, rfl, rfl, hi, HBR, HCR⟩ := hrel
        by_cases hlt : i < 5
        · have cN := needs_any HCR.out hlt
          have i5 : (i : Int) < 5 := by omega
          have hu := usedN_succ (splitL zs) i
          have hle := usedN_le (splitL zs) i
          cases hn : needsB (splitL zs) i with
          | false =>
            rw [hn] at cN hu
            have HU : Hid (usedN (splitL zs) (i + 1) = usedN (splitL zs) i) := Lib.hid hu
            clear hn hu hle
            go_wp2_with (go_at_call 47; refine cN.mono ?_; rintro e w5 ⟨rfl, b5⟩; have B5 := Lib.hid b5; clear b5)
            go_roundw
            case rel => exact ⟨i + 1, by go_num, by rw [HU.out], by omega, Lib.hid (HBR.out.trans (B5.out.mono HBR.out.size)), Lib.hid (HCR.out.later B5.out)⟩
            case measure => simp [intOf]; omega
          | true =>
            rw [hn] at cN hu
            have HU : Hid (usedN (splitL zs) (i + 1) = usedN (splitL zs) i + 1) := Lib.hid hu
            have s1 : wrap64 (((usedN (splitL zs) i : Nat) : Int) + 1) = ((usedN (splitL zs) (i + 1) : Nat) : Int) := by rw [HU.out]; unfold wrap64; omega
            clear hn hu hle
            go_wp2_with (go_at_call 47; refine cN.mono ?_; rintro e w5 ⟨rfl, b5⟩; have B5 := Lib.hid b5; clear b5)
            go_roundw
            case rel => exact ⟨i + 1, by go_num, by rw [s1], by omega, Lib.hid (HBR.out.trans (B5.out.mono HBR.out.size)), Lib.hid (HCR.out.later B5.out)⟩
            case measure => simp [intOf]; omega
        · obtain rfl : i = 5 := by omega
          have HU : Hid (usedN (splitL zs) 5 = needP zs) := Lib.hid (usedN_need zs)
          go_wp2_with fail
          go_ret2
          exact ⟨by rw [HE.out.1, HE.out.2, ← HU.out]; rfl, HBR.out⟩

end Go.Proofs.Ytmgmlebkmdpddaa
