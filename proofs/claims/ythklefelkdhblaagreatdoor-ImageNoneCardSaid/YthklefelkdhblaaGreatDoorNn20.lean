/-
  Proved here: what the document's own GetExtent (drydockref09) answers; and what its Decode begins with: the variable that is read into. The conditions stand at each theorem. Proved here: what the landed image's choice answers where a node has no blocks of its own; need, may and plan of the old format. The conditions stand at each theorem. Proved here: what the landed image's need, may and plan answer of the old format. The conditions stand at each theorem. Proved here: what the landed image's Make answers. The conditions stand at each theorem.
-/
import Derived.Test.YthklefelkdhblaaGreatDoorNn19
import Derived.Test.YthklefelkdhblaaGreatDoorNn2
import Derived.Deep.RegionHeld
import Derived.Test.YthklefelkdhblaaGreatDoorNn8
import Derived.Deep.Cut
import Derived.Deep.RegionLaw
import Derived.Test.YthklefelkdhblaaGreatDoorNn5
import Derived.Test.YthklefelkdhblaaGreatDoorNn9
import Derived.Test.YthklefelkdhblaaGreatDoorNn11
namespace Go.Proofs.YthklefelkdhblaaGreatDoor
open Go.RowKit
set_option linter.unusedVariables false
set_option linter.unusedSimpArgs false

/-- A node's variable: its numbers, and its list. -/
def NodeVar (w0 : World) (g : Nat) (V : Nat → Int) (sl : Value) (wr : World) : Prop :=
  Below w0.heap.size w0 wr ∧ (∀ o, o < 12 → o ≠ 10 → wr.cell? ⟨g, o, none⟩ = some (.int .i64 (V o))) ∧ wr.cell? ⟨g, 10, none⟩ = some sl ∧ ∀ j, wr.frozen? ⟨g, j, none⟩ = false

theorem NodeVar.lt {w0 wr : World} {g : Nat} {V : Nat → Int} {sl : Value} (h : NodeVar w0 g V sl wr) : g < wr.heap.size := World.block_lt_of_cell? _ _ h.2.2.1

theorem NodeVar.later {w0 wr wx : World} {g : Nat} {V : Nat → Int} {sl : Value} (h : NodeVar w0 g V sl wr) (hb : Below wr.heap.size wr wx) : NodeVar w0 g V sl wx :=
  ⟨h.1.trans (hb.mono h.1.size), fun o h1 h2 => cell_later hb (h.2.1 o h1 h2), cell_later hb h.2.2.1, fun j => by rw [hb.frozen (p := ⟨g, j, none⟩) h.lt]; exact h.2.2.2 j⟩

theorem NodeVar.set {w0 wr : World} {g k : Nat} {V : Nat → Int} {sl : Value} (h : NodeVar w0 g V sl wr) (hg : w0.heap.size ≤ g) (hk : k < 12) (hk10 : k ≠ 10) (x : Int) : NodeVar w0 g (fun o => if o = k then x else V o) sl (wr.setCell ⟨g, k, none⟩ (.int .i64 x)) := by
  refine ⟨h.1.setCell (p := ⟨g, k, none⟩) hg _, fun o ho hne => ?_, ?_, fun j => by simpa using h.2.2.2 j⟩
  · show (wr.setCell ⟨g, k, none⟩ (.int .i64 x)).cell? ⟨g, o, none⟩ = some (.int .i64 (if o = k then x else V o))
    by_cases e : o = k
    · subst e
      rw [if_pos rfl]
      exact World.cell?_setCell_same wr _ _ (h.2.1 o ho hne)
    · rw [if_neg e, World.cell?_setCell_other (h := by intro e'; exact e (by simpa using (congrArg Addr.off e').symm))]
      exact h.2.1 o ho hne
  · rw [World.cell?_setCell_other (h := by intro e'; exact hk10 (by simpa using congrArg Addr.off e'))]
    exact h.2.2.1

theorem NodeVar.drew {w0 wr : World} {g : Nat} {V : Nat → Int} {sl : Value} (h : NodeVar w0 g V sl wr) : NodeVar w0 g V sl wr.drew := ⟨h.1.drew, fun o h1 h2 => h.2.1 o h1 h2, h.2.2.1, fun j => h.2.2.2 j⟩

theorem NodeVar.congr {w0 wr : World} {g : Nat} {V U : Nat → Int} {sl : Value} (h : NodeVar w0 g V sl wr) (he : ∀ o, o < 12 → o ≠ 10 → V o = U o) : NodeVar w0 g U sl wr :=
  ⟨h.1, fun o h1 h2 => by rw [h.2.1 o h1 h2, he o h1 h2], h.2.2⟩

theorem sub_leN {zs : List Int} {i : Nat} (h : i + 4 ≤ zs.length) : ((zs.drop i).take 4).getD 0 0 = zs.getD i 0 ∧ leN ((zs.drop i).take 4) 1 2 = leN zs (i + 1) 2 ∧ ((zs.drop i).take 4).getD 3 0 = zs.getD (i + 3) 0 := by
  have e : ∀ j, j < 4 → ((zs.drop i).take 4).getD j 0 = zs.getD (i + j) 0 := fun j hj => by
    rw [take_getD _ _ _ hj, List.getD_eq_getElem?_getD, List.getElem?_drop, ← List.getD_eq_getElem?_getD]
  refine ⟨e 0 (by decide), leN_of_eq 2 (fun j hj => ?_), e 3 (by decide)⟩
  rw [e (1 + j) (by omega), show i + (1 + j) = i + 1 + j by omega]

theorem four_of {l : List Int} (h : l.length = 4) : l = [l.getD 0 0, l.getD 1 0, l.getD 2 0, l.getD 3 0] := by
  match l, h with
  | [a, b, c, d], _ => rfl

theorem sub_zero {zs : List Int} (hz : ∀ z ∈ zs, 0 ≤ z ∧ z ≤ 255) {i : Nat} (h : i + 4 ≤ zs.length) : decide ((zs.drop i).take 4 = [0, 0, 0, 0]) = decide ((⟨zs.getD i 0, leN zs (i + 1) 2, zs.getD (i + 3) 0⟩ : PX) = noX) := by
  have hl : ((zs.drop i).take 4).length = 4 := by rw [List.length_take, List.length_drop]; omega
  obtain ⟨e0, e1, e3⟩ := sub_leN h
  have hb : ∀ j, j < 4 → 0 ≤ ((zs.drop i).take 4).getD j 0 := fun j hj => (hz _ (List.mem_of_mem_drop (List.mem_of_mem_take (getD_mem (by omega))))).1
  have b1 := hb 1 (by decide)
  have b2 := hb 2 (by decide)
  rw [← e0, ← e1, ← e3]
  generalize (zs.drop i).take 4 = l at *
  have e : leN l 1 2 = l.getD 1 0 + l.getD 2 0 * 256 := by
    show 0 + l.getD (1 + 0) 0 * 256 ^ 0 + l.getD (1 + 1) 0 * 256 ^ 1 = _
    rw [Nat.add_zero, show 1 + 1 = 2 from rfl]
    omega
  rw [e, Bool.eq_iff_iff, decide_eq_true_iff, decide_eq_true_iff]
  constructor
  · intro h'
    rw [h']
    rfl
  · intro h'
    have h1 : l.getD 0 0 = 0 := congrArg PX.a h'
    have h2 : l.getD 1 0 + l.getD 2 0 * 256 = 0 := congrArg PX.f h'
    have h3 : l.getD 3 0 = 0 := congrArg PX.c h'
    rw [four_of hl, h1, h3, show l.getD 1 0 = 0 by omega, show l.getD 2 0 = 0 by omega]

end Go.Proofs.YthklefelkdhblaaGreatDoor


namespace Go.Proofs.YthklefelkdhblaaGreatDoor
open Go.RowKit
set_option linter.unusedVariables false
set_option linter.unusedSimpArgs false

theorem iarg0 {w : World} {ao : Option Addr} {c : Nat} (h : ao = none → c = 0) : IArg w ao 0 c [] := ⟨⟨rfl, by decide, Or.inl rfl⟩, by simp, fun e => ⟨rfl, h e⟩, Nat.zero_le _⟩

set_option maxHeartbeats 800000 in
/-- A clone of nothing. -/
theorem clone0_any (ao : Option Addr) (cap : Nat) (w : World) (hA : IArg w ao 0 cap []) :
    Calls Tryz.prog 134 #[.slice ao 0 cap] w fun e w' => ∃ ko kc, e = .returned (.slice ko 0 kc) ∧ IArg w' ko 0 kc [] ∧ Below w.heap.size w w' := by
  cases ao with
  | none =>
    obtain rfl : cap = 0 := (hA.2.2.1 rfl).2
    have hnil := fun (w : World) => Lib.run_eql_slice_nil (P := Tryz.prog) w 50 3 none 0 0 0 0 Tryz.underlying50
    clear hA
    go_enter Tryz.func134, Tryz.ntmps134
    go_wp2_with fail
    go_ret
    exact ⟨none, 0, rfl, IArg.nil _, Below.refl _ _⟩
  | some ad =>
    refine (cloneI_any ad 0 cap [] w hA (by decide)).mono ?_
    rintro e w' ⟨v, rfl, ho, hb⟩
    obtain ⟨ko, kc, rfl, hi, _⟩ := fresh_of_ints (zs := []) ho (by simp) (by decide)
    exact ⟨ko, kc, rfl, hi, hb⟩

set_option maxHeartbeats 800000 in
/-- Of nothing nothing is deleted. -/
theorem del0_any (ao : Option Addr) (cap : Nat) (f : Value) (w : World) :
    Calls Tryz.prog 133 #[.slice ao 0 cap, f] w fun e w' => e = .returned (.slice ao 0 cap) ∧ w = w' := by
  have cI : Calls Tryz.prog 118 #[.slice ao 0 cap, f] w fun e w' => e = .returned (.int .i64 (-1)) ∧ w = w' := by
    go_enter Tryz.func118, Tryz.ntmps118
    go_wp2_with fail
    go_loop [8] (fun iv => iv = .int .i64 0) (fun iv => 0)
    case atStart => rfl
    case round =>
      subst hrel
      go_wp2_with fail
      go_ret
      exact ⟨rfl, rfl⟩
  go_enter Tryz.func133, Tryz.ntmps133
  go_wp2_with (go_at_call 118; refine cI.mono ?_; rintro e w2 ⟨rfl, rfl⟩)
  go_ret
  exact ⟨rfl, rfl⟩

theorem markL_nil {zs : List Int} (up : Bool) (hl : zs.length = 60) (hz : ∀ z ∈ zs, 0 ≤ z ∧ z ≤ 255) : markL zs up [] = zs := by
  unfold markL runsOf
  exact markP_nil up hl hz

set_option maxRecDepth 100000 in
set_option maxHeartbeats 3200000 in
theorem choice0_any (fo : Option Addr) (fc : Nat) (f : List Int) (oo : Option Addr) (oc n hi : Nat) (w : World) (hA : Arg w fo 60 fc f) (hO : IArg w oo 0 oc []) (h0 : 59 ≤ hi) (h1 : hi ≤ 480) (hn : n ≤ 1000) :
    Calls Tryz.prog 78 #[.slice fo 60 fc, .slice oo 0 oc, .int .i64 n, .int .i64 hi] w (PickDone w.heap.size w f n hi) := by
  have hb2 : ∀ o o2, Below w.heap.size w ((w.alloc o).alloc o2) := fun o o2 => ((Below.refl _ _).alloc (Nat.le_refl _) _).alloc (by simp) _
  have HCL : Hid (∀ W, Below w.heap.size w W → Calls Tryz.prog 134 #[.slice oo 0 oc] W fun e w' => ∃ ko kc, e = .returned (.slice ko 0 kc) ∧ IArg w' ko 0 kc [] ∧ Below W.heap.size W w') := Lib.hid (fun W hW => clone0_any oo oc W (hO.later hW))
  have HMK : Hid (∀ W q ko kc, Below w.heap.size w W → W.cell? ⟨q, 0, none⟩ = some (.slice ko 0 kc) → IArg W ko 0 kc [] → Calls Tryz.prog 75 #[.slice fo 60 fc, .bool true, .slice (some ⟨q, 0, none⟩) 1 1] W (Gives W.heap.size W f)) := Lib.hid (fun W q ko kc hW hc hK => by
    have hx := imark_any fo fc f true q 0 1 1 [[]] W (hA.later hW) rfl (fun j zs hj => by
      match j, hj with
      | 0, hj => cases Option.some.inj hj; exact ⟨ko, 0, kc, hc, hK⟩
      | j + 1, hj => simp at hj) (by decide) (by decide) (by intro x hx; simp at hx)
    rw [show ([[]] : List (List Int)).flatten = [] from rfl, markL_nil true hA.1.1 hA.1.2.2.1] at hx
    exact hx)
  obtain ⟨E, hE⟩ : ∃ E, pickE f n hi = E := ⟨_, rfl⟩
  obtain ⟨L, hL⟩ : ∃ L, (if pickE f n hi = 0 then pickL f n hi else []) = L := ⟨_, rfl⟩
  have HPK : Hid (∀ W g o k, Arg W (some ⟨g, o, none⟩) 60 k f → Calls Tryz.prog 74 #[.slice (some ⟨g, o, none⟩) 60 k, .int .i64 n, .int .i64 hi] W fun e w' => ∃ v, e = .returned (.tuple #[v, .int .i64 E]) ∧ FreshI w' W.heap.size v L ∧ Below W.heap.size W w') := Lib.hid (fun W g o k hf => by
    have hx := ipick_any (some ⟨g, o, none⟩) k f n hi W hf h0 h1 (by omega)
    unfold PickDone at hx
    rw [hL, hE] at hx
    exact hx)
  have HP : Hid (∀ (B : Nat) (W w' : World) v, FreshI w' B v L → Below B W w' → PickDone B W f n hi (.returned (.tuple #[v, .int .i64 E])) w') := Lib.hid (fun B W w' v h1 h2 => ⟨v, by rw [hE], by rw [hL]; exact h1, h2⟩)
  have HLE : Hid (E ≠ 0 → L = []) := Lib.hid (fun h => by rw [← hL, if_neg (by rw [hE]; exact h)])
  have HF60 : Hid (f.length = 60) := Lib.hid hA.1.1
  have HF0 : Hid (f ≠ []) := Lib.hid (fun h => by have := hA.1.1; rw [h] at this; cases this)
  have HLB : Hid (L.length ≤ 1000) := Lib.hid (by
    rw [← hL]
    split
    · rename_i hp
      obtain ⟨rs, r1, r2, r3⟩ := pick_runs f n hi hp hA.1.1 h0 h1
      omega
    · simp)
  clear hA hO hE hL
  have hH : ∀ W, Below ((w.alloc (.cells #[.slice fo 60 fc] 62)).alloc (.cells #[.int .i64 hi] 3)).heap.size ((w.alloc (.cells #[.slice fo 60 fc] 62)).alloc (.cells #[.int .i64 hi] 3)) W → W.cell? ⟨w.heap.size, 0, none⟩ = some (.slice fo 60 fc) ∧ W.cell? ⟨w.heap.size + 1, 0, none⟩ = some (.int .i64 (hi : Int)) := fun W hW => by
    constructor
    · rw [hW.cell (p := ⟨w.heap.size, 0, none⟩) (by simp; omega)]; simp
    · rw [hW.cell (p := ⟨w.heap.size + 1, 0, none⟩) (by simp)]
      rw [show w.heap.size + 1 = (w.alloc (.cells #[.slice fo 60 fc] 62)).heap.size by simp, World.cell?_alloc_new]
      rfl
  have HBB := Lib.hid (hb2 (.cells #[.slice fo 60 fc] 62) (.cells #[.int .i64 hi] 3))
  have HHH := Lib.hid hH
  have hmn : min (n : Int) 0 = 0 := by omega
  clear hH hb2
  go_enter Tryz.func78, Tryz.ntmps78
  go_wp2_with (first
    | (go_at_call 134; refine (HCL.out _ HBB.out).mono ?_; rintro e w2 ⟨ko, kc, rfl, hk2, hb2⟩; have HK2 := Lib.hid hk2; have HC2 := Lib.hid hb2; clear hk2 hb2)
    | (go_at_call 133; refine (del0_any _ _ _ _).mono ?_; rintro e w' ⟨rfl, rfl⟩))
  have HW2 : Hid (Below w.heap.size w w2) := Lib.hid (HBB.out.trans (HC2.out.mono HBB.out.size))
  have HH : Hid (∀ W, Below w2.heap.size w2 W → W.cell? ⟨w.heap.size, 0, none⟩ = some (.slice fo 60 fc) ∧ W.cell? ⟨w.heap.size + 1, 0, none⟩ = some (.int .i64 (hi : Int))) := Lib.hid (fun W hW => HHH.out W (HC2.out.trans (hW.mono HC2.out.size)))
  have hwr : IntKind.i64.wrap ((n : Int) - 0) = (n : Int) := by rw [IntKind.wrap_i64]; omega
  clear HHH HBB HC2 HCL
  refine wp_region_held_drew (S := fun W => W.cell? ⟨w.heap.size, 0, none⟩ = some (.slice fo 60 fc) ∧ W.cell? ⟨w.heap.size + 1, 0, none⟩ = some (.int .i64 (hi : Int))) (by kernel_rfl) (HH.out _ (Below.refl _ _).drew) (fun hHeld => ?_)
  refine wpAnyH_take (i := 0) (oi := ⟨some 24, _, _, _, _, _⟩) (v := .slice fo 60 fc) rfl (by kernel_rfl) (by kernel_rfl) (by kernel_rfl) (fun _ _ _ h => h) (Or.inl ⟨by kernel_rfl, by intro w hSw; obtain ⟨s1, s2⟩ := hSw; go_simp⟩) (by assumption) ?_
  try simp only [Act.put, List.setIfInBounds_toArray, List.set_cons_zero, List.set_cons_succ]
  refine wpAnyH_take (i := 1) (oi := ⟨some 25, _, _, _, _, _⟩) (v := .slice ko 0 kc) rfl (by kernel_rfl) (by kernel_rfl) (by kernel_rfl) (fun _ _ _ h => h) (Or.inl ⟨by kernel_rfl, fun w _ => rfl⟩) (by assumption) ?_
  try simp only [Act.put, List.setIfInBounds_toArray, List.set_cons_zero, List.set_cons_succ]
  refine wpAnyH_take (i := 4) (oi := ⟨some 28, _, _, _, _, _⟩) (v := .int .i64 n) rfl (by kernel_rfl) (by kernel_rfl) (by kernel_rfl) (fun _ _ _ h => h) (Or.inl ⟨by kernel_rfl, fun w _ => rfl⟩) (by assumption) ?_
  try simp only [Act.put, List.setIfInBounds_toArray, List.set_cons_zero, List.set_cons_succ]
  refine wpAnyH_take (i := 5) (oi := ⟨some 29, _, _, _, _, _⟩) (v := .slice ko 0 kc) rfl (by kernel_rfl) (by kernel_rfl) (by kernel_rfl) (fun _ _ _ h => h) (Or.inl ⟨by kernel_rfl, fun w _ => rfl⟩) (by assumption) ?_
  try simp only [Act.put, List.setIfInBounds_toArray, List.set_cons_zero, List.set_cons_succ]
  refine wpAnyH_take (i := 6) (oi := ⟨some 30, _, _, _, _, _⟩) (v := .int .i64 0) rfl (by kernel_rfl) (by kernel_rfl) (by kernel_rfl) (fun _ _ _ h => h) (Or.inl ⟨by kernel_rfl, by intro w _; go_simp; (try omega)⟩) (by assumption) ?_
  try simp only [Act.put, List.setIfInBounds_toArray, List.set_cons_zero, List.set_cons_succ]
  refine wpAnyH_take (i := 7) (oi := ⟨some 31, _, _, _, _, _⟩) (v := .int .i64 n) rfl (by kernel_rfl) (by kernel_rfl) (by kernel_rfl) (fun _ _ _ h => h) (Or.inl ⟨by kernel_rfl, by intro w _; go_simp; (try assumption)⟩) (by assumption) ?_
  try simp only [Act.put, List.setIfInBounds_toArray, List.set_cons_zero, List.set_cons_succ]
  refine wpAnyH_take (i := 8) (oi := ⟨some 32, _, _, _, _, _⟩) (v := .int .i64 hi) rfl (by kernel_rfl) (by kernel_rfl) (by kernel_rfl) (fun _ _ _ h => h) (Or.inl ⟨by kernel_rfl, by intro w hSw; obtain ⟨s1, s2⟩ := hSw; go_simp⟩) (by assumption) ?_
  try simp only [Act.put, List.setIfInBounds_toArray, List.set_cons_zero, List.set_cons_succ]
  refine wpAnyH_ready (rs := [2]) (by kernel_rfl) (by simp) ?_
  refine AllReadyH.cons (o := ⟨some 26, _, _, _, _, _⟩) rfl (fun K hK => ?_) AllReadyH.nil
  go_simp
  obtain ⟨W3, hW3⟩ : ∃ W3, (w2.alloc (.cells #[.slice ko 0 kc] 50)).drew = W3 := ⟨_, rfl⟩
  have HB3 : Hid (Below w2.heap.size w2 W3) := Lib.hid (by rw [← hW3]; exact ((Below.refl _ _).alloc (Nat.le_refl _) _).drew)
  have HM3 := Lib.hid (HMK.out W3 w2.heap.size ko kc (HW2.out.trans (HB3.out.mono HW2.out.size)) (by rw [← hW3]; show (w2.alloc _).cell? _ = _; simp) (HK2.out.later HB3.out))
  rw [hW3]
  clear hW3
  refine hK.out _ _ ?_ (fun hHeld1 => ?_)
  · exact (HH.out _ HB3.out)
  clear hK K
  try simp only [Act.put, List.setIfInBounds_toArray, List.set_cons_zero, List.set_cons_succ]
  refine wpAnyH_ready (rs := [3]) (by kernel_rfl) (by simp) ?_
  refine AllReadyH.cons (o := ⟨some 27, _, _, _, _, _⟩) rfl (fun K hK => ?_) AllReadyH.nil
  go_simp
  go_at_call 75
  refine HM3.out.mono ?_
  rintro e w4 ⟨v4, rfl, hf4, hb4⟩
  obtain ⟨g4, o4, k4, rfl, hA4, _⟩ := fresh_slice hf4 HF0.out
  rw [HF60.out] at hA4 ⊢
  have HA4 := Lib.hid hA4
  have HB4 := Lib.hid (HB3.out.trans (hb4.mono HB3.out.size))
  clear hf4 hb4 hA4
  refine hK.out _ _ ?_ (fun hHeld2 => ?_)
  · exact (HH.out _ HB4.out)
  clear hK K
  try simp only [Act.put, List.setIfInBounds_toArray, List.set_cons_zero, List.set_cons_succ]
  refine wpAnyH_ready (rs := [9]) (by kernel_rfl) (by simp) ?_
  refine AllReadyH.cons (o := ⟨some 33, _, _, _, _, _⟩) rfl (fun K hK => ?_) AllReadyH.nil
  go_simp
  go_at_call 74
  refine (HPK.out _ g4 o4 k4 HA4.out).mono ?_
  rintro e w5 ⟨v5, rfl, hf5, hb5⟩
  have HF5 := Lib.hid (hf5.mono (Nat.le_trans HW2.out.size HB4.out.size))
  obtain ⟨va, vc, rfl, hva, _⟩ := hf5
  have HVA := Lib.hid hva
  have HB5 := Lib.hid (HB4.out.trans (hb5.mono HB4.out.size))
  clear hb5 hva
  refine hK.out _ _ ?_ (fun hHeld3 => ?_)
  · exact (HH.out _ HB5.out)
  clear hK K
  try simp only [Act.put, List.setIfInBounds_toArray, List.set_cons_zero, List.set_cons_succ]
  refine wpAnyH_take (i := 10) (oi := ⟨some 23, _, _, _, _, _⟩) (v := .tuple #[.slice va L.length vc, .int .i64 E]) rfl (by kernel_rfl) (by kernel_rfl) (by kernel_rfl) (fun _ _ _ h => h) (Or.inl ⟨by kernel_rfl, fun w _ => rfl⟩) (by assumption) ?_
  try simp only [Act.put, List.setIfInBounds_toArray, List.set_cons_zero, List.set_cons_succ]
  refine wpAnyH_take (i := 11) (oi := ⟨some 34, _, _, _, _, _⟩) (v := .slice va L.length vc) rfl (by kernel_rfl) (by kernel_rfl) (by kernel_rfl) (fun _ _ _ h => h) (Or.inl ⟨by kernel_rfl, by intro w _; go_simp; (try omega)⟩) (by assumption) ?_
  try simp only [Act.put, List.setIfInBounds_toArray, List.set_cons_zero, List.set_cons_succ]
  refine wpAnyH_take (i := 12) (oi := ⟨some 35, _, _, _, _, _⟩) (v := .int .i64 E) rfl (by kernel_rfl) (by kernel_rfl) (by kernel_rfl) (fun _ _ _ h => h) (Or.inl ⟨by kernel_rfl, by intro w _; go_simp; (try omega)⟩) (by assumption) ?_
  try simp only [Act.put, List.setIfInBounds_toArray, List.set_cons_zero, List.set_cons_succ]
  refine wpAnyH_take (i := 13) (oi := ⟨some 11, _, _, _, _, _⟩) (v := .slice va L.length vc) rfl (by kernel_rfl) (by kernel_rfl) (by kernel_rfl) (fun _ _ _ h => h) (Or.inl ⟨by kernel_rfl, fun w _ => rfl⟩) (by assumption) ?_
  try simp only [Act.put, List.setIfInBounds_toArray, List.set_cons_zero, List.set_cons_succ]
  refine wpAnyH_take (i := 14) (oi := ⟨some 12, _, _, _, _, _⟩) (v := .int .i64 E) rfl (by kernel_rfl) (by kernel_rfl) (by kernel_rfl) (fun _ _ _ h => h) (Or.inl ⟨by kernel_rfl, fun w _ => rfl⟩) (by assumption) ?_
  try simp only [Act.put, List.setIfInBounds_toArray, List.set_cons_zero, List.set_cons_succ]
  refine wpAnyH_done (by kernel_rfl) ?_ _
  have HLC : Hid (∀ (W : World), Below w5.heap.size w5 W → IArg W ko 0 kc []) := Lib.hid (fun W hW => HK2.out.later (HB5.out.trans (hW.mono HB5.out.size)))
  have HW5 : Hid (Below w.heap.size w w5) := Lib.hid (HW2.out.trans (HB5.out.mono HW2.out.size))
  by_cases hE0 : E = 0
  · subst hE0
    have cC : Calls Tryz.prog 129 #[.slice (some ⟨w5.heap.size, 0, none⟩) 2 2] (w5.alloc (.cells #[.slice ko 0 kc, .slice va L.length vc] 50)) fun e w' => ∃ v, e = .returned v ∧ FreshI w' w5.heap.size v L ∧ Below w5.heap.size w5 w' := by
      refine (Concat_any w5.heap.size 0 2 2 [[], L] _ rfl (lists_two (HLC.out _ (Below.refl _ _)) HVA.out 50) (by have := HLB.out; show 0 + (L.length + 0) ≤ 10000; omega) (by decide)).mono ?_
      rintro e w6 ⟨v, rfl, ho, hb⟩
      have hz : ∀ z ∈ L, I64 z := HVA.out.2.1
      have e1 : lenL [[], L] = L.length := by show 0 + (L.length + 0) = _; omega
      rw [e1, show ([[], L] : List (List Int)).flatten = L by simp] at ho
      exact ⟨v, rfl, (fresh_of_ints ho hz (by have := HLB.out; omega)).mono (by simp), ((Below.refl _ _).alloc (Nat.le_refl _) _).trans (hb.mono (by simp))⟩
    have HC := Lib.hid cC
    clear cC
    go_wp2_with (go_at_call 129; refine HC.out.mono ?_; rintro e w6 ⟨v, rfl, hf6, hb6⟩; have HF6 := Lib.hid (hf6.mono HW5.out.size); have HB6 := Lib.hid (HW5.out.trans (hb6.mono HW5.out.size)); clear hf6 hb6)
    go_ret2
    exact HP.out _ _ _ _ HF6.out HB6.out
  · have hne : (E != 0) = true := by simpa using hE0
    have HL0 := Lib.hid (HLE.out hE0)
    go_wp2_with fail
    go_ret2
    exact HP.out _ _ _ _ (by rw [HL0.out]; exact FreshI.nil _ _) HW5.out
end Go.Proofs.YthklefelkdhblaaGreatDoor


namespace Go.Proofs.YthklefelkdhblaaGreatDoor
open Go.RowKit
set_option linter.unusedVariables false
set_option linter.unusedSimpArgs false

set_option maxHeartbeats 800000 in
theorem need_old {w : World} {ao : Option Addr} {n cap : Nat} {l : List Int} (hA : IArg w ao n cap l) (hok : ptrsOk l = true) :
    Calls Tryz.prog 79 #[.int .i64 1, .slice ao n cap] w (Tells w.heap.size w (.int .i64 (needP l : Int))) := by
  have cN := Need_any ao n cap l w hA
  rw [show needOut l = (needP l : Int) by unfold needOut; rw [if_pos hok], show needErr l = 0 by unfold needErr; rw [if_pos hok]] at cN
  generalize (needP l : Int) = Z at *
  clear hA hok
  go_enter Tryz.func79, Tryz.ntmps79
  go_wp2_with (first
    | (go_at_call 132; refine cN.mono ?_; rintro e w2 ⟨rfl, hb⟩; have HB2 := Lib.hid hb; clear hb)
    | (go_at_call 104; refine (mustI_any _ _).mono ?_; rintro e w' ⟨rfl, rfl⟩))
  go_ret
  exact ⟨rfl, HB2.out⟩

set_option maxHeartbeats 1600000 in
theorem may_yes {w : World} {p q g n cap : Nat} {lo : Option Addr} {m lc : Nat} {l : List Int} (x : PNode) (xo : Option Addr) (xm xc : Nat) (hp : w.cell? ⟨p, q, none⟩ = some (.slice (some ⟨g, 0, none⟩) n cap)) (hA : IArg w lo m lc l) (hk : x.k ≠ 0) (hok : ptrsOk l = true) (hh : l.all (hereB n) = true) :
    Calls Tryz.prog 77 #[.pointer (some ⟨p, q, none⟩), x.val (.slice xo xm xc), .slice lo m lc] w (Says w.heap.size w true) := by
  have hp0 := World.block_lt_of_cell? _ _ hp
  have HN : Hid (∀ W, Below w.heap.size w W → Calls Tryz.prog 132 #[.slice lo m lc] W fun e w' => e = .returned (.tuple #[.int .i64 (needP l : Int), .int .i64 0]) ∧ Below W.heap.size W w') := Lib.hid (fun W hW => by
    have cN := Need_any lo m lc l W (hA.later hW)
    rw [show needOut l = (needP l : Int) by unfold needOut; rw [if_pos hok], show needErr l = 0 by unfold needErr; rw [if_pos hok]] at cN
    exact cN)
  have HC : Hid (∀ W, Below w.heap.size w W → Calls Tryz.prog 66 #[.slice lo m lc, .func (.func 67) #[.pointer (some ⟨p, q, none⟩)] #[]] W fun e w' => e = .returned (.bool false) ∧ W = w') := Lib.hid (fun W hW => by
    have hx := containsAbs_any (by rw [hW.cell (p := ⟨p, q, none⟩) hp0]; exact hp) (hA.later hW)
    rw [hh] at hx
    exact hx)
  obtain ⟨k, f, l', z, d0, d1, d2, d3, s, t, xx, c⟩ := x
  have hk : k ≠ 0 := hk
  have hne : (k == 0) = false := by simpa using hk
  unfold PNode.val
  dsimp only
  have HB1 := Lib.hid (show ∀ o, Below w.heap.size w (w.alloc o) from fun o => (Below.refl _ _).alloc (Nat.le_refl _) _)
  clear hp hA hok hh
  go_enter Tryz.func77, Tryz.ntmps77
  go_wp2_with (first
    | (go_at_call 132; refine (HN.out _ (HB1.out _)).mono ?_; rintro e w2 ⟨rfl, hb⟩; have HB2 := Lib.hid (below_new hb); clear hb)
    | (go_at_call 66; refine (HC.out _ HB2.out).mono ?_; rintro e w' ⟨rfl, rfl⟩))
  go_ret
  exact ⟨rfl, HB2.out⟩

/-- What plan hands back where no blocks are needed. -/
def PlanNone (w : World) (l fs : List Int) (e : Ending) (w' : World) : Prop :=
  ∃ ao cap, e = .returned (.tuple #[nodeV 1 (l.getD 0 0) (l.getD 1 0) (l.getD 2 0) (l.getD 3 0) (singleP l fs) (doubleP l fs), .slice ao 0 cap]) ∧ Below w.heap.size w w'

theorem results_2c {fn : Func} {p a : Tmp} {ty : TypeId} (h : fn.results = #[.cell p ty, .tmp a]) (tmps : Array Value) {ad : Addr} (ha : tmps.getD p undef = .pointer (some ad)) (P : Program) (w : World) {x : Value} (hl : (loadVar ty ad).run P w = .ok x w) :
    (results fn tmps).run P w = .ok (.tuple #[x, tmps.getD a undef]) w := by
  have ha' : tmps[p]?.getD undef = Value.pointer (some ad) := by simpa using ha
  simp only [results, h]
  simp [Sem.run_bind, Result.andThen, asAddr, ha', hl]

set_option maxRecDepth 100000 in
set_option maxHeartbeats 1600000 in
theorem plan_none {w : World} {ao bo : Option Addr} {len cap n c : Nat} {l fs : List Int} (hA : IArg w ao len cap l) (hF : IArg w bo n c fs) (hok : ptrsOk l = true) (hn : needP l ≤ n) (hE : freshErr fs (needP l) l = 0) (hw : writesP l fs = []) :
    Calls Tryz.prog 80 #[.int .i64 1, .slice ao len cap, .slice bo n c] w (PlanNone w l fs) := by
  have HP : Hid (∀ W, Below w.heap.size w W → Calls Tryz.prog 141 #[.slice ao len cap, .slice bo n c] W fun e w' => ∃ ro rc, e = .returned (.tuple #[nodeV 1 (l.getD 0 0) (l.getD 1 0) (l.getD 2 0) (l.getD 3 0) (singleP l fs) (doubleP l fs), .slice ro 0 rc, .int .i64 0]) ∧ Below W.heap.size W w') := Lib.hid (fun W hW => by
    refine (PlanOk_any ⟨hA.later hW, hF.later hW, hok⟩ hn hE).mono ?_
    rintro e w' ⟨v, rfl, hv, hb⟩
    rw [hw] at hv
    obtain ⟨xs, ho, _⟩ := hv
    obtain ⟨ro, rc, rfl⟩ := owns_shape_r ho
    exact ⟨ro, rc, rfl, hb⟩)
  clear hA hF hok hn hE hw
  unfold PlanNone
  generalize l.getD 0 0 = d0 at *
  generalize l.getD 1 0 = d1 at *
  generalize l.getD 2 0 = d2 at *
  generalize l.getD 3 0 = d3 at *
  generalize singleP l fs = s at *
  generalize doubleP l fs = t at *
  unfold nodeV nodeCs at *
  have HB1 : Hid (Below w.heap.size w (w.alloc (.cells nodeZ 49))) := Lib.hid ((Below.refl _ _).alloc (Nat.le_refl _) _)
  unfold nodeZ at HB1
  go_enter Tryz.func80, Tryz.ntmps80
  go_wp2_with (first
    | (go_at_call 141; refine (HP.out _ HB1.out).mono ?_; rintro e w2 ⟨ro, rc, rfl, hb2⟩; have HB2 := Lib.hid hb2; clear hb2)
    | (refine wpList_store_mid rfl 49 (.tmp 6) (.tmp 16) rfl w.heap.size 0 #[.int .i64 0, .int .i64 1, .int .i64 0, .int .i64 0, .int .i64 d0, .int .i64 d1, .int .i64 d2, .int .i64 d3, .int .i64 s, .int .i64 t, .slice none 0 0, .int .i64 0] rfl rfl (there_newC HB2.out rfl) (by kernel_rfl) (one_node ..) ?_
       have HT2 := Lib.hid (there_newC HB2.out rfl : w2.there w.heap.size 0 12)
       generalize hW3 : w2.setCells w.heap.size 0 (#[.int .i64 0, .int .i64 1, .int .i64 0, .int .i64 0, .int .i64 d0, .int .i64 d1, .int .i64 d2, .int .i64 d3, .int .i64 s, .int .i64 t, .slice none 0 0, .int .i64 0] : Array Value).toList = W3
       have HR3 : Hid (W3.rangeAt w.heap.size 0 [.int .i64 0, .int .i64 1, .int .i64 0, .int .i64 0, .int .i64 d0, .int .i64 d1, .int .i64 d2, .int .i64 d3, .int .i64 s, .int .i64 t, .slice none 0 0, .int .i64 0]) := Lib.hid (by rw [← hW3]; exact World.rangeAt_setCells_same _ _ _ _ HT2.out)
       have HT3 : Hid (W3.there w.heap.size 0 12) := Lib.hid (by rw [← hW3]; exact World.there_setCells HT2.out _ _ _)
       have HB3 : Hid (Below w.heap.size w W3) := Lib.hid (by rw [← hW3]; exact below_cells _ (Nat.le_refl _) _ _ _ (below_new HB2.out))
       clear hW3)
    | (refine wpList_load_mid rfl 49 (.tmp 6) rfl w.heap.size 0 rfl [.int .i64 0, .int .i64 1, .int .i64 0, .int .i64 0, .int .i64 d0, .int .i64 d1, .int .i64 d2, .int .i64 d3, .int .i64 s, .int .i64 t, .slice none 0 0, .int .i64 0] _ HR3.out Tryz.underlying49 rfl (by kernel_rfl) ?_)
    | (go_at_call 112; refine (mustN_any ⟨0, 1, 0, 0, d0, d1, d2, d3, s, t, [], 0⟩ none 0 0 _).mono ?_; rintro e w4 ⟨rfl, hb⟩; have HB4 := Lib.hid hb; clear hb; unfold PNode.val; dsimp only)
    | (refine wpList_store_mid rfl 49 (.tmp 6) (.tmp 34) rfl w.heap.size 0 #[.int .i64 0, .int .i64 1, .int .i64 0, .int .i64 0, .int .i64 d0, .int .i64 d1, .int .i64 d2, .int .i64 d3, .int .i64 s, .int .i64 t, .slice none 0 0, .int .i64 0] rfl rfl (there_laterT HB4.out HT3.out (by have := World.block_lt_of_cell? _ _ (HR3.out 0 _ rfl); exact this)) (by kernel_rfl) (one_node ..) ?_))
  have hlt : w.heap.size < W3.heap.size := World.block_lt_of_cell? _ _ (HR3.out 0 _ rfl)
  refine bodyPost_ret (results_2c rfl _ rfl _ _ (load_node (n := ⟨0, 1, 0, 0, d0, d1, d2, d3, s, t, [], 0⟩) (World.rangeAt_setCells_same _ _ _ _ (there_laterT HB4.out HT3.out hlt)))) rfl ⟨ro, rc, rfl, below_cells _ (Nat.le_refl _) _ _ _ (HB3.out.trans (HB4.out.mono HB3.out.size))⟩
end Go.Proofs.YthklefelkdhblaaGreatDoor


namespace Go.Proofs.YthklefelkdhblaaGreatDoor
open Go.RowKit
set_option linter.unusedVariables false
set_option linter.unusedSimpArgs false

def z64 : List Int := List.replicate 64 0
def rootN (f : Int) : PNode := { noNode with k := 2, f := f, l := 1 }
/-- All nodes ahead of n are Free. -/
def freeNodes (B : List (List Int)) : Nat → List (List Int)
  | 0 => B
  | n + 1 => withNode (freeNodes B n) n noNode
/-- An empty volume's blocks. -/
def emptyP (size : Nat) (f : Int) : List (List Int) :=
  withNode (freeNodes (withFlags ((withSuper (List.replicate size z64) ⟨size, f, 0, 0, 0⟩).set 1 (headBlock ⟨0, 1⟩)) (markP (List.replicate 60 0) true [(0, 59)])) 32) 0 (rootN f)

theorem withNode_length (B : List (List Int)) (n : Nat) (x : PNode) : (withNode B n x).length = B.length := by unfold withNode; rw [List.length_set]
theorem withFlags_length (B : List (List Int)) (f : List Int) : (withFlags B f).length = B.length := by unfold withFlags; rw [List.length_set]
theorem withSuper_length (B : List (List Int)) (s : PSup) : (withSuper B s).length = B.length := by unfold withSuper; rw [List.length_set]
theorem infoB : (Tryz.prog.info? 97).map (fun i => (i.zero, i.size, i.bytes)) = some (some (.agg zeroB), 64, 64) := by kernel_rfl
theorem run_make_blks (w : World) (n : Nat) (hn : n ≤ 480) : (Instr.makeSlice 76 (.int .i64 (n : Int)) (.int .i64 (n : Int))).run Tryz.prog w =
    .ok (.slice (some ⟨w.heap.size, 0, none⟩) n n) (w.alloc (.cells (madeCells zeroB (n * 64)) 97)) := by
  obtain ⟨i0, hi, hz0, hz1, hz2⟩ := info_parts infoB
  have h := run_make (P := Tryz.prog) w 76 97 i0 (.agg zeroB) Tryz.underlying76 hi hz0 .i64 .i64 (n : Int) (n : Int) (by omega) (Int.le_refl _) (by rw [hz2]; omega) (by omega)
  rw [hz1] at h
  simpa [Value.cells] using h

theorem repl0 (n r : Nat) : (List.replicate n (0 : Int)).getD r 0 = 0 := by
  rw [List.getD_eq_getElem?_getD, List.getElem?_replicate]
  split <;> rfl
theorem zeros_all (n : Nat) : All64 (List.replicate n z64) := fun c hc => by
  rw [List.eq_of_mem_replicate hc]
  exact ⟨by unfold z64; simp, fun z hz => by unfold z64 at hz; rw [List.eq_of_mem_replicate hz]; decide⟩
theorem made_rw (w : World) (n : Nat) : Rw (w.alloc (.cells (madeCells zeroB (n * 64)) 97)) w.heap.size (List.replicate n z64) := by
  have h64 : zeroB.size = 64 := by decide
  refine ⟨zeros_all n, fun j hj => ?_, fun j => by rw [World.frozen?_alloc_mark]; simp⟩
  rw [flatten_len (zeros_all n), List.length_replicate] at hj
  rw [World.cell?_alloc_new]
  obtain ⟨q, r, h6, rfl⟩ : ∃ q r, r < 64 ∧ j = q * 64 + r := ⟨j / 64, j % 64, by omega, by omega⟩
  rw [flatten_at (zeros_all n) q r h6]
  have e1 : (List.replicate n z64).getD q [] = z64 := by simp [List.getD, List.getElem?_replicate, show q < n by omega]
  have e2 : z64.getD r 0 = 0 := repl0 64 r
  have e : (q * 64 + r) % 64 = r := by omega
  rw [e1, e2]
  unfold madeCells
  rw [Array.getElem?_map, Array.getElem?_range, if_pos hj]
  simp only [Option.map_some, h64, e]
  rw [getElem!_pos zeroB r (by rw [h64]; exact h6)]
  have h3 : zeroB[r]? = some (.int .u8 0) := by
    unfold zeroB
    rw [List.getElem?_toArray, bys_at (by rw [List.length_replicate]; exact h6), repl0]
  rw [Array.getElem?_eq_getElem (by rw [h64]; exact h6)] at h3
  exact h3

/-- The state that Make fills. -/
def StI (base : Nat) (w0 : World) (p g n : Nat) (L : List (List Int)) (W : World) : Prop :=
  W.cell? ⟨p, 0, none⟩ = some (.slice (some ⟨g, 0, none⟩) n n) ∧ Rw W g L ∧ L.length = n ∧ p ≠ g ∧ base ≤ g ∧ Below base w0 W
theorem StI.step {base : Nat} {w0 W W' : World} {p g n : Nat} {L L' : List (List Int)} (h : StI base w0 p g n L W) (hb : base ≤ W.heap.size) (hR : Rw W' g L') (hl : L'.length = L.length) (hG : Grew (fun k => k = g) (fun k => k = g) W W') : StI base w0 p g n L' W' := by
  obtain ⟨h1, h2, h3, h4, h5, h6⟩ := h
  refine ⟨?_, hR, by rw [hl, h3], h4, h5, hG.below h6 hb (fun k e => by omega)⟩
  rw [cell_of_heap (p := ⟨p, 0, none⟩) (hG.block (World.block_lt_of_cell? _ _ h1) h4)]
  exact h1
theorem StI.later {base : Nat} {w0 W W' : World} {p g n : Nat} {L : List (List Int)} (h : StI base w0 p g n L W) (h0 : 0 < n) (hb : Below W.heap.size W W') (hs : base ≤ W.heap.size) : StI base w0 p g n L W' := by
  obtain ⟨h1, h2, h3, h4, h5, h6⟩ := h
  exact ⟨cell_later hb h1, h2.later (by omega) hb, h3, h4, h5, h6.trans (hb.mono hs)⟩

def Byt (l : List Int) : Prop := ∀ z ∈ l, 0 ≤ z ∧ z ≤ 255
theorem Byt.append {a b : List Int} (h : Byt a) (k : Byt b) : Byt (a ++ b) := fun z hz => by
  rcases List.mem_append.1 hz with hz | hz
  · exact h z hz
  · exact k z hz
theorem byt_le (n : Int) (k : Nat) : Byt (leB n k) := leB_bytes n k
theorem Byt.pad {k : Nat} {l : List Int} (h : Byt l) : Byt (pad k l) := h.append (fun z hz => by rw [List.eq_of_mem_replicate hz]; decide)
theorem byt_ex (l : List PX) : Byt (exB l) := fun z hz => by
  unfold exB at hz
  obtain ⟨x, _, hz⟩ := List.mem_flatMap.1 hz
  exact (((byt_le _ _).append (byt_le _ _)).append (byt_le _ _)) z hz
theorem node32_byt (n : PNode) : Byt (node32 n) := by
  have h1 : Byt (nodeH n) := (((((byt_le _ _).append (byt_le _ _)).append (byt_le _ _))).append (byt_le _ _))
  have h2 : Byt (nodeP n) := ((((((byt_le _ _).append (byt_le _ _)).append (byt_le _ _))).append (byt_le _ _)).append (byt_le _ _)).append (byt_le _ _)
  unfold node32
  refine Byt.append ?_ (byt_le _ _)
  unfold node28
  refine Byt.pad ?_
  split
  · exact ((h1.append (byt_ex _)).pad).append (byt_le _ _)
  · exact h1.append h2
theorem node32_len {n : PNode} (h : n.x.length ≤ 3) : (node32 n).length = 32 := node32_length n (node28_length h)

theorem noNode_ok : noNode.sound = true ∧ noNode.small ∧ noNode.x.length ≤ 3 := ⟨by decide, by unfold PNode.small noNode u16; simp, by decide⟩
theorem root_ok {f : Int} (h : 1 ≤ f ∧ f ≤ 2) : (rootN f).sound = true ∧ (rootN f).small ∧ (rootN f).x.length ≤ 3 := by
  obtain rfl | rfl : f = 1 ∨ f = 2 := by omega
  · exact ⟨by decide, by unfold PNode.small rootN noNode u16; simp, by decide⟩
  · exact ⟨by decide, by unfold PNode.small rootN noNode u16; simp, by decide⟩

theorem sti_super {base : Nat} {w0 W : World} {p g n : Nat} {L : List (List Int)} (s : PSup) (hs : s.sound = true) (h : StI base w0 p g n L W) (hb : base ≤ W.heap.size) (h0 : 0 < n) :
    Calls Tryz.prog 35 #[.pointer (some ⟨p, 0, none⟩), s.val] W fun e w' => e = .returned (.tuple #[]) ∧ StI base w0 p g n (withSuper L s) w' :=
  (setSuper_any s hs h.1 h.2.1 h.2.2.1 h0).mono fun e w' ⟨he, hR, hG⟩ => ⟨he, h.step hb hR (withSuper_length _ _) hG⟩
theorem sti_put {base : Nat} {w0 W : World} {p g n i c2 : Nat} {L : List (List Int)} {ao : Option Addr} {zs : List Int} (h : StI base w0 p g n L W) (hb : base ≤ W.heap.size) (hi : i < n) (hA : Arg W ao 64 c2 zs) :
    Calls Tryz.prog 36 #[.pointer (some ⟨p, 0, none⟩), .int .i64 i, .slice ao 64 c2] W fun e w' => e = .returned (.tuple #[]) ∧ StI base w0 p g n (L.set i zs) w' :=
  (put_any h.1 h.2.1 h.2.2.1 hi hA).mono fun e w' ⟨he, hR, hG⟩ => ⟨he, h.step hb hR (List.length_set ..) hG⟩
theorem sti_flags {base : Nat} {w0 W : World} {p g n c2 : Nat} {L : List (List Int)} {ao : Option Addr} {f : List Int} (h : StI base w0 p g n L W) (hb : base ≤ W.heap.size) (hi : 2 < n) (hA : Arg W ao 60 c2 f) :
    Calls Tryz.prog 39 #[.pointer (some ⟨p, 0, none⟩), .slice ao 60 c2] W fun e w' => e = .returned (.tuple #[]) ∧ StI base w0 p g n (withFlags L f) w' :=
  (setFlags_any h.1 h.2.1 h.2.2.1 hi hA).mono fun e w' ⟨he, hR, hG⟩ => ⟨he, h.step hb hR (withFlags_length _ _) hG⟩
theorem sti_node {base : Nat} {w0 W : World} {p g n : Nat} {L : List (List Int)} (k : Nat) (x : PNode) {xo : Option Addr} {m xc : Nat} (hs : x.sound = true ∧ x.small ∧ x.x.length ≤ 3) (hX : XIs W xo m x.x) (hcap : m ≤ xc ∧ xc ≤ 9223372036854775807) (h : StI base w0 p g n L W) (hb : base ≤ W.heap.size) (hi : 18 < n) (hk : k < 32) :
    Calls Tryz.prog 44 #[.pointer (some ⟨p, 0, none⟩), .int .i64 k, x.val (.slice xo m xc)] W fun e w' => e = .returned (.tuple #[]) ∧ StI base w0 p g n (withNode L k x) w' :=
  (setNode_any k x hs.1 hs.2.1 hX hcap ⟨node32_len hs.2.2, node32_byt x⟩ h.1 h.2.1 h.2.2.1 hi hk).mono fun e w' ⟨he, hR, hG⟩ => ⟨he, h.step hb hR (withNode_length _ _ _) hG⟩
theorem StI.size {base : Nat} {w0 W : World} {p g n : Nat} {L : List (List Int)} (h : StI base w0 p g n L W) : w0.heap.size ≤ W.heap.size := h.2.2.2.2.2.size

set_option maxRecDepth 100000 in
set_option maxHeartbeats 3200000 in
theorem makes_ok (n : Nat) (f : Int) (w : World) (h0 : 64 ≤ n) (h1 : n ≤ 480) (hf : 1 ≤ f ∧ f ≤ 2) :
    Calls Tryz.prog 9 #[.int .i64 n, .int .i64 f] w fun e w' => ∃ a F', e = .returned (.tuple #[.pointer (some a), .int .i64 0]) ∧ ImgI w' a F' ⟨emptyP n f, emptyP n f, emptyP n f⟩ ∧ (∀ k, F' k → w.heap.size ≤ k) ∧ Below w.heap.size w w' := by
  have c1 := iwithin_any n 64 480 w
  have c2 := iwithin_any f 1 2 w
  rw [show inI n 64 480 = true from decide_eq_true (by omega)] at c1
  rw [show inI f 1 2 = true from decide_eq_true hf] at c2
  have hmk := run_make_blks w n h1
  have HS : Hid (PSup.sound ⟨(n : Int), f, 0, 0, 0⟩ = true) := Lib.hid (decide_eq_true (by dsimp only; omega))
  have HF := Lib.hid hf
  have HRW := Lib.hid (made_rw w n)
  have HB1 : Hid (Below w.heap.size w (w.alloc (.cells (madeCells zeroB (n * 64)) 97))) := Lib.hid ((Below.refl _ _).alloc (Nat.le_refl _) _)
  have HSZ : Hid ((w.alloc (.cells (madeCells zeroB (n * 64)) 97)).heap.size = w.heap.size + 1) := Lib.hid (by simp)
  generalize hw1 : w.alloc (.cells (madeCells zeroB (n * 64)) 97) = w1 at *
  clear hw1
  have HST : Hid (StI w.heap.size w w1.heap.size w.heap.size n (List.replicate n z64) (w1.alloc (.cells #[.slice (some ⟨w.heap.size, 0, none⟩) n n, .slice none 0 0] 78))) := Lib.hid
    ⟨by simp, HRW.out.later (by simp; omega) ((Below.refl _ _).alloc (Nat.le_refl _) _), by simp, by have := HSZ.out; omega, Nat.le_refl _, HB1.out.alloc (by have := HSZ.out; omega) _⟩
  generalize hp : w1.heap.size = p at *
  have HHD : Hid (∀ W, Calls Tryz.prog 38 #[.agg #[.int .i64 0, .int .i64 1]] W (Handed W.heap.size W (headBlock ⟨0, 1⟩) 0)) := Lib.hid (fun W => by
    have h := sput_any ⟨0, 1⟩ W (by unfold PHead.in64 i64w; simp)
    unfold headOut headErr at h
    rw [show PHead.sound ⟨0, 1⟩ = true from by decide, if_pos rfl, if_pos rfl] at h
    exact h)
  have HH64 : Hid ((headBlock ⟨0, 1⟩).length = 64) := Lib.hid (sealAny_length _ _)
  have HH0 : Hid (headBlock ⟨0, 1⟩ ≠ []) := Lib.hid (fun h => by have := sealAny_length sumS (headB ⟨0, 1⟩); rw [show sealOf sumS (headB ⟨0, 1⟩) = [] from h] at this; cases this)
  have HM0 : Hid (markP (List.replicate 60 0) true [(0, 59)] ≠ []) := Lib.hid (fun h => by have := markP_length (List.replicate 60 0) true [(0, 59)]; rw [h] at this; cases this)
  have HMK : Hid (∀ (W : World) (g o k : Nat), Arg W (some ⟨g, o, none⟩) 60 k (List.replicate 60 0) → Calls Tryz.prog 40 #[.slice (some ⟨g, o, none⟩) 60 k, .bool true, .slice (some ⟨W.heap.size, 0, none⟩) 1 1] (W.alloc (.cells #[.complex .f64 (floatOfInt .f64 0) (floatOfInt .f64 59)] 88)) (Handed (W.alloc (.cells #[.complex .f64 (floatOfInt .f64 0) (floatOfInt .f64 59)] 88)).heap.size (W.alloc (.cells #[.complex .f64 (floatOfInt .f64 0) (floatOfInt .f64 59)] 88)) (markP (List.replicate 60 0) true [(0, 59)]) 0)) := Lib.hid (fun W g o k hA =>
    markAll_any (some ⟨g, o, none⟩) k _ true (some ⟨W.heap.size, 0, none⟩) 1 1 [.complex .f64 (floatOfInt .f64 0) (floatOfInt .f64 59)] [(0, 59)] _ (hA.later ((Below.refl _ _).alloc (Nat.le_refl _) _)) ⟨rfl, by decide, Or.inr ⟨W.heap.size, 0, rfl, fun j v hj => by
      match j, hj with
      | 0, hj => cases Option.some.inj hj; simp
      | j + 1, hj => simp at hj⟩⟩ ⟨rfl, fun j v q hj hq => by
      match j, hj, hq with
      | 0, hj, hq => cases Option.some.inj hj; cases Option.some.inj hq; exact ⟨_, _, rfl, fi_ofInt _ (by decide), fi_ofInt _ (by decide)⟩
      | j + 1, hj, hq => simp at hj⟩ (fun r hr => by rw [List.mem_singleton.1 hr]; decide) (by decide))
  go_enter Tryz.func9, Tryz.ntmps9
  go_wp2_with (first
    | (go_at_call 34; first | ((with_reducible refine c1.mono ?_); rintro e w' ⟨rfl, rfl⟩) | ((with_reducible refine c2.mono ?_); rintro e w' ⟨rfl, rfl⟩))
    | (go_at_call 35; refine (sti_super ⟨(n : Int), f, 0, 0, 0⟩ HS.out HST.out HST.out.size (by omega)).mono ?_; rintro e w2 ⟨rfl, hst⟩; have HST2 := Lib.hid hst; clear hst)
    | (go_at_call 38; refine (HHD.out w2).mono ?_; rintro e w3 ⟨v3, rfl, hf3, hb3⟩; obtain ⟨g3, o3, k3, rfl, hA3, _⟩ := fresh_slice hf3 HH0.out; rw [HH64.out] at hA3 ⊢; have HA3 := Lib.hid hA3; have HST3 := Lib.hid (HST2.out.later (by omega) hb3 HST2.out.size); clear hf3 hb3 hA3)
    | (go_at_call 37; refine (mustB_any _ _).mono ?_; rintro e w' ⟨rfl, rfl⟩)
    | (go_at_call 36; refine (sti_put (i := 1) HST3.out HST3.out.size (by omega) HA3.out).mono ?_; rintro e w4 ⟨rfl, hst⟩; have HST4 := Lib.hid hst; clear hst)
    | (go_at_call 41; refine (xNew_any w4).mono ?_; rintro e w5 ⟨v5, rfl, hf5, hb5⟩; obtain ⟨g5, o5, k5, rfl, hA5, _⟩ := fresh_slice hf5 (by simp); rw [List.length_replicate] at hA5 ⊢; have HA5 := Lib.hid hA5; have HST5 := Lib.hid (HST4.out.later (by omega) hb5 HST4.out.size); clear hf5 hb5 hA5)
    | (go_at_call 43; refine (OfF_any 0 59 w5 (by decide) (by decide)).mono ?_; rintro e w' ⟨rfl, rfl⟩)
    | (go_at_call 42; refine (mustC_any _ _).mono ?_; rintro e w' ⟨rfl, rfl⟩)
    | (go_at_call 40; refine (HMK.out w5 _ _ _ HA5.out).mono ?_; rintro e w6 ⟨v6, rfl, hf6, hb6⟩; obtain ⟨g6, o6, k6, rfl, hA6, _⟩ := fresh_slice hf6 HM0.out; rw [markP_length] at hA6 ⊢; have HA6 := Lib.hid hA6; have HST6 := Lib.hid (HST5.out.later (by omega) (((Below.refl w5.heap.size w5).alloc (Nat.le_refl _) _).trans (hb6.mono (by simp))) HST5.out.size); clear hf6 hb6 hA6)
    | (go_at_call 39; refine (sti_flags HST6.out HST6.out.size (by omega) HA6.out).mono ?_; rintro e w7 ⟨rfl, hst⟩; have HST7 := Lib.hid hst; clear hst))
  obtain ⟨L3, hL3⟩ : ∃ L3, withFlags ((withSuper (List.replicate n z64) ⟨(n : Int), f, 0, 0, 0⟩).set 1 (headBlock ⟨0, 1⟩)) (markP (List.replicate 60 0) true [(0, 59)]) = L3 := ⟨_, rfl⟩
  rw [hL3] at HST7
  have HE : Hid (emptyP n f = withNode (freeNodes L3 32) 0 (rootN f)) := Lib.hid (by unfold emptyP; rw [hL3])
  clear hL3 HST HST2 HST3 HST4 HST5 HST6 HA3 HA5 HA6 HMK HHD HH64 HH0 HM0 c1 c2 hmk HRW HB1
  have HJ0 : Hid (StI w.heap.size w p w.heap.size n (freeNodes L3 0) w7) := HST7
  go_loopw [40] (fun kv wr => ∃ i : Nat, i ≤ 32 ∧ kv = .int .i64 i ∧ Hid (StI w.heap.size w p w.heap.size n (freeNodes L3 i) wr)) (fun kv _ => 32 - (intOf kv).toNat)
  case atStart => exact ⟨0, Nat.zero_le _, rfl, HJ0⟩
  case round =>
    obtain ⟨i, hi, rfl, HJ⟩ := hrel
    by_cases hlt : i < 32
    · have i2 : (i : Int) < 32 := by omega
      have cN := sti_node (n := n) i noNode noNode_ok (xc := 0) (XIs.nil wr) ⟨Nat.le_refl _, by decide⟩ HJ.out HJ.out.size (by omega) hlt
      clear HJ HJ0 HST7
      go_wp2_with (go_at_call 44; refine cN.mono ?_; rintro e w8 ⟨rfl, hst⟩; have HJ8 : Hid (StI w.heap.size w p w.heap.size n (freeNodes L3 (i + 1)) w8) := Lib.hid hst; clear hst)
      go_roundw
      case rel => exact ⟨i + 1, by omega, by go_num, HJ8⟩
      case measure => simp [intOf]; omega
    · have hit : i = 32 := by omega
      subst hit
      have cN := sti_node (n := n) 0 (rootN f) (root_ok HF.out) (xc := 0) (XIs.nil wr) ⟨Nat.le_refl _, by decide⟩ HJ.out HJ.out.size (by omega) (by decide)
      clear HJ HJ0 HST7
      go_wp2_with (go_at_call 44; refine cN.mono ?_; rintro e w8 ⟨rfl, hst⟩; have q0 := hst.1; have HJ8 := Lib.hid hst; clear hst)
      refine (iof_any HJ8.out.2.1 HJ8.out.2.2.1 (by omega) h1 (Nat.le_refl _)).mono ?_
      rintro e w9 ⟨a, F', rfl, hI, hF, hb⟩
      have H9 := Lib.hid (And.intro hI (And.intro hF hb))
      clear hI hF hb q0
      go_wp2_with fail
      go_ret2
      have hb8 := HJ8.out.2.2.2.2.2
      refine ⟨a, F', rfl, by rw [HE.out]; exact H9.out.1, fun k hk => ?_, hb8.trans (H9.out.2.2.mono hb8.size)⟩
      have := hb8.size
      rcases H9.out.2.1 k hk with e | e <;> omega
end Go.Proofs.YthklefelkdhblaaGreatDoor

