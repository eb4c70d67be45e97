/-
  Proved here: what the document's own GetExtent (drydockref09) answers; and what its Decode begins with: the variable that is read into.
  The conditions stand at each theorem.
-/
import Derived.Test.YtojfhhmjoledjaaNREnc
import Derived.Test.YtojfhhmjoledjaaRef04Num
import Derived.Deep.RegionHeld
import Derived.Test.YtojfhhmjoledjaaNDec
import Derived.Deep.Cut
import Derived.Deep.RegionLaw
namespace Go.Proofs.Ytojfhhmjoledjaa
open Go.RowKit
set_option linter.unusedVariables false
set_option linter.unusedSimpArgs false

theorem num09 {w : World} {ao : Option Addr} {len cap : Nat} {zs : List Int} {pz kz : Int} (hB : Bts w ao len zs) (hk : kz.toNat ≤ 4) (hpk : pz.toNat + kz.toNat ≤ len) (h0 : 0 ≤ pz ∧ 0 ≤ kz) :
    Calls Try.prog 11 #[.slice ao len cap, .int .i64 pz, .int .i64 kz] w fun e w' => e = .returned (.int .i64 (leN zs pz.toNat kz.toNat)) ∧ w' = w := by
  obtain ⟨p, rfl⟩ := Int.eq_ofNat_of_zero_le h0.1
  obtain ⟨k, rfl⟩ := Int.eq_ofNat_of_zero_le h0.2
  exact (Num04_any ao len cap zs p k w hB hk hpk).mono (fun e w' h => ⟨h.1, h.2.symm⟩)

set_option maxHeartbeats 1600000 in
theorem GetExtent_any (g off cap : Nat) (zs : List Int) (w : World) (hB : Bts w (some ⟨g, off, none⟩) 4 zs) :
    Calls Try.prog 12 #[.slice (some ⟨g, off, none⟩) (4 : Nat) cap] w fun e w' => ∃ p q, e = .returned (.agg #[.int .i64 (zs.getD 0 0), .complex .f64 p q]) ∧ FI p (leN zs 1 2) ∧ FI q (zs.getD 3 0) ∧ Below w.heap.size w w' := by
  have SC := st_cx
  have HB := Lib.hid hB
  obtain ⟨b, o, he, hc⟩ := hB.2.2.2.resolve_left (by decide)
  simp only [Option.some.injEq, Addr.mk.injEq, and_true] at he
  obtain ⟨rfl, rfl⟩ := he
  have f0 := hc 0 (by decide)
  have f3 := hc 3 (by decide)
  rw [Nat.add_zero] at f0
  have z0 := hB.2.2.1 _ (getD_mem (l := zs) (k := 0) (by rw [hB.1]; decide))
  have z3 := hB.2.2.1 _ (getD_mem (l := zs) (k := 3) (by rw [hB.1]; decide))
  have hn := leN_bounds hB.2.2.1 1 2 (by rw [hB.1]; decide)
  have e2 : (256 : Int) ^ 2 = 65536 := rfl
  rw [e2] at hn
  have HK : Hid (∀ W, Below w.heap.size w W → W.cell? ⟨g, off, none⟩ = some (.int .u8 (zs.getD 0 0)) ∧ W.cell? ⟨g, off + 3, none⟩ = some (.int .u8 (zs.getD 3 0)) ∧ Hid (Below w.heap.size w W)) := Lib.hid (fun W h => ⟨cell_later h f0, cell_later h f3, Lib.hid h⟩)
  have HF1 : Hid (FI (floatOfInt .f64 (leN zs 1 2)) (leN zs 1 2)) := Lib.hid (fi_ofInt _ (by omega))
  have HF2 : Hid (FI (floatOfInt .f64 (zs.getD 3 0)) (zs.getD 3 0)) := Lib.hid (fi_ofInt _ (by omega))
  have B0 : Hid (Below w.heap.size w (w.alloc (.cells #[.int .i64 0, .complex .f64 0 0] 40)).drew) := Lib.hid ((Below.refl _ _).alloc (Nat.le_refl _) _).drew
  have B1 : Hid (∀ c : Array Value, Below w.heap.size w (w.alloc (.cells c 40)).drew) := Lib.hid (fun c => ((Below.refl _ _).alloc (Nat.le_refl _) _).drew)
  have hw0 : IntKind.i64.wrap (zs.getD 0 0) = zs.getD 0 0 := by rw [IntKind.wrap_i64]; omega
  have cN := fun W (hW : Below w.heap.size w W) => num09 (cap := cap) (zs := zs) (pz := 1) (kz := 2) (HB.out.later hW) (by decide) (by decide) (by decide)
  have CN := Lib.hid cN
  clear hB hc f0 f3 z0 z3 hn cN
  generalize zs.getD 0 0 = a at *
  generalize zs.getD 3 0 = c at *
  rw [show leN zs (Int.toNat 1) (Int.toNat 2) = leN zs 1 2 from rfl] at CN
  generalize leN zs 1 2 = f at *
  go_enter Try.func12, Try.ntmps12
  go_wp2_with fail
  go_region_held (fun W => W.cell? ⟨g, off, none⟩ = some (.int .u8 a) ∧ W.cell? ⟨g, off + 3, none⟩ = some (.int .u8 c) ∧ Hid (Below w.heap.size w W)) (first | exact HK.out _ B0.out | exact HK.out _ (B1.out _))
    (first | (go_at_call 11; refine (CN.out _ B0.out).mono ?_; rintro e w' ⟨rfl, rfl⟩))
  all_goals go_wp2_with fail
  all_goals
    refine bodyPost_ret (v := .agg #[.int .i64 a, .complex .f64 (floatOfInt .f64 f) (floatOfInt .f64 c)]) ?_ rfl ⟨_, _, rfl, HF1.out, HF2.out, B1.out _⟩
    rw [results_one9 rfl]
    go_simp
    try rfl

theorem cell_under {base : Nat} {w w' : World} {p : Addr} {v : Value} (hb : Below base w w') (h : w.cell? p = some v) (hp : p.block < base) : w'.cell? p = some v := by
  rw [← h]
  unfold World.cell?
  rw [hb.block p.block hp]

theorem frozen_under {base : Nat} {w w' : World} {g : Nat} (hb : Below base w w') (h : ∀ j, w.frozen? ⟨g, j, none⟩ = false) (hp : g < base) : ∀ j, w'.frozen? ⟨g, j, none⟩ = false := fun j => by
  rw [World.frozen?_of_block (w := w) (a := ⟨g, j, none⟩) (hb.block g hp)]; exact h j

/-- A node's variable: its numbers, and its list. -/
def NodeVar (w0 : World) (g : Nat) (V : Nat → Int) (sl : Value) (wr : World) : Prop :=
  Below w0.heap.size w0 wr ∧ (∀ o, o < 12 → o ≠ 10 → wr.cell? ⟨g, o, none⟩ = some (.int .i64 (V o))) ∧ wr.cell? ⟨g, 10, none⟩ = some sl ∧ ∀ j, wr.frozen? ⟨g, j, none⟩ = false

theorem NodeVar.lt {w0 wr : World} {g : Nat} {V : Nat → Int} {sl : Value} (h : NodeVar w0 g V sl wr) : g < wr.heap.size := World.block_lt_of_cell? _ _ h.2.2.1

theorem NodeVar.later {w0 wr wx : World} {g : Nat} {V : Nat → Int} {sl : Value} (h : NodeVar w0 g V sl wr) (hb : Below wr.heap.size wr wx) : NodeVar w0 g V sl wx :=
  ⟨h.1.trans (hb.mono h.1.size), fun o h1 h2 => cell_later hb (h.2.1 o h1 h2), cell_later hb h.2.2.1, fun j => by rw [hb.frozen (p := ⟨g, j, none⟩) h.lt]; exact h.2.2.2 j⟩

theorem NodeVar.under {w0 wr wx : World} {g base : Nat} {V : Nat → Int} {sl : Value} (h : NodeVar w0 g V sl wr) (hb : Below base wr wx) (hg : g < base) (h0 : w0.heap.size ≤ g) : NodeVar w0 g V sl wx :=
  ⟨h.1.trans (hb.mono (by omega)), fun o h1 h2 => cell_under hb (h.2.1 o h1 h2) hg, cell_under hb h.2.2.1 hg, frozen_under hb h.2.2.2 hg⟩

theorem NodeVar.setSl {w0 wr : World} {g : Nat} {V : Nat → Int} {sl sl' : Value} (h : NodeVar w0 g V sl wr) (hg : w0.heap.size ≤ g) : NodeVar w0 g V sl' (wr.setCell ⟨g, 10, none⟩ sl') :=
  ⟨h.1.setCell (p := ⟨g, 10, none⟩) hg _, fun o h1 h2 => by rw [World.cell?_setCell_other (h := by intro e'; exact h2 (by simpa using (congrArg Addr.off e').symm))]; exact h.2.1 o h1 h2, World.cell?_setCell_same wr _ _ h.2.2.1, fun j => by simpa using h.2.2.2 j⟩

theorem NodeVar.set {w0 wr : World} {g k : Nat} {V : Nat → Int} {sl : Value} (h : NodeVar w0 g V sl wr) (hg : w0.heap.size ≤ g) (hk : k < 12) (hk10 : k ≠ 10) (x : Int) : NodeVar w0 g (fun o => if o = k then x else V o) sl (wr.setCell ⟨g, k, none⟩ (.int .i64 x)) := by
  refine ⟨h.1.setCell (p := ⟨g, k, none⟩) hg _, fun o ho hne => ?_, ?_, fun j => by simpa using h.2.2.2 j⟩
  · show (wr.setCell ⟨g, k, none⟩ (.int .i64 x)).cell? ⟨g, o, none⟩ = some (.int .i64 (if o = k then x else V o))
    by_cases e : o = k
    · subst e
      rw [if_pos rfl]
      exact World.cell?_setCell_same wr _ _ (h.2.1 o ho hne)
    · rw [if_neg e, World.cell?_setCell_other (h := by intro e'; exact e (by simpa using (congrArg Addr.off e').symm))]
      exact h.2.1 o ho hne
  · rw [World.cell?_setCell_other (h := by intro e'; exact hk10 (by simpa using congrArg Addr.off e'))]
    exact h.2.2.1

theorem NodeVar.drew {w0 wr : World} {g : Nat} {V : Nat → Int} {sl : Value} (h : NodeVar w0 g V sl wr) : NodeVar w0 g V sl wr.drew := ⟨h.1.drew, fun o h1 h2 => h.2.1 o h1 h2, h.2.2.1, fun j => h.2.2.2 j⟩

theorem NodeVar.congr {w0 wr : World} {g : Nat} {V U : Nat → Int} {sl : Value} (h : NodeVar w0 g V sl wr) (he : ∀ o, o < 12 → o ≠ 10 → V o = U o) : NodeVar w0 g U sl wr :=
  ⟨h.1, fun o h1 h2 => by rw [h.2.1 o h1 h2, he o h1 h2], h.2.2⟩

def headV (a b c d : Int) (o : Nat) : Int := [a, b, c, d].getD o 0

theorem nodevar_new (w0 : World) (a b c d : Int) : NodeVar w0 w0.heap.size (headV a b c d) (.slice none 0 0) (w0.alloc (.cells #[.int .i64 a, .int .i64 b, .int .i64 c, .int .i64 d, .int .i64 0, .int .i64 0, .int .i64 0, .int .i64 0, .int .i64 0, .int .i64 0, .slice none 0 0, .int .i64 0] 26)) := by
  refine ⟨(Below.refl _ _).alloc (Nat.le_refl _) _, fun o ho hne => ?_, ?_, fun j => by rw [World.frozen?_alloc_mark]; simp⟩
  · rw [World.cell?_alloc_new]
    match o, ho, hne with
    | 0, _, _ | 1, _, _ | 2, _, _ | 3, _, _ | 4, _, _ | 5, _, _ | 6, _, _ | 7, _, _ | 8, _, _ | 9, _, _ | 11, _, _ => rfl
    | 10, _, h => exact absurd rfl h
    | o + 12, h, _ => exact absurd h (by omega)
  · rw [World.cell?_alloc_new]; rfl

theorem owns_setCell {w : World} {base n sz g k : Nat} {e : TypeId} {v u : Value} {xs : List Value} (h : w.ownsRow base e sz v n xs) (hg : g < base) : (w.setCell ⟨g, k, none⟩ u).ownsRow base e sz v n xs := by
  refine ⟨h.1, ?_⟩
  rcases h.2 with h2 | ⟨g', cap, cur, hv, hg', hh, rest⟩
  · exact Or.inl h2
  · refine Or.inr ⟨g', cap, cur, hv, hg', ?_, rest⟩
    rw [Below.heap_setCell _ _ _ _ (by show g' ≠ g; omega)]
    exact hh

/-- What is read of bytes that are as many as there should be, in the document's own way. -/
def rSlots (zs : List Int) : List PX := [⟨zs.getD 6 0, leN zs 7 2, zs.getD 9 0⟩, ⟨zs.getD 10 0, leN zs 11 2, zs.getD 13 0⟩, ⟨zs.getD 14 0, leN zs 15 2, zs.getD 17 0⟩]
def rFil (l : List PX) : List PX := l.filter fun x => !decide (x = noX)
def rNode (zs : List Int) : PNode :=
  if zs.getD 1 0 = 2 then ⟨zs.getD 0 0, 2, leN zs 2 2, leN zs 4 2, 0, 0, 0, 0, 0, 0, rFil (rSlots zs), leN zs 18 2⟩
  else ⟨zs.getD 0 0, zs.getD 1 0, leN zs 2 2, leN zs 4 2, leN zs 6 2, leN zs 8 2, leN zs 10 2, leN zs 12 2, leN zs 14 2, leN zs 16 2, [], 0⟩
def isNodeR (zs : List Int) : Bool := decide (zs.length = 32) && ((rNode zs).sound && decide (node32 (rNode zs) = zs))
def rdecN (zs : List Int) : PNode := if isNodeR zs = true then rNode zs else noNode
def rdecErr (zs : List Int) : Int := if isNodeR zs = true then 0 else 2

theorem sub_leN {zs : List Int} {i : Nat} (h : i + 4 ≤ zs.length) : ((zs.drop i).take 4).getD 0 0 = zs.getD i 0 ∧ leN ((zs.drop i).take 4) 1 2 = leN zs (i + 1) 2 ∧ ((zs.drop i).take 4).getD 3 0 = zs.getD (i + 3) 0 := by
  have e : ∀ j, j < 4 → ((zs.drop i).take 4).getD j 0 = zs.getD (i + j) 0 := fun j hj => by
    rw [take_getD _ _ _ hj, List.getD_eq_getElem?_getD, List.getElem?_drop, ← List.getD_eq_getElem?_getD]
  refine ⟨e 0 (by decide), leN_of_eq 2 (fun j hj => ?_), e 3 (by decide)⟩
  rw [e (1 + j) (by omega), show i + (1 + j) = i + 1 + j by omega]

theorem four_of {l : List Int} (h : l.length = 4) : l = [l.getD 0 0, l.getD 1 0, l.getD 2 0, l.getD 3 0] := by
  match l, h with
  | [a, b, c, d], _ => rfl

theorem sub_zero {zs : List Int} (hz : ∀ z ∈ zs, 0 ≤ z ∧ z ≤ 255) {i : Nat} (h : i + 4 ≤ zs.length) : decide ((zs.drop i).take 4 = [0, 0, 0, 0]) = decide ((⟨zs.getD i 0, leN zs (i + 1) 2, zs.getD (i + 3) 0⟩ : PX) = noX) := by
  have hl : ((zs.drop i).take 4).length = 4 := by rw [List.length_take, List.length_drop]; omega
  obtain ⟨e0, e1, e3⟩ := sub_leN h
  have hb : ∀ j, j < 4 → 0 ≤ ((zs.drop i).take 4).getD j 0 := fun j hj => (hz _ (List.mem_of_mem_drop (List.mem_of_mem_take (getD_mem (by omega))))).1
  have b1 := hb 1 (by decide)
  have b2 := hb 2 (by decide)
  rw [← e0, ← e1, ← e3]
  generalize (zs.drop i).take 4 = l at *
  have e : leN l 1 2 = l.getD 1 0 + l.getD 2 0 * 256 := by
    show 0 + l.getD (1 + 0) 0 * 256 ^ 0 + l.getD (1 + 1) 0 * 256 ^ 1 = _
    rw [Nat.add_zero, show 1 + 1 = 2 from rfl]
    omega
  rw [e, Bool.eq_iff_iff, decide_eq_true_iff, decide_eq_true_iff]
  constructor
  · intro h'
    rw [h']
    rfl
  · intro h'
    have h1 : l.getD 0 0 = 0 := congrArg PX.a h'
    have h2 : l.getD 1 0 + l.getD 2 0 * 256 = 0 := congrArg PX.f h'
    have h3 : l.getD 3 0 = 0 := congrArg PX.c h'
    rw [four_of hl, h1, h3, show l.getD 1 0 = 0 by omega, show l.getD 2 0 = 0 by omega]

theorem rfil_step {l : List PX} {i : Nat} {x : PX} (h : l[i]? = some x) : rFil (l.take (i + 1)) = if x = noX then rFil (l.take i) else rFil (l.take i) ++ [x] := by
  unfold rFil
  rw [take_at h, List.filter_append]
  by_cases e : x = noX
  · rw [if_pos e]; simp [e]
  · rw [if_neg e]; simp [e]

theorem rfil_length (l : List PX) : (rFil l).length ≤ l.length := List.length_filter_le _ _

end Go.Proofs.Ytojfhhmjoledjaa
