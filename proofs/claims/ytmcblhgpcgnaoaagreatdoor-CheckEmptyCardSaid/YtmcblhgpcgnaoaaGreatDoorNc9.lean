/-
  Proved here: what the document's own reckoning of sound runs (drydockref02: Parts; drydockref05: size, begin) answers. The conditions stand at each theorem. Proved here: what the landed code of package choose answers of one gap (count) and of two (its comparisons), and what run.Cut answers of a run. The conditions stand at each theorem. Proved here: plain facts on arrays: two parts exchanged, two neighbouring parts turned round, equals that keep their order, merging by turning parts round, and sorting in blocks. No conditions but those that each theorem names. Nothing of the program is read here. Said here: when bytes are a sealed block, in plain words. No conditions. Proved here: what the landed image's end, Super, Free, Data and SetData answer of a volume. The conditions stand at each theorem. Said here: maps of pointers in plain words: when pointers are sound, how many blocks their map needs, the map, and what blocks are as a map; that what was planned is read as it was. No conditions but those that each theorem names. Nothing of the program is read here. Proved here: what the landed tree's page says of itself (used): whether one of its numbers is not 0. The conditions stand at each theorem. Proved here: what the landed tree's chart answers: which pages are needed (needs). The conditions stand at each theorem. Proved here: where the landed tree's pointers stand in a chart (parts). The conditions stand at each theorem. Proved here: how the landed tree lays pointers into a chart (split), takes them out again (joined), and takes zeros at the end away (trimmed). The conditions stand at each theorem.
-/
import Derived.Test.YtmcblhgpcgnaoaaGreatDoorNc8
import Derived.Deep.RegionWith
import Derived.Test.YtmcblhgpcgnaoaaGreatDoorLays
import Derived.Shelf.SlicesE.DeleteFunc
import Derived.Sort.LotA
import Derived.Sort.LotD2
import Derived.Shelf.SlSortCmp.Insertion1
import Derived.BigRegion
import Derived.Deep.Cut
import Derived.Shelf.SlSortCmp.Whole1
import Derived.Test.YtmcblhgpcgnaoaaGreatDoorNc1
import Derived.Test.YtmcblhgpcgnaoaaGreatDoorNc0
import Derived.Deep.QuietTactic
import Derived.BigQuiet
import Derived.StillTailTactics
namespace Go.Proofs.YtmcblhgpcgnaoaaGreatDoor
open Go.RowKit

set_option maxHeartbeats 400000 in
theorem part01c_any (x : Nat) (n : Int) (w : World) (h : FI x n) (h0 : -1048576 ≤ n) (h1 : n ≤ 1048576) :
    Calls Tryz.prog 228 #[.float .f64 x] w fun e w' => e = .returned (.tuple #[.int .i64 n, .bool true]) ∧ w = w' := by
  have o1 := fi_ge h fi_neg20 h0
  have o2 := fi_le h fi_20 h1
  have o3 := fi_eq (fi_ofInt n (by omega)) h rfl
  have hv := fi_toInt .i64 h (by show -9223372036854775808 ≤ n; omega) (by show n ≤ 9223372036854775807; omega)
  have o4 : ∀ w, (convert 166 3 (.float .f64 x)).run Tryz.prog w = .ok (.int .i64 n) w := fun w => run_convert_float_int w 166 3 .f64 .i64 x n (by rw [Tryz.underlying166]; rfl) Tryz.underlying3 hv
  clear h hv
  go_enter Tryz.func228, Tryz.ntmps228
  go_wp2_with fail
  go_ret2
  exact ⟨rfl, rfl⟩

set_option maxHeartbeats 400000 in
theorem Of01c_any (x y : Nat) (a b : Int) (w : World) (hx : FI x a) (hy : FI y b) (ha : -1048576 ≤ a ∧ a ≤ 1048576) (hb : -1048576 ≤ b ∧ b ≤ 1048576) :
    Calls Tryz.prog 180 #[.complex .f64 x y] w (Tells w.heap.size w (.tuple #[.agg #[.int .i64 a, .int .i64 b], .bool true])) := by
  have c1 := fun w => part01c_any x a w hx ha.1 ha.2
  have c2 := fun w => part01c_any y b w hy hb.1 hb.2
  have C1 := Lib.hid c1
  have C2 := Lib.hid c2
  clear c1 c2 hx hy
  go_enter Tryz.func180, Tryz.ntmps180
  go_wp2_with (go_at_call 228; first | ((with_reducible refine (C1.out _).mono ?_); rintro e w' ⟨rfl, rfl⟩) | ((with_reducible refine (C2.out _).mono ?_); rintro e w' ⟨rfl, rfl⟩))
  exact bodyPost_ret (v := .tuple #[.agg #[.int .i64 a, .int .i64 b], .bool true]) (by simp [results, Tryz.results180, go_sem]) rfl ⟨rfl, (Below.refl _ _).alloc (Nat.le_refl _) _⟩

set_option maxHeartbeats 800000 in
theorem Parts02c_any (x y : Nat) (a b : Int) (w : World) (hx : FI x a) (hy : FI y b) (h0 : 0 ≤ a) (h1 : 1 ≤ b) (h2 : a + b ≤ 480) :
    Calls Tryz.prog 131 #[.complex .f64 x y] w (Tells w.heap.size w (.tuple #[.int .i64 a, .int .i64 b, .bool true])) := by
  have c := Of01c_any x y a b w hx hy (by omega) (by omega)
  have d1 : decide (0 ≤ a) = true := by simpa using h0
  have d2 : decide (1 ≤ b) = true := by simpa using h1
  have hw : IntKind.i64.wrap (a + b) = a + b := IntWalk.i64_in _ (by omega)
  clear hx hy
  go_enter Tryz.func131, Tryz.ntmps131
  go_wp2_with (go_at_call 180; refine c.mono ?_; rintro e w1 ⟨rfl, hb1⟩; have HB1 := Lib.hid hb1; clear hb1)
  go_quiet (fail)
  clear d1 d2 hw
  go_wp2_with fail
  go_ret3
  exact ⟨rfl, below_drewN (HB1.out.alloc HB1.out.size _) _⟩

/-! Which gap is chosen -/

end Go.Proofs.YtmcblhgpcgnaoaaGreatDoor



namespace Go.Proofs.YtmcblhgpcgnaoaaGreatDoor
open Go.RowKit

/-- A complex number that stands for a run of blocks, or 0: its two parts as floats' bits, and the numbers that they are. -/
def Gp : Type := { z : (Nat × Nat) × (Nat × Nat) // FI z.1.1 (z.2.1 : Int) ∧ FI z.1.2 (z.2.2 : Int) ∧ z.2.1 + z.2.2 ≤ 480 ∧ (1 ≤ z.2.2 ∨ z = ((0, 0), (0, 0))) }

def zeroG : Gp := ⟨((0, 0), (0, 0)), fi_zero, fi_zero, by decide, Or.inr rfl⟩
instance : Inhabited Gp := ⟨zeroG⟩
/-! ### 0 is no run -/

/-! ### One gap -/

/-! ### Two gaps -/

/-! ### A run in two parts -/

/-! ### All gaps -/

end Go.Proofs.YtmcblhgpcgnaoaaGreatDoor



namespace Go.Proofs.YtmcblhgpcgnaoaaGreatDoor
open Go.Sort (swp SWO PermIn SortedIn size_swp swp_left swp_right swp_other swp_permIn permIn_refl permIn_trans permIn_mono permIn_all insInner insOuter insertionSort insertionSort_holds)

section
variable {α : Type} [Inhabited α]

/-! ### Two parts exchanged -/

/-! ### Two neighbouring parts turned round -/

/-! ### Equals keep their order -/

variable {lt : α → α → Bool} {R : α → α → Prop}

/-! ### Merging -/

/-! ### Sorting in blocks -/

/-- Each block of bs that begins from lo on and below hi is sorted, as far as it lies below n. -/
def Blocks (lt : α → α → Bool) (bs lo hi n : Nat) (d : Array α) : Prop := ∀ k, lo ≤ k * bs → k * bs < hi → SortedIn lt (k * bs) (min (k * bs + bs) n) d

end

end Go.Proofs.YtmcblhgpcgnaoaaGreatDoor


namespace Go.Proofs.YtmcblhgpcgnaoaaGreatDoor
def sealedB (zs : List Int) : Bool := decide (zs.length = 64 ∧ sealOf sumS zs = zs)
end Go.Proofs.YtmcblhgpcgnaoaaGreatDoor


namespace Go.Proofs.YtmcblhgpcgnaoaaGreatDoor
open Go.RowKit
set_option linter.unusedVariables false
set_option linter.unusedSimpArgs false

/-- Are these a volume's blocks? -/
structure VolOk (B : List (List Int)) : Prop where
  n64 : 64 ≤ B.length ∧ B.length ≤ 480
  sup : isSup (B.getD 0 []) = true
  siz : (supAt B).a = (B.length : Int)
  head : isHead (B.getD 1 []) = true
  sld : sealedB (B.getD 2 []) = true
  nodes : ∀ n, n < 32 → isNode (halfAt B n) = true

theorem VolOk.super {B : List (List Int)} (h : VolOk B) : (supAt B).sound = true := by
  have hs := h.sup
  unfold isSup at hs
  have : supAt B = readSup (B.getD 0 []) := by unfold supAt getSup; rw [if_pos h.sup]
  rw [this]
  simp only [Bool.and_eq_true] at hs
  exact hs.2.1
theorem FreshI.grew {F F' : Nat → Prop} {w w' : World} {base : Nat} {v : Value} {zs : List Int} (h : FreshI w base v zs) (hG : Grew F F' w w') (hF : ∀ k, F k → k < base) : FreshI w' base v zs := by
  obtain ⟨ao, cap, rfl, ⟨⟨h1, h2, h3⟩, h4, h5, h6⟩, hf⟩ := h
  refine ⟨ao, cap, rfl, ⟨⟨h1, h2, ?_⟩, h4, h5, h6⟩, hf⟩
  rcases hf with rfl | ⟨g, off, rfl, hg⟩
  · exact Or.inl rfl
  · rcases h3 with h3 | ⟨b, o, e, hc⟩
    · exact Or.inl h3
    · cases e
      by_cases h0 : zs.length = 0
      · exact Or.inl h0
      · refine Or.inr ⟨g, off, rfl, fun j x hx => ?_⟩
        have hlt := World.block_lt_of_cell? _ _ (hc j x hx)
        rw [cell_of_heap (p := ⟨g, off + j, none⟩) (hG.block hlt (fun hf => by have := hF g hf; omega))]
        exact hc j x hx

/-! ### Take -/
end Go.Proofs.YtmcblhgpcgnaoaaGreatDoor


namespace Go.Proofs.YtmcblhgpcgnaoaaGreatDoor
set_option linter.unusedVariables false
set_option linter.unusedSimpArgs false

def okP (p : Int) : Bool := decide (p = 0 ∨ 59 ≤ p ∧ p ≤ 479)
def nzB (p : Int) : Bool := decide (p ≠ 0)
def nzL (l : List Int) : List Int := l.filter nzB
/-- Each is 0 or a data block, and no two of these are the same. -/
def apartL (l : List Int) : Bool := l.all okP && decide (nzL l).Nodup
def ptrsOk (l : List Int) : Bool := decide (l.length ≤ 96) && apartL l
/-- So many pointers from one on; 0 behind the end. -/
def partP (l : List Int) (s n : Nat) : List Int := (List.range n).map fun i => l.getD (s + i) 0
def someP (l : List Int) (s n : Nat) : Bool := (partP l s n).any nzB
def underN (l : List Int) : Nat := (someP l 34 30).toNat + ((someP l 64 30).toNat + (someP l 94 30).toNat)
def needP (l : List Int) : Nat := (someP l 4 30).toNat + (if underN l = 0 then 0 else underN l + 1)
def needErr (l : List Int) : Int := if ptrsOk l = true then 0 else 1
def needOut (l : List Int) : Int := if ptrsOk l = true then (needP l : Int) else 0
def doubleB (l : List Int) : Bool := decide (underN l ≠ 0)
/-! ### ReadingT -/

def words (b : List Int) : List Int := (List.range 30).map fun i => leN b (2 * i) 2
/-- What a block is as a block of pointers. -/
def pageOf (b : List Int) : Option (List Int) :=
  if (decide (b.length = 64 ∧ sealOf sumS b = b) && ((words b).any nzB && apartL (words b))) = true then some (words b) else none
def findW (bs : List (Int × List Int)) (p : Int) : Option (List Int) := (bs.find? fun w => decide (w.1 = p)).map (·.2)
def pageAt (bs : List (Int × List Int)) (p : Int) : Option (List Int) := if p = 0 then some (List.replicate 30 0) else (findW bs p).bind pageOf
/-- Without zeros at the end. -/
def trimL : List Int → List Int
  | [] => []
  | x :: r => if x = 0 ∧ trimL r = [] then [] else x :: trimL r

/-- The pointers of many blocks, one behind the other. -/
def allOf (f : Int → Option (List Int)) : List Int → Option (List Int)
  | [] => some []
  | x :: r => match f x, allOf f r with
    | some a, some b => some (a ++ b)
    | _, _ => none

/-! ### Plain facts -/

theorem trim_zeros (n : Nat) : trimL (List.replicate n 0) = [] := by
  induction n with
  | zero => rfl
  | succ n ih => show (if (0 : Int) = 0 ∧ trimL (List.replicate n 0) = [] then [] else _) = []; rw [if_pos ⟨rfl, ih⟩]

theorem trim_append_zeros (l : List Int) (n : Nat) : trimL (l ++ List.replicate n 0) = trimL l := by
  induction l with
  | nil => exact trim_zeros n
  | cons x r ih => show (if x = 0 ∧ trimL (r ++ List.replicate n 0) = [] then [] else x :: trimL (r ++ List.replicate n 0)) = _; rw [ih]; rfl

theorem trim_prefix (l : List Int) : ∃ n, l = trimL l ++ List.replicate n 0 := by
  induction l with
  | nil => exact ⟨0, rfl⟩
  | cons x r ih =>
    obtain ⟨n, h⟩ := ih
    by_cases hx : x = 0 ∧ trimL r = []
    · refine ⟨n + 1, ?_⟩
      have e : trimL (x :: r) = [] := if_pos hx
      rw [hx.2, List.nil_append] at h
      rw [e, hx.1, List.replicate_succ, List.nil_append, ← h]
    · refine ⟨n, ?_⟩
      have e : trimL (x :: r) = x :: trimL r := if_neg hx
      rw [e, List.cons_append, ← h]

theorem nz_zeros (n : Nat) : nzL (List.replicate n 0) = [] := by
  unfold nzL
  rw [List.filter_eq_nil_iff]
  intro a ha
  rw [List.eq_of_mem_replicate ha]
  decide

theorem nz_append (a b : List Int) : nzL (a ++ b) = nzL a ++ nzL b := List.filter_append ..

theorem partP_length (l : List Int) (s n : Nat) : (partP l s n).length = n := by unfold partP; simp
theorem partP_get (l : List Int) (s n i : Nat) (h : i < n) : (partP l s n)[i]? = some (l.getD (s + i) 0) := by
  unfold partP
  rw [List.getElem?_map, List.getElem?_range h]
  rfl
theorem partP_all (l : List Int) (n : Nat) (h : l.length ≤ n) : partP l 0 n = l ++ List.replicate (n - l.length) 0 := by
  apply List.ext_getElem?
  intro i
  by_cases hi : i < n
  · rw [partP_get l 0 n i hi, Nat.zero_add]
    by_cases hl : i < l.length
    · rw [List.getElem?_append_left hl, List.getD_eq_getElem?_getD, List.getElem?_eq_getElem hl]
      rfl
    · rw [List.getElem?_append_right (by omega), List.getElem?_replicate, if_pos (by omega), List.getD_eq_getElem?_getD, List.getElem?_eq_none (by omega)]
      rfl
  · rw [List.getElem?_eq_none (by rw [partP_length]; omega), List.getElem?_eq_none (by rw [List.length_append, List.length_replicate]; omega)]

theorem all_zeros (n : Nat) : (List.replicate n (0 : Int)).all okP = true := by
  rw [List.all_eq_true]
  intro x hx
  rw [List.eq_of_mem_replicate hx]
  decide

theorem apart_append {a b : List Int} (h : apartL (a ++ b) = true) : apartL a = true ∧ apartL b = true := by
  unfold apartL at h ⊢
  rw [nz_append, List.all_append] at h
  simp only [Bool.and_eq_true, decide_eq_true_eq] at h ⊢
  have := List.nodup_append.1 h.2
  exact ⟨⟨h.1.1, this.1⟩, h.1.2, this.2.1⟩

theorem apart_zeros {a : List Int} (n : Nat) : apartL (a ++ List.replicate n 0) = apartL a := by
  unfold apartL
  rw [nz_append, nz_zeros, List.append_nil, List.all_append, all_zeros, Bool.and_true]

theorem all_append (f : Int → Option (List Int)) : ∀ {a b x y : List Int}, allOf f a = some x → allOf f b = some y → allOf f (a ++ b) = some (x ++ y)
  | [], b, x, y, h1, h2 => by
    cases h1
    exact h2
  | q :: r, b, x, y, h1, h2 => by
    unfold allOf at h1
    show (match f q, allOf f (r ++ b) with
      | some a, some b => some (a ++ b)
      | _, _ => none) = _
    cases hq : f q with
    | none => rw [hq] at h1; cases h1
    | some u =>
      cases hr : allOf f r with
      | none => rw [hq, hr] at h1; cases h1
      | some v =>
        rw [hq, hr] at h1
        cases h1
        rw [all_append f hr h2]
        show some (u ++ (v ++ y)) = _
        rw [List.append_assoc]

/-! ### Zeros behind pointers -/

theorem ptrs_zeros {l : List Int} {n : Nat} (h : l.length + n ≤ 96) : ptrsOk (l ++ List.replicate n 0) = ptrsOk l := by
  unfold ptrsOk
  rw [apart_zeros, List.length_append, List.length_replicate, decide_eq_true h, decide_eq_true (show l.length ≤ 96 by omega)]

end Go.Proofs.YtmcblhgpcgnaoaaGreatDoor


namespace Go.Proofs.YtmcblhgpcgnaoaaGreatDoor
open Go.RowKit
set_option linter.unusedVariables false
set_option linter.unusedSimpArgs false

def pageV (p : List Int) : Value := .agg (ints p).toArray

theorem uPage : Tryz.prog.underlying 267 = some (.array 30 3) := Tryz.underlying267
theorem iPage {p : List Int} (h : p.length = 30) : (Tryz.prog.info? 267).map (·.size) = some (ints p).length := by rw [ints_length, h]; kernel_rfl

theorem part_int (w : World) (p : List Int) (i : Nat) (h : i < p.length) : (part 3 (ints p).toArray i).run Tryz.prog w = .ok (.int .i64 (p.getD i 0)) w := by
  have e : (ints p).toArray[i]? = some (.int .i64 (p.getD i 0)) := by
    rw [List.getElem?_toArray]
    exact ints_get (by rw [List.getD_eq_getElem?_getD, List.getElem?_eq_getElem h]; rfl)
  unfold part isAgg
  rw [Sem.run_bind, Sem.run_bind, run_underlying Tryz.underlying3 w]
  simp [e]

theorem eq_items (w : World) (d : Nat) (p q : List Int) : ∀ is : List Nat, (∀ i ∈ is, i < p.length ∧ i < q.length) →
    (Op.eqItems (d + 1) 3 1 (ints p).toArray (ints q).toArray is).run Tryz.prog w = .ok (is.all fun j => p.getD j 0 == q.getD j 0) w
  | [], _ => by simp [Op.eqItems]
  | i :: is, h => by
    obtain ⟨h1, h2⟩ := h i (by simp)
    simp only [Op.eqItems, Sem.run_bind, Nat.mul_one, part_int w p i h1, part_int w q i h2, Result.andThen_ok, run_equalIn_int w d 3 .i64 .i64 (p.getD i 0) (q.getD i 0) Tryz.underlying3, List.all_cons]
    cases p.getD i 0 == q.getD i 0
    · simp
    · simpa using eq_items w d p q is (fun j hj => h j (List.mem_cons_of_mem _ hj))

theorem zero_items {p : List Int} (h : p.length = 30) : (List.range 30).all (fun j => p.getD j 0 == (List.replicate 30 (0 : Int)).getD j 0) = !(p.any nzB) := by
  rw [Bool.eq_iff_iff, List.all_eq_true, Bool.not_eq_true', List.any_eq_false]
  constructor
  · intro hh x hx
    obtain ⟨i, hi, rfl⟩ := List.mem_iff_getElem.1 hx
    have := hh i (List.mem_range.2 (by omega))
    rw [List.getD_eq_getElem?_getD, List.getD_eq_getElem?_getD, List.getElem?_replicate, if_pos (by omega), List.getElem?_eq_getElem hi] at this
    simpa [nzB] using this
  · intro hh i hi
    have hi' := List.mem_range.1 hi
    have := hh p[i] (List.getElem_mem (by omega))
    rw [List.getD_eq_getElem?_getD, List.getD_eq_getElem?_getD, List.getElem?_replicate, if_pos (by omega), List.getElem?_eq_getElem (by omega)]
    simpa [nzB] using this

def zero30 : Array Value := #[Value.int .i64 0, Value.int .i64 0, Value.int .i64 0, Value.int .i64 0, Value.int .i64 0, Value.int .i64 0, Value.int .i64 0, Value.int .i64 0, Value.int .i64 0, Value.int .i64 0, Value.int .i64 0, Value.int .i64 0, Value.int .i64 0, Value.int .i64 0, Value.int .i64 0, Value.int .i64 0, Value.int .i64 0, Value.int .i64 0, Value.int .i64 0, Value.int .i64 0, Value.int .i64 0, Value.int .i64 0, Value.int .i64 0, Value.int .i64 0, Value.int .i64 0, Value.int .i64 0, Value.int .i64 0, Value.int .i64 0, Value.int .i64 0, Value.int .i64 0]

theorem run_eq_page (w : World) (p : List Int) (h : p.length = 30) : (Op.equalIn 10000 267 (.agg (ints p).toArray) (.agg zero30)).run Tryz.prog w = .ok (!(p.any nzB)) w := by
  obtain ⟨i0, hi0, hz0, hz1, hz2⟩ := info_parts elemI.2.1
  have hc : Tryz.prog.cellsOf 3 = 1 := by kernel_rfl
  rw [show zero30 = (ints (List.replicate 30 0)).toArray from rfl, show (10000 : Nat) = 9999 + 1 from rfl, run_equalIn_array (P := Tryz.prog) w 9999 _ _ uPage hi0, hc, eq_items w 9998 p (List.replicate 30 0) (List.range 30) (fun i hi => by have := List.mem_range.1 hi; simp only [List.length_replicate]; omega), zero_items h]

set_option maxRecDepth 100000 in
set_option maxHeartbeats 1600000 in
theorem used_any (p : List Int) (w : World) (h : p.length = 30) : Calls Tryz.prog 248 #[pageV p] w fun e w' => e = .returned (.bool (p.any nzB)) ∧ Below w.heap.size w w' := by
  have hn := fun W => run_eq_page W p h
  unfold zero30 at hn
  have hr : (w.alloc (.cells (ints p).toArray 267)).rangeAt w.heap.size 0 (ints p) := fun j v hj => by
    rw [Nat.zero_add, World.cell?_alloc_new]
    simpa using hj
  unfold pageV at *
  go_enter Tryz.func248, Tryz.ntmps248
  go_wp2_with (refine wpList_load_mid rfl 267 (.tmp 1) rfl w.heap.size 0 rfl (ints p) _ hr uPage rfl (iPage h) ?_)
  go_ret
  exact ⟨by simp, (Below.refl _ _).alloc (Nat.le_refl _) _⟩

end Go.Proofs.YtmcblhgpcgnaoaaGreatDoor


namespace Go.Proofs.YtmcblhgpcgnaoaaGreatDoor
open Go.RowKit
set_option linter.unusedVariables false
set_option linter.unusedSimpArgs false

/-- Block g is a chart: its 159 numbers. -/
def ChartAt (w : World) (g : Nat) (L : List Int) : Prop := L.length = 159 ∧ w.rangeAt g 0 (ints L)
def pageL (L : List Int) (i : Nat) : List Int := (L.drop (4 + i * 30)).take 30
def needsB (L : List Int) (i : Nat) : Bool := if i = 1 then [pageL L 2, pageL L 3, pageL L 4].any (fun p => p.any nzB) else (pageL L i).any nzB

theorem pageL_length {L : List Int} (h : L.length = 159) {i : Nat} (hi : i < 5) : (pageL L i).length = 30 := by
  unfold pageL
  rw [List.length_take, List.length_drop]
  omega

theorem range_part {w : World} {g : Nat} {L : List Int} (h : w.rangeAt g 0 (ints L)) (o n : Nat) : w.rangeAt g o (ints ((L.drop o).take n)) := fun j v hj => by
  rw [ints_take, ints_drop, List.getElem?_take] at hj
  split at hj
  · rw [List.getElem?_drop] at hj
    have := h _ v hj
    rwa [Nat.zero_add] at this
  · cases hj

theorem ChartAt.page {w : World} {g : Nat} {L : List Int} (h : ChartAt w g L) (i : Nat) : w.rangeAt g (4 + i * 30) (ints (pageL L i)) := range_part h.2 _ _
theorem ChartAt.later {w wx : World} {g : Nat} {L : List Int} (h : ChartAt w g L) (hb : Below w.heap.size w wx) : ChartAt wx g L := ⟨h.1, fun j v hj => cell_later hb (h.2 j v hj)⟩

theorem any_take_p {p : List Int → Bool} {l : List (List Int)} {i : Nat} {x : List Int} (h : l[i]? = some x) (h0 : (l.take i).any p = false) : (l.take (i + 1)).any p = p x := by
  rw [List.take_add_one, h, List.any_append, h0]
  simp
theorem any_of_take_p {p : List Int → Bool} {l : List (List Int)} {i : Nat} (h : (l.take i).any p = true) : l.any p = true := by
  rw [List.any_eq_true] at h ⊢
  obtain ⟨x, hx, hp⟩ := h
  exact ⟨x, List.mem_of_mem_take hx, hp⟩

def anyP (p : List Int) : Bool := p.any nzB

set_option maxRecDepth 100000 in
set_option maxHeartbeats 1600000 in
theorem indexU_any {w : World} {g : Nat} {ps : List (List Int)} (h3 : ps.length = 3) (hp : ∀ i p, ps[i]? = some p → p.length = 30 ∧ w.rangeAt g (64 + i * 30) (ints p)) :
    Calls Tryz.prog 283 #[.slice (some ⟨g, 64, none⟩) (3 : Nat) (3 : Nat), .func (.func 248) #[] #[]] w fun e w' => ∃ r : Int, e = .returned (.int .i64 r) ∧ decide (0 ≤ r) = ps.any anyP ∧ Below w.heap.size w w' := by
  have HP := Lib.hid hp
  have HL := Lib.hid h3
  clear hp h3
  go_enter Tryz.func283, Tryz.ntmps283
  go_wp2_with fail
  go_loopw [8] (fun iv wr => ∃ i : Nat, iv = .int .i64 (i : Int) ∧ i ≤ 3 ∧ Hid (Below w.heap.size w wr) ∧ Hid ((ps.take i).any anyP = false)) (fun iv _ => 3 - (intOf iv).toNat)
  case atStart => exact ⟨0, rfl, Nat.zero_le _, Lib.hid (Below.refl _ _), Lib.hid rfl⟩
  case round =>
    obtain ⟨i, rfl, hi, HB, HQ⟩ := hrel
    by_cases hlt : i < 3
    · obtain ⟨x, hx⟩ : ∃ x, ps[i]? = some x := ⟨_, List.getElem?_eq_getElem (by rw [HL.out]; exact hlt)⟩
      obtain ⟨hl, hr⟩ := HP.out i x hx
      have hr : wr.rangeAt g (64 + i * 30) (ints x) := fun j v hj => cell_later HB.out (hr j v hj)
      have HI := Lib.hid (iPage hl)
      have HR := Lib.hid hr
      have cF := fun W => used_any x W hl
      unfold pageV at cF
      have i1 : (i : Int) < 3 := by omega
      have HX := Lib.hid hx
      have HV : Hid ((ps.take (i + 1)).any anyP = x.any nzB) := Lib.hid (any_take_p HX.out HQ.out)
      obtain ⟨B, hB⟩ : ∃ B, x.any nzB = B := ⟨_, rfl⟩
      rw [hB] at HV cF
      clear hx hr hl hB
      cases B with
      | true =>
        have HT := Lib.hid (any_of_take_p HV.out)
        clear HV
        go_wp2_with (first | (refine wpList_load_mid rfl 267 (.tmp 14) rfl g (64 + i * 30) rfl (ints x) _ HR.out uPage rfl HI.out ?_) | (go_at_call 248; refine (cF _).mono ?_; rintro e w3 ⟨rfl, hb3⟩; have HB3 := Lib.hid hb3; clear hb3))
        go_ret
        exact ⟨(i : Int), rfl, by rw [HT.out]; exact decide_eq_true (by omega), HB.out.trans (HB3.out.mono HB.out.size)⟩
      | false =>
        go_wp2_with (first | (refine wpList_load_mid rfl 267 (.tmp 14) rfl g (64 + i * 30) rfl (ints x) _ HR.out uPage rfl HI.out ?_) | (go_at_call 248; refine (cF _).mono ?_; rintro e w3 ⟨rfl, hb3⟩; have HB3 := Lib.hid hb3; clear hb3))
        go_roundw
        case rel => exact ⟨i + 1, by go_num, by omega, Lib.hid (HB.out.trans (HB3.out.mono HB.out.size)), HV⟩
        case measure => simp [intOf]; omega
    · have hin : i = 3 := by omega
      subst hin
      go_wp2_with fail
      go_ret
      refine ⟨-1, rfl, ?_, HB.out⟩
      have h := HQ.out
      rw [← HL.out, List.take_length] at h
      rw [h]
      rfl

set_option maxHeartbeats 800000 in
theorem containsU_any {w : World} {g : Nat} {ps : List (List Int)} (h3 : ps.length = 3) (hp : ∀ i p, ps[i]? = some p → p.length = 30 ∧ w.rangeAt g (64 + i * 30) (ints p)) :
    Calls Tryz.prog 247 #[.slice (some ⟨g, 64, none⟩) (3 : Nat) (3 : Nat), .func (.func 248) #[] #[]] w fun e w' => e = .returned (.bool (ps.any anyP)) ∧ Below w.heap.size w w' := by
  have c := indexU_any h3 hp
  clear h3 hp
  go_enter Tryz.func247, Tryz.ntmps247
  go_wp2_with (go_at_call 283; refine c.mono ?_; rintro e w2 ⟨r, rfl, hr, hb⟩; have HR := Lib.hid hr; have HB := Lib.hid hb; clear hr hb)
  go_ret
  exact ⟨by rw [← HR.out]; rfl, HB.out⟩

set_option maxRecDepth 100000 in
set_option maxHeartbeats 1600000 in
/-- Is a page needed? -/
theorem needs_any {w : World} {g i : Nat} {L : List Int} (hC : ChartAt w g L) (hi : i < 5) :
    Calls Tryz.prog 202 #[.pointer (some ⟨g, 0, none⟩), .int .i64 i] w fun e w' => e = .returned (.bool (needsB L i)) ∧ Below w.heap.size w w' := by
  by_cases h1 : i = 1
  · subst h1
    have c := containsU_any (w := w) (g := g) (ps := [pageL L 2, pageL L 3, pageL L 4]) rfl (fun k p hk => by
      match k, hk with
      | 0, hk => cases hk; exact ⟨pageL_length hC.1 (by decide), hC.page 2⟩
      | 1, hk => cases hk; exact ⟨pageL_length hC.1 (by decide), hC.page 3⟩
      | 2, hk => cases hk; exact ⟨pageL_length hC.1 (by decide), hC.page 4⟩
      | k + 3, hk => simp at hk)
    have HN : Hid (needsB L 1 = [pageL L 2, pageL L 3, pageL L 4].any anyP) := Lib.hid rfl
    obtain ⟨B, hB⟩ : ∃ B, [pageL L 2, pageL L 3, pageL L 4].any anyP = B := ⟨_, rfl⟩
    rw [hB] at HN c
    clear hC hB
    go_enter Tryz.func202, Tryz.ntmps202
    go_wp2_with (go_at_call 247; refine c.mono ?_; rintro e w2 ⟨rfl, hb⟩; have HB := Lib.hid hb; clear hb)
    go_ret
    exact ⟨by rw [HN.out]; rfl, HB.out⟩
  · have HR := Lib.hid (hC.page i)
    have hl := pageL_length hC.1 hi
    have HI := Lib.hid (iPage hl)
    have c := fun W => used_any (pageL L i) W hl
    unfold pageV at c
    have HN : Hid (needsB L i = (pageL L i).any nzB) := Lib.hid (by unfold needsB; rw [if_neg h1])
    obtain ⟨B, hB⟩ : ∃ B, (pageL L i).any nzB = B := ⟨_, rfl⟩
    rw [hB] at HN c
    have i5 : (i : Int) < 5 := by omega
    have n1 : ((i : Int) == 1) = false := by simp; omega
    clear hC hB hl
    go_enter Tryz.func202, Tryz.ntmps202
    go_wp2_with (first | (refine wpList_load_mid rfl 267 (.tmp 16) rfl g (4 + i * 30) rfl (ints (pageL L i)) _ HR.out uPage rfl HI.out ?_) | (go_at_call 248; refine (c _).mono ?_; rintro e w2 ⟨rfl, hb⟩; have HB := Lib.hid hb; clear hb))
    go_ret
    exact ⟨by rw [HN.out]; rfl, HB.out⟩

end Go.Proofs.YtmcblhgpcgnaoaaGreatDoor


namespace Go.Proofs.YtmcblhgpcgnaoaaGreatDoor
open Go.RowKit
set_option linter.unusedVariables false
set_option linter.unusedSimpArgs false

def partV (g off n : Nat) : Value := .slice (some ⟨g, off, none⟩) n n
def partsVT (g : Nat) : List Value := [partV g 0 4, partV g 4 30, partV g 64 30, partV g 94 30, partV g 124 30]
theorem one_part (g o n : Nat) : ∀ u ∈ [partV g o n], u.oneCell' = true := by
  intro u hu
  rw [List.mem_singleton.1 hu]
  rfl

theorem elemRows : ElemR 197 50 (.slice none 0 0) 1 24 := ⟨Tryz.underlying197, by kernel_rfl, rfl, by decide, by decide⟩

theorem drew_of_r (w : World) : ({ w with drawn := w.drawn + 1 } : World) = w.drew := rfl

set_option maxRecDepth 100000 in
set_option maxHeartbeats 3200000 in
theorem parts_any (g : Nat) (w : World) : Calls Tryz.prog 224 #[.pointer (some ⟨g, 0, none⟩)] w fun e w' => ∃ v, e = .returned v ∧ w'.ownsRow w.heap.size 50 1 v 5 (partsVT g) ∧ Below w.heap.size w w' := by
  go_enter Tryz.func224, Tryz.ntmps224
  go_wp2_with fail
  refine wp_region_still_tail 9 (by kernel_rfl) (by kernel_rfl) ?_
  simp only [List.take_succ_cons, List.take_zero, List.drop_succ_cons, List.drop_zero]
  try rw [drew_of_r]
  iterate 9 still_step
  refine wpStill_nil ?_
  go_wp2_with fail
  go_loopw [3, 4] (fun lv iv wr => ∃ i : Int, iv = .int .i64 i ∧ (2 ≤ i ∧ i ≤ 5) ∧ Hid (wr.ownsRow w.heap.size 50 1 lv i.toNat ((partsVT g).take i.toNat)) ∧ Hid (Below w.heap.size w wr)) (fun _ iv _ => 5 - (intOf iv).toNat)
  case atStart => exact ⟨2, rfl, by decide, Lib.hid (World.ownsRow_lit (base := w.heap.size) (e := 50) (size := 1) w ((partsVT g).take 2).toArray 2 (Nat.le_refl _) (by decide) rfl), Lib.hid (((Below.refl _ _).alloc (Nat.le_refl _) _).drew)⟩
  case round =>
    obtain ⟨i, rfl, hi, HR, HB⟩ := hrel
    by_cases hlt : i < 5
    · have HZ : Hid (w.heap.size ≤ wr.heap.size + 1) := Lib.hid (by have := HB.out.size; omega)
      obtain rfl | rfl | rfl : i = 2 ∨ i = 3 ∨ i = 4 := by omega
      · go_wp2_with (at_builtin; refine wp_append_r elemRows rfl (.tmp 19) (.tmp 26) rfl w.heap.size 2 _ _ rfl (HR.out.alloc _) ⟨wr.heap.size, 0, none⟩ 1 1 [partV g 64 30] rfl rfl (news_r wr [partV g 64 30] _) (one_part _ _ _) (by decide) (by simpa using HZ.out) ?_; intro v1 w1 hown1 hg1 hb1; have HO1 := Lib.hid hown1; have HB1 := Lib.hid ((HB.out.alloc HB.out.size _).trans hb1); clear hown1 hg1 hb1)
        go_roundw
        case rel => exact ⟨3, by go_num, by decide, HO1, HB1⟩
        case measure => simp [intOf]
      · go_wp2_with (at_builtin; refine wp_append_r elemRows rfl (.tmp 19) (.tmp 26) rfl w.heap.size 3 _ _ rfl (HR.out.alloc _) ⟨wr.heap.size, 0, none⟩ 1 1 [partV g 94 30] rfl rfl (news_r wr [partV g 94 30] _) (one_part _ _ _) (by decide) (by simpa using HZ.out) ?_; intro v1 w1 hown1 hg1 hb1; have HO1 := Lib.hid hown1; have HB1 := Lib.hid ((HB.out.alloc HB.out.size _).trans hb1); clear hown1 hg1 hb1)
        go_roundw
        case rel => exact ⟨4, by go_num, by decide, HO1, HB1⟩
        case measure => simp [intOf]
      · go_wp2_with (at_builtin; refine wp_append_r elemRows rfl (.tmp 19) (.tmp 26) rfl w.heap.size 4 _ _ rfl (HR.out.alloc _) ⟨wr.heap.size, 0, none⟩ 1 1 [partV g 124 30] rfl rfl (news_r wr [partV g 124 30] _) (one_part _ _ _) (by decide) (by simpa using HZ.out) ?_; intro v1 w1 hown1 hg1 hb1; have HO1 := Lib.hid hown1; have HB1 := Lib.hid ((HB.out.alloc HB.out.size _).trans hb1); clear hown1 hg1 hb1)
        go_roundw
        case rel => exact ⟨5, by go_num, by decide, HO1, HB1⟩
        case measure => simp [intOf]
    · have hin : i = 5 := by omega
      subst hin
      go_wp2_with fail
      go_ret
      exact ⟨_, rfl, HR.out, HB.out⟩

end Go.Proofs.YtmcblhgpcgnaoaaGreatDoor


namespace Go.Proofs.YtmcblhgpcgnaoaaGreatDoor
open Go.RowKit
set_option linter.unusedVariables false
set_option linter.unusedSimpArgs false

def spotsL : List (Nat × Nat) := [(0, 4), (4, 30), (64, 30), (94, 30), (124, 30)]
theorem partsV_map (g : Nat) : partsVT g = spotsL.map (fun p => partV g p.1 p.2) := rfl
theorem spots_fit {i : Nat} {p : Nat × Nat} (h : spotsL[i]? = some p) : p.1 + p.2 ≤ 159 ∧ p.2 ≤ 30 := by
  have := List.mem_of_getElem? h
  simp only [spotsL, List.mem_cons, List.mem_nil_iff, or_false] at this
  rcases this with rfl | rfl | rfl | rfl | rfl <;> decide

/-- What a chart holds, and what is left of the pointers, when they were laid into these places. -/
def fillL (ps : List (Nat × Nat)) (s : List Int × List Int) : List Int × List Int := ps.foldl (fun s p => (lay s.1 p.1 (s.2.take p.2), s.2.drop p.2)) s
theorem fillL_snoc (ps : List (Nat × Nat)) (p : Nat × Nat) (s : List Int × List Int) : fillL (ps ++ [p]) s = (lay (fillL ps s).1 p.1 ((fillL ps s).2.take p.2), (fillL ps s).2.drop p.2) := by
  unfold fillL
  rw [List.foldl_append]
  rfl
theorem fillL_length (ps : List (Nat × Nat)) : ∀ s : List Int × List Int, (fillL ps s).1.length = s.1.length := by
  induction ps with
  | nil => intro s; rfl
  | cons p r ih => intro s; show (fillL r (lay s.1 p.1 (s.2.take p.2), s.2.drop p.2)).1.length = _; rw [ih]; exact lay_length _ _ _

/-- A chart that pointers were laid into. -/
def splitL (zs : List Int) : List Int := (fillL spotsL (List.replicate 159 0, zs)).1

/-- The row of the parts, in a block of its own. -/
def Row5 (w : World) (b g : Nat) : Prop := ∀ j u, (partsVT g)[j]? = some u → w.cell? ⟨b, j, none⟩ = some u
theorem row5_of {w : World} {base g : Nat} {v : Value} (h : w.ownsRow base 50 1 v 5 (partsVT g)) : ∃ b cap, v = .slice (some ⟨b, 0, none⟩) 5 cap ∧ base ≤ b ∧ Row5 w b g := by
  rcases h.2 with ⟨_, h0⟩ | ⟨b, cap, cur, hv, hb, _⟩
  · cases h0
  · refine ⟨b, cap, hv, hb, fun j u hj => ?_⟩
    have := h.cells (g := b) (by rw [hv]; rfl) j u hj
    rw [Go.WideShapes.add_plain] at this
    simpa using this
theorem Row5.keeps {w w' : World} {b g k : Nat} (h : Row5 w b g) (hk : Keeps k w w') (hb : b ≠ k) : Row5 w' b g := fun j u hj => by
  rw [hk.cell (p := ⟨b, j, none⟩) hb]
  exact h j u hj

/-- What is left of the pointers, as a slice. -/
def Rest (w : World) (v : Value) (zs : List Int) : Prop := ∃ ao len cap, v = .slice ao len cap ∧ IArg w ao len cap zs

theorem made_chart (w : World) : OwnV w.heap.size w w.heap.size (ints (List.replicate 159 0)) (w.alloc (.cells Tryz.zeroCells274 274)) := by
  have e : Tryz.zeroCells274 = (ints (List.replicate 159 0)).toArray := rfl
  refine ⟨fun j x hj => ?_, fun j => by rw [World.frozen?_alloc_mark]; simp, Nat.le_refl _, (Below.refl _ _).alloc (Nat.le_refl _) _⟩
  rw [World.cell?_alloc_new, e]
  simpa using hj

theorem rest_next {wr w5 : World} {g : Nat} {x : Addr} {rl rc m n : Nat} {F : List Int} (hR : IArg wr (some x) rl rc F) (hk : Keeps g wr w5) (hx : 0 < rl → x.block ≠ g) (hm : min rl n = m) (y : Addr) (hy : rc ≠ m → y = x.add m) : IArg w5 (some y) (rl - m) (rc - m) (F.drop n) := by
  have hl := hR.len
  have hb := hR.big
  have hc := hR.2.2.2
  by_cases h0 : rl - m = 0
  · have e : F.drop n = [] := List.length_eq_zero_iff.1 (by rw [List.length_drop]; omega)
    rw [e, h0]
    exact ⟨⟨rfl, by omega, Or.inl rfl⟩, by simp, (fun e => by cases e), by omega⟩
  · obtain rfl : m = n := by omega
    have hx2 : ∃ b off, x = ⟨b, off, none⟩ := by
      obtain ⟨b, off, he, _⟩ := hR.1.2.2.resolve_left (by omega)
      exact ⟨b, off, by simpa using he⟩
    obtain ⟨b, off, rfl⟩ := hx2
    rw [hy (by omega), Go.WideShapes.add_plain]
    exact hk.iarg (hR.drop (by omega)) (hx (by omega))

theorem add_blk (a : Addr) (j : Nat) : (a.add j).block = a.block := by
  unfold Addr.add
  split <;> rfl

/-- A chart, the row of its parts, and what is left, when i parts were laid. -/
def Laid (base : Nat) (w0 : World) (g b : Nat) (zs : List Int) (i : Nat) (v : Value) (wr : World) : Prop :=
  OwnV base w0 g (ints (fillL (spotsL.take i) (List.replicate 159 0, zs)).1) wr ∧ Row5 wr b g ∧ b ≠ g ∧ Rest wr v (fillL (spotsL.take i) (List.replicate 159 0, zs)).2 ∧ (∀ ao len cap, v = .slice (some ao) len cap → 0 < len → ao.block < base)

theorem Laid.next {base b g i : Nat} {w0 wr w5 : World} {zs F1 F2 : List Int} {o n : Nat} {v : Value} (hS : fillL (spotsL.take (i + 1)) (List.replicate 159 0, zs) = (lay F1 o (F2.take n), F2.drop n)) (hO : OwnV base w0 g (ints (lay F1 o (F2.take n))) w5) (h5 : Row5 wr b g) (hne : b ≠ g) (hk : Keeps g wr w5)
    (hR : Rest w5 v (F2.drop n)) (hbl : ∀ ao len cap, v = .slice (some ao) len cap → 0 < len → ao.block < base) : Laid base w0 g b zs (i + 1) v w5 := by
  unfold Laid
  rw [hS]
  exact ⟨hO, h5.keeps hk hne, hne, hR, hbl⟩

set_option maxRecDepth 100000 in
set_option maxHeartbeats 3200000 in
theorem split_any (ao : Option Addr) (len cap : Nat) (zs : List Int) (w : World) (hA : IArg w ao len cap zs) : Calls Tryz.prog 201 #[.slice ao len cap] w fun e w' => ∃ g, e = .returned (.pointer (some ⟨g, 0, none⟩)) ∧ OwnV w.heap.size w g (ints (splitL zs)) w' := by
  have HA := Lib.hid hA
  have HIN : Hid (∀ a, ao = some a → 0 < len → a.block < w.heap.size) := Lib.hid (fun a ha h0 => by
    obtain ⟨b, off, x, e, _, hc, _⟩ := hA.at h0
    rw [ha] at e
    cases e
    exact World.block_lt_of_cell? _ _ hc)
  have HM := Lib.hid (made_chart w)
  clear hA
  go_enter Tryz.func201, Tryz.ntmps201
  go_wp2_with (go_at_call 224; refine (parts_any _ _).mono ?_; rintro e w2 ⟨v, rfl, ho, hb⟩; obtain ⟨b, cb, rfl, hbb, h5⟩ := row5_of ho; have H5 := Lib.hid h5; have HB := Lib.hid hb; have HBB := Lib.hid hbb; clear ho hb hbb h5)
  have HL0 : Hid (Laid w.heap.size w w.heap.size b zs 0 (.slice ao len cap) w2) := Lib.hid (by
    refine ⟨HM.out.later HB.out (by simp [ints]), H5.out, ?_, ⟨ao, len, cap, rfl, (HA.out.later ((Below.refl _ _).alloc (Nat.le_refl _) _)).later HB.out⟩, ?_⟩
    · have := HBB.out
      simp at this
      omega
    · intro a l c e h0
      simp only [Value.slice.injEq] at e
      exact HIN.out a e.1 (by omega))
  go_loopw [0, 11] (fun v iv wr => ∃ i : Nat, iv = .int .i64 (i : Int) ∧ i ≤ 5 ∧ Hid (Laid w.heap.size w w.heap.size b zs i v wr)) (fun _ iv _ => 5 - (intOf iv).toNat)
  case atStart => exact ⟨0, rfl, Nat.zero_le _, HL0⟩
  case round =>
    obtain ⟨i, rfl, hi, HL⟩ := hrel
    by_cases hlt : i < 5
    · obtain ⟨⟨o, n⟩, hs⟩ : ∃ p, spotsL[i]? = some p := ⟨_, List.getElem?_eq_getElem hlt⟩
      have hfit := spots_fit hs
      dsimp only at hfit
      have d1 : wr.cell? ⟨b, i, none⟩ = some (.slice (some ⟨w.heap.size, o, none⟩) n n) := HL.out.2.1 i _ (by rw [partsV_map, List.getElem?_map, hs]; rfl)
      have i1 : (i : Int) < 5 := by omega
      have HS : Hid (fillL (spotsL.take (i + 1)) (List.replicate 159 0, zs) = (lay (fillL (spotsL.take i) (List.replicate 159 0, zs)).1 o ((fillL (spotsL.take i) (List.replicate 159 0, zs)).2.take n), (fillL (spotsL.take i) (List.replicate 159 0, zs)).2.drop n)) := Lib.hid (by
        rw [List.take_add_one, hs]
        exact fillL_snoc _ _ _)
      have hlen : (fillL (spotsL.take i) (List.replicate 159 0, zs)).1.length = 159 := by rw [fillL_length]; exact List.length_replicate
      obtain ⟨hO, h5, hne, ⟨ra, rl, rc, rfl, hR⟩, hbl⟩ := HL.out
      have HO := Lib.hid hO
      have HR := Lib.hid hR
      have H5 := Lib.hid h5
      have HBL := Lib.hid hbl
      have HC := own_copy_ints (off := o) (len := n) (cap := n) hO (by omega) ra rl rc _ hR 3
      generalize fillL (spotsL.take i) (List.replicate 159 0, zs) = F at *
      obtain ⟨F1, F2⟩ := F
      dsimp only at *
      have hle := hR.2.2.2
      obtain ⟨m, hm⟩ : ∃ m, min rl n = m := ⟨_, rfl⟩
      rw [hm] at HC
      have HMn := Lib.hid hm
      have m1 : (m : Int) ≤ (rl : Int) := by omega
      have m2 : (m : Int) ≤ (rc : Int) := by omega
      have m3 : m ≤ rl := by omega
      have m4 : m ≤ rc := by omega
      have HCC := Lib.hid HC
      clear hO hR h5 hbl HC hfit hlen hs hm
      cases ra with
      | none =>
        obtain ⟨rfl, rfl⟩ := HR.out.2.2.1 rfl
        obtain rfl : m = 0 := by omega
        go_wp2_with (refine wp_copy rfl (.tmp 16) (.tmp 17) 50 50 rfl _ _ rfl rfl _ HCC.out ?_; rintro v5 w5 ⟨rfl, hO5, hK5⟩; have HO5 := Lib.hid hO5; have HK5 := Lib.hid hK5; clear hO5 hK5)
        go_roundw
        case rel => exact ⟨i + 1, by go_num, by omega, Lib.hid (Laid.next HS.out HO5.out H5.out hne HK5.out ⟨none, 0, 0, rfl, by
          obtain rfl : F2 = [] := List.length_eq_zero_iff.1 HR.out.len
          rw [List.drop_nil]
          exact IArg.nil _⟩ (fun _ _ _ e => by cases e))⟩
        case measure => simp [intOf]; omega
      | some x =>
        have HX : Hid (0 < rl → x.block ≠ w.heap.size) := Lib.hid (fun h => by have := HBL.out x rl rc rfl h; omega)
        by_cases hc : rc = m
        · go_wp2_with (refine wp_copy rfl (.tmp 16) (.tmp 17) 50 50 rfl _ _ rfl rfl _ HCC.out ?_; rintro v5 w5 ⟨rfl, hO5, hK5⟩; have HO5 := Lib.hid hO5; have HK5 := Lib.hid hK5; clear hO5 hK5)
          go_roundw
          case rel => exact ⟨i + 1, by go_num, by omega, Lib.hid (Laid.next HS.out HO5.out H5.out hne HK5.out ⟨_, _, _, rfl, by
            have := rest_next HR.out HK5.out HX.out HMn.out x (fun h => absurd hc h)
            rwa [show rc - m = 0 by omega] at this⟩ (fun a _ _ e h0 => by
              simp only [Value.slice.injEq, Option.some.injEq] at e
              obtain ⟨rfl, e2, -⟩ := e
              exact HBL.out x rl rc rfl (by omega)))⟩
          case measure => simp [intOf]; omega
        · go_wp2_with (refine wp_copy rfl (.tmp 16) (.tmp 17) 50 50 rfl _ _ rfl rfl _ HCC.out ?_; rintro v5 w5 ⟨rfl, hO5, hK5⟩; have HO5 := Lib.hid hO5; have HK5 := Lib.hid hK5; clear hO5 hK5)
          go_roundw
          case rel => exact ⟨i + 1, by go_num, by omega, Lib.hid (Laid.next HS.out HO5.out H5.out hne HK5.out ⟨_, _, _, rfl, rest_next HR.out HK5.out HX.out HMn.out (x.add m) (fun _ => rfl)⟩ (fun a _ _ e h0 => by
              simp only [Value.slice.injEq, Option.some.injEq] at e
              obtain ⟨rfl, e2, -⟩ := e
              rw [add_blk]
              exact HBL.out x rl rc rfl (by omega)))⟩
          case measure => simp [intOf]; omega
    · obtain rfl : i = 5 := by omega
      go_wp2_with fail
      go_ret
      exact ⟨_, rfl, HL.out.1⟩

/-! ### Zeros at the end -/

theorem trim_take_zero {zs : List Int} {k : Nat} (hk : k + 1 ≤ zs.length) (h0 : zs[k]? = some 0) : trimL (zs.take (k + 1)) = trimL (zs.take k) := by
  rw [List.take_add_one, h0]
  exact trim_append_zeros _ 1
theorem trim_last {l : List Int} {x : Int} (hx : x ≠ 0) : trimL (l ++ [x]) = l ++ [x] := by
  induction l with
  | nil => show (if x = 0 ∧ trimL [] = [] then [] else x :: trimL []) = _; rw [if_neg (fun h => hx h.1)]; rfl
  | cons y r ih =>
    show (if y = 0 ∧ trimL (r ++ [x]) = [] then [] else y :: trimL (r ++ [x])) = _
    rw [ih, if_neg (fun h => by simp at h)]
    rfl
theorem trim_trim (l : List Int) : trimL (trimL l) = trimL l := by
  induction l with
  | nil => rfl
  | cons x r ih =>
    by_cases h : x = 0 ∧ trimL r = []
    · rw [show trimL (x :: r) = [] from if_pos h]; rfl
    · rw [show trimL (x :: r) = x :: trimL r from if_neg h]
      show (if x = 0 ∧ trimL (trimL r) = [] then [] else x :: trimL (trimL r)) = _
      rw [ih, if_neg h]
theorem trim_take {zs : List Int} : zs.take (trimL zs).length = trimL zs := by
  obtain ⟨n, h⟩ := trim_prefix zs
  conv => lhs; rw [h, trim_append_zeros]
  rw [trim_trim]
  exact List.take_left

def lenV : Value → Nat
  | .slice _ l _ => l
  | _ => 0

set_option maxRecDepth 100000 in
set_option maxHeartbeats 3200000 in
theorem trimmed_any (ao : Option Addr) (len cap : Nat) (zs : List Int) (w : World) (hA : IArg w ao len cap zs) : Calls Tryz.prog 173 #[.slice ao len cap] w fun e w' => e = .returned (.slice ao (trimL zs).length cap) ∧ w = w' := by
  have HA := Lib.hid hA
  have hb := hA.big
  have hc := hA.2.2.2
  have HN := Lib.hid hA.len
  clear hA
  go_enter Tryz.func173, Tryz.ntmps173
  go_wp2_with fail
  go_loopw [0] (fun v wr => ∃ k : Nat, v = .slice ao k cap ∧ k ≤ len ∧ Hid (trimL (zs.take k) = trimL zs) ∧ Hid (w = wr)) (fun v _ => lenV v)
  case atStart => exact ⟨len, rfl, Nat.le_refl _, Lib.hid (by rw [← HN.out, List.take_length]), Lib.hid rfl⟩
  case round =>
    obtain ⟨k, rfl, hk, HT, HW⟩ := hrel
    by_cases h0 : k = 0
    · subst h0
      have HE : Hid ((trimL zs).length = 0) := Lib.hid (by rw [← HT.out]; rfl)
      go_wp2_with fail
      go_ret
      exact ⟨by rw [HE.out]; rfl, HW.out⟩
    · obtain ⟨q, rfl⟩ : ∃ q, k = q + 1 := ⟨k - 1, by omega⟩
      obtain ⟨b, off, x, rfl, hx, hcell, hI⟩ := HA.out.at (i := q) (by omega)
      have hcell : wr.cell? ⟨b, off + q, none⟩ = some (.int .i64 x) := by rw [← HW.out]; exact hcell
      have k1 : (0 : Int) < ((q + 1 : Nat) : Int) := by omega
      have k2 : wrap64 (((q + 1 : Nat) : Int) - 1) = (q : Int) := by unfold wrap64; omega
      have HX := Lib.hid hx
      clear hx hI
      by_cases hx0 : x = 0
      · subst hx0
        have HT2 : Hid (trimL (zs.take q) = trimL zs) := Lib.hid (by rw [← trim_take_zero (by rw [HN.out]; omega) HX.out]; exact HT.out)
        go_wp2_with fail
        go_roundw
        case rel => exact ⟨q, by first | rfl | go_num, by omega, HT2, HW⟩
        case measure => simp [lenV]
      · have HE : Hid ((trimL zs).length = q + 1) := Lib.hid (by
          have h := HT.out
          rw [List.take_add_one, HX.out] at h
          rw [← h]
          show (trimL (zs.take q ++ [x])).length = _
          rw [trim_last hx0, List.length_append, List.length_take, HN.out]
          simp only [List.length_cons, List.length_nil]
          omega)
        go_wp2_with fail
        go_ret
        exact ⟨by rw [HE.out]; rfl, HW.out⟩


/-! ### Pointers out of a chart -/

def accL (L : List Int) (i : Nat) : List Int := (spotsL.take i).flatMap (fun p => (L.drop p.1).take p.2)
def joinL (L : List Int) : List Int := accL L 5
theorem acc_snoc {L : List Int} {i o n : Nat} (h : spotsL[i]? = some (o, n)) : accL L (i + 1) = accL L i ++ (L.drop o).take n := by
  unfold accL
  rw [List.take_add_one, h]
  simp

theorem lay_end (P cs : List Int) (k : Nat) (h : cs.length ≤ k) : lay (P ++ List.replicate k 0) P.length cs = (P ++ cs) ++ List.replicate (k - cs.length) 0 := by
  rw [lay_eq _ _ _ (by rw [List.length_append, List.length_replicate]; omega), List.take_left, ← List.drop_drop, List.drop_left, List.drop_replicate]

/-- The numbers that are being joined, and the row of the parts, when i parts were copied. -/
def Joining (w0 : World) (L : List Int) (g A b : Nat) (i at_ : Nat) (wr : World) : Prop :=
  OwnV w0.heap.size w0 A (ints (accL L i ++ List.replicate (124 - at_) 0)) wr ∧ Row5 wr b g ∧ b ≠ A ∧ (accL L i).length = at_

theorem Joining.next {w0 wr w5 : World} {L : List Int} {g A b i at_ o n k : Nat} (h : Joining w0 L g A b i at_ wr) (hs : spotsL[i]? = some (o, n)) (hL : L.length = 159) (hn : o + n ≤ 159) (hfit : at_ + n ≤ 124) (hkn : n ≤ k)
    (hO : OwnV w0.heap.size w0 A (ints (lay (accL L i ++ List.replicate (124 - at_) 0) at_ (((L.drop o).take n).take k))) w5) (hk : Keeps A wr w5) : Joining w0 L g A b (i + 1) (at_ + n) w5 := by
  obtain ⟨h1, h2, h3, h4⟩ := h
  have hl : ((L.drop o).take n).length = n := by rw [List.length_take, List.length_drop]; omega
  rw [List.take_of_length_le (by omega)] at hO
  rw [← h4, lay_end _ _ _ (by omega), hl, ← acc_snoc hs] at hO
  refine ⟨?_, h2.keeps hk h3, h3, ?_⟩
  · rw [show 124 - (at_ + n) = 124 - (accL L i).length - n by omega]
    exact hO
  · rw [acc_snoc hs, List.length_append, hl, h4]

theorem made_nums (w : World) : OwnV w.heap.size w w.heap.size (ints (List.replicate 124 0)) (w.alloc (.cells (madeCells #[Value.int .i64 0] 124) 3)) := by
  have e : madeCells #[Value.int .i64 0] 124 = (ints (List.replicate 124 0)).toArray := by kernel_rfl
  refine ⟨fun j x hj => ?_, fun j => by rw [World.frozen?_alloc_mark]; simp, Nat.le_refl _, (Below.refl _ _).alloc (Nat.le_refl _) _⟩
  rw [World.cell?_alloc_new, e]
  simpa using hj

set_option maxRecDepth 100000 in
set_option maxHeartbeats 6400000 in
theorem joined_any (g : Nat) (L : List Int) (w : World) (hC : ChartAt w g L) (hz : ∀ z ∈ L, I64 z) : Calls Tryz.prog 174 #[.pointer (some ⟨g, 0, none⟩)] w fun e w' => ∃ v, e = .returned v ∧ FreshI w' w.heap.size v (joinL L) ∧ Below w.heap.size w w' := by
  have HC := Lib.hid hC
  have HZ := Lib.hid hz
  have HM := Lib.hid (made_nums w)
  have hmk : (Instr.makeSlice 50 (.int .i64 124) (.int .i64 124)).run Tryz.prog w = .ok (.slice (some ⟨w.heap.size, 0, none⟩) 124 124) (w.alloc (.cells (madeCells #[Value.int .i64 0] 124) 3)) := run_make_vals elemI w 124 (by decide)
  have HLL := Lib.hid hC.1
  have HSRC : Hid (∀ (o n : Nat) (W : World), Below w.heap.size w W → o + n ≤ 159 → IArg W (some ⟨g, o, none⟩) n n ((L.drop o).take n)) := Lib.hid (fun o n W hW hon => by
    have hl : ((L.drop o).take n).length = n := by rw [List.length_take, List.length_drop]; have := hC.1; omega
    have := iarg_of_range (w := W) (b := g) (off := o) (cap := n) (zs := (L.drop o).take n) (range_part (fun j v hj => cell_later hW (hC.2 j v hj)) o n) (fun z hz' => hz z (List.mem_of_mem_drop (List.mem_of_mem_take hz'))) (by omega) (by omega)
    rwa [hl] at this)
  clear hC hz
  go_enter Tryz.func174, Tryz.ntmps174
  go_wp2_with (go_at_call 224; refine (parts_any _ _).mono ?_; rintro e w2 ⟨v, rfl, ho, hb⟩; obtain ⟨b, cb, rfl, hbb, h5⟩ := row5_of ho; have H5 := Lib.hid h5; have HB := Lib.hid hb; have HBB := Lib.hid hbb; clear ho hb hbb h5)
  have HJ0 : Hid (Joining w L g w.heap.size b 0 0 w2) := Lib.hid ⟨HM.out.later HB.out (by simp [ints]), H5.out, by have := HBB.out; simp at this; omega, rfl⟩
  go_loopw [4, 12] (fun v iv wr => ∃ i : Int, iv = .int .i64 i ∧ (0 ≤ i ∧ i ≤ 5) ∧ (i = 0 → v = .slice (some ⟨w.heap.size, 0, none⟩) (124 : Nat) (124 : Nat)) ∧ (i = 1 → v = .slice (some ⟨w.heap.size, 4, none⟩) (120 : Nat) (120 : Nat)) ∧ (i = 2 → v = .slice (some ⟨w.heap.size, 34, none⟩) (90 : Nat) (90 : Nat)) ∧ (i = 3 → v = .slice (some ⟨w.heap.size, 64, none⟩) (60 : Nat) (60 : Nat)) ∧ (i = 4 → v = .slice (some ⟨w.heap.size, 94, none⟩) (30 : Nat) (30 : Nat)) ∧ Hid (Joining w L g w.heap.size b i.toNat ((if i = 0 then 0 else (30 * i - 26).toNat)) wr)) (fun _ iv _ => 5 - (intOf iv).toNat)
  case atStart => exact ⟨0, rfl, by decide, fun _ => rfl, (fun h => by cases h), (fun h => by cases h), (fun h => by cases h), (fun h => by cases h), HJ0⟩
  case round =>
    obtain ⟨i, rfl, hi, hv0, hv1, hv2, hv3, hv4, HJ⟩ := hrel
    by_cases hlt : i < 5
    · obtain rfl | rfl | rfl | rfl | rfl : i = 0 ∨ i = 1 ∨ i = 2 ∨ i = 3 ∨ i = 4 := by omega
      · obtain rfl := hv0 rfl
        clear hv0 hv1 hv2 hv3 hv4
        have HJ : Hid (Joining w L g w.heap.size b 0 0 wr) := HJ
        have d1 : wr.cell? ⟨b, 0, none⟩ = some (.slice (some ⟨g, 0, none⟩) ((4 : Nat)) ((4 : Nat))) := HJ.out.2.1 0 _ rfl
        have hl : (accL L 0 ++ List.replicate (124 - 0) 0).length = 124 := by rw [List.length_append, HJ.out.2.2.2, List.length_replicate]
        have HCC := Lib.hid (own_copy_ints (off := 0) (len := 124) (cap := 124) HJ.out.1 (by rw [hl]; decide) _ _ _ _ (HSRC.out 0 4 wr HJ.out.1.2.2.2 (by decide)) 3)
        clear hl
        go_wp2_with (refine wp_copy rfl (.tmp 17) (.tmp 18) 50 50 rfl _ _ rfl rfl _ HCC.out ?_; rintro v5 w5 ⟨rfl, hO5, hK5⟩; have HO5 := Lib.hid hO5; have HK5 := Lib.hid hK5; clear hO5 hK5)
        go_roundw
        case rel => exact ⟨1, rfl, by decide, (fun h => by first | rfl | exact absurd h (by decide)), (fun h => by first | rfl | exact absurd h (by decide)), (fun h => by first | rfl | exact absurd h (by decide)), (fun h => by first | rfl | exact absurd h (by decide)), (fun h => by first | rfl | exact absurd h (by decide)), Lib.hid (HJ.out.next rfl HLL.out (by decide) (by decide) (by decide) HO5.out HK5.out)⟩
        case measure => simp [intOf]
      · obtain rfl := hv1 rfl
        clear hv0 hv1 hv2 hv3 hv4
        have HJ : Hid (Joining w L g w.heap.size b 1 4 wr) := HJ
        have d1 : wr.cell? ⟨b, 1, none⟩ = some (.slice (some ⟨g, 4, none⟩) ((30 : Nat)) ((30 : Nat))) := HJ.out.2.1 1 _ rfl
        have hl : (accL L 1 ++ List.replicate (124 - 4) 0).length = 124 := by rw [List.length_append, HJ.out.2.2.2, List.length_replicate]
        have HCC := Lib.hid (own_copy_ints (off := 4) (len := 120) (cap := 120) HJ.out.1 (by rw [hl]; decide) _ _ _ _ (HSRC.out 4 30 wr HJ.out.1.2.2.2 (by decide)) 3)
        clear hl
        go_wp2_with (refine wp_copy rfl (.tmp 17) (.tmp 18) 50 50 rfl _ _ rfl rfl _ HCC.out ?_; rintro v5 w5 ⟨rfl, hO5, hK5⟩; have HO5 := Lib.hid hO5; have HK5 := Lib.hid hK5; clear hO5 hK5)
        go_roundw
        case rel => exact ⟨2, rfl, by decide, (fun h => by first | rfl | exact absurd h (by decide)), (fun h => by first | rfl | exact absurd h (by decide)), (fun h => by first | rfl | exact absurd h (by decide)), (fun h => by first | rfl | exact absurd h (by decide)), (fun h => by first | rfl | exact absurd h (by decide)), Lib.hid (HJ.out.next rfl HLL.out (by decide) (by decide) (by decide) HO5.out HK5.out)⟩
        case measure => simp [intOf]
      · obtain rfl := hv2 rfl
        clear hv0 hv1 hv2 hv3 hv4
        have HJ : Hid (Joining w L g w.heap.size b 2 34 wr) := HJ
        have d1 : wr.cell? ⟨b, 2, none⟩ = some (.slice (some ⟨g, 64, none⟩) ((30 : Nat)) ((30 : Nat))) := HJ.out.2.1 2 _ rfl
        have hl : (accL L 2 ++ List.replicate (124 - 34) 0).length = 124 := by rw [List.length_append, HJ.out.2.2.2, List.length_replicate]
        have HCC := Lib.hid (own_copy_ints (off := 34) (len := 90) (cap := 90) HJ.out.1 (by rw [hl]; decide) _ _ _ _ (HSRC.out 64 30 wr HJ.out.1.2.2.2 (by decide)) 3)
        clear hl
        go_wp2_with (refine wp_copy rfl (.tmp 17) (.tmp 18) 50 50 rfl _ _ rfl rfl _ HCC.out ?_; rintro v5 w5 ⟨rfl, hO5, hK5⟩; have HO5 := Lib.hid hO5; have HK5 := Lib.hid hK5; clear hO5 hK5)
        go_roundw
        case rel => exact ⟨3, rfl, by decide, (fun h => by first | rfl | exact absurd h (by decide)), (fun h => by first | rfl | exact absurd h (by decide)), (fun h => by first | rfl | exact absurd h (by decide)), (fun h => by first | rfl | exact absurd h (by decide)), (fun h => by first | rfl | exact absurd h (by decide)), Lib.hid (HJ.out.next rfl HLL.out (by decide) (by decide) (by decide) HO5.out HK5.out)⟩
        case measure => simp [intOf]
      · obtain rfl := hv3 rfl
        clear hv0 hv1 hv2 hv3 hv4
        have HJ : Hid (Joining w L g w.heap.size b 3 64 wr) := HJ
        have d1 : wr.cell? ⟨b, 3, none⟩ = some (.slice (some ⟨g, 94, none⟩) ((30 : Nat)) ((30 : Nat))) := HJ.out.2.1 3 _ rfl
        have hl : (accL L 3 ++ List.replicate (124 - 64) 0).length = 124 := by rw [List.length_append, HJ.out.2.2.2, List.length_replicate]
        have HCC := Lib.hid (own_copy_ints (off := 64) (len := 60) (cap := 60) HJ.out.1 (by rw [hl]; decide) _ _ _ _ (HSRC.out 94 30 wr HJ.out.1.2.2.2 (by decide)) 3)
        clear hl
        go_wp2_with (refine wp_copy rfl (.tmp 17) (.tmp 18) 50 50 rfl _ _ rfl rfl _ HCC.out ?_; rintro v5 w5 ⟨rfl, hO5, hK5⟩; have HO5 := Lib.hid hO5; have HK5 := Lib.hid hK5; clear hO5 hK5)
        go_roundw
        case rel => exact ⟨4, rfl, by decide, (fun h => by first | rfl | exact absurd h (by decide)), (fun h => by first | rfl | exact absurd h (by decide)), (fun h => by first | rfl | exact absurd h (by decide)), (fun h => by first | rfl | exact absurd h (by decide)), (fun h => by first | rfl | exact absurd h (by decide)), Lib.hid (HJ.out.next rfl HLL.out (by decide) (by decide) (by decide) HO5.out HK5.out)⟩
        case measure => simp [intOf]
      · obtain rfl := hv4 rfl
        clear hv0 hv1 hv2 hv3 hv4
        have HJ : Hid (Joining w L g w.heap.size b 4 94 wr) := HJ
        have d1 : wr.cell? ⟨b, 4, none⟩ = some (.slice (some ⟨g, 124, none⟩) ((30 : Nat)) ((30 : Nat))) := HJ.out.2.1 4 _ rfl
        have hl : (accL L 4 ++ List.replicate (124 - 94) 0).length = 124 := by rw [List.length_append, HJ.out.2.2.2, List.length_replicate]
        have HCC := Lib.hid (own_copy_ints (off := 94) (len := 30) (cap := 30) HJ.out.1 (by rw [hl]; decide) _ _ _ _ (HSRC.out 124 30 wr HJ.out.1.2.2.2 (by decide)) 3)
        clear hl
        go_wp2_with (refine wp_copy rfl (.tmp 17) (.tmp 18) 50 50 rfl _ _ rfl rfl _ HCC.out ?_; rintro v5 w5 ⟨rfl, hO5, hK5⟩; have HO5 := Lib.hid hO5; have HK5 := Lib.hid hK5; clear hO5 hK5)
        go_roundw
        case rel => exact ⟨5, rfl, by decide, (fun h => by first | rfl | exact absurd h (by decide)), (fun h => by first | rfl | exact absurd h (by decide)), (fun h => by first | rfl | exact absurd h (by decide)), (fun h => by first | rfl | exact absurd h (by decide)), (fun h => by first | rfl | exact absurd h (by decide)), Lib.hid (HJ.out.next rfl HLL.out (by decide) (by decide) (by decide) HO5.out HK5.out)⟩
        case measure => simp [intOf]
    · obtain rfl : i = 5 := by omega
      have HJ : Hid (Joining w L g w.heap.size b 5 124 wr) := HJ
      have HF : Hid (FreshI wr w.heap.size (.slice (some ⟨w.heap.size, 0, none⟩) (124 : Nat) (124 : Nat)) (joinL L)) := Lib.hid (by
        obtain ⟨j1, j2, j3, j4⟩ := HJ.out
        have hl : (joinL L).length = 124 := j4
        have e : accL L 5 ++ List.replicate (124 - 124) 0 = joinL L := List.append_nil _
        rw [e] at j1
        have hzz : ∀ z ∈ joinL L, I64 z := fun z hz => by
          unfold joinL accL at hz
          obtain ⟨p, _, hp⟩ := List.mem_flatMap.1 hz
          exact HZ.out z (List.mem_of_mem_drop (List.mem_of_mem_take hp))
        have := iarg_of_range (cap := 124) (own_range j1) hzz (by omega) (by omega)
        rw [hl] at this
        exact ⟨_, 124, by rw [hl], by rw [hl]; exact this, Or.inr ⟨_, 0, rfl, Nat.le_refl _⟩⟩)
      clear hv0 hv1 hv2 hv3 hv4
      go_wp2_with fail
      go_ret
      exact ⟨_, rfl, HF.out, HJ.out.1.2.2.2⟩

end Go.Proofs.YtmcblhgpcgnaoaaGreatDoor

