/-
  Proved here: rows of blocks of 64 bytes in memory, as the landed image has them: loading, storing, turning one of them; what stays as it is while other memory turns. The conditions stand at each theorem. Proved here: what the smallest calls of the landed image answer: must where there is no error, within; put. The conditions stand at each theorem. Proved here: plain facts on a number's bytes, the least one first, in a list of bytes: what is put, what is read, when it fits. No conditions but those that each theorem names. Nothing of the program is read here. Proved here: what the bit operations of the language give of numbers that fit. The conditions stand at each theorem. Proved here: what the landed code of package field answers: bytesOf. The conditions stand at each theorem. Proved here: what the landed code of package field answers: with. The conditions stand at each theorem. Proved here: adding, subtracting and multiplying 64-bit floats that hold whole numbers below 2^53 is exact, whatever sign a zero has. No conditions but those that each theorem names. Nothing of the program is read here. Proved here: plain facts on pairs of whole numbers (complex numbers with whole parts) modulo 65521: powers of 2 + i, the steps of a check sum, how sums are joined, that no step loses anything. No conditions but those that each theorem names. Nothing of the program is read here.
-/
import Derived.Test.YthklefelkdhblaaGreatDoorNn0
import Derived.Deep.RegionHeld3
import Derived.Deep.QuietTactic
import Derived.BigQuiet
import Derived.StillTailTactics
import Derived.Deep.AppendLies
import Derived.Laws.ResultCell
import Derived.Lib.Hide
import Derived.IntWalk
import Derived.Laws.ComplexArith
namespace Go.Proofs.YthklefelkdhblaaGreatDoor
open Go.RowKit
set_option linter.unusedVariables false
set_option linter.unusedSimpArgs false

def bys (l : List Int) : List Value := l.map (Value.int .u8)
def flat (L : List (List Int)) : List Value := bys L.flatten
theorem bys_length (l : List Int) : (bys l).length = l.length := by unfold bys; simp
theorem bys_one (l : List Int) : ∀ u ∈ bys l, u.oneCell' = true := one_cells l
theorem bys_get {l : List Int} {j : Nat} {v : Value} (h : (bys l)[j]? = some v) : j < l.length ∧ v = .int .u8 (l.getD j 0) := by
  unfold bys at h
  rw [List.getElem?_map] at h
  cases hl : l[j]? with
  | none => rw [hl] at h; cases h
  | some x =>
    rw [hl] at h
    refine ⟨(List.getElem?_eq_some_iff.1 hl).1, ?_⟩
    rw [List.getD_eq_getElem?_getD, hl]
    exact (Option.some.inj h).symm
theorem bys_at {l : List Int} {j : Nat} (h : j < l.length) : (bys l)[j]? = some (.int .u8 (l.getD j 0)) := by
  unfold bys
  rw [List.getElem?_map, List.getElem?_eq_getElem h]
  simp [List.getD, h]

/-- Each has 64 bytes. -/
def All64 (L : List (List Int)) : Prop := ∀ c ∈ L, c.length = 64 ∧ ∀ z ∈ c, 0 ≤ z ∧ z ≤ 255

theorem flatten_len : ∀ {L : List (List Int)}, All64 L → L.flatten.length = L.length * 64
  | [], _ => rfl
  | c :: r, h => by
    rw [List.flatten_cons, List.length_append, flatten_len (fun x hx => h x (List.mem_cons_of_mem _ hx)), (h c (by simp)).1, List.length_cons]
    omega
theorem flatten_bytes {L : List (List Int)} (h : All64 L) : ∀ z ∈ L.flatten, 0 ≤ z ∧ z ≤ 255 := fun z hz => by
  obtain ⟨c, hc, hz⟩ := List.mem_flatten.1 hz
  exact (h c hc).2 z hz
theorem flatten_at : ∀ {L : List (List Int)} (_ : All64 L) (i j : Nat), j < 64 → L.flatten.getD (i * 64 + j) 0 = (L.getD i []).getD j 0
  | [], _, i, j, _ => by simp [List.getD]
  | c :: r, h, 0, j, hj => by
    have hc := (h c (by simp)).1
    rw [List.flatten_cons, List.getD_eq_getElem?_getD, List.getElem?_append_left (by omega)]
    rw [Nat.zero_mul, Nat.zero_add, ← List.getD_eq_getElem?_getD]
    rfl
  | c :: r, h, i + 1, j, hj => by
    have hc := (h c (by simp)).1
    have ih := flatten_at (L := r) (fun x hx => h x (List.mem_cons_of_mem _ hx)) i j hj
    rw [List.flatten_cons, List.getD_eq_getElem?_getD, List.getElem?_append_right (by omega), hc, show (i + 1) * 64 + j - 64 = i * 64 + j by omega, ← List.getD_eq_getElem?_getD]
    exact ih
theorem flat_length {L : List (List Int)} (h : All64 L) : (flat L).length = L.length * 64 := by
  unfold flat
  rw [bys_length, flatten_len h]
theorem All64.set {L : List (List Int)} (h : All64 L) {i : Nat} {c : List Int} (hc : c.length = 64 ∧ ∀ z ∈ c, 0 ≤ z ∧ z ≤ 255) : All64 (L.set i c) := fun x hx => by
  rcases List.mem_or_eq_of_mem_set hx with hx | rfl
  · exact h x hx
  · exact hc
theorem All64.at {L : List (List Int)} (h : All64 L) {i : Nat} (hi : i < L.length) : (L.getD i []).length = 64 ∧ ∀ z ∈ L.getD i [], 0 ≤ z ∧ z ≤ 255 := by
  have e : L.getD i [] = L[i] := by simp [List.getD, hi]
  rw [e]
  exact h _ (List.getElem_mem hi)
theorem All64.append {L M : List (List Int)} (h : All64 L) (k : All64 M) : All64 (L ++ M) := fun x hx => by
  rcases List.mem_append.1 hx with hx | hx
  · exact h x hx
  · exact k x hx
theorem All64.take {L : List (List Int)} (h : All64 L) (k : Nat) : All64 (L.take k) := fun x hx => h x (List.mem_of_mem_take hx)
/-! ### Memory -/

/-- Of what lay in w nothing has turned but in the blocks F; F' are of these, or new. -/
def Grew (F F' : Nat → Prop) (w w' : World) : Prop :=
  w'.os = w.os ∧ w'.tape = w.tape ∧ w'.output = w.output ∧ w.heap.size ≤ w'.heap.size ∧ (∀ k, k < w.heap.size → ¬ F k → w'.heap[k]? = w.heap[k]?) ∧ ∀ k, F' k → F k ∨ w.heap.size ≤ k
theorem Grew.below {F F' : Nat → Prop} {B : Nat} {w0 w w' : World} (h : Grew F F' w w') (hb : Below B w0 w) (hB : B ≤ w.heap.size) (hF : ∀ k, F k → B ≤ k) : Below B w0 w' :=
  hb.trans ⟨h.1, h.2.1, h.2.2.1, h.2.2.2.1, fun k hk => h.2.2.2.2.1 k (by omega) (fun hf => by have := hF k hf; omega)⟩
theorem Grew.refl (F : Nat → Prop) (w : World) : Grew F F w w := ⟨rfl, rfl, rfl, Nat.le_refl _, fun _ _ _ => rfl, fun _ h => Or.inl h⟩
theorem Grew.trans {F F' F'' : Nat → Prop} {a b c : World} (h : Grew F F' a b) (k : Grew F' F'' b c) : Grew F F'' a c := by
  obtain ⟨h1, h2, h3, h4, h5, h6⟩ := h
  obtain ⟨k1, k2, k3, k4, k5, k6⟩ := k
  refine ⟨k1.trans h1, k2.trans h2, k3.trans h3, Nat.le_trans h4 k4, fun i hi hF => ?_, fun i hi => ?_⟩
  · rw [k5 i (by omega) (fun hf => ?_), h5 i hi hF]
    rcases h6 i hf with h | h
    · exact hF h
    · omega
  · rcases k6 i hi with h | h
    · exact h6 i h
    · exact Or.inr (by omega)
theorem Grew.of_below {F : Nat → Prop} {w w' : World} (h : Below w.heap.size w w') : Grew F F w w' := ⟨h.os, h.tape, h.output, h.size, fun k hk _ => h.block k hk, fun _ h => Or.inl h⟩
theorem Grew.setCell (F : Nat → Prop) (w : World) {p : Addr} (hp : F p.block) (v : Value) : Grew F F w (w.setCell p v) :=
  ⟨rfl, rfl, rfl, by simp [World.setCell], fun k _ hF => Below.heap_setCell _ _ _ _ (fun e => hF (by rw [e]; exact hp)), fun _ h => Or.inl h⟩
theorem Grew.setCells (F : Nat → Prop) {b : Nat} (hb : F b) : ∀ (vs : List Value) (o : Nat) (w : World), Grew F F w (w.setCells b o vs)
  | [], _, w => Grew.refl F w
  | v :: r, o, w => by
    rw [World.setCells]
    exact (Grew.setCell F w (p := ⟨b, o, none⟩) hb v).trans (Grew.setCells F hb r (o + 1) _)
theorem Grew.drew (F : Nat → Prop) (w : World) : Grew F F w w.drew := ⟨rfl, rfl, rfl, Nat.le_refl _, fun _ _ _ => rfl, fun _ h => Or.inl h⟩
theorem Grew.block {F F' : Nat → Prop} {w w' : World} (h : Grew F F' w w') {k : Nat} (hk : k < w.heap.size) (hF : ¬ F k) : w'.heap[k]? = w.heap[k]? := h.2.2.2.2.1 k hk hF
theorem Grew.size {F F' : Nat → Prop} {w w' : World} (h : Grew F F' w w') : w.heap.size ≤ w'.heap.size := h.2.2.2.1
theorem cell_of_heap {w w' : World} {p : Addr} (h : w'.heap[p.block]? = w.heap[p.block]?) : w'.cell? p = w.cell? p := World.cell?_of_block (w := w) h
theorem frozen_of_heap {w w' : World} {p : Addr} (h : w'.heap[p.block]? = w.heap[p.block]?) : w'.frozen? p = w.frozen? p := World.frozen?_of_block (w := w) h

/-- Block g holds these blocks of bytes from its first cell on, and may be written. -/
def Rw (w : World) (g : Nat) (L : List (List Int)) : Prop :=
  All64 L ∧ (∀ j, j < L.flatten.length → w.cell? ⟨g, j, none⟩ = some (.int .u8 (L.flatten.getD j 0))) ∧ ∀ j, w.frozen? ⟨g, j, none⟩ = false

theorem Rw.kept {w w' : World} {g : Nat} {L : List (List Int)} (h : Rw w g L) (hk : w'.heap[g]? = w.heap[g]?) : Rw w' g L :=
  ⟨h.1, fun j hj => by rw [cell_of_heap (p := ⟨g, j, none⟩) hk]; exact h.2.1 j hj, fun j => by rw [frozen_of_heap (p := ⟨g, j, none⟩) hk]; exact h.2.2 j⟩
theorem Rw.lt {w : World} {g : Nat} {L : List (List Int)} (h : Rw w g L) (h0 : 0 < L.length) : g < w.heap.size :=
  World.block_lt_of_cell? _ _ (h.2.1 0 (by rw [flatten_len h.1]; omega))
theorem Rw.later {w w' : World} {g : Nat} {L : List (List Int)} (h : Rw w g L) (h0 : 0 < L.length) (hb : Below w.heap.size w w') : Rw w' g L := h.kept (hb.block g (h.lt h0))
/-- It is a block of bytes. -/
theorem Rw.own {w : World} {g base : Nat} {L : List (List Int)} (h : Rw w g L) (hg : base ≤ g) {w0 : World} (hb : Below base w0 w) : Own base w0 g L.flatten w :=
  ⟨flatten_bytes h.1, h.2.1, h.2.2, hg, hb⟩
/-- One of them, or a part of it. -/
theorem Rw.range {w : World} {g : Nat} {L : List (List Int)} (h : Rw w g L) {i : Nat} (hi : i < L.length) : w.rangeAt g (i * 64) (bys (L.getD i [])) := fun j v hv => by
  obtain ⟨hj, rfl⟩ := bys_get hv
  rw [(h.1.at hi).1] at hj
  rw [h.2.1 (i * 64 + j) (by rw [flatten_len h.1]; omega), flatten_at h.1 i j hj]
theorem Rw.bts {w : World} {g : Nat} {L : List (List Int)} (h : Rw w g L) {i d m : Nat} (hi : i < L.length) (hm : d + m ≤ 64) : Bts w (some ⟨g, i * 64 + d, none⟩) m (((L.getD i []).drop d).take m) := by
  have hc := h.1.at hi
  refine ⟨by rw [List.length_take, List.length_drop, hc.1]; omega, by omega, fun z hz => hc.2 z (List.mem_of_mem_drop (List.mem_of_mem_take hz)), Or.inr ⟨g, i * 64 + d, rfl, fun j hj => ?_⟩⟩
  rw [Nat.add_assoc, h.2.1 (i * 64 + (d + j)) (by rw [flatten_len h.1]; omega), flatten_at h.1 i (d + j) (by omega)]
  congr 2
  simp [List.getD, List.getElem?_take, hj, List.getElem?_drop]
theorem Rw.arg {w : World} {g : Nat} {L : List (List Int)} (h : Rw w g L) {i d m cap : Nat} (hi : i < L.length) (hm : d + m ≤ 64) (hc : m ≤ cap) : Arg w (some ⟨g, i * 64 + d, none⟩) m cap (((L.getD i []).drop d).take m) :=
  ⟨h.bts hi hm, by simp, hc, by omega⟩
theorem Rw.whole {w : World} {g : Nat} {L : List (List Int)} (h : Rw w g L) {i cap : Nat} (hi : i < L.length) (hc : 64 ≤ cap) : Arg w (some ⟨g, i * 64, none⟩) 64 cap (L.getD i []) := by
  have := h.arg (i := i) (d := 0) (m := 64) (cap := cap) hi (by omega) hc
  rw [Nat.add_zero, List.drop_zero, List.take_of_length_le (by rw [(h.1.at hi).1]; omega)] at this
  exact this
theorem setCells_cell (g : Nat) : ∀ (vs : List Value) (o : Nat) (w : World) (j : Nat), (∀ k, o ≤ k → k < o + vs.length → (w.cell? ⟨g, k, none⟩).isSome) → (w.setCells g o vs).cell? ⟨g, j, none⟩ = if o ≤ j ∧ j < o + vs.length then vs[j - o]? else w.cell? ⟨g, j, none⟩
  | [], o, w, j, _ => by rw [World.setCells, if_neg (by simp only [List.length_nil]; omega)]
  | v :: r, o, w, j, h => by
    have hs : (w.cell? ⟨g, o, none⟩).isSome := h o (Nat.le_refl _) (by simp)
    obtain ⟨u, hu⟩ := Option.isSome_iff_exists.1 hs
    rw [World.setCells, setCells_cell g r (o + 1) _ j (fun k h1 h2 => by
      rw [World.cell?_setCell_other (h := by intro e; simp at e <;> omega)]
      exact h k (by omega) (by simp only [List.length_cons]; omega))]
    by_cases e : j = o
    · subst e
      rw [if_neg (by omega), if_pos (by simp only [List.length_cons]; omega), World.cell?_setCell_same w _ _ hu]
      simp
    · by_cases h2 : o + 1 ≤ j ∧ j < o + 1 + r.length
      · rw [if_pos h2, if_pos (by simp only [List.length_cons]; omega), show j - o = (j - (o + 1)) + 1 by omega]
        rfl
      · rw [if_neg h2, if_neg (by simp only [List.length_cons]; omega), World.cell?_setCell_other (h := by intro e'; simp at e' <;> omega)]
theorem frozen_setCells (g : Nat) : ∀ (vs : List Value) (o : Nat) (w : World) (a : Addr), (w.setCells g o vs).frozen? a = w.frozen? a
  | [], _, _, _ => rfl
  | v :: r, o, w, a => by rw [World.setCells, frozen_setCells g r (o + 1) _ a, World.frozen?_setCell]
/-- One of them is stored anew. -/
theorem Rw.store {w : World} {g : Nat} {L : List (List Int)} (h : Rw w g L) {i : Nat} (hi : i < L.length) {c : List Int} (hc : c.length = 64 ∧ ∀ z ∈ c, 0 ≤ z ∧ z ≤ 255) : Rw (w.setCells g (i * 64) (bys c)) g (L.set i c) := by
  have hA := h.1.set (i := i) hc
  refine ⟨hA, fun j hj => ?_, fun j => by rw [frozen_setCells]; exact h.2.2 j⟩
  rw [flatten_len hA, List.length_set] at hj
  rw [setCells_cell g (bys c) (i * 64) w j (fun k h1 h2 => by rw [h.2.1 k (by rw [flatten_len h.1]; rw [bys_length, hc.1] at h2; omega)]; rfl), bys_length, hc.1]
  obtain ⟨q, r, hr, rfl⟩ : ∃ q r, r < 64 ∧ j = q * 64 + r := ⟨j / 64, j % 64, by omega, by omega⟩
  rw [flatten_at hA q r hr]
  by_cases e : q = i
  · subst e
    rw [if_pos (by omega), show q * 64 + r - q * 64 = r by omega, bys_at (by omega)]
    congr 2
    have : (L.set q c).getD q [] = c := by simp [List.getD, hi]
    rw [this]
  · rw [if_neg (by omega), h.2.1 (q * 64 + r) (by rw [flatten_len h.1]; omega), flatten_at h.1 q r hr]
    congr 2
    have : (L.set i c).getD q [] = L.getD q [] := by simp [List.getD, List.getElem?_set, Ne.symm e]
    rw [this]
theorem Rw.there {w : World} {g : Nat} {L : List (List Int)} (h : Rw w g L) {i : Nat} (hi : i < L.length) : w.there g (i * 64) 64 := fun j hj =>
  ⟨by rw [h.2.1 (i * 64 + j) (by rw [flatten_len h.1]; omega)]; rfl, h.2.2 _⟩
theorem Rw.drew {w : World} {g : Nat} {L : List (List Int)} (h : Rw w g L) : Rw w.drew g L := h.kept rfl

/-- A row of blocks that a call owns. -/
theorem rw_of_owns {w : World} {base n : Nat} {v : Value} {L : List (List Int)} (h : w.ownsRow base 97 64 v n (flat L)) (hL : All64 L) (hn : 0 < n) :
    ∃ g cap, v = .slice (some ⟨g, 0, none⟩) n cap ∧ n ≤ cap ∧ L.length = n ∧ base ≤ g ∧ g < w.heap.size ∧ Rw w g L := by
  obtain ⟨h1, h2⟩ := h
  have hl : L.length = n := by rw [flat_length hL] at h1; omega
  rcases h2 with ⟨_, h0⟩ | ⟨g, cap, cur, hv, hb, hg, hc, hm, hs, ht⟩
  · omega
  · have hlt : g < w.heap.size := by
      rcases Nat.lt_or_ge g w.heap.size with hlt | hge
      · exact hlt
      · rw [Array.getElem?_eq_none hge] at hg; cases hg
    refine ⟨g, cap, hv, hc, hl, hb, hlt, hL, fun j hj => ?_, fun j => ?_⟩
    · have h3 := (show w.ownsRow base 97 64 v n (flat L) from ⟨h1, Or.inr ⟨g, cap, cur, hv, hb, hg, hc, hm, hs, ht⟩⟩).cells (by rw [hv]; rfl) j (.int .u8 (L.flatten.getD j 0)) (bys_at hj)
      rw [Go.WideShapes.add_plain] at h3
      simpa using h3
    · simp [World.frozen?, hg]
end Go.Proofs.YthklefelkdhblaaGreatDoor


namespace Go.Proofs.YthklefelkdhblaaGreatDoor
open Go.RowKit
set_option linter.unusedVariables false
set_option linter.unusedSimpArgs false

theorem drew_eq17 (w : World) : { w with drawn := w.drawn + 1 } = w.drew := rfl

theorem mustB_any (v : Value) (w : World) : Calls Tryz.prog 37 #[v, .int .i64 0] w fun e w' => e = .returned v ∧ w = w' := by
  go_enter Tryz.func37, Tryz.ntmps37
  go_wp2_with fail
  go_ret
  exact ⟨rfl, rfl⟩

theorem mustC_any (v : Value) (w : World) : Calls Tryz.prog 42 #[v, .int .i64 0] w fun e w' => e = .returned v ∧ w = w' := by
  go_enter Tryz.func42, Tryz.ntmps42
  go_wp2_with fail
  go_ret
  exact ⟨rfl, rfl⟩

theorem mustI_any (v : Value) (w : World) : Calls Tryz.prog 104 #[v, .int .i64 0] w fun e w' => e = .returned v ∧ w = w' := by
  go_enter Tryz.func104, Tryz.ntmps104
  go_wp2_with fail
  go_ret
  exact ⟨rfl, rfl⟩

theorem mustCs_any (v : Value) (w : World) : Calls Tryz.prog 127 #[v, .int .i64 0] w fun e w' => e = .returned v ∧ w = w' := by
  go_enter Tryz.func127, Tryz.ntmps127
  go_wp2_with fail
  go_ret
  exact ⟨rfl, rfl⟩

/-- Does a number lie between two others? -/
def inI (n lo hi : Int) : Bool := decide (lo ≤ n ∧ n ≤ hi)
theorem iwithin_any (n lo hi : Int) (w : World) : Calls Tryz.prog 34 #[.int .i64 n, .int .i64 lo, .int .i64 hi] w fun e w' => e = .returned (.bool (inI n lo hi)) ∧ w = w' := by
  by_cases h1 : lo ≤ n
  · by_cases h2 : n ≤ hi
    · have HE : Hid (inI n lo hi = true) := Lib.hid (decide_eq_true ⟨h1, h2⟩)
      go_enter Tryz.func34, Tryz.ntmps34
      go_wp2
      go_ret
      exact ⟨by rw [HE.out]; rfl, rfl⟩
    · have HE : Hid (inI n lo hi = false) := Lib.hid (decide_eq_false (fun h => h2 h.2))
      go_enter Tryz.func34, Tryz.ntmps34
      go_wp2
      go_ret
      exact ⟨by rw [HE.out]; rfl, rfl⟩
  · have HE : Hid (inI n lo hi = false) := Lib.hid (decide_eq_false (fun h => h1 h.1))
    go_enter Tryz.func34, Tryz.ntmps34
    go_wp2
    go_ret
    exact ⟨by rw [HE.out]; rfl, rfl⟩

theorem ublk : Tryz.prog.underlying 97 = some (.array 64 5) := Tryz.underlying97
theorem iblk {c : List Int} (h : c.length = 64) : (Tryz.prog.info? 97).map (·.size) = some (bys c).length := by rw [bys_length, h]; kernel_rfl
theorem iblka {c : List Int} (h : c.length = 64) : (Tryz.prog.info? 97).map (·.size) = some (bys c).toArray.size := by rw [List.size_toArray]; exact iblk h

theorem still_blk {ops : Array Oper} {rest : List Oper} {o : Oper} {a : Act} {w : World} {Q : Act → Prop} (hg : o.guard = none) (x : Operand) (ho : o.op = .load 97 x) (dst : Option Tmp) (hd : o.dst = dst) (b off : Nat) (hx : a.eval x = .pointer (some ⟨b, off, none⟩))
    (c : List Int) (hr : w.rangeAt b off (bys c)) (hc : c.length = 64) (h : wpStill Tryz.prog ops w Q rest (a.put dst (.agg (bys c).toArray))) : wpStill Tryz.prog ops w Q (o :: rest) a := by
  subst hd
  refine wpStill_step (fun K hK => ?_)
  rw [if_pos (by simp [Region.wanted, hg])]
  unfold Oper.still execOp
  simp only [ho, hx, Instr.loadAt, Instr.sureAddr, Sem.run_bind, Sem.run_pure, Result.andThen_ok, run_loadVar_mid w b off _ (bys c) _ hr ublk rfl (iblk hc), Oper.stillUpon_value]
  exact hK _ h

theorem arg_range {w : World} {b off cap m : Nat} {zs : List Int} (h : Arg w (some ⟨b, off, none⟩) m cap zs) : w.rangeAt b off (bys zs) := fun j v hv => by
  obtain ⟨hj, rfl⟩ := bys_get hv
  rcases h.1.2.2.2 with h0 | ⟨b', o', e, hc⟩
  · have := h.1.1; omega
  · cases e
    exact hc j (by have := h.1.1; omega)

theorem to_array (b off c : Nat) (w : World) : (Instr.arrayAt 97 (.slice (some ⟨b, off, none⟩) 64 c)).run Tryz.prog w = .ok (.pointer (some ⟨b, off, none⟩)) w := by
  simp only [Instr.arrayAt, run_underlying ublk, Sem.run_bind, Result.andThen_ok]
  rfl

set_option maxRecDepth 100000 in
set_option maxHeartbeats 1600000 in
theorem put_any {w : World} {p q g n cap i c2 : Nat} {L : List (List Int)} {ao : Option Addr} {zs : List Int} (hp : w.cell? ⟨p, q, none⟩ = some (.slice (some ⟨g, 0, none⟩) n cap)) (hR : Rw w g L) (hn : L.length = n) (hi : i < n) (hA : Arg w ao 64 c2 zs) :
    Calls Tryz.prog 36 #[.pointer (some ⟨p, q, none⟩), .int .i64 i, .slice ao 64 c2] w fun e w' => e = .returned (.tuple #[]) ∧ Rw w' g (L.set i zs) ∧ Grew (fun k => k = g) (fun k => k = g) w w' := by
  obtain ⟨b, off, rfl⟩ : ∃ b off, ao = some ⟨b, off, none⟩ := by
    rcases hA.1.2.2.2 with h0 | ⟨b, off, e, _⟩
    · omega
    · exact ⟨b, off, e⟩
  have HR := Lib.hid hR
  have HN := Lib.hid hn
  have HZ := Lib.hid (And.intro hA.1.1 hA.1.2.2.1)
  have HA := Lib.hid (arg_range hA)
  have hcv := to_array b off c2
  clear hA hR hn
  go_enter Tryz.func36, Tryz.ntmps36
  go_wp2_with fail
  refine wp_region_still_tail 9 (by kernel_rfl) (by kernel_rfl) ?_
  simp only [List.take_succ_cons, List.take_zero, List.drop_succ_cons, List.drop_zero]
  try rw [drew_eq17]
  iterate 7 still_step
  refine still_blk rfl (.tmp 12) rfl (some 13) rfl b off rfl zs ((World.rangeAt_drew _ _ _ _).2 HA.out) HZ.out.1 ?_
  still_step
  refine wpStill_nil ?_
  refine wpList_store_mid rfl 97 (.tmp 14) (.tmp 13) rfl g (i * 64) (bys zs).toArray rfl rfl ?_ (iblka HZ.out.1) (all_oneCell_toArray (bys_one zs)) ?_
  · rw [List.size_toArray, bys_length, HZ.out.1]
    exact (World.there_drew _ _ _ _).2 (HR.out.there (by rw [HN.out]; exact hi))
  go_wp2_with fail
  go_end0
  exact ⟨rfl, HR.out.drew.store (by rw [HN.out]; exact hi) HZ.out, (Grew.drew _ _).trans (Grew.setCells (fun k => k = g) rfl _ _ _)⟩
end Go.Proofs.YthklefelkdhblaaGreatDoor


namespace Go.Proofs.YthklefelkdhblaaGreatDoor

/-- The error of a place: 2: no block; 1: no place for so many bytes; 0: none. -/
def fErr (len : Nat) (p size : Int) : Int :=
  if len = 64 then (if size < 1 ∨ 4 < size ∨ p < 0 ∨ 60 < p ∨ 60 < p + size then 1 else 0) else 2

/-- Behind k bytes: the list, and what is left of the number. -/
def putK (zs : List Int) (p : Nat) (n : Int) : Nat → List Int × Int
  | 0 => (zs, n)
  | k + 1 => ((putK zs p n k).1.set (p + k) ((putK zs p n k).2 % 256), (putK zs p n k).2 / 256)

/-- The number in k bytes. -/
def leN (zs : List Int) (p : Nat) : Nat → Int
  | 0 => 0
  | k + 1 => leN zs p k + zs.getD (p + k) 0 * 256 ^ k

def setErr (len : Nat) (p size n : Int) : Int :=
  if fErr len p size ≠ 0 then fErr len p size else if n < 0 ∨ 0 < (putK [] 0 n size.toNat).2 then 7 else 0

def setOut (zs : List Int) (p size n : Int) : List Int :=
  if setErr zs.length p size n = 0 then (putK zs p.toNat n size.toNat).1 else []

theorem putK_rest (zs ys : List Int) (p q : Nat) (n : Int) (k : Nat) : (putK zs p n k).2 = (putK ys q n k).2 := by
  induction k with
  | zero => rfl
  | succ k ih => show _ / 256 = _ / 256; rw [ih]

theorem putK_length (zs : List Int) (p : Nat) (n : Int) (k : Nat) : (putK zs p n k).1.length = zs.length := by
  induction k with
  | zero => rfl
  | succ k ih => show ((putK zs p n k).1.set _ _).length = _; rw [List.length_set, ih]

theorem putK_nonneg (zs : List Int) (p : Nat) {n : Int} (h : 0 ≤ n) (k : Nat) : 0 ≤ (putK zs p n k).2 ∧ (putK zs p n k).2 ≤ n := by
  induction k with
  | zero => exact ⟨h, Int.le_refl _⟩
  | succ k ih =>
    show 0 ≤ (putK zs p n k).2 / 256 ∧ (putK zs p n k).2 / 256 ≤ n
    omega

theorem pow256_pos (k : Nat) : (1 : Int) ≤ 256 ^ k := by
  have := Int.pow_pos (n := 256) (m := k) (by decide)
  omega

theorem leN_bounds {zs : List Int} (hz : ∀ z ∈ zs, 0 ≤ z ∧ z ≤ 255) (p k : Nat) (h : p + k ≤ zs.length) : 0 ≤ leN zs p k ∧ leN zs p k < 256 ^ k := by
  induction k with
  | zero => exact ⟨Int.le_refl _, by show (0 : Int) < 1; decide⟩
  | succ k ih =>
    have h1 := ih (by omega)
    have h2 := hz _ (getD_mem (l := zs) (k := p + k) (by omega))
    have h3 := pow256_pos k
    have h4 : zs.getD (p + k) 0 * 256 ^ k ≤ 255 * 256 ^ k := Int.mul_le_mul_of_nonneg_right h2.2 (by omega)
    have h5 : 0 ≤ zs.getD (p + k) 0 * 256 ^ k := Int.mul_nonneg h2.1 (by omega)
    rw [Int.pow_succ]
    show 0 ≤ leN zs p k + zs.getD (p + k) 0 * 256 ^ k ∧ leN zs p k + zs.getD (p + k) 0 * 256 ^ k < 256 ^ k * 256
    omega

theorem pow256_four {k : Nat} (h : k ≤ 4) : (256 : Int) ^ k ≤ 4294967296 := by
  rcases k with _ | _ | _ | _ | _ | k
  · decide
  · decide
  · decide
  · decide
  · decide
  · omega

theorem leN_four {zs : List Int} (hz : ∀ z ∈ zs, 0 ≤ z ∧ z ≤ 255) (p k : Nat) (h : p + k ≤ zs.length) (hk : k ≤ 4) : 0 ≤ leN zs p k ∧ leN zs p k < 4294967296 := by
  have h1 := leN_bounds hz p k h
  have h2 := pow256_four hk
  omega

def getOut (zs : List Int) (p size : Int) : Int := if fErr zs.length p size = 0 then leN zs p.toNat size.toNat else 0

theorem fErr_ok {len : Nat} {p size : Int} (h : fErr len p size = 0) : len = 64 ∧ 1 ≤ size ∧ size ≤ 4 ∧ 0 ≤ p ∧ p + size ≤ 60 := by
  unfold fErr at h
  split at h
  · split at h
    · omega
    · omega
  · omega

theorem setOut_err {zs : List Int} {p size n : Int} (h : setErr zs.length p size n ≠ 0) : setOut zs p size n = [] := by
  unfold setOut; rw [if_neg h]

theorem setOut_ok {zs : List Int} {p size n : Int} (h : setErr zs.length p size n = 0) : setOut zs p size n = (putK zs p.toNat n size.toNat).1 := by
  unfold setOut; rw [if_pos h]

/-- A number's first k bytes. -/
def leB (n : Int) : Nat → List Int
  | 0 => []
  | k + 1 => leB n k ++ [n / 256 ^ k % 256]

theorem leB_length (n : Int) (k : Nat) : (leB n k).length = k := by
  induction k with
  | zero => rfl
  | succ k ih => show (leB n k ++ _).length = _; rw [List.length_append, ih]; rfl

theorem leB_bytes (n : Int) (k : Nat) : ∀ z ∈ leB n k, 0 ≤ z ∧ z ≤ 255 := by
  induction k with
  | zero => simp [leB]
  | succ k ih =>
    intro z hz
    rcases List.mem_append.1 hz with h | h
    · exact ih z h
    · rw [List.mem_singleton.1 h]; omega

theorem pow_two_bytes (k : Nat) : (2 : Int) ^ (8 * k) = 256 ^ k := by
  rw [Int.pow_mul]; rfl

/-- A block with its check sum behind its first 60 bytes; the sum is the given function's. -/
def sealOf (sum : List Int → Int) (zs : List Int) : List Int :=
  let l := (zs ++ List.replicate (60 - zs.length) 0).take 60
  l ++ leB (sum l) 4

def textErr (len : Nat) (p : Int) (n : Nat) : Int := if len = 64 then (if p < 0 ∨ 60 < p ∨ 60 - p < n then 1 else 0) else 2

def textOut (zs : List Int) (p : Int) (ss : List Int) : List Int :=
  if textErr zs.length p ss.length = 0 then zs.take p.toNat ++ ss ++ zs.drop (p.toNat + ss.length) else []

def sealErr (len : Nat) : Int := if len = 64 then 0 else 2
def sealOut (sum : List Int → Int) (zs : List Int) : List Int := if zs.length = 64 then sealOf sum zs else []

theorem sealOf_take {sum : List Int → Int} {zs : List Int} (h : zs.length = 64) : sealOf sum zs = zs.take 60 ++ leB (sum (zs.take 60)) 4 := by
  have e : (zs ++ List.replicate (60 - zs.length) 0).take 60 = zs.take 60 := by
    rw [h]; simp
  unfold sealOf
  rw [e]

end Go.Proofs.YthklefelkdhblaaGreatDoor


namespace Go.Proofs.YthklefelkdhblaaGreatDoor
open Go.RowKit

theorem big64 : 9223372036854775808 < 2 ^ 64 := by decide

theorem below64 {a b : Nat} (h : a + b < 9223372036854775808) : a < 2 ^ 64 := by
  have := big64
  generalize 2 ^ 64 = B at *
  omega

theorem or_parts {a x : Int} {m : Nat} (ha : 0 ≤ a ∧ a < 2 ^ m) (hx : 0 ≤ x) (hs : a + x * 2 ^ m < 9223372036854775808) : bits .or .i64 a (x * 2 ^ m) = a + x * 2 ^ m := by
  obtain ⟨a, rfl⟩ := Int.eq_ofNat_of_zero_le ha.1
  obtain ⟨x, rfl⟩ := Int.eq_ofNat_of_zero_le hx
  have hp : ((2 : Int) ^ m) = ((2 ^ m : Nat) : Int) := by rw [Int.natCast_pow]; rfl
  have ha2 : a < 2 ^ m := by have h := ha.2; rw [hp] at h; exact Int.ofNat_lt.1 h
  have he : ((x : Int) * 2 ^ m) = ((2 ^ m * x : Nat) : Int) := by rw [hp, Nat.mul_comm]; exact (Int.natCast_mul _ _).symm
  rw [he] at hs ⊢
  have h3 : 2 ^ m * x + a < 9223372036854775808 := by omega
  have h1 : (BitVec.ofInt 64 (a : Int)).toNat = a := by
    rw [BitVec.ofInt_natCast, BitVec.toNat_ofNat]; exact Nat.mod_eq_of_lt (below64 (b := 2 ^ m * x) (by rw [Nat.add_comm]; exact h3))
  have h2 : (BitVec.ofInt 64 ((2 ^ m * x : Nat) : Int)).toNat = 2 ^ m * x := by
    rw [BitVec.ofInt_natCast, BitVec.toNat_ofNat]; exact Nat.mod_eq_of_lt (below64 h3)
  show IntKind.i64.wrap ((BitVec.ofInt 64 (a : Int) ||| BitVec.ofInt 64 ((2 ^ m * x : Nat) : Int)).toNat : Int) = _
  rw [BitVec.toNat_or, h1, h2, Nat.or_comm, ← Nat.two_pow_add_eq_or_of_lt ha2, IntWalk.i64_in _ (by omega)]
  omega

/-! Bits of bytes -/

theorem byte_bits : ∀ (x : Fin 256) (k : Fin 8),
    (bits .and .u8 ((x.val : Int) / 2 ^ k.val) 1 = (x.val : Int) / 2 ^ k.val % 2) ∧
    (0 ≤ bits .or .u8 (x.val : Int) (2 ^ k.val) ∧ bits .or .u8 (x.val : Int) (2 ^ k.val) ≤ 255) ∧
    (0 ≤ bits .andNot .u8 (x.val : Int) (2 ^ k.val) ∧ bits .andNot .u8 (x.val : Int) (2 ^ k.val) ≤ 255) ∧
    (∀ i : Fin 8, (bits .or .u8 (x.val : Int) (2 ^ k.val) / 2 ^ i.val % 2 = if i = k then 1 else (x.val : Int) / 2 ^ i.val % 2) ∧
      (bits .andNot .u8 (x.val : Int) (2 ^ k.val) / 2 ^ i.val % 2 = if i = k then 0 else (x.val : Int) / 2 ^ i.val % 2)) := by
  decide +kernel

theorem byte_fin {x : Int} (h : 0 ≤ x ∧ x ≤ 255) : ∃ y : Fin 256, x = (y.val : Int) := ⟨⟨x.toNat, by omega⟩, by show x = (x.toNat : Int); omega⟩

theorem and_one {x : Int} {k : Nat} (h : 0 ≤ x ∧ x ≤ 255) (hk : k < 8) : bits .and .u8 (x / 2 ^ k) 1 = x / 2 ^ k % 2 := by
  obtain ⟨y, rfl⟩ := byte_fin h
  exact (byte_bits y ⟨k, hk⟩).1

theorem or_bit {x : Int} {k : Nat} (h : 0 ≤ x ∧ x ≤ 255) (hk : k < 8) : (0 ≤ bits .or .u8 x (2 ^ k) ∧ bits .or .u8 x (2 ^ k) ≤ 255) ∧ ∀ i, i < 8 → bits .or .u8 x (2 ^ k) / 2 ^ i % 2 = if i = k then 1 else x / 2 ^ i % 2 := by
  obtain ⟨y, rfl⟩ := byte_fin h
  have hb := byte_bits y ⟨k, hk⟩
  refine ⟨hb.2.1, fun i hi => ?_⟩
  have e := (hb.2.2.2 ⟨i, hi⟩).1
  by_cases h : i = k
  · rw [if_pos (Fin.ext h)] at e
    rw [if_pos h]
    exact e
  · rw [if_neg (fun e => h (Fin.val_eq_of_eq e))] at e
    rw [if_neg h]
    exact e

theorem andNot_bit {x : Int} {k : Nat} (h : 0 ≤ x ∧ x ≤ 255) (hk : k < 8) : (0 ≤ bits .andNot .u8 x (2 ^ k) ∧ bits .andNot .u8 x (2 ^ k) ≤ 255) ∧ ∀ i, i < 8 → bits .andNot .u8 x (2 ^ k) / 2 ^ i % 2 = if i = k then 0 else x / 2 ^ i % 2 := by
  obtain ⟨y, rfl⟩ := byte_fin h
  have hb := byte_bits y ⟨k, hk⟩
  refine ⟨hb.2.2.1, fun i hi => ?_⟩
  have e := (hb.2.2.2 ⟨i, hi⟩).2
  by_cases h : i = k
  · rw [if_pos (Fin.ext h)] at e
    rw [if_pos h]
    exact e
  · rw [if_neg (fun e => h (Fin.val_eq_of_eq e))] at e
    rw [if_neg h]
    exact e

end Go.Proofs.YthklefelkdhblaaGreatDoor


namespace Go.Proofs.YthklefelkdhblaaGreatDoor
open Go.RowKit

/-- What bytesOf has laid behind j rounds. -/
def begun (n : Int) (k j : Nat) : List Int := leB n j ++ List.replicate (k - j) 0

theorem begun_length (n : Int) (k j : Nat) (h : j ≤ k) : (begun n k j).length = k := by
  unfold begun; rw [List.length_append, leB_length, List.length_replicate]; omega

theorem begun_step (n : Int) (k j : Nat) (h : j < k) : (begun n k j).set j (n / 256 ^ j % 256) = begun n k (j + 1) := by
  have e : k - j = (k - (j + 1)) + 1 := by omega
  unfold begun
  rw [e, List.replicate_succ, List.set_append_right _ _ (by rw [leB_length]; exact Nat.le_refl _), leB_length, Nat.sub_self, List.set_cons_zero]
  show _ = (leB n j ++ [n / 256 ^ j % 256]) ++ _
  rw [List.append_assoc]
  rfl

set_option maxHeartbeats 400000 in
theorem fBytes_any (k : Nat) (n : Int) (w : World) (hk : k ≤ 4) :
    Calls Tryz.prog 203 #[.int .i64 k, .int .i64 n] w fun e w' => e = .returned (.string (str (leB n k))) ∧ Below w.heap.size w w' := by
  have hmk := run_make_bytes w k (by omega)
  have HO := Lib.hid (made_own w k)
  generalize hw1 : w.alloc (.cells (madeCells #[.int .u8 0] k) 5) = w1 at *
  have HW1 := Lib.hid hw1
  clear hw1
  go_enter Tryz.func203, Tryz.ntmps203
  go_wp2
  go_loopw [11] (fun iv wr => ∃ j : Nat, j ≤ k ∧ iv = .int .i64 j ∧ Hid (Own w.heap.size w w.heap.size (begun n k j) wr)) (fun iv _ => k - (intOf iv).toNat)
  case atStart => exact ⟨0, Nat.zero_le _, rfl, HO⟩
  case round =>
    obtain ⟨j, hj, rfl, HR⟩ := hrel
    by_cases hlt : j < k
    · have hcell := HR.out.2.1 j (by rw [begun_length _ _ _ hj]; exact hlt)
      have hfr := HR.out.2.2.1 j
      obtain ⟨x, hx⟩ : ∃ x, (begun n k j).getD j 0 = x := ⟨_, rfl⟩
      rw [hx] at hcell
      clear hx
      have HS := Lib.hid (HR.out.store (k := j) (y := n / 256 ^ j % 256) (by rw [begun_length _ _ _ hj]; exact hlt) (by omega))
      rw [begun_step n k j hlt, ← pow_two_bytes] at HS
      go_wp2
      go_roundw
      case rel => exact ⟨j + 1, by omega, by go_num, HS⟩
      case measure => simp [intOf]; omega
    · have hjk : j = k := by omega
      subst hjk
      have e0 : begun n j j = leB n j := by unfold begun; rw [Nat.sub_self]; simp
      have hO := HR.out
      rw [e0] at hO
      have hb := hO.bts (by rw [leB_length]; omega)
      rw [leB_length] at hb
      have hs := str_bytes (cap := j) hb
      have HB := Lib.hid hO.2.2.2.2
      clear hO hb e0
      go_wp2
      go_ret
      exact ⟨rfl, HB.out⟩

end Go.Proofs.YthklefelkdhblaaGreatDoor


namespace Go.Proofs.YthklefelkdhblaaGreatDoor
open Go.RowKit

set_option maxHeartbeats 400000 in
set_option maxRecDepth 100000 in
theorem fWith_any (ao : Option Addr) (cap : Nat) (zs : List Int) (q : Nat) (s : ByteArray) (w : World) (hB : Bts w ao 64 zs) (hq : q + s.size ≤ 64) (hq64 : q < 64) :
    Calls Tryz.prog 150 #[.slice ao 64 cap, .int .i64 q, .string s] w (Gives w.heap.size w (lay zs q (bytesOf s))) := by
  have hmk := run_make_bytes w 64 (by decide)
  rw [show ((64 : Nat) : Int) = 64 from rfl] at hmk
  have HO := Lib.hid (made_own w 64)
  have HL := Lib.hid hB.1
  have HB := Lib.hid (hB.later HO.out.2.2.2.2)
  clear hB
  have HZ : Hid (lay (List.replicate 64 0) 0 zs = zs) := Lib.hid (by
    rw [lay_eq _ _ _ (by rw [HL.out]; decide), HL.out]
    simp)
  generalize hw1 : w.alloc (.cells (madeCells #[.int .u8 0] 64) 5) = w1 at *
  have HW1 := Lib.hid hw1
  clear hw1
  have i1 : (q : Int) ≤ 64 := by omega
  go_enter Tryz.func150, Tryz.ntmps150
  go_wp2_with (first | (refine wp_copy rfl (.tmp 9) (.tmp 10) 62 62 rfl _ _ rfl rfl _ (own_copy_bytes HO.out (by decide) ao 64 cap zs HB.out (by decide) _) ?_; rintro v2 w2 ⟨rfl, hO2⟩; rw [HZ.out] at hO2; have HO2 := Lib.hid hO2; clear hO2) | (refine wp_copy rfl (.tmp 14) (.tmp 15) 62 9 rfl _ _ rfl rfl _ (own_copy_text HO2.out (by rw [HL.out]; omega) s (by omega) _) ?_; rintro v3 w3 ⟨rfl, hO3⟩; have HO3 := Lib.hid hO3; clear hO3))
  go_ret
  have hf := HO3.out.fresh (cap := 64) (by rw [lay_length, HL.out]; decide) (by rw [lay_length, HL.out]; decide)
  rw [lay_length, HL.out] at hf
  exact ⟨_, rfl, hf, HO3.out.2.2.2.2⟩

end Go.Proofs.YthklefelkdhblaaGreatDoor


namespace Go.Proofs.YthklefelkdhblaaGreatDoor
open Ieee

theorem signed_add (s : Bool) (m a b : Nat) : signed s m (a + b) = signed s m a * 2 ^ b := by
  unfold signed
  simp only [Nat.shiftLeft_eq, Nat.pow_add]
  split <;> simp [Int.mul_assoc, Int.neg_mul]

theorem signed_zero (s : Bool) (a : Nat) : signed s 0 a = 0 := by
  unfold signed
  simp

theorem two_pow_ne (k : Nat) : (2 : Int) ^ k ≠ 0 := by
  have h := Int.pow_pos (n := 2) (m := k) (by decide)
  omega

/-- The datum is the whole number n. -/
def DIf (d : Datum) (n : Int) : Prop :=
  ∃ s m e, ∃ K : Nat, d = .number s m e ∧ 0 ≤ e + (K : Int) ∧ signed s m (e + K).toNat = n * 2 ^ K

theorem DIf.at' {s : Bool} {m : Nat} {e n : Int} (h : DIf (.number s m e) n) (K : Nat) (hK : 0 ≤ e + (K : Int)) :
    signed s m (e + K).toNat = n * 2 ^ K := by
  obtain ⟨s', m', e', K', hd, h0, h1⟩ := h
  cases hd
  have e1 : (e + K).toNat + K' = (e + K').toNat + K := by omega
  have e2 := signed_add s m (e + K).toNat K'
  rw [e1, signed_add, h1] at e2
  have e3 : n * 2 ^ K * 2 ^ K' = signed s m (e + K).toNat * 2 ^ K' := by rw [← e2, Int.mul_assoc, Int.mul_assoc, Int.mul_comm (2 ^ K)]
  exact (Int.mul_eq_mul_right_iff (two_pow_ne K')).1 e3.symm

theorem DIf.num {d : Datum} {n : Int} (h : DIf d n) : ∃ s m e, d = .number s m e := by
  obtain ⟨s, m, e, K, h, _, _⟩ := h
  exact ⟨s, m, e, h⟩

theorem signed_natAbs (t : Int) (sg : Bool) (h : t ≠ 0 → sg = decide (t < 0)) (k : Nat) : signed sg t.natAbs k = t * 2 ^ k := by
  have e := signed_add sg t.natAbs 0 k
  rw [Nat.zero_add] at e
  rw [e]
  have e2 : signed sg t.natAbs 0 = t := by
    by_cases h0 : t = 0
    · subst h0; exact signed_zero _ _
    · rw [h h0]
      unfold signed
      by_cases hn : t < 0
      · simp [hn]; omega
      · simp [hn]; omega
  rw [e2]

theorem di_sum {x y : Datum} {a b : Int} (hx : DIf x a) (hy : DIf y b) : ∃ d, x.sum y = some d ∧ DIf d (a + b) := by
  obtain ⟨s, m, i, rfl⟩ := hx.num
  obtain ⟨t, n, j, rfl⟩ := hy.num
  refine ⟨_, rfl, ?_⟩
  generalize hbase : min i j = base
  have hi : base ≤ i := by omega
  have hj : base ≤ j := by omega
  generalize htot : signed s m (i - base).toNat + signed t n (j - base).toNat = tot
  refine ⟨_, _, _, (-base).toNat, rfl, by omega, ?_⟩
  rw [signed_natAbs _ _ (by intro h; rw [if_neg h])]
  rw [← htot, Int.add_mul, ← signed_add, ← signed_add]
  have e1 : (i - base).toNat + (base + ((-base).toNat : Int)).toNat = (i + ((-base).toNat : Int)).toNat := by omega
  have e2 : (j - base).toNat + (base + ((-base).toNat : Int)).toNat = (j + ((-base).toNat : Int)).toNat := by omega
  rw [e1, e2, hx.at' _ (by omega), hy.at' _ (by omega), Int.add_mul]

theorem signed_mul (s t : Bool) (m n a b : Nat) : signed (s ^^ t) (m * n) (a + b) = signed s m a * signed t n b := by
  have e : m * n * 2 ^ (a + b) = (m * 2 ^ a) * (n * 2 ^ b) := by rw [Nat.pow_add]; ac_rfl
  unfold signed
  rw [Nat.shiftLeft_eq, Nat.shiftLeft_eq, Nat.shiftLeft_eq, e, Int.natCast_mul]
  cases s <;> cases t <;> simp [Int.neg_mul, Int.mul_neg]

theorem di_product {x y : Datum} {a b : Int} (hx : DIf x a) (hy : DIf y b) : ∃ d, x.product y = some d ∧ DIf d (a * b) := by
  obtain ⟨s, m, i, rfl⟩ := hx.num
  obtain ⟨t, n, j, rfl⟩ := hy.num
  refine ⟨_, rfl, ?_⟩
  refine ⟨_, _, _, (-i).toNat + (-j).toNat, rfl, by omega, ?_⟩
  have e1 : (i + j + (((-i).toNat + (-j).toNat : Nat) : Int)).toNat = (i + ((-i).toNat : Int)).toNat + (j + ((-j).toNat : Int)).toNat := by omega
  rw [e1, signed_mul, hx.at' _ (by omega), hy.at' _ (by omega), Int.pow_add]
  ac_rfl

theorem di_opposite {x : Datum} {a : Int} (hx : DIf x a) : DIf x.opposite (-a) := by
  obtain ⟨s, m, e, K, rfl, h0, h1⟩ := hx
  refine ⟨!s, m, e, K, rfl, h0, ?_⟩
  rw [Int.neg_mul, ← h1]
  unfold signed
  cases s <;> simp

theorem log2_shift (m a : Nat) (h : m ≠ 0) : (m * 2 ^ a).log2 = m.log2 + a := by
  have hp : 0 < 2 ^ a := Nat.two_pow_pos a
  have h0 : m * 2 ^ a ≠ 0 := Nat.mul_ne_zero h (by omega)
  have h1 := Nat.log2_self_le h
  have h2 := @Nat.lt_log2_self m
  have h3 : m.log2 + a ≤ (m * 2 ^ a).log2 := (Nat.le_log2 h0).2 (by rw [Nat.pow_add]; exact Nat.mul_le_mul_right _ h1)
  have h4 : (m * 2 ^ a).log2 < m.log2 + 1 + a := (Nat.log2_lt h0).2 (by rw [Nat.pow_add _ _ a]; exact Nat.mul_lt_mul_of_pos_right h2 hp)
  omega

theorem cut_exact (way : Toward) (s : Bool) (x drop : Nat) : way.cut s (x * 2 ^ drop) drop = x := by
  have hp : 0 < 2 ^ drop := Nat.two_pow_pos drop
  by_cases hx : x = 0
  · subst hx
    unfold Toward.cut
    cases way <;> simp [Nat.shiftLeft_eq]
  · have hd : min drop ((x * 2 ^ drop).log2 + 2) = drop := by rw [log2_shift x drop hx]; omega
    unfold Toward.cut
    rw [hd]
    simp only [Nat.shiftLeft_eq, Nat.one_mul, Nat.mul_mod_left, Nat.mul_div_cancel _ hp]
    have hz : (2 ^ drop == 0) = false := by simp
    cases way <;> simp [hz]

theorem double_fractionBits : double.fractionBits = 52 := rfl
theorem double_leastPlace : double.leastPlace = -1074 := by decide
theorem double_binade : double.binade = 4503599627370496 := by decide
theorem double_infRung : double.infRung = 9218868437227405312 := by decide
theorem double_signWeight : double.signWeight = 9223372036854775808 := by decide

theorem read_word (s : Bool) (L kept : Nat) (hL : L ≤ 52) (h1 : 4503599627370496 ≤ kept) (h2 : kept < 9007199254740992) :
    double.read (double.word s ((L + 1022) * 4503599627370496 + kept)) = .number s kept ((L : Int) - 52) := by
  unfold Format.read Format.word
  dsimp only
  rw [double_signWeight, double_binade, double_infRung, double_leastPlace]
  cases s
  · have e1 : ((L + 1022) * 4503599627370496 + kept) % 9223372036854775808 = (L + 1022) * 4503599627370496 + kept := by omega
    have e2 : ((L + 1022) * 4503599627370496 + kept) / 9223372036854775808 % 2 = 0 := by omega
    have e3 : ¬ (L + 1022) * 4503599627370496 + kept < 4503599627370496 := by omega
    have e4 : (L + 1022) * 4503599627370496 + kept < 9218868437227405312 := by omega
    have e5 : 4503599627370496 + ((L + 1022) * 4503599627370496 + kept) % 4503599627370496 = kept := by omega
    have e6 : ((L + 1022) * 4503599627370496 + kept) / 4503599627370496 = L + 1023 := by omega
    rw [if_neg Bool.false_ne_true, e1, e2, if_neg e3, if_pos e4, e5, e6]
    exact congrArg _ (by omega)
  · have e0 : (9223372036854775808 + ((L + 1022) * 4503599627370496 + kept)) % 9223372036854775808 = (L + 1022) * 4503599627370496 + kept := by omega
    have e2 : (9223372036854775808 + ((L + 1022) * 4503599627370496 + kept)) / 9223372036854775808 % 2 = 1 := by omega
    have e3 : ¬ (L + 1022) * 4503599627370496 + kept < 4503599627370496 := by omega
    have e4 : (L + 1022) * 4503599627370496 + kept < 9218868437227405312 := by omega
    have e5 : 4503599627370496 + ((L + 1022) * 4503599627370496 + kept) % 4503599627370496 = kept := by omega
    have e6 : ((L + 1022) * 4503599627370496 + kept) / 4503599627370496 = L + 1023 := by omega
    rw [if_pos rfl, e0, e2, if_neg e3, if_pos e4, e5, e6]
    exact congrArg _ (by omega)

theorem di_signs {s : Bool} {m : Nat} {e n : Int} (h : DIf (.number s m e) n) (K : Nat) (hK : 0 ≤ e + (K : Int)) :
    m * 2 ^ (e + K).toNat = n.natAbs * 2 ^ K ∧ (m ≠ 0 → s = decide (n < 0)) := by
  have h1 := h.at' K hK
  have hp : 0 < (2 : Int) ^ K := Int.pow_pos (by decide)
  have hq : 0 < (2 : Nat) ^ (e + K).toNat := Nat.two_pow_pos _
  unfold signed at h1
  rw [Nat.shiftLeft_eq] at h1
  refine ⟨?_, ?_⟩
  · have h2 := congrArg Int.natAbs h1
    rw [Int.natAbs_mul, Int.natAbs_pow] at h2
    cases s
    · simpa [Int.natAbs_mul, Int.natAbs_pow] using h2
    · simpa [Int.natAbs_mul, Int.natAbs_pow] using h2
  · intro hm
    have hmp : 0 < m * 2 ^ (e + K).toNat := Nat.mul_pos (Nat.pos_of_ne_zero hm) hq
    by_cases hn : n < 0
    · have : n * 2 ^ K < 0 := Int.mul_neg_of_neg_of_pos hn hp
      cases s
      · simp only [Bool.false_eq_true, if_false] at h1; omega
      · simp [hn]
    · have : 0 ≤ n * 2 ^ K := Int.mul_nonneg (by omega) (by omega)
      cases s
      · simp [hn]
      · simp only [if_true] at h1; omega

theorem di_write {d : Datum} {n : Int} (h : DIf d n) (hn : n.natAbs < 9007199254740992) : DIf (double.read (double.write d)) n := by
  obtain ⟨s, m, e, rfl⟩ := h.num
  by_cases hm : m = 0
  · subst hm
    have h1 := (di_signs h (-e).toNat (by omega)).1
    rw [Nat.zero_mul] at h1
    have hz : n.natAbs = 0 := by
      rcases Nat.mul_eq_zero.1 h1.symm with h | h
      · exact h
      · exact absurd h (by have := Nat.two_pow_pos (-e).toNat; omega)
    have hn0 : n = 0 := by omega
    subst hn0
    have hr : double.read (double.write (.number s 0 e)) = .number s 0 (-1074) := by
      have hw : double.write (.number s 0 e) = double.word s 0 := rfl
      rw [hw]
      cases s <;> decide
    rw [hr]
    exact ⟨s, 0, -1074, 1074, rfl, by decide, by rw [signed_zero, Int.zero_mul]⟩
  · have hN : n.natAbs ≠ 0 := by
      intro h0
      have h1 := (di_signs h (-e).toNat (by omega)).1
      rw [h0, Nat.zero_mul] at h1
      rcases Nat.mul_eq_zero.1 h1 with h | h
      · exact hm h
      · exact absurd h (by have := Nat.two_pow_pos (e + ((-e).toNat : Int)).toNat; omega)
    have hs := (di_signs h (-e).toNat (by omega)).2 hm
    have hlog : (m.log2 : Int) + e = n.natAbs.log2 := by
      have h1 := congrArg Nat.log2 (di_signs h (-e).toNat (by omega)).1
      rw [log2_shift _ _ hm, log2_shift _ _ hN] at h1
      omega
    have hL : n.natAbs.log2 ≤ 52 := by
      have := (Nat.log2_lt hN (k := 53)).2 (by omega)
      omega
    have hlo := Nat.log2_self_le hN
    have hhi := @Nat.lt_log2_self n.natAbs
    generalize hLg : n.natAbs.log2 = L at *
    have hlast : max (e + (m.log2 : Int) - 52) (-1074) = (L : Int) - 52 := by omega
    have hkept : Toward.even.cut s (m <<< (e - ((L : Int) - 52)).toNat) ((L : Int) - 52 - e).toNat = n.natAbs * 2 ^ (52 - L) := by
      rw [Nat.shiftLeft_eq]
      have hx : m * 2 ^ (e - ((L : Int) - 52)).toNat = n.natAbs * 2 ^ (52 - L) * 2 ^ ((L : Int) - 52 - e).toNat := by
        by_cases hc : 0 ≤ e + ((52 - L : Nat) : Int)
        · have h1 := (di_signs h (52 - L) hc).1
          have e1 : (e - ((L : Int) - 52)).toNat = (e + ((52 - L : Nat) : Int)).toNat := by omega
          have e2 : ((L : Int) - 52 - e).toNat = 0 := by omega
          rw [e1, e2, h1]; simp
        · have h1 := (di_signs h ((52 - L) + ((L : Int) - 52 - e).toNat) (by omega)).1
          have e1 : (e - ((L : Int) - 52)).toNat = (e + (((52 - L) + ((L : Int) - 52 - e).toNat : Nat) : Int)).toNat := by omega
          rw [e1, h1, Nat.pow_add, Nat.mul_assoc]
      rw [hx, cut_exact]
    have hk1 : 4503599627370496 ≤ n.natAbs * 2 ^ (52 - L) := by
      have h1 : 2 ^ L * 2 ^ (52 - L) ≤ n.natAbs * 2 ^ (52 - L) := Nat.mul_le_mul_right _ hlo
      rw [← Nat.pow_add] at h1
      have e1 : L + (52 - L) = 52 := by omega
      rw [e1] at h1
      exact h1
    have hk2 : n.natAbs * 2 ^ (52 - L) < 9007199254740992 := by
      have h1 : n.natAbs * 2 ^ (52 - L) < 2 ^ (L + 1) * 2 ^ (52 - L) := Nat.mul_lt_mul_of_pos_right hhi (Nat.two_pow_pos _)
      rw [← Nat.pow_add] at h1
      have e1 : L + 1 + (52 - L) = 53 := by omega
      rw [e1] at h1
      exact h1
    have hwrite : double.write (.number s m e) = double.word s ((L + 1022) * 4503599627370496 + n.natAbs * 2 ^ (52 - L)) := by
      show double.nearest s m e = _
      unfold Format.nearest
      rw [if_neg hm]
      simp only [double_fractionBits, double_leastPlace, double_binade, double_infRung]
      have e52 : ((52 : Nat) : Int) = 52 := rfl
      rw [e52, hlast, hkept]
      have e1 : ((L : Int) - 52 - -1074).toNat = L + 1022 := by omega
      rw [e1, Nat.min_eq_left (by omega)]
    rw [hwrite, read_word s L _ hL hk1 hk2]
    refine ⟨s, _, _, 52 - L, rfl, by omega, ?_⟩
    have e1 : ((L : Int) - 52 + ((52 - L : Nat) : Int)).toNat = 0 := by omega
    rw [e1]
    unfold signed
    rw [hs]
    have hpc : ((2 ^ (52 - L) : Nat) : Int) = (2 : Int) ^ (52 - L) := by simp
    by_cases hneg : n < 0
    · simp only [hneg, decide_true, if_true, Nat.shiftLeft_zero]
      rw [Int.natCast_mul, hpc, ← Int.neg_mul]
      congr 1
      omega
    · simp only [hneg, decide_false, Bool.false_eq_true, if_false, Nat.shiftLeft_zero]
      rw [Int.natCast_mul, hpc]
      congr 1
      omega

theorem di_toInt {d : Datum} {n : Int} (h : DIf d n) : d.toInt .zero = some n := by
  obtain ⟨s, m, e, rfl⟩ := h.num
  show some (signed s (Toward.zero.cut s (m <<< e.toNat) (-e).toNat) 0) = some n
  rw [Nat.shiftLeft_eq]
  have h1 := di_signs h (-e).toNat (by omega)
  have e1 : (e + ((-e).toNat : Int)).toNat = e.toNat := by omega
  rw [e1] at h1
  rw [h1.1, cut_exact]
  by_cases hm : m = 0
  · have h0 := h1.1
    rw [hm, Nat.zero_mul] at h0
    have hz : n.natAbs = 0 := by
      rcases Nat.mul_eq_zero.1 h0.symm with h | h
      · exact h
      · exact absurd h (by have := Nat.two_pow_pos (-e).toNat; omega)
    rw [hz, signed_zero]
    congr 1
    omega
  · rw [signed_natAbs n s (fun _ => h1.2 hm)]
    simp

/-- The bits are those of a 64-bit float that holds the whole number n. -/
def FI (b : Nat) (n : Int) : Prop := DIf (FloatKind.f64.format.read b) n

theorem fi_map {d : Option Datum} {n : Int} (hd : ∃ x, d = some x ∧ DIf x n) (hn : n.natAbs < 9007199254740992) : ∃ r, d.map FloatKind.f64.format.write = some r ∧ FI r n := by
  obtain ⟨x, rfl, hx⟩ := hd
  exact ⟨_, rfl, di_write hx hn⟩

theorem fi_add {x y : Nat} {a b : Int} (hx : FI x a) (hy : FI y b) (h : (a + b).natAbs < 9007199254740992) : ∃ r, floatBits .add .f64 x y = some r ∧ FI r (a + b) :=
  fi_map (di_sum hx hy) h

theorem fi_sub {x y : Nat} {a b : Int} (hx : FI x a) (hy : FI y b) (h : (a - b).natAbs < 9007199254740992) : ∃ r, floatBits .sub .f64 x y = some r ∧ FI r (a - b) :=
  fi_map (di_sum hx (di_opposite hy)) h

theorem fi_mul {x y : Nat} {a b : Int} (hx : FI x a) (hy : FI y b) (h : (a * b).natAbs < 9007199254740992) : ∃ r, floatBits .mul .f64 x y = some r ∧ FI r (a * b) :=
  fi_map (di_product hx hy) h

theorem fi_ofInt (n : Int) (h : n.natAbs < 9007199254740992) : FI (floatOfInt .f64 n) n := by
  refine di_write (d := .number (n < 0) n.natAbs 0) ⟨_, _, _, 0, rfl, by decide, ?_⟩ h
  rw [signed_natAbs n _ (fun _ => rfl)]
  simp

theorem fi_toInt {b : Nat} {n : Int} (dst : IntKind) (h : FI b n) (h1 : dst.min ≤ n) (h2 : n ≤ dst.max) : floatToIntVal .f64 b dst = some n := by
  have e : (FloatKind.f64.decode b).toInt .zero = some n := di_toInt h
  unfold floatToIntVal
  rw [e]
  simp [h1, h2]

theorem ci_mul {a b c d : Nat} {A B C D : Int} (ha : FI a A) (hb : FI b B) (hc : FI c C) (hd : FI d D)
    (bA : A.natAbs ≤ 65536) (bB : B.natAbs ≤ 65536) (bC : C.natAbs ≤ 65536) (bD : D.natAbs ≤ 65536) :
    ∃ re im, cMulBits a b c d = some (re, im) ∧ FI re (A * C - B * D) ∧ FI im (A * D + B * C) := by
  have bound : ∀ {X Y : Int}, X.natAbs ≤ 65536 → Y.natAbs ≤ 65536 → (X * Y).natAbs ≤ 4294967296 := fun hX hY => by
    rw [Int.natAbs_mul]; exact Nat.mul_le_mul hX hY
  have b1 := bound bA bC
  have b2 := bound bB bD
  have b3 := bound bA bD
  have b4 := bound bB bC
  obtain ⟨ac, e1, f1⟩ := fi_mul ha hc (by omega)
  obtain ⟨bd, e2, f2⟩ := fi_mul hb hd (by omega)
  obtain ⟨re, e3, f3⟩ := fi_sub f1 f2 (by omega)
  obtain ⟨ad, e4, f4⟩ := fi_mul ha hd (by omega)
  obtain ⟨bc, e5, f5⟩ := fi_mul hb hc (by omega)
  obtain ⟨im, e6, f6⟩ := fi_add f4 f5 (by omega)
  exact ⟨re, im, by simp [cMulBits, e1, e2, e3, e4, e5, e6], f3, f6⟩

theorem ci_add {a b c d : Nat} {A B C D : Int} (ha : FI a A) (hb : FI b B) (hc : FI c C) (hd : FI d D)
    (h1 : (A + C).natAbs < 9007199254740992) (h2 : (B + D).natAbs < 9007199254740992) :
    ∃ re im, cSumBits .add .f64 a b c d = some (re, im) ∧ FI re (A + C) ∧ FI im (B + D) := by
  obtain ⟨re, e1, f1⟩ := fi_add ha hc h1
  obtain ⟨im, e2, f2⟩ := fi_add hb hd h2
  exact ⟨re, im, by simp [cSumBits, e1, e2], f1, f2⟩

theorem fi_one : FI 4607182418800017408 1 := by
  have e : (4607182418800017408 : Nat) = floatOfInt .f64 1 := by decide +kernel
  rw [e]; exact fi_ofInt 1 (by decide)

theorem fi_two : FI 4611686018427387904 2 := by
  have e : (4611686018427387904 : Nat) = floatOfInt .f64 2 := by decide +kernel
  rw [e]; exact fi_ofInt 2 (by decide)

theorem fi_zero : FI 0 0 := by
  have e : (0 : Nat) = floatOfInt .f64 0 := by decide +kernel
  rw [e]; exact fi_ofInt 0 (by decide)

end Go.Proofs.YthklefelkdhblaaGreatDoor


namespace Go.Proofs.YthklefelkdhblaaGreatDoor

abbrev Pair := Int × Int

def red (r : Pair) : Pair := (r.1 % 65521, r.2 % 65521)
def stepU (r : Pair) (x : Int) : Pair := (2 * r.1 - r.2 + x, r.1 + 2 * r.2)
def bhdU (l : List Int) (r : Pair) : Pair := l.foldl stepU r
def bhd (l : List Int) (r : Pair) : Pair := l.foldl (fun r x => red (stepU r x)) r
def sm (r : Pair) : Int := r.1 * 65536 + r.2
def Red (r : Pair) : Prop := 0 ≤ r.1 ∧ r.1 < 65521 ∧ 0 ≤ r.2 ∧ r.2 < 65521

theorem red_Red (r : Pair) : Red (red r) := by unfold Red red; simp only; omega
theorem red_of_Red {r : Pair} (h : Red r) : red r = r := by
  unfold Red at h; unfold red
  exact Prod.ext (by simp only; omega) (by simp only; omega)
theorem red_stepU (r : Pair) (x : Int) : red (stepU (red r) x) = red (stepU r x) := by
  unfold red stepU
  exact Prod.ext (by simp only; omega) (by simp only; omega)

theorem bhd_red (l : List Int) : ∀ r : Pair, bhd l (red r) = red (bhdU l r) := by
  induction l with
  | nil => intro r; rfl
  | cons x l ih =>
    intro r
    show bhd l (red (stepU (red r) x)) = red (bhdU l (stepU r x))
    rw [red_stepU, ih]

theorem bhd_of_Red (l : List Int) {r : Pair} (h : Red r) : bhd l r = red (bhdU l r) := by
  rw [← bhd_red, red_of_Red h]

theorem bhd_Red (l : List Int) {r : Pair} (h : Red r) : Red (bhd l r) := by
  rw [bhd_of_Red l h]; exact red_Red _

theorem bhd_snoc (l : List Int) (x : Int) (r : Pair) : bhd (l ++ [x]) r = red (stepU (bhd l r) x) := by
  unfold bhd; rw [List.foldl_append]; rfl

theorem sm_bounds {r : Pair} (h : Red r) : 0 ≤ sm r ∧ sm r < 4294967296 := by
  unfold Red at h; unfold sm; omega

/-- What Sum answers. -/
def sumS (l : List Int) : Int := sm (bhd l (1, 0))
theorem one_Red : Red (1, 0) := by unfold Red; simp only; omega

theorem sumS_bounds (l : List Int) : 0 ≤ sumS l ∧ sumS l < 4294967296 := sm_bounds (bhd_Red l one_Red)
/-- Go's remainder by 65521: what is taken away, and where it lies. -/
theorem tmod_facts (x : Int) : (∃ k, x = x.tmod 65521 + 65521 * k) ∧ -65521 < x.tmod 65521 ∧ x.tmod 65521 < 65521 ∧ (0 ≤ x → x.tmod 65521 = x % 65521) ∧ (0 ≤ x.tmod 65521 → x.tmod 65521 = x % 65521) ∧ (x.tmod 65521 < 0 → x.tmod 65521 + 65521 = x % 65521) := by
  have h1 := Int.tmod_add_mul_tdiv x 65521
  have h2 : x.tmod 65521 < 65521 := Int.tmod_lt_of_pos x (by decide)
  have h3 : -65521 < x.tmod 65521 := by
    have := Int.lt_tmod_of_pos x (b := 65521) (by decide)
    omega
  refine ⟨⟨x.tdiv 65521, h1.symm⟩, h3, h2, fun h => Int.tmod_eq_emod_of_nonneg h, fun h => ?_, fun h => ?_⟩ <;> omega

end Go.Proofs.YthklefelkdhblaaGreatDoor

