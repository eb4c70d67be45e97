/-
  Proved here: what a law is told of a slice of bytes that came in, and that it stays so while only new memory is made.
  No conditions but those that each theorem names.
-/
import Derived.Test.YtpmggbdmoopkfaaRows
import Derived.Test.YtpmggbdmoopkfaaLists
import Derived.WalkKit
import Derived.WalkSpells
import Derived.WalkLawsBesides
import Derived.Lib.Hide
import Derived.ProofKit
import Derived.OpenShut
import Derived.ShutString
import Derived.ChangeOld
import Derived.Below
import Derived.SizedLaws
import Derived.Deep.AppendLies
import Derived.Laws.AppendOwnNone
namespace Go.Proofs.Ytpmggbdmoopkfaa
open Go.ChangeShapes Go.WideShapes Go.ChangeAt Go.RowKit

theorem ret_int {k : IntKind} {a b : Int} (h : a = b) : Ending.returned (.int k a) = .returned (.int k b) := by rw [h]

/-- A slice whose elements are the bytes zs. -/
def Bts (w : World) (a : Option Addr) (len : Nat) (zs : List Int) : Prop :=
  zs.length = len ∧ len ≤ 9223372036854775807 ∧ (∀ z ∈ zs, 0 ≤ z ∧ z ≤ 255) ∧
    (len = 0 ∨ ∃ b off, a = some ⟨b, off, none⟩ ∧ ∀ j, j < len → w.cell? ⟨b, off + j, none⟩ = some (.int .u8 (zs.getD j 0)))

theorem own : ownKnob Try.prog.godebug = none := by kernel_rfl
theorem laidOut : laidOutB Try.prog = true := by kernel_rfl

/-- A slice of integers that came in: it is nil; or it leads to a row of 'cap' cells, the numbers 'zs' (the first 'len' are its elements, the rest its spare room), each fitting its kind. -/
def IsRow (k : IntKind) (w : World) (a : Option Addr) (len cap : Nat) (zs : List Int) : Prop :=
  (a = none ∧ len = 0 ∧ cap = 0 ∧ zs = []) ∨
  ∃ x, a = some x ∧ len ≤ cap ∧ cap ≤ maxLen ∧ zs.length = cap ∧ (∀ i, i < zs.length → w.cell? (x.add i) = some (.int k (zs.getD i 0))) ∧ ∀ n ∈ zs, (Lit.int k n).wf = true

theorem wf_u8 {n : Int} (h : (Lit.int .u8 n).wf = true) : 0 ≤ n ∧ n ≤ 255 := by
  simp [Lit.wf, IntKind.min, IntKind.max, IntKind.bits, IntKind.signed] at h; omega
theorem wf_u32 {n : Int} (h : (Lit.int .u32 n).wf = true) : 0 ≤ n ∧ n < 4294967296 := by
  simp [Lit.wf, IntKind.min, IntKind.max, IntKind.bits, IntKind.signed] at h; omega
theorem wf_i64 {n : Int} (h : (Lit.int .i64 n).wf = true) : -9223372036854775808 ≤ n ∧ n ≤ 9223372036854775807 := by
  simp [Lit.wf, IntKind.min, IntKind.max, IntKind.bits, IntKind.signed] at h; omega
theorem wf_u16 {n : Int} (h : (Lit.int .u16 n).wf = true) : 0 ≤ n ∧ n < 65536 := by
  simp [Lit.wf, IntKind.min, IntKind.max, IntKind.bits, IntKind.signed] at h; omega

theorem IsRow.bts {w : World} {a : Option Addr} {len cap : Nat} {zs : List Int} (h : IsRow .u8 w a len cap zs) : Bts w a len (zs.take len) := by
  rcases h with ⟨rfl, rfl, rfl, rfl⟩ | ⟨x, rfl, hl, hm, hz, hcell, hwz⟩
  · exact ⟨rfl, by decide, by simp, Or.inl rfl⟩
  · refine ⟨by rw [List.length_take]; omega, by unfold maxLen at hm; omega, fun z hz' => wf_u8 (hwz z (List.mem_of_mem_take hz')), ?_⟩
    by_cases h0 : len = 0
    · exact Or.inl h0
    · obtain ⟨b, off, rfl, hc⟩ := ints_at hcell (by omega)
      exact Or.inr ⟨b, off, rfl, fun j hj => by rw [take_getD _ _ _ hj]; exact hc j (by omega)⟩

theorem IsRow.len_le {k : IntKind} {w : World} {a : Option Addr} {len cap : Nat} {zs : List Int} (h : IsRow k w a len cap zs) : len ≤ cap := by
  rcases h with ⟨rfl, rfl, rfl, rfl⟩ | ⟨x, rfl, hl, _⟩
  · exact Nat.le_refl _
  · exact hl

theorem Bts.later {w wx : World} {a : Option Addr} {len : Nat} {zs : List Int} (h : Bts w a len zs) (hb : Below w.heap.size w wx) : Bts wx a len zs := by
  obtain ⟨h1, h2, h3, h4⟩ := h
  refine ⟨h1, h2, h3, ?_⟩
  rcases h4 with h4 | ⟨b, off, rfl, hc⟩
  · exact Or.inl h4
  · exact Or.inr ⟨b, off, rfl, fun j hj => cell_later hb (hc j hj)⟩

theorem info5 : (Try.prog.info? 5).map (fun i => (i.zero, i.size, i.bytes)) = some (some (.int .u8 0), 1, 1) := by kernel_rfl

/-- What holds behind 'append([]byte{}, b...)' of bytes that are there. -/
theorem copied {w w1 : World} {v : Value} {len : Nat} {zs : List Int} (hown : w1.ownsRow w.heap.size 5 1 v (0 + len) ([] ++ zs.map (Value.int .u8)))
    (hgrow : (w.alloc (.cells #[] 5)).grownBy w1 (Value.ownBlock (.slice (some ⟨w.heap.size, 0, none⟩) 0 0))) (hl : zs.length = len) (hpos : 0 < len) :
    ∃ g cap, v = .slice (some ⟨g, 0, none⟩) len cap ∧ w.heap.size ≤ g ∧ Below w.heap.size w w1 ∧
      (∀ j, j < len → w1.cell? ⟨g, j, none⟩ = some (.int .u8 (zs.getD j 0))) ∧ (∀ j, w1.frozen? ⟨g, j, none⟩ = false) ∧ len ≤ cap := by
  rw [Nat.zero_add, List.nil_append] at hown
  obtain ⟨g, cap, hv, hg, _⟩ := hown.form hpos
  have hcap : len ≤ cap := by
    rcases hown.2 with ⟨h, h'⟩ | ⟨g', cap', cur, h, _, _, hc, _⟩
    · omega
    · rw [hv] at h
      simp only [Value.slice.injEq, Option.some.injEq, Addr.mk.injEq, and_true, true_and] at h
      omega
  rw [hv] at hown
  refine ⟨g, cap, hv, hg, ?_, fun j hj => ?_, fun j => hown.frozenAt j, hcap⟩
  · refine ((Below.refl _ _).alloc (Nat.le_refl _) _).grown hgrow (by simp) (fun k hk => ?_)
    simp [Value.ownBlock] at hk
    omega
  · rw [hown.cellAt j (by omega)]
    simp [List.getD, hl, hj]

theorem bts_cell {w : World} {b off len : Nat} {zs : List Int} (hc : ∀ j, j < len → w.cell? ⟨b, off + j, none⟩ = some (.int .u8 (zs.getD j 0))) (hl : zs.length = len) (o : Obj) :
    ∀ j u, (zs.map (Value.int .u8))[j]? = some u → (w.alloc o).cell? ((⟨b, off, none⟩ : Addr).add j) = some u := by
  intro j u hu
  rw [List.getElem?_map] at hu
  have hj : j < len := by
    rcases Nat.lt_or_ge j zs.length with h | h
    · omega
    · rw [List.getElem?_eq_none h] at hu; simp at hu
  have h1 := hc j hj
  have hlt := World.block_lt_of_cell? _ _ h1
  rw [Go.WideShapes.add_plain, World.cell?_alloc_lt _ _ _ hlt, h1]
  have hj' : j < zs.length := by omega
  simp [List.getD, hj'] at hu ⊢
  exact hu

theorem one_cells (zs : List Int) : ∀ u ∈ zs.map (Value.int .u8), u.oneCell' = true := by
  intro u hu
  obtain ⟨_, _, rfl⟩ := List.mem_map.1 hu
  rfl

theorem xor_u8 {a b : Int} (ha : 0 ≤ a ∧ a ≤ 255) (hb : 0 ≤ b ∧ b ≤ 255) : (0 ≤ bits .xor .u8 a b ∧ bits .xor .u8 a b ≤ 255) ∧ (bits .xor .u8 a b = a ↔ b = 0) := by
  obtain ⟨m, rfl⟩ := Int.eq_ofNat_of_zero_le ha.1
  obtain ⟨n, rfl⟩ := Int.eq_ofNat_of_zero_le hb.1
  have hx : m ^^^ n < 2 ^ 8 := Nat.xor_lt_two_pow (by omega) (by omega)
  have h1 : (BitVec.ofInt 8 (m : Int)).toNat = m := by
    rw [BitVec.ofInt_natCast, BitVec.toNat_ofNat]; exact Nat.mod_eq_of_lt (by omega)
  have h2 : (BitVec.ofInt 8 (n : Int)).toNat = n := by
    rw [BitVec.ofInt_natCast, BitVec.toNat_ofNat]; exact Nat.mod_eq_of_lt (by omega)
  have e : bits .xor .u8 (m : Int) (n : Int) = ((m ^^^ n : Nat) : Int) := by
    show IntKind.u8.wrap ((BitVec.ofInt 8 (m : Int) ^^^ BitVec.ofInt 8 (n : Int)).toNat : Int) = _
    rw [BitVec.toNat_xor, h1, h2, IntKind.wrap_u8]
    omega
  rw [e]
  have hn := xor_nat m n
  refine ⟨⟨by omega, by omega⟩, by omega, by omega⟩

/-- The copy behind a store. -/
theorem bts_set {w1 : World} {g len k : Nat} {zs : List Int} {y : Int} (hc : ∀ j, j < len → w1.cell? ⟨g, j, none⟩ = some (.int .u8 (zs.getD j 0))) (hl : zs.length = len) (hm : len ≤ 9223372036854775807)
    (hz : ∀ z ∈ zs, 0 ≤ z ∧ z ≤ 255) (hk : k < len) (hy : 0 ≤ y ∧ y ≤ 255) : Bts (w1.setCell ⟨g, k, none⟩ (.int .u8 y)) (some ⟨g, 0, none⟩) len (zs.set k y) := by
  refine ⟨by rw [List.length_set, hl], hm, mem_set hz hy, Or.inr ⟨g, 0, rfl, fun j hj => ?_⟩⟩
  rw [Nat.zero_add, getD_set _ _ _ _ (by omega)]
  by_cases h : j = k
  · subst h
    rw [if_pos rfl]
    exact World.cell?_setCell_same w1 _ _ (hc j hj)
  · rw [if_neg h, World.cell?_setCell_other (h := by intro e; exact h (by simpa using e.symm))]
    exact hc j hj

/-- The copy behind two stores, side by side. -/
theorem bts_swap {w1 : World} {g len k : Nat} {zs : List Int} {x y : Int} (hc : ∀ j, j < len → w1.cell? ⟨g, j, none⟩ = some (.int .u8 (zs.getD j 0))) (hl : zs.length = len) (hm : len ≤ 9223372036854775807)
    (hz : ∀ z ∈ zs, 0 ≤ z ∧ z ≤ 255) (hk : k + 1 < len) (hx : 0 ≤ x ∧ x ≤ 255) (hy : 0 ≤ y ∧ y ≤ 255) :
    Bts (((w1.setCell ⟨g, k, none⟩ (.int .u8 y)).setCell ⟨g, k + 1, none⟩ (.int .u8 x)).drew) (some ⟨g, 0, none⟩) len ((zs.set k y).set (k + 1) x) := by
  obtain ⟨h1, h2, h3, h4⟩ := bts_set (k := k) hc hl hm hz (by omega) hy
  obtain ⟨b, off, he, hcell⟩ := h4.resolve_left (by omega)
  simp only [Option.some.injEq, Addr.mk.injEq, and_true] at he
  obtain ⟨rfl, rfl⟩ := he
  exact bts_set (w1 := (w1.setCell ⟨g, k, none⟩ (.int .u8 y)).drew) (fun j hj => by have := hcell j hj; rw [Nat.zero_add] at this; exact this) h1 hm h3 hk hx

/-- The cells of bytes that are there, one by one. -/
theorem bts_news {w : World} {ao : Option Addr} {m : Nat} {zs : List Int} (hB : Bts w ao m zs) {ad : Addr} (hao : ao = some ad) : ∀ j u, (zs.map (Value.int .u8))[j]? = some u → w.cell? (ad.add j) = some u := by
  intro j u hu
  rw [List.getElem?_map] at hu
  have hj : j < zs.length := by
    rcases Nat.lt_or_ge j zs.length with h | h
    · exact h
    · rw [List.getElem?_eq_none h] at hu; simp at hu
  rcases hB.2.2.2 with h0 | ⟨b, off, he, hc⟩
  · rw [hB.1] at hj; omega
  · rw [hao] at he
    simp only [Option.some.injEq] at he
    subst he
    rw [Go.WideShapes.add_plain, hc j (by rw [← hB.1]; exact hj)]
    simp [List.getD, hj] at hu ⊢
    exact hu

/-- 'append(dst, b...)' of bytes that are there, onto a slice of the call's own. -/
theorem wp_append_bytes {ops : Array Oper} {rest : List Oper} {o : Oper} {a : Act} {Q : Exit → Act → World → Prop} {w : World} (hgd : o.guard = none) (s x : Operand)
    (ho : o.op = .call { callee := .builtin .append, args := #[s, x], argTypes := #[25, 25] }) (base n : Nat) (v : Value) (xs : List Value) (hs : a.eval s = v) (hown : w.ownsRow base 5 1 v n xs)
    (ao : Option Addr) (m c : Nat) (zs : List Int) (hx : a.eval x = .slice ao m c) (hB : Bts w ao m zs) (hnil : ao = none → m = 0 ∧ c = 0) (hb : n + m ≤ 140737488355328) (hbase : base ≤ w.heap.size)
    (h : ∀ v' w', w'.ownsRow base 5 1 v' (n + m) (xs ++ zs.map (Value.int .u8)) → Below base w w' → wpList Try.prog ops Q rest (a.put o.dst v') w') : wpList Try.prog ops Q (o :: rest) a w := by
  obtain ⟨i0, hi, hz0, hz1, hz2⟩ := info_parts info5
  cases ao with
  | none =>
    obtain ⟨rfl, rfl⟩ := hnil rfl
    have hzs : zs = [] := List.length_eq_zero_iff.1 hB.1
    subst hzs
    refine wpList_append_own_none hgd s x 25 ho base 5 i0 1 Try.underlying25 hi v n xs hs hown hx (h v w ?_ (Below.refl _ _))
    simpa using hown
  | some ad =>
    have hnews := bts_news hB rfl
    refine wpList_append_own w hgd s x 25 ho base 5 i0 (.int .u8 0) 1 1 Try.underlying25 hi hz0 hz1 hz2 rfl (by decide) v n xs hs hown ad m c (zs.map (Value.int .u8)) hx (by rw [List.length_map, hB.1, Nat.mul_one]) hnews (one_cells zs)
      (by unfold maxLen; omega) (by omega) hbase (fun v' w' h1 h2 _ => h v' w' h1 ((Below.refl base w).grown h2 hbase (fun k hk => (hown.lt k hk).1)))

/-- A row of bytes of the call's own, as a slice of bytes. -/
theorem owns_bts {w : World} {base n : Nat} {v : Value} {zs : List Int} (h : w.ownsRow base 5 1 v n (zs.map (Value.int .u8))) (hz : ∀ z ∈ zs, 0 ≤ z ∧ z ≤ 255) (hn : n ≤ 9223372036854775807) :
    ∃ ao cap, v = .slice ao n cap ∧ Bts w ao n zs := by
  have hl : zs.length = n := by have := h.1; rw [List.length_map, Nat.mul_one] at this; exact this
  rcases Nat.eq_zero_or_pos n with h0 | h0
  · rcases h.2 with ⟨hv, _⟩ | ⟨g, cap, cur, hv, _⟩
    · exact ⟨none, 0, by rw [hv, h0], hl, hn, hz, Or.inl h0⟩
    · exact ⟨_, cap, hv, hl, hn, hz, Or.inl h0⟩
  · obtain ⟨g, cap, hv, _, _⟩ := h.form h0
    rw [hv] at h
    refine ⟨_, cap, hv, hl, hn, hz, Or.inr ⟨g, 0, rfl, fun j hj => ?_⟩⟩
    rw [Nat.zero_add, h.cellAt j (by omega)]
    simp [List.getD, hl, hj]

theorem bulk_pos {H : Type} (d : DataW H) : 0 < Rows.uptoBulk d := by
  unfold Rows.uptoBulk
  split <;> omega

theorem bulk_count {H : Type} : ∀ l : List (DataW H), l.length ≤ Rows.uptoBulkAll l
  | [] => Nat.zero_le _
  | d :: r => by
    have h1 := bulk_count r
    have h2 := bulk_pos d
    rw [Rows.uptoBulkAll, List.length_cons]
    omega

theorem bytes5 : Try.prog.bytesOf 5 = 1 := by kernel_rfl

/-- A slice of bytes that came in, opened: its cells, and that it lies within the form's own reach. -/
theorem open_bytes {H : Type} {enc : TypeId × Value → H} {W : World} {a : Option Addr} {len cap : Nat} {d : DataW H} {p : List MemPlace}
    (h : DataW.Trod enc Try.prog W 0 (fun _ => true) true 25 (.slice a len cap) d p) (hs : ∀ e s, d = .slice e s → (e.length + s.length) * Try.prog.bytesOf 5 ≤ reachBytes) :
    ∃ zs, IsRow .u8 W a len cap zs ∧ cap ≤ 140737488351232 := by
  obtain ⟨fuel, hf⟩ := h
  rcases open_ints Try.underlying25 Try.underlying5 (by kernel_rfl) hf with ⟨hcs, _⟩ | ⟨x, l, c, zs, hcs, _, hl, hm, hz, hx, hcell, hwz⟩
  · simp [Value.cells] at hcs
    obtain ⟨rfl, rfl, rfl⟩ := hcs
    exact ⟨[], .inl ⟨rfl, rfl, rfl, rfl⟩, by omega⟩
  · simp [Value.cells] at hcs
    obtain ⟨rfl, rfl, rfl⟩ := hcs
    have hz' : zs.length = cap := by simpa using hz
    have hd := hs _ _ (Prod.mk.inj hx).1
    rw [bytes5] at hd
    simp only [lits, List.length_map, List.length_take, List.length_drop, reachBytes] at hd
    exact ⟨zs, .inr ⟨_, rfl, hl, hm, hz', hcell, hwz⟩, by omega⟩

/-- The same, opened with what its bulk says of its length. -/
theorem open_bulk {H : Type} {enc : TypeId × Value → H} {W : World} {a : Option Addr} {len cap : Nat} {d : DataW H} {p : List MemPlace}
    (h : DataW.Trod enc Try.prog W 0 (fun _ => true) true 25 (.slice a len cap) d p) : ∃ zs, IsRow .u8 W a len cap zs ∧ cap ≤ Rows.uptoBulk d := by
  obtain ⟨fuel, hf⟩ := h
  rcases open_ints Try.underlying25 Try.underlying5 (by kernel_rfl) hf with ⟨hcs, hx⟩ | ⟨x, l, c, zs, hcs, _, hl, hm, hz, hx, hcell, hwz⟩
  · simp [Value.cells] at hcs
    obtain ⟨rfl, rfl, rfl⟩ := hcs
    exact ⟨[], .inl ⟨rfl, rfl, rfl, rfl⟩, Nat.zero_le _⟩
  · simp [Value.cells] at hcs
    obtain ⟨rfl, rfl, rfl⟩ := hcs
    have hz' : zs.length = cap := by simpa using hz
    refine ⟨zs, .inr ⟨_, rfl, hl, hm, hz', hcell, hwz⟩, ?_⟩
    rw [(Prod.mk.inj hx).1, Rows.uptoBulk]
    have h1 := bulk_count (H := H) (lits .u8 (zs.take len))
    have h2 := bulk_count (H := H) (lits .u8 (zs.drop len))
    simp only [lits, List.length_map, List.length_take, List.length_drop] at h1 h2
    unfold lits
    omega

/-! Bytes that a call is handed, and hands back -/

/-- A slice of bytes as a call is handed it: its elements are zs; nil has no room; it lies within the form's own reach. -/
def Arg (w : World) (ao : Option Addr) (len cap : Nat) (zs : List Int) : Prop :=
  Bts w ao len zs ∧ (ao = none → len = 0 ∧ cap = 0) ∧ len ≤ cap ∧ len ≤ 140737488351232

theorem IsRow.arg {w : World} {a : Option Addr} {len cap : Nat} {zs : List Int} (h : IsRow .u8 w a len cap zs) (hr : cap ≤ 140737488351232) : Arg w a len cap (zs.take len) := by
  refine ⟨h.bts, ?_, h.len_le, by have := h.len_le; omega⟩
  rcases h with ⟨rfl, rfl, rfl, rfl⟩ | ⟨x, rfl, _⟩
  · exact fun _ => ⟨rfl, rfl⟩
  · intro h; cases h

theorem Arg.later {w wx : World} {ao : Option Addr} {len cap : Nat} {zs : List Int} (h : Arg w ao len cap zs) (hb : Below w.heap.size w wx) : Arg wx ao len cap zs :=
  ⟨h.1.later hb, h.2⟩

/-- A slice that a call hands back: its elements are l; where it has any they lie in new memory (blocks from base on) and may be written. -/
def Fresh (w : World) (base : Nat) (v : Value) (l : List Int) : Prop :=
  ∃ ao cap, v = .slice ao l.length cap ∧ Arg w ao l.length cap l ∧ (l = [] ∨ ∃ g off, ao = some ⟨g, off, none⟩ ∧ base ≤ g ∧ ∀ j, j < l.length → w.frozen? ⟨g, off + j, none⟩ = false)

theorem Fresh.nil (w : World) (base : Nat) : Fresh w base (.slice none 0 0) [] :=
  ⟨none, 0, rfl, ⟨⟨rfl, by decide, by simp, Or.inl rfl⟩, fun _ => ⟨rfl, rfl⟩, Nat.le_refl _, by decide⟩, Or.inl rfl⟩

theorem fresh_of_owns {w : World} {base n : Nat} {v : Value} {zs : List Int} (h : w.ownsRow base 5 1 v n (zs.map (Value.int .u8))) (hz : ∀ z ∈ zs, 0 ≤ z ∧ z ≤ 255) (hn : n ≤ 140737488351232) : Fresh w base v zs := by
  have hl : zs.length = n := by have := h.1; rw [List.length_map, Nat.mul_one] at this; exact this
  rcases h.2 with ⟨hv, h0⟩ | ⟨g, cap, cur, hv, hg, _, hc, _⟩
  · have : zs = [] := List.length_eq_zero_iff.1 (by rw [hl, h0])
    subst this
    rw [hv]
    exact Fresh.nil w base
  · obtain ⟨ao, cap', hv', hB⟩ := owns_bts h hz (by omega)
    rw [hv] at hv'
    simp only [Value.slice.injEq, true_and] at hv'
    obtain ⟨rfl, rfl⟩ := hv'
    refine ⟨_, cap, by rw [hl]; exact hv, ⟨by rw [hl]; exact hB, (fun h => by cases h), by rw [hl]; exact hc, by rw [hl]; exact hn⟩, Or.inr ⟨g, 0, rfl, hg, fun j _ => ?_⟩⟩
    rw [hv] at h; rw [Nat.zero_add]; exact h.frozenAt j

theorem Fresh.later {w wx : World} {base : Nat} {v : Value} {l : List Int} (h : Fresh w base v l) (hb : Below w.heap.size w wx) : Fresh wx base v l := by
  obtain ⟨ao, cap, hv, hB, hf⟩ := h
  refine ⟨ao, cap, hv, hB.later hb, ?_⟩
  have hB := hB.1
  rcases hf with h0 | ⟨g, off, he, hg, hfr⟩
  · exact Or.inl h0
  · refine Or.inr ⟨g, off, he, hg, fun j hj => ?_⟩
    rcases hB.2.2.2 with h0 | ⟨b, o, he', hc⟩
    · omega
    · rw [he] at he'
      simp only [Option.some.injEq, Addr.mk.injEq, and_true] at he'
      obtain ⟨rfl, rfl⟩ := he'
      have hlt := World.block_lt_of_cell? _ _ (hc j hj)
      rw [hb.frozen (p := ⟨g, off + j, none⟩) hlt]
      exact hfr j hj

/-- The string of bytes. -/
def str (l : List Int) : ByteArray := l.foldl (fun r n => r.push (UInt8.ofNat n.toNat)) ByteArray.empty

theorem str_bytes {w : World} {ao : Option Addr} {len cap : Nat} {zs : List Int} (h : Bts w ao len zs) :
    (convert 25 9 (.slice ao len cap)).run Try.prog w = .ok (.string (str zs)) w := by
  rw [run_convert_bytes_string w 25 9 5 ao len cap Try.underlying25 Try.underlying5 Try.underlying9]
  cases ao with
  | none =>
    have hz : zs = [] := by
      rcases h.2.2.2 with h0 | ⟨b, off, he, _⟩
      · exact List.length_eq_zero_iff.1 (by rw [h.1, h0])
      · cases he
    subst hz
    rfl
  | some ad =>
    have hl : (zs.map (Value.int .u8)).length = len := by rw [List.length_map, h.1]
    have hrun := run_loadCells_list (P := Try.prog) w ad (zs.map (Value.int .u8)) (bts_news h rfl)
    rw [hl] at hrun
    exact run_bytesToString w ad len cap zs hrun

theorem push_toList (s : ByteArray) (b : UInt8) : (s.push b).data.toList = s.data.toList ++ [b] := by
  cases s; simp [ByteArray.push]

theorem str_data (l : List Int) : (str l).data.toList = l.map (fun n => UInt8.ofNat n.toNat) := by
  have gen : ∀ (l : List Int) (s : ByteArray), (l.foldl (fun r n => r.push (UInt8.ofNat n.toNat)) s).data.toList = s.data.toList ++ l.map (fun n => UInt8.ofNat n.toNat) := by
    intro l
    induction l with
    | nil => intro s; simp
    | cons x l ih => intro s; rw [List.foldl_cons, ih, push_toList]; simp
  unfold str
  rw [gen]
  simp

theorem byte_inj {a b : Int} (ha : 0 ≤ a ∧ a ≤ 255) (hb : 0 ≤ b ∧ b ≤ 255) (h : UInt8.ofNat a.toNat = UInt8.ofNat b.toNat) : a = b := by
  have h' := congrArg UInt8.toNat h
  simp only [UInt8.toNat_ofNat'] at h'
  omega

theorem map_byte_inj : ∀ {l m : List Int}, (∀ z ∈ l, 0 ≤ z ∧ z ≤ 255) → (∀ z ∈ m, 0 ≤ z ∧ z ≤ 255) → l.map (fun n => UInt8.ofNat n.toNat) = m.map (fun n => UInt8.ofNat n.toNat) → l = m
  | [], [], _, _, _ => rfl
  | [], _ :: _, _, _, h => by simp at h
  | _ :: _, [], _, _, h => by simp at h
  | a :: l, b :: m, hl, hm, h => by
    simp only [List.map_cons, List.cons.injEq] at h
    rw [byte_inj (hl a (by simp)) (hm b (by simp)) h.1, map_byte_inj (fun z hz => hl z (List.mem_cons_of_mem _ hz)) (fun z hz => hm z (List.mem_cons_of_mem _ hz)) h.2]

/-- Two texts are alike just where their bytes are. -/
theorem str_eq {l m : List Int} (hl : ∀ z ∈ l, 0 ≤ z ∧ z ≤ 255) (hm : ∀ z ∈ m, 0 ≤ z ∧ z ≤ 255) : ((str l).toList == (str m).toList) = decide (l = m) := by
  rw [Go.ByteArray.toList_eq, Go.ByteArray.toList_eq, str_data, str_data, Bool.eq_iff_iff, beq_iff_eq, decide_eq_true_iff]
  exact ⟨fun h => map_byte_inj hl hm h, fun h => by rw [h]⟩

/-- A call that hands back bytes and an error's number: the bytes lie in new memory; what was there is as it was. -/
def Handed (base : Nat) (w0 : World) (l : List Int) (err : Int) (e : Ending) (w' : World) : Prop :=
  ∃ v, e = .returned (.tuple #[v, .int .i64 err]) ∧ Fresh w' base v l ∧ Below base w0 w'

/-- Block g holds the bytes L, in new memory (blocks from base on), and may be written; what lies below base is as it was in w0. -/
def Own (base : Nat) (w0 : World) (g : Nat) (L : List Int) (wr : World) : Prop :=
  (∀ z ∈ L, 0 ≤ z ∧ z ≤ 255) ∧ (∀ j, j < L.length → wr.cell? ⟨g, j, none⟩ = some (.int .u8 (L.getD j 0))) ∧ (∀ j, wr.frozen? ⟨g, j, none⟩ = false) ∧ base ≤ g ∧ Below base w0 wr

theorem own_of_owns {w0 w : World} {base n : Nat} {v : Value} {zs : List Int} (h : w.ownsRow base 5 1 v n (zs.map (Value.int .u8))) (hz : ∀ z ∈ zs, 0 ≤ z ∧ z ≤ 255) (hn : 0 < n) (hb : Below base w0 w) :
    ∃ g cap, v = .slice (some ⟨g, 0, none⟩) n cap ∧ n ≤ cap ∧ zs.length = n ∧ Own base w0 g zs w := by
  have hl : zs.length = n := by have := h.1; rw [List.length_map, Nat.mul_one] at this; exact this
  obtain ⟨g, cap, hv, hg, _⟩ := h.form hn
  have hcap : n ≤ cap := by
    rcases h.2 with ⟨h, h'⟩ | ⟨g', cap', cur, h, _, _, hc, _⟩
    · omega
    · rw [hv] at h
      simp only [Value.slice.injEq, Option.some.injEq, Addr.mk.injEq, and_true, true_and] at h
      omega
  rw [hv] at h
  refine ⟨g, cap, hv, hcap, hl, hz, fun j hj => ?_, fun j => h.frozenAt j, hg, hb⟩
  rw [h.cellAt j (by omega)]
  simp [List.getD, hj]

theorem Own.store {base g k : Nat} {w0 wr : World} {L : List Int} {y : Int} (h : Own base w0 g L wr) (hk : k < L.length) (hy : 0 ≤ y ∧ y ≤ 255) : Own base w0 g (L.set k y) (wr.setCell ⟨g, k, none⟩ (.int .u8 y)) := by
  obtain ⟨h1, h2, h3, h4, h5⟩ := h
  refine ⟨mem_set h1 hy, fun j hj => ?_, fun j => by simpa using h3 j, h4, h5.setCell (p := ⟨g, k, none⟩) h4 _⟩
  rw [List.length_set] at hj
  rw [getD_set _ _ _ _ hk]
  by_cases h : j = k
  · subst h
    rw [if_pos rfl]
    exact World.cell?_setCell_same wr _ _ (h2 j hj)
  · rw [if_neg h, World.cell?_setCell_other (h := by intro e; exact h (by simpa using e.symm))]
    exact h2 j hj

theorem Own.drew {base g : Nat} {w0 wr : World} {L : List Int} (h : Own base w0 g L wr) : Own base w0 g L wr.drew :=
  ⟨h.1, fun j hj => h.2.1 j hj, fun j => h.2.2.1 j, h.2.2.2.1, h.2.2.2.2.drew⟩

theorem Own.bts {base g : Nat} {w0 wr : World} {L : List Int} (h : Own base w0 g L wr) (hl : L.length ≤ 9223372036854775807) : Bts wr (some ⟨g, 0, none⟩) L.length L :=
  ⟨rfl, hl, h.1, Or.inr ⟨g, 0, rfl, fun j hj => by rw [Nat.zero_add]; exact h.2.1 j hj⟩⟩

theorem Own.fresh {base g : Nat} {w0 wr : World} {L : List Int} (h : Own base w0 g L wr) (hl : L.length ≤ 140737488351232) {cap : Nat} (hc : L.length ≤ cap) : Fresh wr base (.slice (some ⟨g, 0, none⟩) L.length cap) L :=
  ⟨_, cap, rfl, ⟨h.bts (by omega), (fun h => by cases h), hc, hl⟩, Or.inr ⟨g, 0, rfl, h.2.2.2.1, fun j _ => by rw [Nat.zero_add]; exact h.2.2.1 j⟩⟩

theorem one_bts (w : World) (x : Int) (hx : 0 ≤ x ∧ x ≤ 255) : Bts (w.alloc (.cells #[.int .u8 x] 5)) (some ⟨w.heap.size, 0, none⟩) 1 [x] :=
  ⟨rfl, by decide, by simpa using hx, Or.inr ⟨_, _, rfl, fun j hj => by
    obtain rfl : j = 0 := by omega
    exact cell_one_new w (.int .u8 x) 5 0 _ rfl⟩⟩

/-- The first part of a row of the call's own. -/
theorem owns_take {w : World} {base g n cap k : Nat} {xs : List Value} (h : w.ownsRow base 5 1 (.slice (some ⟨g, 0, none⟩) n cap) n xs) (hk : k ≤ n) : w.ownsRow base 5 1 (.slice (some ⟨g, 0, none⟩) k cap) k (xs.take k) := by
  obtain ⟨hl, h⟩ := h
  refine ⟨by rw [List.length_take]; omega, ?_⟩
  rcases h with ⟨h, _⟩ | ⟨g', cap', cur, h, hb, hg, hc, hm, hs, ht⟩
  · cases h
  · simp only [Value.slice.injEq, Option.some.injEq, Addr.mk.injEq, and_true, true_and] at h
    obtain ⟨rfl, rfl⟩ := h
    refine Or.inr ⟨g, cap, cur, rfl, hb, hg, by omega, hm, hs, ?_⟩
    rw [← ht, List.take_take, Nat.mul_one, Nat.mul_one, Nat.min_eq_left hk]

theorem fresh_str {w : World} {base : Nat} {v : Value} {l : List Int} (h : Fresh w base v l) : (convert 25 9 v).run Try.prog w = .ok (.string (str l)) w := by
  obtain ⟨ao, cap, hv, hB, _⟩ := h
  rw [hv]
  exact str_bytes hB.1

/-- 'make([]byte, n)'. -/
theorem run_make_bytes (w : World) (n : Nat) (hn : n ≤ 140737488351232) : (Instr.makeSlice 25 (.int .i64 (n : Int)) (.int .i64 (n : Int))).run Try.prog w =
    .ok (.slice (some ⟨w.heap.size, 0, none⟩) n n) (w.alloc (.cells (madeCells #[.int .u8 0] n) 5)) := by
  obtain ⟨i0, hi, hz0, hz1, hz2⟩ := info_parts info5
  have h := run_make (P := Try.prog) w 25 5 i0 (.int .u8 0) Try.underlying25 hi hz0 .i64 .i64 (n : Int) (n : Int) (by omega) (Int.le_refl _) (by rw [hz2]; omega) (by omega)
  simpa [hz1, Value.cells] using h

theorem made_cell (n j : Nat) (h : j < n) : (madeCells #[Value.int .u8 0] n)[j]? = some (.int .u8 0) := by
  simp [madeCells, h, Nat.mod_one]

theorem made_arg (w : World) (n : Nat) (hn : n ≤ 140737488351232) : Arg (w.alloc (.cells (madeCells #[.int .u8 0] n) 5)) (some ⟨w.heap.size, 0, none⟩) n n (List.replicate n 0) := by
  refine ⟨⟨by simp, by omega, fun z hz => by rw [List.eq_of_mem_replicate hz]; decide, Or.inr ⟨w.heap.size, 0, rfl, fun j hj => ?_⟩⟩, (fun h => by cases h), Nat.le_refl _, hn⟩
  rw [Nat.zero_add, World.cell?_alloc_new, made_cell n j hj]
  simp [List.getD, hj]

theorem Fresh.mono {w : World} {base base' : Nat} {v : Value} {l : List Int} (h : Fresh w base' v l) (hb : base ≤ base') : Fresh w base v l := by
  obtain ⟨ao, cap, hv, hA, hf⟩ := h
  refine ⟨ao, cap, hv, hA, ?_⟩
  rcases hf with h0 | ⟨g, off, he, hg, hfr⟩
  · exact Or.inl h0
  · exact Or.inr ⟨g, off, he, Nat.le_trans hb hg, hfr⟩

/-- A call that hands back bytes in new memory. -/
def Gives (base : Nat) (w0 : World) (l : List Int) (e : Ending) (w' : World) : Prop :=
  ∃ v, e = .returned v ∧ Fresh w' base v l ∧ Below base w0 w'

/-- A call that answers a bool and makes new memory alone. -/
def Says (base : Nat) (w0 : World) (b : Bool) (e : Ending) (w' : World) : Prop := e = .returned (.bool b) ∧ Below base w0 w'

end Go.Proofs.Ytpmggbdmoopkfaa
