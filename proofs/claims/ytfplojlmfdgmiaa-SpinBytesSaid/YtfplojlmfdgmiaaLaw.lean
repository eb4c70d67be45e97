/-
  Proved here: what a law of the spin package is told of a slice of bytes that came in, and that it stays so while only new memory is made.
  No conditions but those that each theorem names.
-/
import Derived.Test.YtfplojlmfdgmiaaSpin
import Derived.ProofKit
import Derived.OpenShut
import Derived.ShutString
import Derived.ChangeOld
import Derived.Below
import Derived.SizedLaws
import Derived.Deep.AppendLies
import Derived.Laws.AppendOwnNone
namespace Go.Proofs.Ytfplojlmfdgmiaa
open Go.ChangeShapes Go.WideShapes Go.ChangeAt Go.RowKit

theorem own : ownKnob Try.prog.godebug = none := by kernel_rfl
theorem laidOut : laidOutB Try.prog = true := by kernel_rfl

/-- A slice of integers that came in: it is nil; or it leads to a row of 'cap' cells, the numbers 'zs' (the first 'len' are its elements, the rest its spare room), each fitting its kind. -/
def IsRow (k : IntKind) (w : World) (a : Option Addr) (len cap : Nat) (zs : List Int) : Prop :=
  (a = none ∧ len = 0 ∧ cap = 0 ∧ zs = []) ∨
  ∃ x, a = some x ∧ len ≤ cap ∧ cap ≤ maxLen ∧ zs.length = cap ∧ (∀ i, i < zs.length → w.cell? (x.add i) = some (.int k (zs.getD i 0))) ∧ ∀ n ∈ zs, (Lit.int k n).wf = true

theorem wf_u8 {n : Int} (h : (Lit.int .u8 n).wf = true) : 0 ≤ n ∧ n ≤ 255 := by
  simp [Lit.wf, IntKind.min, IntKind.max, IntKind.bits, IntKind.signed] at h; omega
theorem wf_u32 {n : Int} (h : (Lit.int .u32 n).wf = true) : 0 ≤ n ∧ n < 4294967296 := by
  simp [Lit.wf, IntKind.min, IntKind.max, IntKind.bits, IntKind.signed] at h; omega
theorem wf_i64 {n : Int} (h : (Lit.int .i64 n).wf = true) : -9223372036854775808 ≤ n ∧ n ≤ 9223372036854775807 := by
  simp [Lit.wf, IntKind.min, IntKind.max, IntKind.bits, IntKind.signed] at h; omega
theorem wf_u16 {n : Int} (h : (Lit.int .u16 n).wf = true) : 0 ≤ n ∧ n < 65536 := by
  simp [Lit.wf, IntKind.min, IntKind.max, IntKind.bits, IntKind.signed] at h; omega

theorem take_getD (l : List Int) (n j : Nat) (h : j < n) : (l.take n).getD j 0 = l.getD j 0 := by
  simp [h]

theorem IsRow.bts {w : World} {a : Option Addr} {len cap : Nat} {zs : List Int} (h : IsRow .u8 w a len cap zs) : Bts w a len (zs.take len) := by
  rcases h with ⟨rfl, rfl, rfl, rfl⟩ | ⟨x, rfl, hl, hm, hz, hcell, hwz⟩
  · exact ⟨rfl, by decide, by simp, Or.inl rfl⟩
  · refine ⟨by rw [List.length_take]; omega, by unfold maxLen at hm; omega, fun z hz' => wf_u8 (hwz z (List.mem_of_mem_take hz')), ?_⟩
    by_cases h0 : len = 0
    · exact Or.inl h0
    · obtain ⟨b, off, rfl, hc⟩ := ints_at hcell (by omega)
      exact Or.inr ⟨b, off, rfl, fun j hj => by rw [take_getD _ _ _ hj]; exact hc j (by omega)⟩

theorem IsRow.len_le {k : IntKind} {w : World} {a : Option Addr} {len cap : Nat} {zs : List Int} (h : IsRow k w a len cap zs) : len ≤ cap := by
  rcases h with ⟨rfl, rfl, rfl, rfl⟩ | ⟨x, rfl, hl, _⟩
  · exact Nat.le_refl _
  · exact hl

theorem Bts.later {w wx : World} {a : Option Addr} {len : Nat} {zs : List Int} (h : Bts w a len zs) (hb : Below w.heap.size w wx) : Bts wx a len zs := by
  obtain ⟨h1, h2, h3, h4⟩ := h
  refine ⟨h1, h2, h3, ?_⟩
  rcases h4 with h4 | ⟨b, off, rfl, hc⟩
  · exact Or.inl h4
  · exact Or.inr ⟨b, off, rfl, fun j hj => cell_later hb (hc j hj)⟩

theorem info5 : (Try.prog.info? 5).map (fun i => (i.zero, i.size, i.bytes)) = some (some (.int .u8 0), 1, 1) := by kernel_rfl

/-- What holds behind 'append([]byte{}, b...)' of bytes that are there. -/
theorem copied {w w1 : World} {v : Value} {len : Nat} {zs : List Int} (hown : w1.ownsRow w.heap.size 5 1 v (0 + len) ([] ++ zs.map (Value.int .u8)))
    (hgrow : (w.alloc (.cells #[] 5)).grownBy w1 (Value.ownBlock (.slice (some ⟨w.heap.size, 0, none⟩) 0 0))) (hl : zs.length = len) (hpos : 0 < len) :
    ∃ g cap, v = .slice (some ⟨g, 0, none⟩) len cap ∧ w.heap.size ≤ g ∧ Below w.heap.size w w1 ∧
      (∀ j, j < len → w1.cell? ⟨g, j, none⟩ = some (.int .u8 (zs.getD j 0))) ∧ (∀ j, w1.frozen? ⟨g, j, none⟩ = false) ∧ len ≤ cap := by
  rw [Nat.zero_add, List.nil_append] at hown
  obtain ⟨g, cap, hv, hg, _⟩ := hown.form hpos
  have hcap : len ≤ cap := by
    rcases hown.2 with ⟨h, h'⟩ | ⟨g', cap', cur, h, _, _, hc, _⟩
    · omega
    · rw [hv] at h
      simp only [Value.slice.injEq, Option.some.injEq, Addr.mk.injEq, and_true, true_and] at h
      omega
  rw [hv] at hown
  refine ⟨g, cap, hv, hg, ?_, fun j hj => ?_, fun j => hown.frozenAt j, hcap⟩
  · refine ((Below.refl _ _).alloc (Nat.le_refl _) _).grown hgrow (by simp) (fun k hk => ?_)
    simp [Value.ownBlock] at hk
    omega
  · rw [hown.cellAt j (by omega)]
    simp [List.getD, hl, hj]

theorem bts_cell {w : World} {b off len : Nat} {zs : List Int} (hc : ∀ j, j < len → w.cell? ⟨b, off + j, none⟩ = some (.int .u8 (zs.getD j 0))) (hl : zs.length = len) (o : Obj) :
    ∀ j u, (zs.map (Value.int .u8))[j]? = some u → (w.alloc o).cell? ((⟨b, off, none⟩ : Addr).add j) = some u := by
  intro j u hu
  rw [List.getElem?_map] at hu
  have hj : j < len := by
    rcases Nat.lt_or_ge j zs.length with h | h
    · omega
    · rw [List.getElem?_eq_none h] at hu; simp at hu
  have h1 := hc j hj
  have hlt := World.block_lt_of_cell? _ _ h1
  rw [Go.WideShapes.add_plain, World.cell?_alloc_lt _ _ _ hlt, h1]
  have hj' : j < zs.length := by omega
  simp [List.getD, hj'] at hu ⊢
  exact hu

theorem one_cells (zs : List Int) : ∀ u ∈ zs.map (Value.int .u8), u.oneCell' = true := by
  intro u hu
  obtain ⟨_, _, rfl⟩ := List.mem_map.1 hu
  rfl

theorem split_at (l : List Int) (k : Nat) (h : k < l.length) : l = l.take k ++ [l[k]?.getD 0] ++ l.drop (k + 1) := by
  simp [h]
theorem set_at (l : List Int) (k : Nat) (y : Int) (h : k < l.length) : l.set k y = l.take k ++ [y] ++ l.drop (k + 1) := by
  rw [List.set_eq_take_append_cons_drop, if_pos h]; simp

theorem sum_set {zs : List Int} {k : Nat} {y : Int} (hk : k < zs.length) (hz : ∀ z ∈ zs, 0 ≤ z ∧ z ≤ 255) (hy : 0 ≤ y ∧ y ≤ 255) : sumS (zs.set k y) = sumS zs ↔ y = zs[k]?.getD 0 := by
  have hx : 0 ≤ zs[k]?.getD 0 ∧ zs[k]?.getD 0 ≤ 255 := hz _ (getD_mem hk)
  have e := turn_one (zs.take k) (zs.drop (k + 1)) y (zs[k]?.getD 0) hy hx
  rw [← set_at zs k y hk, ← split_at zs k hk] at e
  exact e

theorem xor_nat (a b : Nat) : a ^^^ b = a ↔ b = 0 := by
  constructor
  · intro h
    have := congrArg (a ^^^ ·) h
    simpa [← Nat.xor_assoc] using this
  · intro h; simp [h]

theorem xor_u8 {a b : Int} (ha : 0 ≤ a ∧ a ≤ 255) (hb : 0 ≤ b ∧ b ≤ 255) : (0 ≤ bits .xor .u8 a b ∧ bits .xor .u8 a b ≤ 255) ∧ (bits .xor .u8 a b = a ↔ b = 0) := by
  obtain ⟨m, rfl⟩ := Int.eq_ofNat_of_zero_le ha.1
  obtain ⟨n, rfl⟩ := Int.eq_ofNat_of_zero_le hb.1
  have hx : m ^^^ n < 2 ^ 8 := Nat.xor_lt_two_pow (by omega) (by omega)
  have h1 : (BitVec.ofInt 8 (m : Int)).toNat = m := by
    rw [BitVec.ofInt_natCast, BitVec.toNat_ofNat]; exact Nat.mod_eq_of_lt (by omega)
  have h2 : (BitVec.ofInt 8 (n : Int)).toNat = n := by
    rw [BitVec.ofInt_natCast, BitVec.toNat_ofNat]; exact Nat.mod_eq_of_lt (by omega)
  have e : bits .xor .u8 (m : Int) (n : Int) = ((m ^^^ n : Nat) : Int) := by
    show IntKind.u8.wrap ((BitVec.ofInt 8 (m : Int) ^^^ BitVec.ofInt 8 (n : Int)).toNat : Int) = _
    rw [BitVec.toNat_xor, h1, h2, IntKind.wrap_u8]
    omega
  rw [e]
  have hn := xor_nat m n
  refine ⟨⟨by omega, by omega⟩, by omega, by omega⟩

theorem getD_set (zs : List Int) (k j : Nat) (y : Int) (hk : k < zs.length) : (zs.set k y).getD j 0 = if j = k then y else zs.getD j 0 := by
  by_cases h : j = k
  · subst h; simp [List.getD, hk]
  · have h' : ¬ k = j := fun e => h e.symm
    simp [List.getD, h, List.getElem?_set_ne h']

theorem mem_set {zs : List Int} {k : Nat} {y : Int} (hz : ∀ z ∈ zs, 0 ≤ z ∧ z ≤ 255) (hy : 0 ≤ y ∧ y ≤ 255) : ∀ z ∈ zs.set k y, 0 ≤ z ∧ z ≤ 255 := by
  intro z h
  rcases List.mem_or_eq_of_mem_set h with h | h
  · exact hz z h
  · rw [h]; exact hy

/-- The copy behind a store. -/
theorem bts_set {w1 : World} {g len k : Nat} {zs : List Int} {y : Int} (hc : ∀ j, j < len → w1.cell? ⟨g, j, none⟩ = some (.int .u8 (zs.getD j 0))) (hl : zs.length = len) (hm : len ≤ 9223372036854775807)
    (hz : ∀ z ∈ zs, 0 ≤ z ∧ z ≤ 255) (hk : k < len) (hy : 0 ≤ y ∧ y ≤ 255) : Bts (w1.setCell ⟨g, k, none⟩ (.int .u8 y)) (some ⟨g, 0, none⟩) len (zs.set k y) := by
  refine ⟨by rw [List.length_set, hl], hm, mem_set hz hy, Or.inr ⟨g, 0, rfl, fun j hj => ?_⟩⟩
  rw [Nat.zero_add, getD_set _ _ _ _ (by omega)]
  by_cases h : j = k
  · subst h
    rw [if_pos rfl]
    exact World.cell?_setCell_same w1 _ _ (hc j hj)
  · rw [if_neg h, World.cell?_setCell_other (h := by intro e; exact h (by simpa using e.symm))]
    exact hc j hj

theorem split_two (l : List Int) (k : Nat) (h : k + 1 < l.length) : l = l.take k ++ [l.getD k 0, l.getD (k + 1) 0] ++ l.drop (k + 2) := by
  have h1 : k < l.length := by omega
  have e1 : l.drop k = l[k] :: l.drop (k + 1) := List.drop_eq_getElem_cons h1
  have e2 : l.drop (k + 1) = l[k + 1] :: l.drop (k + 2) := List.drop_eq_getElem_cons h
  have e3 := List.take_append_drop k l
  rw [e1, e2] at e3
  have g1 : l.getD k 0 = l[k] := by simp [List.getD, h1]
  have g2 : l.getD (k + 1) 0 = l[k + 1] := by simp [List.getD, h]
  rw [g1, g2, List.append_assoc]
  exact e3.symm

theorem set_two (l : List Int) (k : Nat) (x y : Int) (h : k + 1 < l.length) : (l.set k y).set (k + 1) x = l.take k ++ [y, x] ++ l.drop (k + 2) := by
  have hl : (l.take k).length = k := by rw [List.length_take]; omega
  have e := split_two l k h
  generalize l.take k = A at *
  generalize l.drop (k + 2) = B at *
  rw [e, List.append_assoc, List.append_assoc, List.set_append_right _ _ (by omega), hl, Nat.sub_self, List.set_append_right _ _ (by omega), hl]
  have e1 : k + 1 - k = 1 := by omega
  rw [e1]
  rfl

theorem sum_swap {zs : List Int} {k : Nat} (hk : k + 1 < zs.length) (hz : ∀ z ∈ zs, 0 ≤ z ∧ z ≤ 255) :
    (sumS ((zs.set k (zs.getD (k + 1) 0)).set (k + 1) (zs.getD k 0)) == sumS zs) = (zs.getD k 0 == zs.getD (k + 1) 0) := by
  have hx := hz _ (getD_mem (l := zs) (k := k) (by omega))
  have hy := hz _ (getD_mem (l := zs) (k := k + 1) hk)
  have e := swap_two (zs.take k) (zs.drop (k + 2)) (zs.getD k 0) (zs.getD (k + 1) 0) hx hy
  rw [← split_two zs k hk, ← set_two zs k _ _ hk] at e
  rw [Bool.eq_iff_iff, beq_iff_eq, beq_iff_eq]
  exact ⟨fun h => e.1 h.symm, fun h => (e.2 h).symm⟩

/-- The copy behind two stores, side by side. -/
theorem bts_swap {w1 : World} {g len k : Nat} {zs : List Int} {x y : Int} (hc : ∀ j, j < len → w1.cell? ⟨g, j, none⟩ = some (.int .u8 (zs.getD j 0))) (hl : zs.length = len) (hm : len ≤ 9223372036854775807)
    (hz : ∀ z ∈ zs, 0 ≤ z ∧ z ≤ 255) (hk : k + 1 < len) (hx : 0 ≤ x ∧ x ≤ 255) (hy : 0 ≤ y ∧ y ≤ 255) :
    Bts (((w1.setCell ⟨g, k, none⟩ (.int .u8 y)).setCell ⟨g, k + 1, none⟩ (.int .u8 x)).drew) (some ⟨g, 0, none⟩) len ((zs.set k y).set (k + 1) x) := by
  obtain ⟨h1, h2, h3, h4⟩ := bts_set (k := k) hc hl hm hz (by omega) hy
  obtain ⟨b, off, he, hcell⟩ := h4.resolve_left (by omega)
  simp only [Option.some.injEq, Addr.mk.injEq, and_true] at he
  obtain ⟨rfl, rfl⟩ := he
  exact bts_set (w1 := (w1.setCell ⟨g, k, none⟩ (.int .u8 y)).drew) (fun j hj => by have := hcell j hj; rw [Nat.zero_add] at this; exact this) h1 hm h3 hk hx

/-- 'append(dst, b...)' of bytes that are there, onto a slice of the call's own. -/
theorem wp_append_bytes {ops : Array Oper} {rest : List Oper} {o : Oper} {a : Act} {Q : Exit → Act → World → Prop} {w : World} (hgd : o.guard = none) (s x : Operand)
    (ho : o.op = .call { callee := .builtin .append, args := #[s, x], argTypes := #[23, 23] }) (base n : Nat) (v : Value) (xs : List Value) (hs : a.eval s = v) (hown : w.ownsRow base 5 1 v n xs)
    (ao : Option Addr) (m c : Nat) (zs : List Int) (hx : a.eval x = .slice ao m c) (hB : Bts w ao m zs) (hnil : ao = none → m = 0 ∧ c = 0) (hb : n + m ≤ 140737488355328) (hbase : base ≤ w.heap.size)
    (h : ∀ v' w', w'.ownsRow base 5 1 v' (n + m) (xs ++ zs.map (Value.int .u8)) → Below base w w' → wpList Try.prog ops Q rest (a.put o.dst v') w') : wpList Try.prog ops Q (o :: rest) a w := by
  obtain ⟨i0, hi, hz0, hz1, hz2⟩ := info_parts info5
  cases ao with
  | none =>
    obtain ⟨rfl, rfl⟩ := hnil rfl
    have hzs : zs = [] := List.length_eq_zero_iff.1 hB.1
    subst hzs
    refine wpList_append_own_none hgd s x 23 ho base 5 i0 1 Try.underlying23 hi v n xs hs hown hx (h v w ?_ (Below.refl _ _))
    simpa using hown
  | some ad =>
    have hnews : ∀ j u, (zs.map (Value.int .u8))[j]? = some u → w.cell? (ad.add j) = some u := by
      rcases hB.2.2.2 with h0 | ⟨b, off, he, hc⟩
      · have hzs : zs = [] := List.length_eq_zero_iff.1 (by rw [hB.1, h0])
        subst hzs
        intro j u hu
        simp at hu
      · simp only [Option.some.injEq] at he
        subst he
        intro j u hu
        rw [List.getElem?_map] at hu
        have hj : j < zs.length := by
          rcases Nat.lt_or_ge j zs.length with h | h
          · exact h
          · rw [List.getElem?_eq_none h] at hu; simp at hu
        rw [Go.WideShapes.add_plain, hc j (by rw [← hB.1]; exact hj)]
        simp [List.getD, hj] at hu ⊢
        exact hu
    refine wpList_append_own w hgd s x 23 ho base 5 i0 (.int .u8 0) 1 1 Try.underlying23 hi hz0 hz1 hz2 rfl (by decide) v n xs hs hown ad m c (zs.map (Value.int .u8)) hx (by rw [List.length_map, hB.1, Nat.mul_one]) hnews (one_cells zs)
      (by unfold maxLen; omega) (by omega) hbase (fun v' w' h1 h2 _ => h v' w' h1 ((Below.refl base w).grown h2 hbase (fun k hk => (hown.lt k hk).1)))

/-- A row of bytes of the call's own, as a slice of bytes. -/
theorem owns_bts {w : World} {base n : Nat} {v : Value} {zs : List Int} (h : w.ownsRow base 5 1 v n (zs.map (Value.int .u8))) (hz : ∀ z ∈ zs, 0 ≤ z ∧ z ≤ 255) (hn : n ≤ 9223372036854775807) :
    ∃ ao cap, v = .slice ao n cap ∧ Bts w ao n zs := by
  have hl : zs.length = n := by have := h.1; rw [List.length_map, Nat.mul_one] at this; exact this
  rcases Nat.eq_zero_or_pos n with h0 | h0
  · rcases h.2 with ⟨hv, _⟩ | ⟨g, cap, cur, hv, _⟩
    · exact ⟨none, 0, by rw [hv, h0], hl, hn, hz, Or.inl h0⟩
    · exact ⟨_, cap, hv, hl, hn, hz, Or.inl h0⟩
  · obtain ⟨g, cap, hv, _, _⟩ := h.form h0
    rw [hv] at h
    refine ⟨_, cap, hv, hl, hn, hz, Or.inr ⟨g, 0, rfl, fun j hj => ?_⟩⟩
    rw [Nat.zero_add, h.cellAt j (by omega)]
    simp [List.getD, hl, hj]

theorem bulk_pos {H : Type} (d : DataW H) : 0 < Rows.uptoBulk d := by
  unfold Rows.uptoBulk
  split <;> omega

theorem bulk_count {H : Type} : ∀ l : List (DataW H), l.length ≤ Rows.uptoBulkAll l
  | [] => Nat.zero_le _
  | d :: r => by
    have h1 := bulk_count r
    have h2 := bulk_pos d
    rw [Rows.uptoBulkAll, List.length_cons]
    omega

theorem bytes5 : Try.prog.bytesOf 5 = 1 := by kernel_rfl

/-- A slice of bytes that came in, opened: its cells, and that it lies within the form's own reach. -/
theorem open_bytes {H : Type} {enc : TypeId × Value → H} {W : World} {a : Option Addr} {len cap : Nat} {d : DataW H} {p : List MemPlace}
    (h : DataW.Trod enc Try.prog W 0 (fun _ => true) true 23 (.slice a len cap) d p) (hs : ∀ e s, d = .slice e s → (e.length + s.length) * Try.prog.bytesOf 5 ≤ reachBytes) :
    ∃ zs, IsRow .u8 W a len cap zs ∧ cap ≤ 140737488351232 := by
  obtain ⟨fuel, hf⟩ := h
  rcases open_ints Try.underlying23 Try.underlying5 (by kernel_rfl) hf with ⟨hcs, _⟩ | ⟨x, l, c, zs, hcs, _, hl, hm, hz, hx, hcell, hwz⟩
  · simp [Value.cells] at hcs
    obtain ⟨rfl, rfl, rfl⟩ := hcs
    exact ⟨[], .inl ⟨rfl, rfl, rfl, rfl⟩, by omega⟩
  · simp [Value.cells] at hcs
    obtain ⟨rfl, rfl, rfl⟩ := hcs
    have hz' : zs.length = cap := by simpa using hz
    have hd := hs _ _ (Prod.mk.inj hx).1
    rw [bytes5] at hd
    simp only [lits, List.length_map, List.length_take, List.length_drop, reachBytes] at hd
    exact ⟨zs, .inr ⟨_, rfl, hl, hm, hz', hcell, hwz⟩, by omega⟩

/-- The same, opened with what its bulk says of its length. -/
theorem open_bulk {H : Type} {enc : TypeId × Value → H} {W : World} {a : Option Addr} {len cap : Nat} {d : DataW H} {p : List MemPlace}
    (h : DataW.Trod enc Try.prog W 0 (fun _ => true) true 23 (.slice a len cap) d p) : ∃ zs, IsRow .u8 W a len cap zs ∧ cap ≤ Rows.uptoBulk d := by
  obtain ⟨fuel, hf⟩ := h
  rcases open_ints Try.underlying23 Try.underlying5 (by kernel_rfl) hf with ⟨hcs, hx⟩ | ⟨x, l, c, zs, hcs, _, hl, hm, hz, hx, hcell, hwz⟩
  · simp [Value.cells] at hcs
    obtain ⟨rfl, rfl, rfl⟩ := hcs
    exact ⟨[], .inl ⟨rfl, rfl, rfl, rfl⟩, Nat.zero_le _⟩
  · simp [Value.cells] at hcs
    obtain ⟨rfl, rfl, rfl⟩ := hcs
    have hz' : zs.length = cap := by simpa using hz
    refine ⟨zs, .inr ⟨_, rfl, hl, hm, hz', hcell, hwz⟩, ?_⟩
    rw [(Prod.mk.inj hx).1, Rows.uptoBulk]
    have h1 := bulk_count (H := H) (lits .u8 (zs.take len))
    have h2 := bulk_count (H := H) (lits .u8 (zs.drop len))
    simp only [lits, List.length_map, List.length_take, List.length_drop] at h1 h2
    unfold lits
    omega

end Go.Proofs.Ytfplojlmfdgmiaa
