/-
  Proved here: a slice of acts (numbers, a list of writes, a list of numbers) that came in, opened, where what it reads is of bounded bulk.
  The conditions stand at each theorem.
-/
import Derived.Test.YtinlbmlgfneolaaDevPush
import Derived.Deep.SlicePairs
namespace Go.Proofs.Ytinlbmlgfneolaa
open Go.RowKit Go.ChangeShapes Go.WideShapes

theorem bulk_mem {H : Type} {d : DataW H} : ∀ {l : List (DataW H)}, d ∈ l → Rows.uptoBulk d ≤ Rows.uptoBulkAll l
  | x :: r, h => by
    rw [Rows.uptoBulkAll]
    rcases List.mem_cons.1 h with rfl | h
    · omega
    · have := bulk_mem h; omega

/-- One act in plain words. -/
structure PAct where
  what : Int
  n : Int
  ws : List (Int × List Int)
  ks : List Int

def i64 (x : Int) : Prop := -9223372036854775808 ≤ x ∧ x ≤ 9223372036854775807

def ActIs (w : World) (G : Nat → Prop) (b off i : Nat) (p : PAct) : Prop :=
  w.cell? ⟨b, off + i * 4, none⟩ = some (.int .i64 p.what) ∧ w.cell? ⟨b, off + i * 4 + 1, none⟩ = some (.int .i64 p.n) ∧ i64 p.what ∧ i64 p.n ∧ p.ws.length ≤ 1048576 ∧
    ∃ lo ll lc ko kl kc, w.cell? ⟨b, off + i * 4 + 2, none⟩ = some (.slice lo ll lc) ∧ ListIs w G lo ll p.ws ∧ w.cell? ⟨b, off + i * 4 + 3, none⟩ = some (.slice ko kl kc) ∧ NumsAre w G ko kl p.ks

def ActsIn (w : World) (a : Option Addr) (len : Nat) : Prop :=
  len ≤ 1048576 ∧ (len = 0 ∨ ∃ b off, a = some ⟨b, off, none⟩ ∧ b < w.heap.size ∧ ∀ i, i < len → ∃ p, ActIs w (fun k => k < w.heap.size) b off i p)

theorem add_block (a : Addr) (j : Nat) : (a.add j).block = a.block := by
  unfold Addr.add
  split <;> rfl

section
variable {H : Type} {enc : TypeId × Value → H} {W : World} {fuel : Nat}

/-- A cell that holds a slice of bytes. -/
theorem open_data {V : Value} {d : DataW H} {p : List MemPlace} (h : DataW.trod enc Try.prog W 0 (fun _ => true) true fuel 36 [V] = some (d, p)) (hB : Rows.uptoBulk d ≤ 1048576) :
    ∃ ad l c zs, V = .slice ad l c ∧ Arg W ad l c zs ∧ ∀ b' o s, ad = some ⟨b', o, s⟩ → l ≠ 0 → b' < W.heap.size := by
  rcases open_ints Try.underlying36 Try.underlying5 (by kernel_rfl) h with ⟨hcs, hx⟩ | ⟨x, l, c, zs, hcs, _, hl, hm, hz, hx, hcell, hwz⟩
  · obtain rfl : V = .slice none 0 0 := by simpa using hcs
    exact ⟨none, 0, 0, [], rfl, ⟨⟨rfl, by decide, by simp, Or.inl rfl⟩, fun _ => ⟨rfl, rfl⟩, Nat.le_refl _, by decide⟩, fun b' o s e => by cases e⟩
  · obtain rfl : V = .slice (some x) l c := by simpa using hcs
    have hz' : zs.length = c := by simpa using hz
    have hR : IsRow .u8 W (some x) l c zs := .inr ⟨x, rfl, hl, hm, hz', hcell, hwz⟩
    have hc : c ≤ 1048576 := by
      have e := (Prod.mk.inj hx).1
      rw [e, Rows.uptoBulk] at hB
      have h1 := bulk_count (H := H) (lits .u8 (zs.take l))
      have h2 := bulk_count (H := H) (lits .u8 (zs.drop l))
      simp only [lits, List.length_map, List.length_take, List.length_drop] at h1 h2
      unfold lits at hB
      omega
    refine ⟨some x, l, c, zs.take l, rfl, hR.arg (by omega), fun b' o s e hl0 => ?_⟩
    cases e
    have := hcell 0 (by omega)
    have hlt := World.block_lt_of_cell? _ _ this
    rw [add_block] at hlt
    exact hlt

/-- Element i of a list of writes. -/
def w_at (W : World) (a : Addr) (i : Nat) (q : Int × List Int) : Prop :=
  W.cell? (a.add (i * 2)) = some (.int .i64 q.1) ∧ i64 q.1 ∧ ∃ ad l c, W.cell? (a.add (i * 2 + 1)) = some (.slice ad l c) ∧ Arg W ad l c q.2 ∧ ∀ b' o s, ad = some ⟨b', o, s⟩ → l ≠ 0 → b' < W.heap.size

/-- A cell that holds a list of writes. -/
theorem open_writes {V : Value} {d : DataW H} {p : List MemPlace} (h : DataW.trod enc Try.prog W 0 (fun _ => true) true fuel 30 [V] = some (d, p)) (hB : Rows.uptoBulk d ≤ 1048576) :
    ∃ lo ll lc ws, V = .slice lo ll lc ∧ ListIs W (fun k => k < W.heap.size) lo ll ws ∧ ws.length ≤ 1048576 := by
  rcases Go.Deep.open_slice_pairs Try.underlying30 Try.underlying54 (by kernel_rfl) rfl rfl (by kernel_rfl) (by kernel_rfl) h with ⟨hcs, _⟩ | ⟨a, len, cap, m, n, V0, V1, D0, D1, P0, P1, hcs, _, hl, hm, hmm, hx, hi⟩
  · obtain rfl : V = .slice none 0 0 := by simpa using hcs
    exact ⟨none, 0, 0, [], rfl, ⟨rfl, by decide, Or.inl rfl⟩, by decide⟩
  · obtain rfl : V = .slice (some a) len cap := by simpa using hcs
    have hmc : m = cap := by simpa using hmm
    subst hmc
    have e := (Prod.mk.inj hx).1
    rw [e, Rows.uptoBulk] at hB
    have hlen : len ≤ 1048576 := by
      have h1 := bulk_count (H := H) ((List.range len).map fun i => DataW.agg [D0 i, D1 i])
      simp only [List.length_map, List.length_range] at h1
      omega
    have hpart : ∀ i, i < len → Rows.uptoBulk (D1 i) ≤ 1048576 := fun i hil => by
      have h1 := bulk_mem (H := H) (l := (List.range len).map fun i => DataW.agg [D0 i, D1 i]) (List.mem_map.2 ⟨i, List.mem_range.2 hil, rfl⟩)
      rw [Rows.uptoBulk, Rows.uptoBulkAll, Rows.uptoBulkAll, Rows.uptoBulkAll] at h1
      omega
    have each : ∀ i, i < len → ∃ q : Int × List Int, w_at W a i q := fun i hil => by
      obtain ⟨c0, c1, t0, t1⟩ := hi i (by omega)
      obtain ⟨x, hx0, _, hwf⟩ := DataW.trod_int Try.underlying3 t0
      obtain ⟨ad, l, c, zs, hv, hA, hlt⟩ := open_data t1 (hpart i hil)
      have hx0' : V0 i = .int .i64 x := by simpa using hx0
      exact ⟨(x, zs), by rw [c0, hx0'], wf_i64 hwf, ad, l, c, by rw [c1, hv], hA, hlt⟩
    obtain ⟨q, hq⟩ := Go.Deep.choose_lt each
    refine ⟨some a, len, m, (List.range len).map q, rfl, ⟨by simp, by omega, ?_⟩, by simpa using hlen⟩
    rcases Nat.eq_zero_or_pos len with h0 | h0
    · exact Or.inl h0
    · obtain ⟨b, off, spot⟩ := a
      have hspot : spot = none := by
        have := (hq 0 h0).1
        simpa [Addr.add] using World.cell?_spot this
      subst hspot
      refine Or.inr ⟨b, off, rfl, ?_, fun j a zs hj => ?_⟩
      · have := World.block_lt_of_cell? _ _ (hq 0 h0).1
        rw [add_block] at this
        exact this
      · rw [List.getElem?_map] at hj
        have hjl : j < len := by
          rcases Nat.lt_or_ge j len with h | h
          · exact h
          · rw [List.getElem?_eq_none (by simpa using h)] at hj; cases hj
        rw [List.getElem?_range hjl] at hj
        have hj' : q j = (a, zs) := by simpa using hj
        obtain ⟨g1, g2, ad, l, c, g3, g4, g5⟩ := hq j hjl
        rw [hj'] at g1 g2 g4
        rw [add_plain, Nat.mul_comm] at g1
        rw [add_plain, ← Nat.add_assoc, Nat.mul_comm] at g3
        exact ⟨g1, g2, ad, l, c, g3, g4, g5⟩
/-- A cell that holds a list of numbers. -/
theorem open_nums {V : Value} {d : DataW H} {p : List MemPlace} (h : DataW.trod enc Try.prog W 0 (fun _ => true) true fuel 31 [V] = some (d, p)) :
    ∃ ko kl kc ks, V = .slice ko kl kc ∧ NumsAre W (fun k => k < W.heap.size) ko kl ks := by
  rcases open_ints Try.underlying31 Try.underlying3 (by kernel_rfl) h with ⟨hcs, hx⟩ | ⟨x, l, c, zs, hcs, _, hl, hm, hz, hx, hcell, hwz⟩
  · obtain rfl : V = .slice none 0 0 := by simpa using hcs
    exact ⟨none, 0, 0, [], rfl, rfl, Or.inl rfl⟩
  · obtain rfl : V = .slice (some x) l c := by simpa using hcs
    have hz' : zs.length = c := by simpa using hz
    refine ⟨some x, l, c, zs.take l, rfl, by rw [List.length_take]; omega, ?_⟩
    rcases Nat.eq_zero_or_pos l with h0 | h0
    · exact Or.inl h0
    · obtain ⟨b, off, rfl, hc⟩ := ints_at hcell (by omega)
      refine Or.inr ⟨b, off, rfl, World.block_lt_of_cell? _ _ (hc 0 (by omega)), fun j x hj => ?_⟩
      have hjl : j < l := by
        have := (List.getElem?_eq_some_iff.1 hj).1
        rw [List.length_take] at this
        omega
      rw [List.getElem?_take, if_pos hjl] at hj
      have hx : zs.getD j 0 = x := by simp [List.getD, hj]
      exact ⟨by rw [hc j (by omega), hx], wf_i64 (hwz x (List.mem_of_getElem? hj))⟩

theorem four_of {α : Type} {l : List α} (h : l.length = 4) : ∃ a b c d, l = [a, b, c, d] := by
  match l, h with
  | [a, b, c, d], _ => exact ⟨a, b, c, d, rfl⟩

/-- A slice of acts that came in. -/
theorem open_acts {a : Option Addr} {len cap : Nat} {d : DataW H} {p : List MemPlace} (h : DataW.Trod enc Try.prog W 0 (fun _ => true) true 22 (.slice a len cap) d p) (hB : Rows.uptoBulk d ≤ 1048576) : ActsIn W a len := by
  obtain ⟨fuel, hf⟩ := h
  rcases Go.Deep.open_slice Try.underlying22 hf with ⟨hcs, _⟩ | ⟨x, l, c, m, n, D, Pl, hcs, _, hl, hm, hmm, hx, hi⟩
  · simp [Value.cells] at hcs
    obtain ⟨rfl, rfl, rfl⟩ := hcs
    exact ⟨by decide, Or.inl rfl⟩
  · simp [Value.cells] at hcs
    obtain ⟨rfl, rfl, rfl⟩ := hcs
    have hmc : m = cap := by simpa using hmm
    subst hmc
    have hc4 : Try.prog.cellsOf 33 = 4 := by kernel_rfl
    rw [hc4] at hi
    have e := (Prod.mk.inj hx).1
    rw [e, Rows.uptoBulk] at hB
    have hlen : len ≤ 1048576 := by
      have h1 := bulk_count (H := H) ((List.range len).map D)
      simp only [List.length_map, List.length_range] at h1
      omega
    refine ⟨hlen, ?_⟩
    rcases Nat.eq_zero_or_pos len with h0 | h0
    · exact Or.inl h0
    have each : ∀ i, i < len → ∃ q : PAct, ∃ lo ll lc ko kl kc, W.cell? (x.add (i * 4)) = some (.int .i64 q.what) ∧ W.cell? ((x.add (i * 4)).add 1) = some (.int .i64 q.n) ∧ i64 q.what ∧ i64 q.n ∧ q.ws.length ≤ 1048576 ∧
        W.cell? ((x.add (i * 4)).add 2) = some (.slice lo ll lc) ∧ ListIs W (fun k => k < W.heap.size) lo ll q.ws ∧ W.cell? ((x.add (i * 4)).add 3) = some (.slice ko kl kc) ∧ NumsAre W (fun k => k < W.heap.size) ko kl q.ks := by
      intro i hil
      obtain ⟨cs', hc, ht⟩ := hi i (by omega)
      have hbi : Rows.uptoBulk (D i) ≤ 1048576 := by
        have h1 := bulk_mem (H := H) (l := (List.range len).map D) (List.mem_map.2 ⟨i, List.mem_range.2 hil, rfl⟩)
        omega
      obtain ⟨xs, n', _, hxs, _, hxl, hf⟩ := DataW.trod_struct Try.underlying33 ht
      obtain ⟨_, hcl, hat⟩ := World.cells?_some hc
      obtain ⟨v0, v1, v2, v3, rfl⟩ := four_of hcl
      obtain ⟨y0, y1, y2, y3, rfl⟩ := four_of (show xs.length = 4 from hxl)
      have hD := (Prod.mk.inj hxs).1
      have hb2 : Rows.uptoBulk y2.1 ≤ 1048576 := by
        rw [hD, Rows.uptoBulk] at hbi
        have h1 := bulk_mem (H := H) (d := y2.1) (l := [y0, y1, y2, y3].map (·.1)) (by simp)
        omega
      have c0 : Try.prog.cellsOf 3 = 1 := by kernel_rfl
      have c2 : Try.prog.cellsOf 30 = 1 := by kernel_rfl
      have c3 : Try.prog.cellsOf 31 = 1 := by kernel_rfl
      have t0 : DataW.trod enc Try.prog W 0 (fun _ => true) true n' 3 (([v0, v1, v2, v3].drop 0).take (Try.prog.cellsOf 3)) = [y0, y1, y2, y3][0]? := hf 0 _ rfl
      have t1 : DataW.trod enc Try.prog W 0 (fun _ => true) true n' 3 (([v0, v1, v2, v3].drop 1).take (Try.prog.cellsOf 3)) = [y0, y1, y2, y3][1]? := hf 1 _ rfl
      have t2 : DataW.trod enc Try.prog W 0 (fun _ => true) true n' 30 (([v0, v1, v2, v3].drop 2).take (Try.prog.cellsOf 30)) = [y0, y1, y2, y3][2]? := hf 2 _ rfl
      have t3 : DataW.trod enc Try.prog W 0 (fun _ => true) true n' 31 (([v0, v1, v2, v3].drop 3).take (Try.prog.cellsOf 31)) = [y0, y1, y2, y3][3]? := hf 3 _ rfl
      rw [c0] at t0 t1
      rw [c2] at t2
      rw [c3] at t3
      have t0 : DataW.trod enc Try.prog W 0 (fun _ => true) true n' 3 [v0] = some y0 := t0
      have t1 : DataW.trod enc Try.prog W 0 (fun _ => true) true n' 3 [v1] = some y1 := t1
      have t2 : DataW.trod enc Try.prog W 0 (fun _ => true) true n' 30 [v2] = some (y2.1, y2.2) := t2
      have t3 : DataW.trod enc Try.prog W 0 (fun _ => true) true n' 31 [v3] = some (y3.1, y3.2) := t3
      obtain ⟨z0, hv0, _, w0⟩ := DataW.trod_int Try.underlying3 t0
      obtain ⟨z1, hv1, _, w1⟩ := DataW.trod_int Try.underlying3 t1
      obtain ⟨lo, ll, lc, ws, hv2, hL, hwl⟩ := open_writes t2 hb2
      obtain ⟨ko, kl, kc, ks, hv3, hN⟩ := open_nums t3
      obtain rfl : v0 = .int .i64 z0 := by simpa using hv0
      obtain rfl : v1 = .int .i64 z1 := by simpa using hv1
      subst hv2
      subst hv3
      exact ⟨⟨z0, z1, ws, ks⟩, lo, ll, lc, ko, kl, kc, hat 0 (by decide), hat 1 (by decide), wf_i64 w0, wf_i64 w1, hwl, hat 2 (by decide), hL, hat 3 (by decide), hN⟩
    obtain ⟨b, off, spot⟩ := x
    have hspot : spot = none := by
      obtain ⟨q, _, _, _, _, _, _, h1, _⟩ := each 0 h0
      simpa [Addr.add] using World.cell?_spot h1
    subst hspot
    refine Or.inr ⟨b, off, rfl, ?_, fun i hil => ?_⟩
    · obtain ⟨q, _, _, _, _, _, _, h1, _⟩ := each 0 h0
      have := World.block_lt_of_cell? _ _ h1
      rw [add_block] at this
      exact this
    · obtain ⟨q, lo, ll, lc, ko, kl, kc, h1, h2, h3, h4, h5, h6, h7, h8, h9⟩ := each i hil
      simp only [add_plain] at h1 h2 h6 h8
      exact ⟨q, h1, h2, h3, h4, h5, lo, ll, lc, ko, kl, kc, h6, h7, h8, h9⟩
end

end Go.Proofs.Ytinlbmlgfneolaa
