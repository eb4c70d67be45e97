/-
  Proved here: the parameters of layer 16's laws that came in (a slice of acts, of writes, of numbers, of rows), opened.
  The conditions stand at each theorem.
-/
import Derived.Test.YtbnepjojfaeggaaA10
import Derived.Test.YtbnepjojfaeggaaA6
import Derived.Deep.SlicePairs
namespace Go.Proofs.Ytbnepjojfaeggaa
open Go.RowKit Go.ChangeShapes Go.WideShapes
set_option linter.unusedVariables false

theorem weights_allT {H : Type} {P : Program} {e : TypeId} {d : DataW H} {n : Nat} : ∀ {l : List (DataW H)}, d ∈ l → n ∈ d.weights P e → n ∈ DataW.weightsAll P e l
  | x :: r, h, hn => by
    rw [DataW.weightsAll, List.mem_append]
    rcases List.mem_cons.1 h with rfl | h
    · exact Or.inl hn
    · exact Or.inr (weights_allT h hn)

theorem weights_sliceT {H : Type} {P : Program} {t e : TypeId} (hu : P.underlying t = some (.slice e)) (elems spare : List (DataW H)) : DataW.weights P t (.slice elems spare) = (elems.length + spare.length) * P.bytesOf e :: (DataW.weightsAll P e elems ++ DataW.weightsAll P e spare) := by
  simp [DataW.weights, hu]

theorem weights_ofT {H : Type} {P : Program} {ts : List TypeId} {ds : List (DataW H)} (h : (DataW.weightsEach P ts ds).all (· ≤ reachBytes) = true) {j : Nat} {t : TypeId} {d : DataW H} (ht : ts[j]? = some t) (hd : ds[j]? = some d) : ∀ n ∈ d.weights P t, n ≤ reachBytes :=
  fun n hn => of_decide_eq_true (List.all_eq_true.1 h n (DataW.weights_mem_each ht hd n hn))

/-- One act in plain words. -/
structure PAct where
  what : Int
  n : Int
  ws : List (Int × List Int)
  ks : List Int

def ActIs (w : World) (G : Nat → Prop) (b off i : Nat) (p : PAct) : Prop :=
  w.cell? ⟨b, off + i * 4, none⟩ = some (.int .i64 p.what) ∧ w.cell? ⟨b, off + i * 4 + 1, none⟩ = some (.int .i64 p.n) ∧ I64 p.what ∧ I64 p.n ∧ p.ws.length ≤ 4398046510976 ∧
    ∃ lo ll lc ko kl kc, w.cell? ⟨b, off + i * 4 + 2, none⟩ = some (.slice lo ll lc) ∧ ListIs w G lo ll p.ws ∧ w.cell? ⟨b, off + i * 4 + 3, none⟩ = some (.slice ko kl kc) ∧ NumsAre w G ko kl p.ks

def ActsIn (w : World) (a : Option Addr) (len : Nat) : Prop :=
  len ≤ 140737488351232 ∧ (len = 0 ∨ ∃ b off, a = some ⟨b, off, none⟩ ∧ b < w.heap.size ∧ ∀ i, i < len → ∃ p, ActIs w (fun k => k < w.heap.size) b off i p)

theorem add_block (a : Addr) (j : Nat) : (a.add j).block = a.block := by
  unfold Addr.add
  split <;> rfl

section
variable {H : Type} {enc : TypeId × Value → H} {W : World} {fuel : Nat}

/-- A cell that holds a slice of bytes. -/
theorem open_data {V : Value} {d : DataW H} {p : List MemPlace} (h : DataW.trod enc Try.prog W 0 (fun _ => true) true fuel 46 [V] = some (d, p)) (hw : ∀ n ∈ d.weights Try.prog 46, n ≤ reachBytes) :
    ∃ ad l c zs, V = .slice ad l c ∧ Arg W ad l c zs ∧ ∀ b' o s, ad = some ⟨b', o, s⟩ → l ≠ 0 → b' < W.heap.size := by
  rcases open_ints Try.underlying46 Try.underlying5 (by kernel_rfl) h with ⟨hcs, _⟩ | ⟨x, l, c, zs, hcs, _, hl, hm, hz, hx, hcell, hwz⟩
  · obtain rfl : V = .slice none 0 0 := by simpa using hcs
    exact ⟨none, 0, 0, [], rfl, ⟨⟨rfl, by decide, by simp, Or.inl rfl⟩, fun _ => ⟨rfl, rfl⟩, Nat.le_refl _, by decide⟩, fun b' o s e => by cases e⟩
  · obtain rfl : V = .slice (some x) l c := by simpa using hcs
    have hz' : zs.length = c := by simpa using hz
    have hR : IsRow .u8 W (some x) l c zs := .inr ⟨x, rfl, hl, hm, hz', hcell, hwz⟩
    have e := (Prod.mk.inj hx).1
    have hb1 : Try.prog.bytesOf 5 = 1 := by kernel_rfl
    have hc : c ≤ 140737488351232 := by
      rw [e] at hw
      have h1 := hw _ (by rw [weights_sliceT Try.underlying46]; exact List.mem_cons_self ..)
      rw [hb1] at h1
      simp only [lits, List.length_map, List.length_take, List.length_drop, reachBytes] at h1
      omega
    refine ⟨some x, l, c, zs.take l, rfl, hR.arg hc, fun b' o s e hl0 => ?_⟩
    cases e
    have := hcell 0 (by omega)
    have hlt := World.block_lt_of_cell? _ _ this
    rw [add_block] at hlt
    exact hlt

/-- Element i of a list of writes. -/
def w_at (W : World) (a : Addr) (i : Nat) (q : Int × List Int) : Prop :=
  W.cell? (a.add (i * 2)) = some (.int .i64 q.1) ∧ I64 q.1 ∧ ∃ ad l c, W.cell? (a.add (i * 2 + 1)) = some (.slice ad l c) ∧ Arg W ad l c q.2 ∧ ∀ b' o s, ad = some ⟨b', o, s⟩ → l ≠ 0 → b' < W.heap.size

/-- A cell that holds a list of writes. -/
theorem open_writes {V : Value} {d : DataW H} {p : List MemPlace} (h : DataW.trod enc Try.prog W 0 (fun _ => true) true fuel 27 [V] = some (d, p)) (hw : ∀ n ∈ d.weights Try.prog 27, n ≤ reachBytes) :
    ∃ lo ll lc ws, V = .slice lo ll lc ∧ ListIs W (fun k => k < W.heap.size) lo ll ws ∧ ws.length ≤ 4398046510976 := by
  rcases Go.Deep.open_slice_pairs Try.underlying27 Try.underlying48 (by kernel_rfl) rfl rfl (by kernel_rfl) (by kernel_rfl) h with ⟨hcs, _⟩ | ⟨a, len, cap, m, n, V0, V1, D0, D1, P0, P1, hcs, _, hl, hm, hmm, hx, hi⟩
  · obtain rfl : V = .slice none 0 0 := by simpa using hcs
    exact ⟨none, 0, 0, [], rfl, ⟨rfl, by decide, Or.inl rfl⟩, by decide⟩
  · obtain rfl : V = .slice (some a) len cap := by simpa using hcs
    have hmc : m = cap := by simpa using hmm
    subst hmc
    have e := (Prod.mk.inj hx).1
    have hb32 : Try.prog.bytesOf 48 = 32 := by kernel_rfl
    have hcap : m ≤ 4398046510976 := by
      have h1 := hw (((List.range len).map fun i => DataW.agg [D0 i, D1 i]).length * Try.prog.bytesOf 48 + ((List.range (m - len)).map fun j => DataW.agg [D0 (len + j), D1 (len + j)]).length * Try.prog.bytesOf 48) (by
        rw [e, weights_sliceT Try.underlying27, ← Nat.add_mul]
        exact List.mem_cons_self ..)
      rw [hb32] at h1
      simp only [List.length_map, List.length_range, reachBytes] at h1
      omega
    have hpart : ∀ i, i < len → ∀ n ∈ (D1 i).weights Try.prog 46, n ≤ reachBytes := fun i hil n hn => by
      refine hw n ?_
      rw [e, weights_sliceT Try.underlying27]
      refine List.mem_cons_of_mem _ (List.mem_append_left _ (weights_allT (d := .agg [D0 i, D1 i]) (List.mem_map.2 ⟨i, List.mem_range.2 hil, rfl⟩) ?_))
      simp only [DataW.weights, Try.underlying48, List.map_cons, List.map_nil, DataW.weightsEach, List.mem_append]
      exact Or.inr (Or.inl hn)
    have each : ∀ i, i < len → ∃ q : Int × List Int, w_at W a i q := fun i hil => by
      obtain ⟨c0, c1, t0, t1⟩ := hi i (by omega)
      obtain ⟨x, hx0, _, hwf⟩ := DataW.trod_int Try.underlying3 t0
      obtain ⟨ad, l, c, zs, hv, hA, hlt⟩ := open_data t1 (hpart i hil)
      have hx0' : V0 i = .int .i64 x := by simpa using hx0
      exact ⟨(x, zs), by rw [c0, hx0'], wf_i64 hwf, ad, l, c, by rw [c1, hv], hA, hlt⟩
    obtain ⟨q, hq⟩ := Go.Deep.choose_lt each
    refine ⟨some a, len, m, (List.range len).map q, rfl, ⟨by simp, by omega, ?_⟩, by simp; omega⟩
    rcases Nat.eq_zero_or_pos len with h0 | h0
    · exact Or.inl h0
    · obtain ⟨b, off, spot⟩ := a
      have hspot : spot = none := by
        have := (hq 0 h0).1
        simpa [Addr.add] using World.cell?_spot this
      subst hspot
      refine Or.inr ⟨b, off, rfl, ?_, fun j a zs hj => ?_⟩
      · have := World.block_lt_of_cell? _ _ (hq 0 h0).1
        rw [add_block] at this
        exact this
      · rw [List.getElem?_map] at hj
        have hjl : j < len := by
          rcases Nat.lt_or_ge j len with h | h
          · exact h
          · rw [List.getElem?_eq_none (by simpa using h)] at hj; cases hj
        rw [List.getElem?_range hjl] at hj
        have hj' : q j = (a, zs) := by simpa using hj
        obtain ⟨g1, g2, ad, l, c, g3, g4, g5⟩ := hq j hjl
        rw [hj'] at g1 g2 g4
        rw [add_plain, Nat.mul_comm] at g1
        rw [add_plain, ← Nat.add_assoc, Nat.mul_comm] at g3
        exact ⟨g1, g2, ad, l, c, g3, g4, g5⟩

/-- A cell that holds a list of numbers. -/
theorem open_nums7 {V : Value} {d : DataW H} {p : List MemPlace} (h : DataW.trod enc Try.prog W 0 (fun _ => true) true fuel 28 [V] = some (d, p)) :
    ∃ ko kl kc ks, V = .slice ko kl kc ∧ NumsAre W (fun k => k < W.heap.size) ko kl ks := by
  rcases open_ints Try.underlying28 Try.underlying3 (by kernel_rfl) h with ⟨hcs, hx⟩ | ⟨x, l, c, zs, hcs, _, hl, hm, hz, hx, hcell, hwz⟩
  · obtain rfl : V = .slice none 0 0 := by simpa using hcs
    exact ⟨none, 0, 0, [], rfl, rfl, Or.inl rfl⟩
  · obtain rfl : V = .slice (some x) l c := by simpa using hcs
    have hz' : zs.length = c := by simpa using hz
    refine ⟨some x, l, c, zs.take l, rfl, by rw [List.length_take]; omega, ?_⟩
    rcases Nat.eq_zero_or_pos l with h0 | h0
    · exact Or.inl h0
    · obtain ⟨b, off, rfl, hc⟩ := ints_at hcell (by omega)
      refine Or.inr ⟨b, off, rfl, World.block_lt_of_cell? _ _ (hc 0 (by omega)), fun j x hj => ?_⟩
      have hjl : j < l := by
        have := (List.getElem?_eq_some_iff.1 hj).1
        rw [List.length_take] at this
        omega
      rw [List.getElem?_take, if_pos hjl] at hj
      have hx : zs.getD j 0 = x := by simp [List.getD, hj]
      exact ⟨by rw [hc j (by omega), hx], wf_i64 (hwz x (List.mem_of_getElem? hj))⟩

theorem four_of {α : Type} {l : List α} (h : l.length = 4) : ∃ a b c d, l = [a, b, c, d] := by
  match l, h with
  | [a, b, c, d], _ => exact ⟨a, b, c, d, rfl⟩

/-- A slice of acts that came in. -/
theorem open_acts {a : Option Addr} {len cap : Nat} {d : DataW H} {p : List MemPlace} (h : DataW.Trod enc Try.prog W 0 (fun _ => true) true 23 (.slice a len cap) d p) (hw : ∀ n ∈ d.weights Try.prog 23, n ≤ reachBytes) : ActsIn W a len := by
  obtain ⟨fuel, hf⟩ := h
  rcases Go.Deep.open_slice Try.underlying23 hf with ⟨hcs, _⟩ | ⟨x, l, c, m, n, D, Pl, hcs, _, hl, hm, hmm, hx, hi⟩
  · simp [Value.cells] at hcs
    obtain ⟨rfl, rfl, rfl⟩ := hcs
    exact ⟨by decide, Or.inl rfl⟩
  · simp [Value.cells] at hcs
    obtain ⟨rfl, rfl, rfl⟩ := hcs
    have hmc : m = cap := by simpa using hmm
    subst hmc
    have hc4 : Try.prog.cellsOf 30 = 4 := by kernel_rfl
    have hb64 : Try.prog.bytesOf 30 = 64 := by kernel_rfl
    rw [hc4] at hi
    have e := (Prod.mk.inj hx).1
    have hlen : len ≤ 140737488351232 := by
      rw [e] at hw
      have h1 := hw _ (by rw [weights_sliceT Try.underlying23]; exact List.mem_cons_self ..)
      rw [hb64] at h1
      simp only [List.length_map, List.length_range, reachBytes] at h1
      omega
    refine ⟨hlen, ?_⟩
    rcases Nat.eq_zero_or_pos len with h0 | h0
    · exact Or.inl h0
    have each : ∀ i, i < len → ∃ q : PAct, ∃ lo ll lc ko kl kc, W.cell? (x.add (i * 4)) = some (.int .i64 q.what) ∧ W.cell? ((x.add (i * 4)).add 1) = some (.int .i64 q.n) ∧ I64 q.what ∧ I64 q.n ∧ q.ws.length ≤ 4398046510976 ∧
        W.cell? ((x.add (i * 4)).add 2) = some (.slice lo ll lc) ∧ ListIs W (fun k => k < W.heap.size) lo ll q.ws ∧ W.cell? ((x.add (i * 4)).add 3) = some (.slice ko kl kc) ∧ NumsAre W (fun k => k < W.heap.size) ko kl q.ks := by
      intro i hil
      obtain ⟨cs', hc, ht⟩ := hi i (by omega)
      have hwi : ∀ n ∈ (D i).weights Try.prog 30, n ≤ reachBytes := fun n hn => hw n (by
        rw [e, weights_sliceT Try.underlying23]
        exact List.mem_cons_of_mem _ (List.mem_append_left _ (weights_allT (d := D i) (List.mem_map.2 ⟨i, List.mem_range.2 hil, rfl⟩) hn)))
      obtain ⟨xs, n', _, hxs, _, hxl, hf⟩ := DataW.trod_struct Try.underlying30 ht
      obtain ⟨_, hcl, hat⟩ := World.cells?_some hc
      obtain ⟨v0, v1, v2, v3, rfl⟩ := four_of hcl
      obtain ⟨y0, y1, y2, y3, rfl⟩ := four_of (show xs.length = 4 from hxl)
      have hD := (Prod.mk.inj hxs).1
      have hb2 : ∀ n ∈ y2.1.weights Try.prog 27, n ≤ reachBytes := fun n hn => hwi n (by
        rw [hD]
        simp only [DataW.weights, Try.underlying30, List.map_cons, List.map_nil, DataW.weightsEach, List.mem_append]
        exact Or.inr (Or.inr (Or.inl hn)))
      have c0 : Try.prog.cellsOf 3 = 1 := by kernel_rfl
      have c2 : Try.prog.cellsOf 27 = 1 := by kernel_rfl
      have c3 : Try.prog.cellsOf 28 = 1 := by kernel_rfl
      have t0 : DataW.trod enc Try.prog W 0 (fun _ => true) true n' 3 (([v0, v1, v2, v3].drop 0).take (Try.prog.cellsOf 3)) = [y0, y1, y2, y3][0]? := hf 0 _ rfl
      have t1 : DataW.trod enc Try.prog W 0 (fun _ => true) true n' 3 (([v0, v1, v2, v3].drop 1).take (Try.prog.cellsOf 3)) = [y0, y1, y2, y3][1]? := hf 1 _ rfl
      have t2 : DataW.trod enc Try.prog W 0 (fun _ => true) true n' 27 (([v0, v1, v2, v3].drop 2).take (Try.prog.cellsOf 27)) = [y0, y1, y2, y3][2]? := hf 2 _ rfl
      have t3 : DataW.trod enc Try.prog W 0 (fun _ => true) true n' 28 (([v0, v1, v2, v3].drop 3).take (Try.prog.cellsOf 28)) = [y0, y1, y2, y3][3]? := hf 3 _ rfl
      rw [c0] at t0 t1
      rw [c2] at t2
      rw [c3] at t3
      have t0 : DataW.trod enc Try.prog W 0 (fun _ => true) true n' 3 [v0] = some y0 := t0
      have t1 : DataW.trod enc Try.prog W 0 (fun _ => true) true n' 3 [v1] = some y1 := t1
      have t2 : DataW.trod enc Try.prog W 0 (fun _ => true) true n' 27 [v2] = some (y2.1, y2.2) := t2
      have t3 : DataW.trod enc Try.prog W 0 (fun _ => true) true n' 28 [v3] = some (y3.1, y3.2) := t3
      obtain ⟨z0, hv0, _, w0⟩ := DataW.trod_int Try.underlying3 t0
      obtain ⟨z1, hv1, _, w1⟩ := DataW.trod_int Try.underlying3 t1
      obtain ⟨lo, ll, lc, ws, hv2, hL, hwl⟩ := open_writes t2 hb2
      obtain ⟨ko, kl, kc, ks, hv3, hN⟩ := open_nums7 t3
      obtain rfl : v0 = .int .i64 z0 := by simpa using hv0
      obtain rfl : v1 = .int .i64 z1 := by simpa using hv1
      subst hv2
      subst hv3
      exact ⟨⟨z0, z1, ws, ks⟩, lo, ll, lc, ko, kl, kc, hat 0 (by decide), hat 1 (by decide), wf_i64 w0, wf_i64 w1, hwl, hat 2 (by decide), hL, hat 3 (by decide), hN⟩
    obtain ⟨b, off, spot⟩ := x
    have hspot : spot = none := by
      obtain ⟨q, _, _, _, _, _, _, h1, _⟩ := each 0 h0
      simpa [Addr.add] using World.cell?_spot h1
    subst hspot
    refine Or.inr ⟨b, off, rfl, ?_, fun i hil => ?_⟩
    · obtain ⟨q, _, _, _, _, _, _, h1, _⟩ := each 0 h0
      have := World.block_lt_of_cell? _ _ h1
      rw [add_block] at this
      exact this
    · obtain ⟨q, lo, ll, lc, ko, kl, kc, h1, h2, h3, h4, h5, h6, h7, h8, h9⟩ := each i hil
      simp only [add_plain] at h1 h2 h6 h8
      exact ⟨q, h1, h2, h3, h4, h5, lo, ll, lc, ko, kl, kc, h6, h7, h8, h9⟩

/-- A parameter that is a list of writes. -/
theorem open_writes_arg {a : Option Addr} {len cap : Nat} {d : DataW H} {p : List MemPlace} (h : DataW.Trod enc Try.prog W 0 (fun _ => true) true 27 (.slice a len cap) d p) (hw : ∀ n ∈ d.weights Try.prog 27, n ≤ reachBytes) :
    ∃ ws, ListIs W (fun k => k < W.heap.size) a len ws ∧ ws.length ≤ 4398046510976 := by
  obtain ⟨fuel, hf⟩ := h
  obtain ⟨ao, l, c, ws, he, hE⟩ := open_writes (V := .slice a len cap) hf hw
  simp only [Value.slice.injEq] at he
  obtain ⟨rfl, rfl, rfl⟩ := he
  exact ⟨ws, hE⟩

/-- A parameter that is a list of numbers. -/
theorem open_keep_arg {a : Option Addr} {len cap : Nat} {d : DataW H} {p : List MemPlace} (h : DataW.Trod enc Try.prog W 0 (fun _ => true) true 28 (.slice a len cap) d p) :
    ∃ ks, NumsAre W (fun k => k < W.heap.size) a len ks := by
  obtain ⟨fuel, hf⟩ := h
  obtain ⟨ao, l, c, ks, he, hE⟩ := open_nums7 (V := .slice a len cap) hf
  simp only [Value.slice.injEq] at he
  obtain ⟨rfl, rfl, rfl⟩ := he
  exact ⟨ks, hE⟩
end

end Go.Proofs.Ytbnepjojfaeggaa
