/-
  Proved here: entries, lists of entries, and lists of such lists that came in, opened.
  The conditions stand at each theorem.
-/
import Derived.Test.YtkpgefjbhimmgaaEntMem
import Derived.Deep.SlicePairs
namespace Go.Proofs.Ytkpgefjbhimmgaa
open Go.RowKit Go.ChangeShapes Go.WideShapes

instance : Inhabited PEnt := ⟨⟨0, ByteArray.empty⟩⟩

theorem weights_all {H : Type} {P : Program} {e : TypeId} {d : DataW H} {n : Nat} : ∀ {l : List (DataW H)}, d ∈ l → n ∈ d.weights P e → n ∈ DataW.weightsAll P e l
  | x :: r, h, hn => by
    rw [DataW.weightsAll, List.mem_append]
    rcases List.mem_cons.1 h with rfl | h
    · exact Or.inl hn
    · exact Or.inr (weights_all h hn)

theorem weights_slice {H : Type} {P : Program} {t e : TypeId} (hu : P.underlying t = some (.slice e)) (elems spare : List (DataW H)) : DataW.weights P t (.slice elems spare) = (elems.length + spare.length) * P.bytesOf e :: (DataW.weightsAll P e elems ++ DataW.weightsAll P e spare) := by
  simp [DataW.weights, hu]

section
variable {H : Type} {enc : TypeId × Value → H} {W : World} {fuel : Nat}

/-- A cell that holds a list of entries. -/
theorem open_ents {V : Value} {d : DataW H} {p : List MemPlace} (h : DataW.trod enc Try.prog W 0 (fun _ => true) true fuel 22 [V] = some (d, p)) (hw : ∀ n ∈ d.weights Try.prog 22, n ≤ reachBytes) :
    ∃ ao len cap es, V = .slice ao len cap ∧ EntArg W ao len cap es := by
  rcases Go.Deep.open_slice_pairs Try.underlying22 Try.underlying40 (by kernel_rfl) rfl rfl (by kernel_rfl) (by kernel_rfl) h with ⟨hcs, _⟩ | ⟨a, len, cap, m, n, V0, V1, D0, D1, P0, P1, hcs, _, hl, hm, hmm, hx, hi⟩
  · obtain rfl : V = .slice none 0 0 := by simpa using hcs
    exact ⟨none, 0, 0, [], rfl, ⟨rfl, by decide, Or.inl rfl⟩, fun _ => ⟨rfl, rfl⟩, Nat.le_refl _⟩
  · obtain rfl : V = .slice (some a) len cap := by simpa using hcs
    have hmc : m = cap := by simpa using hmm
    subst hmc
    have e := (Prod.mk.inj hx).1
    have hb24 : Try.prog.bytesOf 40 = 24 := by kernel_rfl
    have hlen : len ≤ 140737488351232 := by
      have h1 := hw (((List.range len).map fun i => DataW.agg [D0 i, D1 i]).length * Try.prog.bytesOf 40 + ((List.range (m - len)).map fun j => DataW.agg [D0 (len + j), D1 (len + j)]).length * Try.prog.bytesOf 40) (by
        rw [e, weights_slice Try.underlying22, ← Nat.add_mul]
        exact List.mem_cons_self ..)
      rw [hb24] at h1
      simp only [List.length_map, List.length_range, reachBytes] at h1
      omega
    have hpart : ∀ i, i < len → ∀ n ∈ (D1 i).weights Try.prog 9, n ≤ reachBytes := fun i hil n hn => by
      refine hw n ?_
      rw [e, weights_slice Try.underlying22]
      refine List.mem_cons_of_mem _ (List.mem_append_left _ (weights_all (d := .agg [D0 i, D1 i]) (List.mem_map.2 ⟨i, List.mem_range.2 hil, rfl⟩) ?_))
      simp only [DataW.weights, Try.underlying40, List.map_cons, List.map_nil, DataW.weightsEach, List.mem_append]
      exact Or.inr (Or.inl hn)
    have each : ∀ i, i < len → ∃ q : PEnt, W.cell? (a.add (i * 2)) = some (.int .i64 q.node) ∧ (-9223372036854775808 ≤ q.node ∧ q.node ≤ 9223372036854775807) ∧ W.cell? (a.add (i * 2 + 1)) = some (.string q.name) ∧ q.name.size ≤ 140737488351232 := fun i hil => by
      obtain ⟨c0, c1, t0, t1⟩ := hi i (by omega)
      obtain ⟨x, hx0, _, hwf⟩ := DataW.trod_int Try.underlying3 t0
      obtain ⟨s, hs0, hz, _⟩ := DataW.trod_string Try.underlying9 t1
      have hx0' : V0 i = .int .i64 x := by simpa using hx0
      have hs0' : V1 i = .string s := by simpa using hs0
      have hsz : s.size ≤ 140737488351232 := by
        have := hpart i hil s.data.toList.length (by rw [(Prod.mk.inj hz).1]; unfold DataW.weights; exact List.mem_singleton.2 rfl)
        simpa [reachBytes] using this
      exact ⟨⟨x, s⟩, by rw [c0, hx0'], wf_i64 hwf, by rw [c1, hs0'], hsz⟩
    obtain ⟨q, hq⟩ := Go.Deep.choose_lt each
    refine ⟨some a, len, m, (List.range len).map q, rfl, ⟨by simp, hlen, ?_⟩, (fun h => by cases h), hl⟩
    rcases Nat.eq_zero_or_pos len with h0 | h0
    · exact Or.inl h0
    · obtain ⟨b, off, spot⟩ := a
      have hspot : spot = none := by
        have := (hq 0 h0).1
        simpa [Addr.add] using World.cell?_spot this
      subst hspot
      refine Or.inr ⟨b, off, rfl, fun j x hj => ?_⟩
      rw [List.getElem?_map] at hj
      have hjl : j < len := by
        rcases Nat.lt_or_ge j len with h | h
        · exact h
        · rw [List.getElem?_eq_none (by simpa using h)] at hj; cases hj
      rw [List.getElem?_range hjl] at hj
      have hj' : q j = x := by simpa using hj
      obtain ⟨g1, g2, g3, g4⟩ := hq j hjl
      rw [hj'] at g1 g2 g3 g4
      rw [add_plain, Nat.mul_comm] at g1
      rw [add_plain, ← Nat.add_assoc, Nat.mul_comm] at g3
      exact ⟨g1, g2, g3, g4⟩

/-- A cell that holds a list of lists of entries. -/
theorem open_blks {V : Value} {d : DataW H} {p : List MemPlace} (h : DataW.trod enc Try.prog W 0 (fun _ => true) true fuel 33 [V] = some (d, p)) (hw : ∀ n ∈ d.weights Try.prog 33, n ≤ reachBytes) :
    ∃ ao len cap bs, V = .slice ao len cap ∧ BlkArg W ao len cap bs := by
  rcases Go.Deep.open_slice Try.underlying33 h with ⟨hcs, _⟩ | ⟨a, len, cap, m, n, D, Pl, hcs, _, hl, hm, hmm, hx, hi⟩
  · obtain rfl : V = .slice none 0 0 := by simpa using hcs
    exact ⟨none, 0, 0, [], rfl, ⟨rfl, by decide, Or.inl rfl⟩, fun _ => ⟨rfl, rfl⟩, Nat.le_refl _⟩
  · obtain rfl : V = .slice (some a) len cap := by simpa using hcs
    have hmc : m = cap := by simpa using hmm
    subst hmc
    have e := (Prod.mk.inj hx).1
    have hb24 : Try.prog.bytesOf 22 = 24 := by kernel_rfl
    have hc1 : Try.prog.cellsOf 22 = 1 := by kernel_rfl
    have hlen : len ≤ 140737488351232 := by
      have h1 := hw (((List.range len).map D).length * Try.prog.bytesOf 22 + ((List.range (m - len)).map fun j => D (len + j)).length * Try.prog.bytesOf 22) (by
        rw [e, weights_slice Try.underlying33, ← Nat.add_mul]
        exact List.mem_cons_self ..)
      rw [hb24] at h1
      simp only [List.length_map, List.length_range, reachBytes] at h1
      omega
    have hpart : ∀ i, i < len → ∀ n ∈ (D i).weights Try.prog 22, n ≤ reachBytes := fun i hil n hn => by
      refine hw n ?_
      rw [e, weights_slice Try.underlying33]
      exact List.mem_cons_of_mem _ (List.mem_append_left _ (weights_all (List.mem_map.2 ⟨i, List.mem_range.2 hil, rfl⟩) hn))
    rw [hc1] at hi
    have each : ∀ i, i < len → ∃ q : List PEnt, ∃ ad l c, W.cell? (a.add i) = some (.slice ad l c) ∧ EntArg W ad l c q := fun i hil => by
      obtain ⟨cs', hc, ht⟩ := hi i (by omega)
      obtain ⟨_, hcl, hat⟩ := World.cells?_some hc
      obtain ⟨v, rfl⟩ : ∃ v, cs' = [v] := by
        match cs', hcl with
        | [v], _ => exact ⟨v, rfl⟩
      obtain ⟨ao, l, c, es, rfl, hE⟩ := open_ents ht (hpart i hil)
      have h0 := hat 0 (by decide)
      refine ⟨es, ao, l, c, ?_, hE⟩
      have e0 : (a.add (i * 1)).add 0 = a.add i := by
        obtain ⟨b, off, spot⟩ := a
        cases spot <;> simp [Addr.add]
      rw [e0] at h0
      simpa using h0
    obtain ⟨q, hq⟩ := Go.Deep.choose_lt each
    refine ⟨some a, len, m, (List.range len).map q, rfl, ⟨by simp, hlen, ?_⟩, (fun h => by cases h), hl⟩
    rcases Nat.eq_zero_or_pos len with h0 | h0
    · exact Or.inl h0
    · obtain ⟨b, off, spot⟩ := a
      have hspot : spot = none := by
        obtain ⟨_, _, _, h1, _⟩ := hq 0 h0
        simpa [Addr.add] using World.cell?_spot h1
      subst hspot
      refine Or.inr ⟨b, off, rfl, fun j x hj => ?_⟩
      rw [List.getElem?_map] at hj
      have hjl : j < len := by
        rcases Nat.lt_or_ge j len with h | h
        · exact h
        · rw [List.getElem?_eq_none (by simpa using h)] at hj; cases hj
      rw [List.getElem?_range hjl] at hj
      have hj' : q j = x := by simpa using hj
      obtain ⟨ad, l, c, g1, g2⟩ := hq j hjl
      rw [hj'] at g2
      rw [add_plain] at g1
      exact ⟨ad, l, c, g1, g2⟩
end

theorem weights_of {H : Type} {P : Program} {ts : List TypeId} {ds : List (DataW H)} (h : (DataW.weightsEach P ts ds).all (· ≤ reachBytes) = true) {j : Nat} {t : TypeId} {d : DataW H} (ht : ts[j]? = some t) (hd : ds[j]? = some d) : ∀ n ∈ d.weights P t, n ≤ reachBytes :=
  fun n hn => of_decide_eq_true (List.all_eq_true.1 h n (DataW.weights_mem_each ht hd n hn))

theorem open_ents_arg {H : Type} {enc : TypeId × Value → H} {W : World} {a : Option Addr} {len cap : Nat} {d : DataW H} {p : List MemPlace} (h : DataW.Trod enc Try.prog W 0 (fun _ => true) true 22 (.slice a len cap) d p) (hw : ∀ n ∈ d.weights Try.prog 22, n ≤ reachBytes) :
    ∃ es, EntArg W a len cap es := by
  obtain ⟨fuel, hf⟩ := h
  obtain ⟨ao, l, c, es, he, hE⟩ := open_ents (V := .slice a len cap) hf hw
  simp only [Value.slice.injEq] at he
  obtain ⟨rfl, rfl, rfl⟩ := he
  exact ⟨es, hE⟩

theorem open_blks_arg {H : Type} {enc : TypeId × Value → H} {W : World} {a : Option Addr} {len cap : Nat} {d : DataW H} {p : List MemPlace} (h : DataW.Trod enc Try.prog W 0 (fun _ => true) true 33 (.slice a len cap) d p) (hw : ∀ n ∈ d.weights Try.prog 33, n ≤ reachBytes) :
    ∃ bs, BlkArg W a len cap bs := by
  obtain ⟨fuel, hf⟩ := h
  obtain ⟨ao, l, c, bs, he, hE⟩ := open_blks (V := .slice a len cap) hf hw
  simp only [Value.slice.injEq] at he
  obtain ⟨rfl, rfl, rfl⟩ := he
  exact ⟨bs, hE⟩

theorem open_name {H : Type} {enc : TypeId × Value → H} {W : World} {r : Reach} {b0 : Nat} {v : Value} {d : DataW H} {p : List MemPlace} (hv : Value.okWide Try.prog W r b0 9 v) (h : DataW.Trod enc Try.prog W 0 (fun _ => true) true 9 v d p) (hw : ∀ n ∈ d.weights Try.prog 9, n ≤ reachBytes) :
    ∃ s : ByteArray, v = .string s ∧ s.size ≤ 140737488351232 := by
  obtain ⟨s, rfl, rfl, _, _⟩ := ChangeMaps.open_string Try.underlying9 hv h
  refine ⟨s, rfl, ?_⟩
  have := hw s.data.toList.length (by unfold DataW.weights; exact List.mem_singleton.2 rfl)
  simpa [reachBytes] using this

theorem two_of {α : Type} {l : List α} (h : l.length = 2) : ∃ a b, l = [a, b] := by
  match l, h with
  | [a, b], _ => exact ⟨a, b, rfl⟩

theorem open_ent {H : Type} {enc : TypeId × Value → H} {W : World} {r : Reach} {b0 : Nat} {v : Value} {d : DataW H} {p : List MemPlace} (hv : Value.okWide Try.prog W r b0 40 v) (h : DataW.Trod enc Try.prog W 0 (fun _ => true) true 40 v d p) (hw : ∀ n ∈ d.weights Try.prog 40, n ≤ reachBytes) :
    ∃ (n : Int) (s : ByteArray), v = .agg #[.int .i64 n, .string s] ∧ (-9223372036854775808 ≤ n ∧ n ≤ 9223372036854775807) ∧ s.size ≤ 140737488351232 := by
  obtain ⟨cs, rfl, hsz⟩ := okWide_struct Try.underlying40 hv
  obtain ⟨l⟩ := cs
  have h5 : Try.prog.cellsOf 40 = 2 := by kernel_rfl
  rw [h5] at hsz
  obtain ⟨v0, v1, rfl⟩ := two_of (show l.length = 2 from hsz)
  obtain ⟨fuel, hf⟩ := h
  obtain ⟨xs, n, _, hx, _, hlen, hg⟩ := DataW.trod_struct Try.underlying40 hf
  obtain ⟨y0, y1, rfl⟩ := two_of (show xs.length = 2 from hlen)
  have c0 : Try.prog.cellsOf 3 = 1 := by kernel_rfl
  have c1 : Try.prog.cellsOf 9 = 1 := by kernel_rfl
  have t0 : DataW.trod enc Try.prog W 0 (fun _ => true) true n 3 (([v0, v1].drop 0).take (Try.prog.cellsOf 3)) = some y0 := hg 0 _ rfl
  have t1 : DataW.trod enc Try.prog W 0 (fun _ => true) true n 9 (([v0, v1].drop 1).take (Try.prog.cellsOf 9)) = some y1 := hg 1 _ rfl
  rw [c0] at t0
  rw [c1] at t1
  obtain ⟨z0, hv0, _, w0⟩ := DataW.trod_int Try.underlying3 t0
  obtain ⟨s, hv1, hz, _⟩ := DataW.trod_string Try.underlying9 t1
  obtain rfl : v0 = .int .i64 z0 := by simpa using hv0
  obtain rfl : v1 = .string s := by simpa using hv1
  refine ⟨z0, s, rfl, wf_i64 w0, ?_⟩
  have := hw s.data.toList.length (by
    rw [(Prod.mk.inj hx).1]
    simp only [DataW.weights, Try.underlying40, List.map_cons, List.map_nil, DataW.weightsEach, List.mem_append]
    refine Or.inr (Or.inl ?_)
    rw [hz]
    unfold DataW.weights
    exact List.mem_singleton.2 rfl)
  simpa [reachBytes] using this

end Go.Proofs.Ytkpgefjbhimmgaa
