/-
  Proved here: lists of numbers and of writes that came in, opened.
  The conditions stand at each theorem.
-/
import Derived.Test.YtdbkhhmadefccaaTrBlocks
import Derived.Deep.SlicePairs
namespace Go.Proofs.Ytdbkhhmadefccaa
open Go.RowKit Go.ChangeShapes Go.WideShapes
set_option linter.unusedVariables false

theorem weights_allT {H : Type} {P : Program} {e : TypeId} {d : DataW H} {n : Nat} : ∀ {l : List (DataW H)}, d ∈ l → n ∈ d.weights P e → n ∈ DataW.weightsAll P e l
  | x :: r, h, hn => by
    rw [DataW.weightsAll, List.mem_append]
    rcases List.mem_cons.1 h with rfl | h
    · exact Or.inl hn
    · exact Or.inr (weights_allT h hn)

theorem weights_sliceT {H : Type} {P : Program} {t e : TypeId} (hu : P.underlying t = some (.slice e)) (elems spare : List (DataW H)) : DataW.weights P t (.slice elems spare) = (elems.length + spare.length) * P.bytesOf e :: (DataW.weightsAll P e elems ++ DataW.weightsAll P e spare) := by
  simp [DataW.weights, hu]

theorem weights_ofT {H : Type} {P : Program} {ts : List TypeId} {ds : List (DataW H)} (h : (DataW.weightsEach P ts ds).all (· ≤ reachBytes) = true) {j : Nat} {t : TypeId} {d : DataW H} (ht : ts[j]? = some t) (hd : ds[j]? = some d) : ∀ n ∈ d.weights P t, n ≤ reachBytes :=
  fun n hn => of_decide_eq_true (List.all_eq_true.1 h n (DataW.weights_mem_each ht hd n hn))

section
variable {H : Type} {enc : TypeId × Value → H} {W : World} {fuel : Nat}

/-- A list of numbers that came in. -/
theorem open_nums {V : Value} {d : DataW H} {p : List MemPlace} (h : DataW.trod enc Try.prog W 0 (fun _ => true) true fuel 22 [V] = some (d, p)) (hw : ∀ n ∈ d.weights Try.prog 22, n ≤ reachBytes) :
    ∃ ao len cap zs, V = .slice ao len cap ∧ IArg W ao len cap zs ∧ cap ≤ 17592186043904 := by
  rcases open_ints Try.underlying22 Try.underlying3 (by kernel_rfl) h with ⟨hcs, _⟩ | ⟨x, l, c, zs, hcs, _, hl, hm, hz, hx, hcell, hwz⟩
  · obtain rfl : V = .slice none 0 0 := by simpa using hcs
    exact ⟨none, 0, 0, [], rfl, IArg.nil W, by decide⟩
  · obtain rfl : V = .slice (some x) l c := by simpa using hcs
    have hz' : zs.length = c := by simpa using hz
    have e := (Prod.mk.inj hx).1
    have hb8 : Try.prog.bytesOf 3 = 8 := by kernel_rfl
    have hc : c ≤ 17592186043904 := by
      rw [e] at hw
      have h1 := hw _ (by rw [weights_sliceT Try.underlying22]; exact List.mem_cons_self ..)
      rw [hb8] at h1
      simp only [lits, List.length_map, List.length_take, List.length_drop, reachBytes] at h1
      omega
    refine ⟨some x, l, c, zs.take l, rfl, ⟨⟨by rw [ints_length, List.length_take]; omega, by omega, ?_⟩, ?_, (fun e => by cases e), hl⟩, hc⟩
    · rcases Nat.eq_zero_or_pos l with h0 | h0
      · exact Or.inl h0
      · obtain ⟨b, off, spot⟩ := x
        have hspot : spot = none := by
          have := hcell 0 (by omega)
          exact (by simpa [Addr.add] using World.cell?_spot this)
        subst hspot
        refine Or.inr ⟨b, off, rfl, fun j u hj => ?_⟩
        obtain ⟨y, hy, rfl⟩ := ints_inv hj
        rw [List.getElem?_take] at hy
        split at hy
        · have hjl := (List.getElem?_eq_some_iff.1 hy).1
          have := hcell j hjl
          rw [add_plain] at this
          rw [this, List.getD_eq_getElem?_getD, hy]
          rfl
        · cases hy
    · intro z hz2
      exact wf_i64 (hwz z (List.mem_of_mem_take hz2))

/-- A cell that holds bytes. -/
theorem open_dataT {V : Value} {d : DataW H} {p : List MemPlace} (h : DataW.trod enc Try.prog W 0 (fun _ => true) true fuel 61 [V] = some (d, p)) (hw : ∀ n ∈ d.weights Try.prog 61, n ≤ reachBytes) :
    ∃ ad l c zs, V = .slice ad l c ∧ Arg W ad l c zs := by
  rcases open_ints Try.underlying61 Try.underlying5 (by kernel_rfl) h with ⟨hcs, _⟩ | ⟨x, l, c, zs, hcs, _, hl, hm, hz, hx, hcell, hwz⟩
  · obtain rfl : V = .slice none 0 0 := by simpa using hcs
    exact ⟨none, 0, 0, [], rfl, ⟨rfl, by decide, by simp, Or.inl rfl⟩, fun _ => ⟨rfl, rfl⟩, Nat.le_refl _, by decide⟩
  · obtain rfl : V = .slice (some x) l c := by simpa using hcs
    have hz' : zs.length = c := by simpa using hz
    have hR : IsRow .u8 W (some x) l c zs := .inr ⟨x, rfl, hl, hm, hz', hcell, hwz⟩
    have e := (Prod.mk.inj hx).1
    have hc : c ≤ 140737488351232 := by
      rw [e] at hw
      have h1 := hw _ (by rw [weights_sliceT Try.underlying61]; exact List.mem_cons_self ..)
      rw [bytes5] at h1
      simp only [lits, List.length_map, List.length_take, List.length_drop, reachBytes] at h1
      omega
    exact ⟨some x, l, c, zs.take l, rfl, hR.arg hc⟩

/-- A list of writes that came in. -/
theorem open_wrs {V : Value} {d : DataW H} {p : List MemPlace} (h : DataW.trod enc Try.prog W 0 (fun _ => true) true fuel 33 [V] = some (d, p)) (hw : ∀ n ∈ d.weights Try.prog 33, n ≤ reachBytes) :
    ∃ ao len cap ws, V = .slice ao len cap ∧ WIs W ao len ws ∧ (ao = none → len = 0 ∧ cap = 0) ∧ len ≤ cap ∧ cap ≤ 4398046510976 := by
  rcases Go.Deep.open_slice_pairs Try.underlying33 Try.underlying64 (by kernel_rfl) rfl rfl (by kernel_rfl) (by kernel_rfl) h with ⟨hcs, _⟩ | ⟨a, len, cap, m, n, V0, V1, D0, D1, P0, P1, hcs, _, hl, hm, hmm, hx, hi⟩
  · obtain rfl : V = .slice none 0 0 := by simpa using hcs
    exact ⟨none, 0, 0, [], rfl, ⟨rfl, by decide, Or.inl rfl⟩, fun _ => ⟨rfl, rfl⟩, Nat.le_refl _, by decide⟩
  · obtain rfl : V = .slice (some a) len cap := by simpa using hcs
    have hmc : m = cap := by simpa using hmm
    subst hmc
    have e := (Prod.mk.inj hx).1
    have hb32 : Try.prog.bytesOf 64 = 32 := by kernel_rfl
    have hcap : m ≤ 4398046510976 := by
      have h1 := hw (((List.range len).map fun i => DataW.agg [D0 i, D1 i]).length * Try.prog.bytesOf 64 + ((List.range (m - len)).map fun j => DataW.agg [D0 (len + j), D1 (len + j)]).length * Try.prog.bytesOf 64) (by
        rw [e, weights_sliceT Try.underlying33, ← Nat.add_mul]
        exact List.mem_cons_self ..)
      rw [hb32] at h1
      simp only [List.length_map, List.length_range, reachBytes] at h1
      omega
    have hpart : ∀ i, i < len → ∀ n ∈ (D1 i).weights Try.prog 61, n ≤ reachBytes := fun i hil n hn => by
      refine hw n ?_
      rw [e, weights_sliceT Try.underlying33]
      refine List.mem_cons_of_mem _ (List.mem_append_left _ (weights_allT (d := .agg [D0 i, D1 i]) (List.mem_map.2 ⟨i, List.mem_range.2 hil, rfl⟩) ?_))
      simp only [DataW.weights, Try.underlying64, List.map_cons, List.map_nil, DataW.weightsEach, List.mem_append]
      exact Or.inr (Or.inl hn)
    have each : ∀ i, i < len → ∃ q : Int × List Int, W.cell? (a.add (i * 2)) = some (.int .i64 q.1) ∧ I64 q.1 ∧ ∃ ad l c, W.cell? (a.add (i * 2 + 1)) = some (.slice ad l c) ∧ Arg W ad l c q.2 := fun i hil => by
      obtain ⟨c0, c1, t0, t1⟩ := hi i (by omega)
      obtain ⟨x, hx0, _, hwf⟩ := DataW.trod_int Try.underlying3 t0
      obtain ⟨ad, l, c, zs, hs0, hA⟩ := open_dataT t1 (hpart i hil)
      have hx0' : V0 i = .int .i64 x := by simpa using hx0
      exact ⟨⟨x, zs⟩, by rw [c0, hx0'], wf_i64 hwf, ad, l, c, by rw [c1, hs0], hA⟩
    obtain ⟨q, hq⟩ := Go.Deep.choose_lt each
    refine ⟨some a, len, m, (List.range len).map q, rfl, ⟨by simp, by omega, ?_⟩, (fun h => by cases h), hl, hcap⟩
    rcases Nat.eq_zero_or_pos len with h0 | h0
    · exact Or.inl h0
    · obtain ⟨b, off, spot⟩ := a
      have hspot : spot = none := by
        have := (hq 0 h0).1
        simpa [Addr.add] using World.cell?_spot this
      subst hspot
      refine Or.inr ⟨b, off, rfl, fun j x zs hj => ?_⟩
      rw [List.getElem?_map] at hj
      have hjl : j < len := by
        rcases Nat.lt_or_ge j len with h | h
        · exact h
        · rw [List.getElem?_eq_none (by simpa using h)] at hj; cases hj
      rw [List.getElem?_range hjl] at hj
      have hj' : q j = (x, zs) := by simpa using hj
      obtain ⟨g1, g2, ad, l, c, g3, g4⟩ := hq j hjl
      rw [hj'] at g1 g2 g4
      rw [add_plain] at g1
      rw [add_plain, ← Nat.add_assoc] at g3
      exact ⟨g1, g2, ad, l, c, g3, g4⟩
end

theorem open_nums_arg {H : Type} {enc : TypeId × Value → H} {W : World} {a : Option Addr} {len cap : Nat} {d : DataW H} {p : List MemPlace} (h : DataW.Trod enc Try.prog W 0 (fun _ => true) true 22 (.slice a len cap) d p) (hw : ∀ n ∈ d.weights Try.prog 22, n ≤ reachBytes) :
    ∃ zs, IArg W a len cap zs ∧ cap ≤ 17592186043904 := by
  obtain ⟨fuel, hf⟩ := h
  obtain ⟨ao, l, c, zs, he, hE⟩ := open_nums (V := .slice a len cap) hf hw
  simp only [Value.slice.injEq] at he
  obtain ⟨rfl, rfl, rfl⟩ := he
  exact ⟨zs, hE⟩

theorem open_wrs_arg {H : Type} {enc : TypeId × Value → H} {W : World} {a : Option Addr} {len cap : Nat} {d : DataW H} {p : List MemPlace} (h : DataW.Trod enc Try.prog W 0 (fun _ => true) true 33 (.slice a len cap) d p) (hw : ∀ n ∈ d.weights Try.prog 33, n ≤ reachBytes) :
    ∃ ws, WIs W a len ws ∧ (a = none → len = 0 ∧ cap = 0) ∧ len ≤ cap ∧ cap ≤ 4398046510976 := by
  obtain ⟨fuel, hf⟩ := h
  obtain ⟨ao, l, c, ws, he, hE⟩ := open_wrs (V := .slice a len cap) hf hw
  simp only [Value.slice.injEq] at he
  obtain ⟨rfl, rfl, rfl⟩ := he
  exact ⟨ws, hE⟩

end Go.Proofs.Ytdbkhhmadefccaa
