/-
  Proved here: a descriptor and a head that came in, by value, opened; weights of what came in.
  The conditions stand at each theorem.
-/
import Derived.Test.YtpmggbdmoopkfaaInts
import Derived.Test.YtpmggbdmoopkfaaRowsB
import Derived.Deep.SlicePairs
namespace Go.Proofs.Ytpmggbdmoopkfaa
open Go.RowKit Go.ChangeShapes Go.WideShapes
set_option linter.unusedVariables false

theorem weights_allT {H : Type} {P : Program} {e : TypeId} {d : DataW H} {n : Nat} : ∀ {l : List (DataW H)}, d ∈ l → n ∈ d.weights P e → n ∈ DataW.weightsAll P e l
  | x :: r, h, hn => by
    rw [DataW.weightsAll, List.mem_append]
    rcases List.mem_cons.1 h with rfl | h
    · exact Or.inl hn
    · exact Or.inr (weights_allT h hn)

theorem weights_sliceT {H : Type} {P : Program} {t e : TypeId} (hu : P.underlying t = some (.slice e)) (elems spare : List (DataW H)) : DataW.weights P t (.slice elems spare) = (elems.length + spare.length) * P.bytesOf e :: (DataW.weightsAll P e elems ++ DataW.weightsAll P e spare) := by
  simp [DataW.weights, hu]

theorem weights_ofT {H : Type} {P : Program} {ts : List TypeId} {ds : List (DataW H)} (h : (DataW.weightsEach P ts ds).all (· ≤ reachBytes) = true) {j : Nat} {t : TypeId} {d : DataW H} (ht : ts[j]? = some t) (hd : ds[j]? = some d) : ∀ n ∈ d.weights P t, n ≤ reachBytes :=
  fun n hn => of_decide_eq_true (List.all_eq_true.1 h n (DataW.weights_mem_each ht hd n hn))

section
variable {H : Type} {enc : TypeId × Value → H} {W : World} {fuel : Nat}

/-- A list of numbers that came in. -/
theorem open_nums {V : Value} {d : DataW H} {p : List MemPlace} (h : DataW.trod enc Try.prog W 0 (fun _ => true) true fuel 22 [V] = some (d, p)) (hw : ∀ n ∈ d.weights Try.prog 22, n ≤ reachBytes) :
    ∃ ao len cap zs, V = .slice ao len cap ∧ IArg W ao len cap zs ∧ cap ≤ 17592186043904 := by
  rcases open_ints Try.underlying22 Try.underlying3 (by kernel_rfl) h with ⟨hcs, _⟩ | ⟨x, l, c, zs, hcs, _, hl, hm, hz, hx, hcell, hwz⟩
  · obtain rfl : V = .slice none 0 0 := by simpa using hcs
    exact ⟨none, 0, 0, [], rfl, IArg.nil W, by decide⟩
  · obtain rfl : V = .slice (some x) l c := by simpa using hcs
    have hz' : zs.length = c := by simpa using hz
    have e := (Prod.mk.inj hx).1
    have hb8 : Try.prog.bytesOf 3 = 8 := by kernel_rfl
    have hc : c ≤ 17592186043904 := by
      rw [e] at hw
      have h1 := hw _ (by rw [weights_sliceT Try.underlying22]; exact List.mem_cons_self ..)
      rw [hb8] at h1
      simp only [lits, List.length_map, List.length_take, List.length_drop, reachBytes] at h1
      omega
    refine ⟨some x, l, c, zs.take l, rfl, ⟨⟨by rw [ints_length, List.length_take]; omega, by omega, ?_⟩, ?_, (fun e => by cases e), hl⟩, hc⟩
    · rcases Nat.eq_zero_or_pos l with h0 | h0
      · exact Or.inl h0
      · obtain ⟨b, off, spot⟩ := x
        have hspot : spot = none := by
          have := hcell 0 (by omega)
          exact (by simpa [Addr.add] using World.cell?_spot this)
        subst hspot
        refine Or.inr ⟨b, off, rfl, fun j u hj => ?_⟩
        obtain ⟨y, hy, rfl⟩ := ints_inv hj
        rw [List.getElem?_take] at hy
        split at hy
        · have hjl := (List.getElem?_eq_some_iff.1 hy).1
          have := hcell j hjl
          rw [add_plain] at this
          rw [this, List.getD_eq_getElem?_getD, hy]
          rfl
        · cases hy
    · intro z hz2
      exact wf_i64 (hwz z (List.mem_of_mem_take hz2))

end

theorem two_of {α : Type} {l : List α} (h : l.length = 2) : ∃ a b, l = [a, b] := by
  match l, h with
  | [a, b], _ => exact ⟨a, b, rfl⟩

section
variable {H : Type} {enc : TypeId × Value → H} {W : World} {r : Reach} {b0 : Nat} {v : Value} {d : DataW H} {p : List MemPlace}

/-- A descriptor that came in. -/
theorem open_desc (hv : Value.okWide Try.prog W r b0 24 v) (h : DataW.Trod enc Try.prog W 0 (fun _ => true) true 24 v d p) (hw : ∀ n ∈ d.weights Try.prog 24, n ≤ reachBytes) :
    ∃ (s : Int) (ao : Option Addr) (len cap : Nat) (zs : List Int), v = .agg #[.int .i64 s, .slice ao len cap] ∧ I64 s ∧ IArg W ao len cap zs ∧ cap ≤ 17592186043904 := by
  obtain ⟨cs, rfl, hsz⟩ := okWide_struct Try.underlying24 hv
  obtain ⟨l⟩ := cs
  have h5 : Try.prog.cellsOf 24 = 2 := by kernel_rfl
  rw [h5] at hsz
  obtain ⟨v0, v1, rfl⟩ := two_of (show l.length = 2 from hsz)
  obtain ⟨fuel, hf⟩ := h
  obtain ⟨xs, n, _, hx, _, hlen, hg⟩ := DataW.trod_struct Try.underlying24 hf
  obtain ⟨y0, y1, rfl⟩ := two_of (show xs.length = 2 from hlen)
  have c0 : Try.prog.cellsOf 3 = 1 := by kernel_rfl
  have c1 : Try.prog.cellsOf 22 = 1 := by kernel_rfl
  have t0 : DataW.trod enc Try.prog W 0 (fun _ => true) true n 3 (([v0, v1].drop 0).take (Try.prog.cellsOf 3)) = some y0 := hg 0 _ rfl
  have t1 : DataW.trod enc Try.prog W 0 (fun _ => true) true n 22 (([v0, v1].drop 1).take (Try.prog.cellsOf 22)) = some y1 := hg 1 _ rfl
  rw [c0] at t0
  rw [c1] at t1
  obtain ⟨z0, hv0, _, w0⟩ := DataW.trod_int Try.underlying3 t0
  obtain rfl : v0 = .int .i64 z0 := by simpa using hv0
  have t1' : DataW.trod enc Try.prog W 0 (fun _ => true) true n 22 [v1] = some (y1.1, y1.2) := t1
  obtain ⟨ao, len, cap, zs, rfl, hI, hc⟩ := open_nums t1' (fun k hk => hw k (by
    rw [(Prod.mk.inj hx).1]
    simp only [DataW.weights, Try.underlying24, List.map_cons, List.map_nil, DataW.weightsEach, List.mem_append]
    exact Or.inr (Or.inl hk)))
  exact ⟨z0, ao, len, cap, zs, rfl, wf_i64 w0, hI, hc⟩

/-- A head that came in. -/
theorem open_hd (hv : Value.okWide Try.prog W r b0 40 v) (h : DataW.Trod enc Try.prog W 0 (fun _ => true) true 40 v d p) : ∃ a s : Int, v = .agg #[.int .i64 a, .int .i64 s] ∧ I64 a ∧ I64 s := by
  obtain ⟨cs, rfl, hsz⟩ := okWide_struct Try.underlying40 hv
  obtain ⟨l⟩ := cs
  have h5 : Try.prog.cellsOf 40 = 2 := by kernel_rfl
  rw [h5] at hsz
  obtain ⟨v0, v1, rfl⟩ := two_of (show l.length = 2 from hsz)
  obtain ⟨fuel, hf⟩ := h
  obtain ⟨xs, n, _, hx, _, hlen, hg⟩ := DataW.trod_struct Try.underlying40 hf
  obtain ⟨y0, y1, rfl⟩ := two_of (show xs.length = 2 from hlen)
  have c0 : Try.prog.cellsOf 3 = 1 := by kernel_rfl
  have t0 : DataW.trod enc Try.prog W 0 (fun _ => true) true n 3 (([v0, v1].drop 0).take (Try.prog.cellsOf 3)) = some y0 := hg 0 _ rfl
  have t1 : DataW.trod enc Try.prog W 0 (fun _ => true) true n 3 (([v0, v1].drop 1).take (Try.prog.cellsOf 3)) = some y1 := hg 1 _ rfl
  rw [c0] at t0 t1
  obtain ⟨z0, hv0, _, w0⟩ := DataW.trod_int Try.underlying3 t0
  obtain ⟨z1, hv1, _, w1⟩ := DataW.trod_int Try.underlying3 t1
  obtain rfl : v0 = .int .i64 z0 := by simpa using hv0
  obtain rfl : v1 = .int .i64 z1 := by simpa using hv1
  exact ⟨z0, z1, rfl, wf_i64 w0, wf_i64 w1⟩
end

end Go.Proofs.Ytpmggbdmoopkfaa
