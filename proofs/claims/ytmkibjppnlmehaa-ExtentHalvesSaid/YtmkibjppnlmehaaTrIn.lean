/-
  Proved here: lists of numbers and of writes that came in, opened.
  The conditions stand at each theorem.
-/
import Derived.Test.YtmkibjppnlmehaaTrUsed
import Derived.Deep.SlicePairs
namespace Go.Proofs.Ytmkibjppnlmehaa
open Go.RowKit Go.ChangeShapes Go.WideShapes
set_option linter.unusedVariables false

theorem weights_allT {H : Type} {P : Program} {e : TypeId} {d : DataW H} {n : Nat} : ∀ {l : List (DataW H)}, d ∈ l → n ∈ d.weights P e → n ∈ DataW.weightsAll P e l
  | x :: r, h, hn => by
    rw [DataW.weightsAll, List.mem_append]
    rcases List.mem_cons.1 h with rfl | h
    · exact Or.inl hn
    · exact Or.inr (weights_allT h hn)

theorem weights_sliceT {H : Type} {P : Program} {t e : TypeId} (hu : P.underlying t = some (.slice e)) (elems spare : List (DataW H)) : DataW.weights P t (.slice elems spare) = (elems.length + spare.length) * P.bytesOf e :: (DataW.weightsAll P e elems ++ DataW.weightsAll P e spare) := by
  simp [DataW.weights, hu]

theorem weights_ofT {H : Type} {P : Program} {ts : List TypeId} {ds : List (DataW H)} (h : (DataW.weightsEach P ts ds).all (· ≤ reachBytes) = true) {j : Nat} {t : TypeId} {d : DataW H} (ht : ts[j]? = some t) (hd : ds[j]? = some d) : ∀ n ∈ d.weights P t, n ≤ reachBytes :=
  fun n hn => of_decide_eq_true (List.all_eq_true.1 h n (DataW.weights_mem_each ht hd n hn))

section
variable {H : Type} {enc : TypeId × Value → H} {W : World} {fuel : Nat}

/-- A list of numbers that came in. -/
theorem open_nums {V : Value} {d : DataW H} {p : List MemPlace} (h : DataW.trod enc Try.prog W 0 (fun _ => true) true fuel 22 [V] = some (d, p)) (hw : ∀ n ∈ d.weights Try.prog 22, n ≤ reachBytes) :
    ∃ ao len cap zs, V = .slice ao len cap ∧ IArg W ao len cap zs ∧ cap ≤ 17592186043904 := by
  rcases open_ints Try.underlying22 Try.underlying3 (by kernel_rfl) h with ⟨hcs, _⟩ | ⟨x, l, c, zs, hcs, _, hl, hm, hz, hx, hcell, hwz⟩
  · obtain rfl : V = .slice none 0 0 := by simpa using hcs
    exact ⟨none, 0, 0, [], rfl, IArg.nil W, by decide⟩
  · obtain rfl : V = .slice (some x) l c := by simpa using hcs
    have hz' : zs.length = c := by simpa using hz
    have e := (Prod.mk.inj hx).1
    have hb8 : Try.prog.bytesOf 3 = 8 := by kernel_rfl
    have hc : c ≤ 17592186043904 := by
      rw [e] at hw
      have h1 := hw _ (by rw [weights_sliceT Try.underlying22]; exact List.mem_cons_self ..)
      rw [hb8] at h1
      simp only [lits, List.length_map, List.length_take, List.length_drop, reachBytes] at h1
      omega
    refine ⟨some x, l, c, zs.take l, rfl, ⟨⟨by rw [ints_length, List.length_take]; omega, by omega, ?_⟩, ?_, (fun e => by cases e), hl⟩, hc⟩
    · rcases Nat.eq_zero_or_pos l with h0 | h0
      · exact Or.inl h0
      · obtain ⟨b, off, spot⟩ := x
        have hspot : spot = none := by
          have := hcell 0 (by omega)
          exact (by simpa [Addr.add] using World.cell?_spot this)
        subst hspot
        refine Or.inr ⟨b, off, rfl, fun j u hj => ?_⟩
        obtain ⟨y, hy, rfl⟩ := ints_inv hj
        rw [List.getElem?_take] at hy
        split at hy
        · have hjl := (List.getElem?_eq_some_iff.1 hy).1
          have := hcell j hjl
          rw [add_plain] at this
          rw [this, List.getD_eq_getElem?_getD, hy]
          rfl
        · cases hy
    · intro z hz2
      exact wf_i64 (hwz z (List.mem_of_mem_take hz2))

end

theorem open_nums_arg {H : Type} {enc : TypeId × Value → H} {W : World} {a : Option Addr} {len cap : Nat} {d : DataW H} {p : List MemPlace} (h : DataW.Trod enc Try.prog W 0 (fun _ => true) true 22 (.slice a len cap) d p) (hw : ∀ n ∈ d.weights Try.prog 22, n ≤ reachBytes) :
    ∃ zs, IArg W a len cap zs ∧ cap ≤ 17592186043904 := by
  obtain ⟨fuel, hf⟩ := h
  obtain ⟨ao, l, c, zs, he, hE⟩ := open_nums (V := .slice a len cap) hf hw
  simp only [Value.slice.injEq] at he
  obtain ⟨rfl, rfl, rfl⟩ := he
  exact ⟨zs, hE⟩

end Go.Proofs.Ytmkibjppnlmehaa

