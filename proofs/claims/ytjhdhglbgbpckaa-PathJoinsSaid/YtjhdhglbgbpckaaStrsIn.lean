/-
  Proved here: lists of texts, and texts, that came in, opened.
  The conditions stand at each theorem.
-/
import Derived.Test.YtjhdhglbgbpckaaStrs
import Derived.Deep.Strs
namespace Go.Proofs.Ytjhdhglbgbpckaa
open Go.RowKit Go.ChangeShapes Go.WideShapes
set_option linter.unusedVariables false

theorem weights_allS {H : Type} {P : Program} {e : TypeId} {d : DataW H} {n : Nat} : ∀ {l : List (DataW H)}, d ∈ l → n ∈ d.weights P e → n ∈ DataW.weightsAll P e l
  | x :: r, h, hn => by
    rw [DataW.weightsAll, List.mem_append]
    rcases List.mem_cons.1 h with rfl | h
    · exact Or.inl hn
    · exact Or.inr (weights_allS h hn)
theorem weights_sliceS {H : Type} {P : Program} {t e : TypeId} (hu : P.underlying t = some (.slice e)) (elems spare : List (DataW H)) : DataW.weights P t (.slice elems spare) = (elems.length + spare.length) * P.bytesOf e :: (DataW.weightsAll P e elems ++ DataW.weightsAll P e spare) := by
  simp [DataW.weights, hu]
theorem weights_ofS {H : Type} {P : Program} {ts : List TypeId} {ds : List (DataW H)} (h : (DataW.weightsEach P ts ds).all (· ≤ reachBytes) = true) {j : Nat} {t : TypeId} {d : DataW H} (ht : ts[j]? = some t) (hd : ds[j]? = some d) : ∀ n ∈ d.weights P t, n ≤ reachBytes :=
  fun n hn => of_decide_eq_true (List.all_eq_true.1 h n (DataW.weights_mem_each ht hd n hn))

/-- A list of texts as a call is handed it. -/
def SArg (w : World) (ao : Option Addr) (len cap : Nat) (ns : List ByteArray) : Prop := SIs w ao len ns ∧ (∀ s ∈ ns, s.size ≤ 140737488351232) ∧ (ao = none → len = 0 ∧ cap = 0) ∧ len ≤ cap ∧ cap ≤ 8796093022208
theorem SArg.later {w w' : World} {ao : Option Addr} {len cap : Nat} {ns : List ByteArray} (h : SArg w ao len cap ns) (hb : Below w.heap.size w w') : SArg w' ao len cap ns := ⟨h.1.later hb, h.2⟩

theorem open_strs_arg {H : Type} {enc : TypeId × Value → H} {W : World} {a : Option Addr} {len cap : Nat} {d : DataW H} {p : List MemPlace} (h : DataW.Trod enc Try.prog W 0 (fun _ => true) true 22 (.slice a len cap) d p) (hw : ∀ n ∈ d.weights Try.prog 22, n ≤ reachBytes) :
    ∃ ns, SArg W a len cap ns := by
  obtain ⟨fuel, hf⟩ := h
  rcases Deep.open_strs Try.underlying22 Try.underlying9 (by kernel_rfl) hf with ⟨hcs, _⟩ | ⟨x, l, c, m, Sx, hcs, _, hl, hm, hmm, hx, hcell⟩
  · simp [Value.cells] at hcs
    obtain ⟨rfl, rfl, rfl⟩ := hcs
    exact ⟨[], ⟨rfl, by decide, Or.inl rfl⟩, by simp, fun _ => ⟨rfl, rfl⟩, Nat.le_refl _, by decide⟩
  · simp [Value.cells] at hcs
    obtain ⟨rfl, rfl, rfl⟩ := hcs
    have hmc : m = cap := by simpa using hmm
    have e := (Prod.mk.inj hx).1
    have hb16 : Try.prog.bytesOf 9 = 16 := by kernel_rfl
    rw [e] at hw
    have hcap : cap ≤ 8796093022208 := by
      have h1 := hw _ (by rw [weights_sliceS Try.underlying22]; exact List.mem_cons_self ..)
      rw [hb16] at h1
      simp only [List.length_map, List.length_range, reachBytes] at h1
      omega
    have hsz : ∀ i, i < len → (Sx i).size ≤ 140737488351232 := fun i hi => by
      have h1 := hw (Sx i).data.toList.length (by
        rw [weights_sliceS Try.underlying22]
        refine List.mem_cons_of_mem _ (List.mem_append_left _ (weights_allS (d := .lit (.string (Sx i).data.toList)) (List.mem_map.2 ⟨i, List.mem_range.2 hi, rfl⟩) ?_))
        unfold DataW.weights
        exact List.mem_singleton.2 rfl)
      simpa [reachBytes] using h1
    refine ⟨(List.range len).map Sx, ⟨by rw [strs_length]; simp, by omega, ?_⟩, fun s hs => ?_, (fun e => by cases e), hl, hcap⟩
    · rcases Nat.eq_zero_or_pos len with h0 | h0
      · exact Or.inl h0
      · obtain ⟨b, off, spot⟩ := x
        have hspot : spot = none := by
          have := (hcell 0 (by omega)).1
          exact (by simpa [Addr.add] using World.cell?_spot this)
        subst hspot
        refine Or.inr ⟨b, off, rfl, fun j u hj => ?_⟩
        unfold strs at hj
        rw [List.map_map, List.getElem?_map] at hj
        obtain ⟨i, hi, rfl⟩ := Option.map_eq_some_iff.1 hj
        obtain ⟨hjl, rfl⟩ := List.getElem?_eq_some_iff.1 hi
        rw [List.length_range] at hjl
        have := (hcell j (by omega)).1
        rw [add_plain] at this
        rw [List.getElem_range]
        exact this
    · obtain ⟨i, hi, rfl⟩ := List.mem_map.1 hs
      exact hsz i (List.mem_range.1 hi)

theorem open_text {H : Type} {enc : TypeId × Value → H} {W : World} {r : Reach} {b0 : Nat} {v : Value} {d : DataW H} {p : List MemPlace} (hv : Value.okWide Try.prog W r b0 9 v) (h : DataW.Trod enc Try.prog W 0 (fun _ => true) true 9 v d p) (hw : ∀ n ∈ d.weights Try.prog 9, n ≤ reachBytes) :
    ∃ s : ByteArray, v = .string s ∧ s.size ≤ 140737488351232 := by
  obtain ⟨s, rfl, rfl, _, _⟩ := ChangeMaps.open_string Try.underlying9 hv h
  refine ⟨s, rfl, ?_⟩
  have := hw s.data.toList.length (by unfold DataW.weights; exact List.mem_singleton.2 rfl)
  simpa [reachBytes] using this

end Go.Proofs.Ytjhdhglbgbpckaa
