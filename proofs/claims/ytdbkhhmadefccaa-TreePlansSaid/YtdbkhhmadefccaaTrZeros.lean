/-
  Proved here: what 'append' of any given numbers, and of so many zeros, does to a row of the call's own.
  The conditions stand at each theorem.
-/
import Derived.Test.YtdbkhhmadefccaaTrIn
import Derived.Test.YtdbkhhmadefccaaTrPlan
import Derived.Lib.AppendZeros
import Derived.Lib.AppendZerosOnto
namespace Go.Proofs.Ytdbkhhmadefccaa
open Go.RowKit
set_option linter.unusedVariables false
set_option linter.unusedSimpArgs false

theorem zeroCells_ints (k : Nat) : Builtin.zeroCells (Value.int .i64 0).cells k = (ints (List.replicate k 0)).toArray := by
  unfold Builtin.zeroCells ints
  have e : (Value.int .i64 0).cells = #[Value.int .i64 0] := rfl
  rw [e]
  apply Array.ext'
  simp
  rw [List.eq_replicate_iff]
  refine ⟨by simp, fun x hx => ?_⟩
  obtain ⟨i, _, rfl⟩ := List.mem_map.1 hx
  rw [Nat.mod_one]
  rfl

theorem run_append_zeros (w : World) (ty : TypeId) (base n : Nat) (v : Value) (zs : List Int) (hown : w.ownsRow base 3 1 v n (ints zs)) (k : Nat) (hb : (n + k) * 8 ≤ 140737488355328) (hbase : base ≤ w.heap.size) :
    ∃ v' w', (Builtin.append_ #[22, 3] ty #[v, .int .i64 (k : Int)]).run Try.prog w = .ok v' w' ∧ w'.ownsRow base 3 1 v' (n + k) (ints (zs ++ List.replicate k 0)) ∧ Below base w w' := by
  obtain ⟨hu, hi, hzc, hnb⟩ := elemI
  obtain ⟨i0, hi0, hz0, hz1, hz2⟩ := info_parts hi
  have hw : IntKind.i64.wrap (k : Int) = k := by rw [IntKind.wrap_i64]; omega
  have hneg : ¬ ((k : Int) < 0) := by omega
  have h48i : ¬ (281474976710656 < (k : Int) * (i0.bytes : Int)) := by rw [hz2]; omega
  by_cases hk : k = 0
  · subst hk
    refine ⟨v, w, ?_, by simpa using hown, Below.refl _ _⟩
    rcases hown.2 with ⟨rfl, rfl⟩ | ⟨g, cap, cur, rfl, _, _, hc, _⟩
    · simp [Builtin.append_, run_underlying hu, run_underlying Try.underlying3, sizeOf, typeInfo, hi0, asInt, asIntOf, IntKind.wrap_i64]
    · have hc' : n + 0 ≤ cap := by omega
      simp [Builtin.append_, run_underlying hu, run_underlying Try.underlying3, sizeOf, typeInfo, hi0, asInt, asIntOf, IntKind.wrap_i64, hc, storeCells]
  · have hk0 : 0 < k := by omega
    have hsz : 0 < i0.size := by rw [hz1]; decide
    have hbi : (n + k) * i0.bytes ≤ 140737488355328 := by rw [hz2]; exact hb
    have e1 : (Builtin.zeroCells (Value.int .i64 0).cells k).toList = ints (List.replicate k 0) := by rw [zeroCells_ints]
    have hlen : (ints (zs ++ List.replicate k 0)).length = (n + k) * 1 := by
      have := hown.1
      rw [ints_length] at this ⊢
      rw [List.length_append, List.length_replicate]
      omega
    have hxl : (ints zs).length = n := by have := hown.1; omega
    have grown : ∀ (old : Nat), old < n + k → (w.drew.alloc (.cells ((ints zs).toArray ++ Builtin.zeroCells (Value.int .i64 0).cells k ++ Builtin.zeroCells (Value.int .i64 0).cells (grownCap w (n + k) old 3 - (n + k))) 3)).ownsRow base 3 1 (.slice (some ⟨w.heap.size, 0, none⟩) (n + k) (grownCap w (n + k) old 3)) (n + k) (ints (zs ++ List.replicate k 0)) := fun old ho => by
      have hge := grownCap_ge w (n + k) old 3
      have hcm : grownCap w (n + k) old 3 ≤ maxLen := grownCap_le_maxLen w (n + k) old _ (by unfold maxLen; omega)
      refine ⟨hlen, .inr ⟨w.heap.size, _, _, rfl, hbase, heap_alloc_new w.drew _, hge, hcm, ?_, ?_⟩⟩
      · rw [Array.size_append, Array.size_append, size_zeroCells, size_zeroCells, List.size_toArray, hxl]
        show n + k * 1 + _ * 1 = _
        omega
      · rw [Array.toList_append, Array.toList_append, e1, ints_append]
        show ((ints zs ++ ints (List.replicate k 0)) ++ _).take _ = _
        have hl2 : (ints zs ++ ints (List.replicate k 0)).length = (n + k) * 1 := by rw [← ints_append]; exact hlen
        rw [← hl2, List.take_left]
    have hbel : ∀ o, Below base w (w.drew.alloc o) := fun o => ((Below.refl _ _).drew).alloc hbase o
    rcases hown.2 with ⟨rfl, rfl⟩ | ⟨g, cap, cur, rfl, hbg, hg, hnc, hcm, hcs, htake⟩
    · have hz : zs = [] := by have := hxl; rw [ints_length] at this; exact List.length_eq_zero_iff.1 this
      subst hz
      have h := Lib.run_append_nil_zeros (P := Try.prog) w 22 3 ty 3 i0 (.int .i64 0) .i64 .i64 hu Try.underlying3 hi0 hz0 k hk0 hsz (by omega) (by rw [hz2]; omega)
      have h2 := grown 0 (by omega)
      rw [Nat.zero_add] at h2 ⊢
      refine ⟨_, _, h, ?_, hbel _⟩
      have e3 : (ints ([] : List Int)).toArray ++ Builtin.zeroCells (Value.int .i64 0).cells k = Builtin.zeroCells (Value.int .i64 0).cells k := by
        apply Array.ext'
        rw [Array.toList_append]
        rfl
      rw [e3] at h2
      exact h2
    · by_cases hroom : n + k ≤ cap
      · have hst := run_storeCells_at Try.prog g (n * i0.size) 3 (ints (List.replicate k 0)) 0 cur w hg (by rw [hz1, ints_length, List.length_replicate, hcs]; omega) (ints_one _)
        rw [Nat.add_zero] at hst
        have hns : ¬ (k * i0.size = 0) := Nat.mul_ne_zero hk (by omega)
        have hrun : (Builtin.append_ #[22, 3] ty #[.slice (some ⟨g, 0, none⟩) n cap, .int .i64 (k : Int)]).run Try.prog w = .ok (.slice (some ⟨g, 0, none⟩) (n + k) cap) (w.setRow g (cur.toList.take (n * i0.size) ++ ints (List.replicate k 0) ++ cur.toList.drop (n * i0.size + (ints (List.replicate k 0)).length)).toArray) := by
          simp [Builtin.append_, run_underlying hu, run_underlying Try.underlying3, sizeOf, typeInfo, zeroValue, hi0, hz0, asInt, asIntOf, hw, hneg, h48i, hns, hroom, e1, Addr.add_lit, hst]
        rw [hz1] at hrun
        refine ⟨_, _, hrun, ⟨hlen, .inr ⟨g, cap, _, rfl, hbg, setRow_heap w g cur _ 3 _ hg, hroom, hcm, ?_, ?_⟩⟩, ?_⟩
        · simp only [List.size_toArray, List.length_append, List.length_take, List.length_drop, Array.length_toList, ints_length, List.length_replicate]
          omega
        · rw [htake, ← ints_append]
          show ((ints (zs ++ List.replicate k 0)) ++ _).take _ = _
          rw [← hlen, List.take_left]
        · exact ⟨rfl, rfl, rfl, by simp [World.setRow], fun j hj => setRow_other w g j _ (by omega)⟩
      · have hold := run_firstCells_some (P := Try.prog) w.drew i0.size n ⟨g, 0, none⟩ n cap (ints zs) (by rw [hz1, hxl, Nat.mul_one]) (hown.cells (g := g) rfl)
        have h := Lib.run_append_grow_zeros (P := Try.prog) w 22 3 ty 3 i0 (.int .i64 0) .i64 .i64 hu Try.underlying3 hi0 hz0 (some ⟨g, 0, none⟩) n cap (ints zs) hold k hk0 hsz (by omega) (by omega) (by rw [hz2]; omega) (growslice_fits (by omega) hbi)
        exact ⟨_, _, h, grown cap (by omega), hbel _⟩

/-- 'append(dst, news...)' of any numbers that the form bears. -/
theorem run_append_nums (w : World) (ty : TypeId) (base n : Nat) (v : Value) (xs : List Value) (hown : w.ownsRow base 3 1 v n xs) (ao : Option Addr) (m c : Nat) (zs : List Int) (hA : IArg w ao m c zs) (hb : (n + m) * 8 ≤ 140737488355328) (hbase : base ≤ w.heap.size) :
    ∃ v' w', (Builtin.append_ #[22, 22] ty #[v, .slice ao m c]).run Try.prog w = .ok v' w' ∧ w'.ownsRow base 3 1 v' (n + m) (xs ++ ints zs) ∧ Below base w w' := by
  obtain ⟨hu, hi, hzc, hnb⟩ := elemI
  obtain ⟨i0, hi0, hz0, hz1, hz2⟩ := info_parts hi
  cases ao with
  | none =>
    obtain ⟨rfl, rfl⟩ := hA.2.2.1 rfl
    obtain rfl : zs = [] := List.length_eq_zero_iff.1 hA.len
    exact ⟨v, w, run_append_owned_none (P := Try.prog) (w := w) base 22 ty 3 i0 1 hu hi0 v n xs hown, by simpa [ints] using hown, Below.refl _ _⟩
  | some ad =>
    obtain ⟨v', w', h1, h2, h3, _⟩ := run_append_own (P := Try.prog) w base 22 ty 3 i0 (.int .i64 0) 1 8 hu hi0 hz0 hz1 hz2 rfl (by decide) v n xs hown ad m c (ints zs) (by rw [ints_length, hA.len, Nat.mul_one]) hA.news (ints_one zs)
      (by unfold maxLen; omega) hb hbase
    exact ⟨v', w', h1, h2, (Below.refl base w).grown h3 hbase (fun k hk => (hown.lt k hk).1)⟩

section
variable {ops : Array Oper} {rest : List Oper} {o : Oper} {a : Act} {w : World} {Q : Exit → Act → World → Prop}

/-- 'append' of which the run is known. -/
theorem wp_append_known (hgd : o.guard = none) (s y : Operand) (t u : TypeId) (ho : o.op = .call { callee := .builtin .append, args := #[s, y], argTypes := #[t, u] }) (v x : Value) (hs : a.eval s = v) (hy : a.eval y = x) (R : Value → World → Prop)
    (hr : ∃ v' w', (Builtin.append_ #[t, u] o.type #[v, x]).run Try.prog w = .ok v' w' ∧ R v' w') (h : ∀ v' w', R v' w' → wpList Try.prog ops Q rest (a.put o.dst v') w') : wpList Try.prog ops Q (o :: rest) a w := by
  obtain ⟨v', w', hrun, hR⟩ := hr
  refine wpList_plain hgd fun K hK => ?_
  unfold Oper.wp
  simp [execOp, ho, resolve, invoke, builtin, hs, hy, hrun, Result.andThen]
  exact hK _ _ (h v' w' hR)
end

/-- A row is no longer than its room. -/
theorem owns_room {w : World} {base n sz : Nat} {e : TypeId} {ao : Option Addr} {cap : Nat} {xs : List Value} (h : w.ownsRow base e sz (.slice ao n cap) n xs) (hn : 0 < n) : n ≤ cap := by
  rcases h.2 with ⟨hv, h0⟩ | ⟨g, cap', cur, hv, _, _, hc, _⟩
  · omega
  · simp only [Value.slice.injEq, true_and] at hv
    omega

theorem ov_cap {l k sc : Nat} (h : 96 < l + k) (hs : l + k ≤ sc) : (96 : Int) ≤ (sc : Int) := by omega

/-- The cells of a variable of a node. -/
theorem node_cells {w : World} {g : Nat} {f a b c d s t : Int} (h : w.rangeAt g 0 (nodeCs f a b c d s t)) :
    w.cell? ⟨g, 0, none⟩ = some (.int .i64 0) ∧ w.cell? ⟨g, 1, none⟩ = some (.int .i64 f) ∧ w.cell? ⟨g, 2, none⟩ = some (.int .i64 0) ∧ w.cell? ⟨g, 3, none⟩ = some (.int .i64 0) ∧ w.cell? ⟨g, 4, none⟩ = some (.int .i64 a) ∧ w.cell? ⟨g, 5, none⟩ = some (.int .i64 b) ∧ w.cell? ⟨g, 6, none⟩ = some (.int .i64 c) ∧ w.cell? ⟨g, 7, none⟩ = some (.int .i64 d) ∧ w.cell? ⟨g, 8, none⟩ = some (.int .i64 s) ∧ w.cell? ⟨g, 9, none⟩ = some (.int .i64 t) ∧ w.cell? ⟨g, 10, none⟩ = some (.slice none 0 0) ∧ w.cell? ⟨g, 11, none⟩ = some (.int .i64 0) :=
  ⟨h 0 _ rfl, h 1 _ rfl, h 2 _ rfl, h 3 _ rfl, h 4 _ rfl, h 5 _ rfl, h 6 _ rfl, h 7 _ rfl, h 8 _ rfl, h 9 _ rfl, h 10 _ rfl, h 11 _ rfl⟩

end Go.Proofs.Ytdbkhhmadefccaa
