/-
  Proved here: what 'append' does to bytes of the call's own, in a statement whose order is open: of bytes and of a text.
  The conditions stand at each theorem.
-/
import Derived.Test.YtpmggbdmoopkfaaMem
import Derived.Lib.AppendStr
import Derived.Deep.RegionLaw
namespace Go.Proofs.Ytpmggbdmoopkfaa
open Go.RowKit

/-- The bytes of a text. -/
def bytesOf (s : ByteArray) : List Int := s.data.toList.map fun b => (b.toNat : Int)

theorem bytesOf_length (s : ByteArray) : (bytesOf s).length = s.size := by
  unfold bytesOf; rw [List.length_map]; rfl

theorem bytesOf_bytes (s : ByteArray) : ∀ z ∈ bytesOf s, 0 ≤ z ∧ z ≤ 255 := by
  intro z h
  obtain ⟨b, _, rfl⟩ := List.mem_map.1 h
  have := b.toNat_lt
  omega

theorem strCells_bytes (s : ByteArray) : Lib.strCells s = (bytesOf s).map (Value.int .u8) := by
  unfold Lib.strCells bytesOf
  rw [List.map_map]
  rfl

theorem bts_take {w : World} {b off len k : Nat} {zs : List Int} (h : Bts w (some ⟨b, off, none⟩) len zs) (hk : k ≤ len) : Bts w (some ⟨b, off, none⟩) k (zs.take k) := by
  obtain ⟨h1, h2, h3, h4⟩ := h
  refine ⟨by rw [List.length_take]; omega, by omega, fun z hz => h3 z (List.mem_of_mem_take hz), ?_⟩
  rcases h4 with h4 | ⟨b', o', he, hc⟩
  · exact Or.inl (by omega)
  · exact Or.inr ⟨b', o', he, fun j hj => by rw [take_getD _ _ _ hj]; exact hc j (by omega)⟩

theorem bts_drop {w : World} {b off len k : Nat} {zs : List Int} (h : Bts w (some ⟨b, off, none⟩) len zs) (hk : k ≤ len) : Bts w (some ⟨b, off + k, none⟩) (len - k) (zs.drop k) := by
  obtain ⟨h1, h2, h3, h4⟩ := h
  refine ⟨by rw [List.length_drop]; omega, by omega, fun z hz => h3 z (List.mem_of_mem_drop hz), ?_⟩
  rcases h4 with h4 | ⟨b', o', he, hc⟩
  · exact Or.inl (by omega)
  · simp only [Option.some.injEq, Addr.mk.injEq, and_true] at he
    obtain ⟨rfl, rfl⟩ := he
    refine Or.inr ⟨b, off + k, rfl, fun j hj => ?_⟩
    have := hc (k + j) (by omega)
    rw [Nat.add_assoc, this]
    simp [List.getD]

theorem run_append_bytes (w : World) (ty : TypeId) (base n : Nat) (v : Value) (xs : List Value) (hown : w.ownsRow base 5 1 v n xs) (ao : Option Addr) (m c : Nat) (zs : List Int) (hB : Bts w ao m zs) (hnil : ao = none → m = 0 ∧ c = 0)
    (hb : n + m ≤ 140737488355328) (hbase : base ≤ w.heap.size) :
    ∃ v' w', (Builtin.append_ #[25, 25] ty #[v, .slice ao m c]).run Try.prog w = .ok v' w' ∧ w'.ownsRow base 5 1 v' (n + m) (xs ++ zs.map (Value.int .u8)) ∧ Below base w w' := by
  obtain ⟨i0, hi, hz0, hz1, hz2⟩ := info_parts info5
  cases ao with
  | none =>
    obtain ⟨rfl, rfl⟩ := hnil rfl
    have hzs : zs = [] := List.length_eq_zero_iff.1 hB.1
    subst hzs
    exact ⟨v, w, run_append_owned_none (P := Try.prog) (w := w) base 25 ty 5 i0 1 Try.underlying25 hi v n xs hown, by simpa using hown, Below.refl _ _⟩
  | some ad =>
    obtain ⟨v', w', h1, h2, h3, _⟩ := run_append_own (P := Try.prog) w base 25 ty 5 i0 (.int .u8 0) 1 1 Try.underlying25 hi hz0 hz1 hz2 rfl (by decide) v n xs hown ad m c (zs.map (Value.int .u8)) (by rw [List.length_map, hB.1, Nat.mul_one]) (bts_news hB rfl) (one_cells zs)
      (by unfold maxLen; omega) (by omega) hbase
    exact ⟨v', w', h1, h2, (Below.refl base w).grown h3 hbase (fun k hk => (hown.lt k hk).1)⟩

theorem run_append_text (w : World) (ty : TypeId) (base n : Nat) (v : Value) (xs : List Value) (hown : w.ownsRow base 5 1 v n xs) (s : ByteArray) (hb : n + s.size ≤ 140737488355328) (hbase : base ≤ w.heap.size) :
    ∃ v' w', (Builtin.append_ #[25, 9] ty #[v, .string s]).run Try.prog w = .ok v' w' ∧ w'.ownsRow base 5 1 v' (n + s.size) (xs ++ (bytesOf s).map (Value.int .u8)) ∧ Below base w w' := by
  obtain ⟨i0, hi, hz0, hz1, hz2⟩ := info_parts info5
  obtain ⟨v', w', h1, h2, h3, _⟩ := Lib.run_append_own_string (P := Try.prog) w base 25 9 ty 5 i0 Try.underlying25 Try.underlying9 hi hz0 hz1 hz2 v n xs hown s (by unfold maxLen; omega) hb hbase
  rw [strCells_bytes] at h2
  exact ⟨v', w', h1, h2, (Below.refl base w).grown h3 hbase (fun k hk => (hown.lt k hk).1)⟩

section
variable {ops : Array Oper} {o : Oper} {a : Act} {w : World} {K : Act → World → Prop} {Q : Exit → Act → World → Prop} {E : Prop}

/-- 'append(dst, b...)' as one step of a statement that draws its order. -/
theorem step_append_bytes (hg : o.guard = none) (s x : Operand) (hop : o.op = Op.call { callee := Callee.builtin Builtin.append, args := #[s, x], argTypes := #[25, 25] })
    (base n : Nat) (v : Value) (xs : List Value) (hs : a.eval s = v) (hown : w.ownsRow base 5 1 v n xs) (ao : Option Addr) (m c : Nat) (zs : List Int) (hx : a.eval x = .slice ao m c) (hB : Bts w ao m zs) (hnil : ao = none → m = 0 ∧ c = 0)
    (hb : n + m ≤ 140737488355328) (hbase : base ≤ w.heap.size)
    (hK : ∀ v' w', w'.ownsRow base 5 1 v' (n + m) (xs ++ zs.map (Value.int .u8)) → Below base w w' → K (a.put o.dst v') w') :
    if Region.wanted o (yielded ops a.tmps) = true then Oper.wp Try.prog o a w K Q else E := by
  have hw : Region.wanted o (yielded ops a.tmps) = true := by simp [Region.wanted, hg]
  rw [if_pos hw]
  obtain ⟨v', w', hrun, h1, h2⟩ := run_append_bytes w o.type base n v xs hown ao m c zs hB hnil hb hbase
  unfold Oper.wp
  simp [execOp, hop, resolve, invoke, builtin, hs, hx, hrun, Result.andThen]
  exact hK v' w' h1 h2

/-- 'append(dst, s...)', s a text, as one step of a statement that draws its order. -/
theorem step_append_text (hg : o.guard = none) (s x : Operand) (hop : o.op = Op.call { callee := Callee.builtin Builtin.append, args := #[s, x], argTypes := #[25, 9] })
    (base n : Nat) (v : Value) (xs : List Value) (hs : a.eval s = v) (hown : w.ownsRow base 5 1 v n xs) (t : ByteArray) (hx : a.eval x = .string t) (hb : n + t.size ≤ 140737488355328) (hbase : base ≤ w.heap.size)
    (hK : ∀ v' w', w'.ownsRow base 5 1 v' (n + t.size) (xs ++ (bytesOf t).map (Value.int .u8)) → Below base w w' → K (a.put o.dst v') w') :
    if Region.wanted o (yielded ops a.tmps) = true then Oper.wp Try.prog o a w K Q else E := by
  have hw : Region.wanted o (yielded ops a.tmps) = true := by simp [Region.wanted, hg]
  rw [if_pos hw]
  obtain ⟨v', w', hrun, h1, h2⟩ := run_append_text w o.type base n v xs hown t hb hbase
  unfold Oper.wp
  simp [execOp, hop, resolve, invoke, builtin, hs, hx, hrun, Result.andThen]
  exact hK v' w' h1 h2
end

end Go.Proofs.Ytpmggbdmoopkfaa
