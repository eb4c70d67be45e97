/-
  Proved here: what 'copy' does to bytes of the call's own: of bytes and of a text; and what 'make([]byte, n)' gives.
  The conditions stand at each theorem.
-/
import Derived.Test.YtpmggbdmoopkfaaStep
import Derived.Laws.IdiomCopy
namespace Go.Proofs.Ytpmggbdmoopkfaa
open Go.RowKit

/-- The list with cs laid over it from place off on. -/
def lay : List Int → Nat → List Int → List Int
  | L, _, [] => L
  | L, off, c :: r => lay (L.set off c) (off + 1) r

theorem lay_length : ∀ (cs L : List Int) (off : Nat), (lay L off cs).length = L.length
  | [], _, _ => rfl
  | c :: r, L, off => by rw [lay, lay_length r, List.length_set]

theorem lay_snoc : ∀ (cs L : List Int) (off : Nat) (c : Int), lay L off (cs ++ [c]) = (lay L off cs).set (off + cs.length) c
  | [], L, off, c => rfl
  | d :: r, L, off, c => by
    show lay (L.set off d) (off + 1) (r ++ [c]) = (lay (L.set off d) (off + 1) r).set (off + (r.length + 1)) c
    rw [lay_snoc r, show off + (r.length + 1) = off + 1 + r.length by omega]

theorem lay_eq : ∀ (cs L : List Int) (off : Nat), off + cs.length ≤ L.length → lay L off cs = L.take off ++ cs ++ L.drop (off + cs.length)
  | [], L, off, _ => by simp [lay]
  | c :: r, L, off, h => by
    have h' : off + (r.length + 1) ≤ L.length := h
    rw [lay, lay_eq r _ _ (by rw [List.length_set]; omega)]
    have h1 : (L.set off c).take (off + 1) = L.take off ++ [c] := by
      rw [set_at L off c (by omega), List.take_append_of_le_length (by simp; omega)]
      exact List.take_of_length_le (by simp; omega)
    have h2 : (L.set off c).drop (off + 1 + r.length) = L.drop (off + (r.length + 1)) := by
      rw [List.drop_set_of_lt (by omega), show off + 1 + r.length = off + (r.length + 1) by omega]
    rw [h1, h2]
    simp

theorem Own.fill {base g : Nat} {w0 : World} : ∀ (cs L : List Int) (off : Nat) (wr : World), Own base w0 g L wr → off + cs.length ≤ L.length → (∀ z ∈ cs, 0 ≤ z ∧ z ≤ 255) → Own base w0 g (lay L off cs) (wr.setCells g off (cs.map (Value.int .u8)))
  | [], _, _, _, h, _, _ => h
  | c :: r, L, off, wr, h, hl, hz => by
    have hl' : off + (r.length + 1) ≤ L.length := hl
    exact Own.fill r (L.set off c) (off + 1) _ (h.store (by omega) (hz c (by simp))) (by rw [List.length_set]; omega) (fun z hz' => hz z (List.mem_cons_of_mem _ hz'))

theorem size5 : (Try.prog.info? 5).map (·.size) = some 1 := by kernel_rfl

theorem own_copy_bytes {base g off len cap : Nat} {w0 w : World} {L : List Int} (hO : Own base w0 g L w) (hfit : off + len ≤ L.length) (ao : Option Addr) (m c : Nat) (zs : List Int) (hB : Bts w ao m zs) (hm : m ≤ len) (ty : TypeId) :
    ∃ v' w', (Builtin.copy_ #[25, 25] ty #[.slice (some ⟨g, off, none⟩) len cap, .slice ao m c]).run Try.prog w = .ok v' w' ∧ v' = .int .i64 m ∧ Own base w0 g (lay L off zs) w' := by
  cases ao with
  | none =>
    have hz : zs = [] ∧ m = 0 := by
      rcases hB.2.2.2 with h0 | ⟨b, o, he, _⟩
      · exact ⟨List.length_eq_zero_iff.1 (by rw [hB.1, h0]), h0⟩
      · cases he
    obtain ⟨rfl, rfl⟩ := hz
    exact ⟨_, _, run_copy_none (P := Try.prog) w 25 25 ty 5 _ none len cap 0 c Try.underlying25 size5 (by simp), rfl, hO⟩
  | some ad =>
    have hl : (zs.map (Value.int .u8)).length = m := by rw [List.length_map, hB.1]
    have hr := run_copy_cells (P := Try.prog) w 25 25 ty 5 g off len cap ad m c (zs.map (Value.int .u8)) Try.underlying25 size5 (by rw [hl]; exact (Nat.min_eq_left hm).symm) (bts_news hB rfl)
      (fun j hj => by rw [hO.2.1 (off + j) (by omega)]; rfl) (fun j _ => hO.2.2.1 _) (one_cells zs)
    rw [hl] at hr
    exact ⟨_, _, hr, rfl, hO.fill zs L off w (by rw [hB.1]; omega) hB.2.2.1⟩

theorem own_copy_text {base g off len cap : Nat} {w0 w : World} {L : List Int} (hO : Own base w0 g L w) (hfit : off + len ≤ L.length) (s : ByteArray) (hm : s.size ≤ len) (ty : TypeId) :
    ∃ v' w', (Builtin.copy_ #[25, 9] ty #[.slice (some ⟨g, off, none⟩) len cap, .string s]).run Try.prog w = .ok v' w' ∧ v' = .int .i64 s.size ∧ Own base w0 g (lay L off (bytesOf s)) w' := by
  have hmin : Nat.min s.size len = s.size := Nat.min_eq_left hm
  have hl : (Lib.strCells s).length = s.size := Lib.strCells_length s
  have hst := run_storeCells_cells (P := Try.prog) g off (Lib.strCells s) 0 w (fun j hj => by rw [Nat.add_zero, hO.2.1 (off + j) (by omega)]; rfl) (fun j _ => hO.2.2.1 _) (Lib.strCells_oneCell s)
  rw [Nat.add_zero] at hst
  refine ⟨.int .i64 s.size, w.setCells g off (Lib.strCells s), ?_, rfl, ?_⟩
  · obtain ⟨i, hq, hi⟩ := Option.map_eq_some_iff.1 size5
    have hf : (Builtin.firstCells 1 s.size (.string s)).run Try.prog w = .ok (Lib.strCells s).toArray w := Lib.run_firstCells_string (P := Try.prog) w 1 s
    simp [Builtin.copy_, run_underlying Try.underlying25, Builtin.lenOf, sizeOf, typeInfo, hq, hi, hmin, hf, hst, Result.andThen]
    rfl
  · rw [strCells_bytes]
    exact hO.fill (bytesOf s) L off w (by rw [bytesOf_length]; omega) (bytesOf_bytes s)

theorem wp_copy {ops : Array Oper} {rest : List Oper} {o : Oper} {a : Act} {Q : Exit → Act → World → Prop} {w : World} (hgd : o.guard = none) (d s : Operand) (dT sT : TypeId)
    (ho : o.op = .call { callee := .builtin .copy, args := #[d, s], argTypes := #[dT, sT] }) (v u : Value) (hd : a.eval d = v) (hs : a.eval s = u) (R : Value → World → Prop)
    (hr : ∃ v' w', (Builtin.copy_ #[dT, sT] o.type #[v, u]).run Try.prog w = .ok v' w' ∧ R v' w') (h : ∀ v' w', R v' w' → wpList Try.prog ops Q rest (a.put o.dst v') w') : wpList Try.prog ops Q (o :: rest) a w := by
  obtain ⟨v', w', hrun, hR⟩ := hr
  refine wpList_plain hgd fun K hK => ?_
  unfold Oper.wp
  simp [execOp, ho, resolve, invoke, builtin, hd, hs, hrun, Result.andThen]
  exact hK _ _ (h v' w' hR)

theorem made_own (w : World) (n : Nat) : Own w.heap.size w w.heap.size (List.replicate n 0) (w.alloc (.cells (madeCells #[.int .u8 0] n) 5)) := by
  refine ⟨fun z hz => by rw [List.eq_of_mem_replicate hz]; decide, fun j hj => ?_, fun j => ?_, Nat.le_refl _, (Below.refl _ _).alloc (Nat.le_refl _) _⟩
  · rw [List.length_replicate] at hj
    rw [World.cell?_alloc_new, made_cell n j hj]
    simp [List.getD, hj]
  · rw [World.frozen?_alloc_mark]; simp

/-- The bytes of a text that was made of bytes. -/
theorem bytesOf_str {l : List Int} (h : ∀ z ∈ l, 0 ≤ z ∧ z ≤ 255) : bytesOf (str l) = l := by
  unfold bytesOf
  rw [str_data, List.map_map]
  conv => rhs; rw [← List.map_id l]
  refine List.map_congr_left (fun z hz => ?_)
  have := h z hz
  simp only [Function.comp, UInt8.toNat_ofNat', id]
  omega

theorem str_size (l : List Int) : (str l).size = l.length := by
  have h := congrArg List.length (str_data l)
  rw [List.length_map, Array.length_toList] at h
  exact h

end Go.Proofs.Ytpmggbdmoopkfaa
