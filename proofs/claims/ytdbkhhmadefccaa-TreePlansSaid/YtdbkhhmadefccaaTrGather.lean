/-
  Proved here: how the landed tree reads a node's pages out of the blocks that are there (gather), where all of them are there.
  The conditions stand at each theorem.
-/
import Derived.Test.YtdbkhhmadefccaaTrFetchP
import Derived.Test.YtdbkhhmadefccaaTrPlan
namespace Go.Proofs.Ytdbkhhmadefccaa
open Go.RowKit
set_option linter.unusedVariables false
set_option linter.unusedSimpArgs false

theorem lay_zeros {L : List Int} {o n : Nat} (h : (L.drop o).take n = List.replicate n 0) (hl : o + n ≤ L.length) : lay L o (List.replicate n 0) = L := by
  rw [← h, lay_eq _ _ _ (by rw [List.length_take]; omega), List.length_take, List.length_drop, show min n (L.length - o) = n by omega, List.append_assoc, ← List.drop_drop, List.take_append_drop, List.take_append_drop]

theorem ints_ne {L : List Int} (h : L.length = 159) : ints L ≠ [] := by
  intro e
  have := congrArg List.length e
  rw [ints_length, h] at this
  simp at this

theorem getD_cell {base g j : Nat} {w0 w : World} {L : List Int} (hO : OwnV base w0 g (ints L) w) (hj : j < L.length) : w.cell? ⟨g, j, none⟩ = some (.int .i64 (L.getD j 0)) :=
  hO.1 j _ (ints_get (by rw [List.getD_eq_getElem?_getD, List.getElem?_eq_getElem hj]; rfl))

theorem fetch_any {w0 w : World} {g i : Nat} {L : List Int} {ao : Option Addr} {m cap : Nat} {ws : List (Int × List Int)} {pg : List Int} (hO : OwnV w0.heap.size w0 g (ints L) w) (hL : L.length = 159) (hW : WIs w0 ao m ws) (hi : i < 5) (hp : pageAt ws (L.getD (154 + i) 0) = some pg) (hz : pageL L i = List.replicate 30 0) :
    Calls Try.prog 43 #[.pointer (some ⟨g, 0, none⟩), .int .i64 (i : Int), .slice ao m cap] w fun e w' => e = .returned (.bool true) ∧ OwnV w0.heap.size w0 g (ints (lay L (4 + i * 30) pg)) w' := by
  unfold pageAt at hp
  by_cases h0 : L.getD (154 + i) 0 = 0
  · rw [if_pos h0] at hp
    cases hp
    have hc := getD_cell hO (j := 154 + i) (by omega)
    rw [h0] at hc
    rw [lay_zeros hz (by omega)]
    exact (fetch0_any hc hi).mono (fun e w' h => ⟨h.1, hO.later h.2 (ints_ne hL)⟩)
  · rw [if_neg h0] at hp
    cases hf : findW ws (L.getD (154 + i) 0) with
    | none => rw [hf] at hp; cases hp
    | some zs =>
      rw [hf] at hp
      exact fetchP_any hO hL hW hi rfl h0 hf hp

theorem made_ints (w : World) (L : List Int) (T : TypeId) : OwnV w.heap.size w w.heap.size (ints L) (w.alloc (.cells (ints L).toArray T)) := by
  refine ⟨fun j x hj => ?_, fun j => by rw [World.frozen?_alloc_mark]; simp, Nat.le_refl _, (Below.refl _ _).alloc (Nat.le_refl _) _⟩
  rw [World.cell?_alloc_new]
  simpa using hj

/-! ### The chart, step by step -/

def gat0 (d : List Int) (s t : Int) : List Int := ((d ++ List.replicate 155 0).set 154 s).set 155 t

theorem getD_set' {L : List Int} {i j : Nat} {x : Int} (hi : i < L.length) : (L.set i x).getD j 0 = if i = j then x else L.getD j 0 := by
  rw [List.getD_eq_getElem?_getD, List.getElem?_set]
  by_cases e : i = j
  · rw [if_pos e, if_pos e, if_pos hi]; rfl
  · rw [if_neg e, if_neg e, List.getD_eq_getElem?_getD]

theorem gat0_get {d : List Int} (hd : d.length = 4) (s t : Int) (j : Nat) : (gat0 d s t).getD j 0 = if j < 4 then d.getD j 0 else if j = 154 then s else if j = 155 then t else 0 := by
  unfold gat0
  have hl : (d ++ List.replicate 155 (0 : Int)).length = 159 := by rw [List.length_append, hd, List.length_replicate]
  rw [getD_set' (by rw [List.length_set]; omega), getD_set' (by omega)]
  by_cases h1 : j < 4
  · rw [if_neg (by omega), if_neg (by omega), if_pos h1, List.getD_eq_getElem?_getD, List.getElem?_append_left (by omega), ← List.getD_eq_getElem?_getD]
  · rw [if_neg h1]
    by_cases h2 : j = 154
    · rw [if_neg (by omega), if_pos (by omega), if_pos h2]
    · by_cases h3 : j = 155
      · rw [if_pos (by omega), if_neg h2, if_pos h3]
      · rw [if_neg (by omega), if_neg (by omega), if_neg h2, if_neg h3, List.getD_eq_getElem?_getD, List.getElem?_append_right (by omega), List.getElem?_replicate]
        split <;> rfl

theorem gat0_length {d : List Int} (hd : d.length = 4) (s t : Int) : (gat0 d s t).length = 159 := by
  unfold gat0
  rw [List.length_set, List.length_set, List.length_append, hd, List.length_replicate]

theorem lay_got {L cs : List Int} {o n : Nat} (hc : cs.length = n) (hf : o + n ≤ L.length) (j : Nat) : (lay L o cs).getD j 0 = if o ≤ j ∧ j < o + n then cs.getD (j - o) 0 else L.getD j 0 := by
  rw [lay_get _ _ _ _ (by omega), hc]

theorem page_zero {L : List Int} {i : Nat} (hL : L.length = 159) (hi : i < 5) (h : ∀ j, 4 + i * 30 ≤ j → j < 34 + i * 30 → L.getD j 0 = 0) : pageL L i = List.replicate 30 0 := by
  unfold pageL
  rw [part_of (by omega), List.eq_replicate_iff]
  refine ⟨by simp, fun x hx => ?_⟩
  obtain ⟨k, hk, rfl⟩ := List.mem_map.1 hx
  have := List.mem_range.1 hk
  exact h _ (by omega) (by omega)

theorem part_is {L cs : List Int} {o n : Nat} (hc : cs.length = n) (hL : o + n ≤ L.length) (h : ∀ k, k < n → L.getD (o + k) 0 = cs.getD k 0) : (L.drop o).take n = cs := by
  rw [part_of hL]
  apply List.ext_getElem?
  intro k
  by_cases hk : k < n
  · rw [List.getElem?_map, List.getElem?_range hk, List.getElem?_eq_getElem (show k < cs.length by omega)]
    show some (L.getD (o + k) 0) = _
    rw [h k hk, List.getD_eq_getElem?_getD, List.getElem?_eq_getElem (show k < cs.length by omega)]
    rfl
  · rw [List.getElem?_eq_none (by simp; omega), List.getElem?_eq_none (by omega)]

/-- A chart with these pages, and these numbers of their blocks. -/
structure Full (M d sg u0 u1 u2 o : List Int) : Prop where
  len : M.length = 159
  dir : M.take 4 = d
  p0 : pageL M 0 = sg
  p2 : pageL M 2 = u0
  p3 : pageL M 3 = u1
  p4 : pageL M 4 = u2
  own : (M.drop 154).take 5 = o
  i64 : ∀ z ∈ M, I64 z

theorem pageAt_ok {ws : List (Int × List Int)} {q : Int} {pg : List Int} (h : pageAt ws q = some pg) : pg.length = 30 ∧ ∀ z ∈ pg, 0 ≤ z ∧ z ≤ 479 := by
  unfold pageAt at h
  by_cases h0 : q = 0
  · rw [if_pos h0] at h
    cases h
    exact ⟨by simp, fun z hz => by rw [List.eq_of_mem_replicate hz]; decide⟩
  · rw [if_neg h0] at h
    cases hf : findW ws q with
    | none => rw [hf] at h; cases h
    | some zs =>
      rw [hf] at h
      obtain ⟨_, _, p3, _, p5⟩ := page_parts h
      refine ⟨by rw [← p3]; exact words_length _, fun z hz => ?_⟩
      unfold apartL at p5
      rw [Bool.and_eq_true, List.all_eq_true] at p5
      have := p5.1 z hz
      unfold okP at this
      simp only [decide_eq_true_eq] at this
      omega

theorem mem_lay {L cs : List Int} {o : Nat} (hf : o + cs.length ≤ L.length) {z : Int} (hz : z ∈ lay L o cs) : z ∈ L ∨ z ∈ cs := by
  rw [lay_eq _ _ _ hf] at hz
  rcases List.mem_append.1 hz with h | h
  · rcases List.mem_append.1 h with h | h
    · exact Or.inl (List.mem_of_mem_take h)
    · exact Or.inr h
  · exact Or.inl (List.mem_of_mem_drop h)

/-- The charts on the way. -/
structure Way (L0 L1 L2 L3 L4 L5 L6 d sg db u0 u1 u2 : List Int) (s t : Int) : Prop where
  e0 : L0 = gat0 d s t
  e1 : L1 = lay L0 4 sg
  e2 : L2 = lay L1 34 db
  e3 : L3 = lay L2 156 (db.take 3)
  e4 : L4 = lay L3 64 u0
  e5 : L5 = lay L4 94 u1
  e6 : L6 = lay L5 124 u2
  hd : d.length = 4
  hs : sg.length = 30
  hb : db.length = 30
  h0 : u0.length = 30
  h1 : u1.length = 30
  h2 : u2.length = 30

section
variable {L0 L1 L2 L3 L4 L5 L6 d sg db u0 u1 u2 : List Int} {s t : Int}

theorem Way.lens (w : Way L0 L1 L2 L3 L4 L5 L6 d sg db u0 u1 u2 s t) : L0.length = 159 ∧ L1.length = 159 ∧ L2.length = 159 ∧ L3.length = 159 ∧ L4.length = 159 ∧ L5.length = 159 ∧ L6.length = 159 := by
  have h0 : L0.length = 159 := by rw [w.e0]; exact gat0_length w.hd s t
  have h1 : L1.length = 159 := by rw [w.e1, lay_length, h0]
  have h2 : L2.length = 159 := by rw [w.e2, lay_length, h1]
  have h3 : L3.length = 159 := by rw [w.e3, lay_length, h2]
  have h4 : L4.length = 159 := by rw [w.e4, lay_length, h3]
  have h5 : L5.length = 159 := by rw [w.e5, lay_length, h4]
  exact ⟨h0, h1, h2, h3, h4, h5, by rw [w.e6, lay_length, h5]⟩

theorem Way.gets (w : Way L0 L1 L2 L3 L4 L5 L6 d sg db u0 u1 u2 s t) (j : Nat) :
    (L0.getD j 0 = if j < 4 then d.getD j 0 else if j = 154 then s else if j = 155 then t else 0) ∧ (L1.getD j 0 = if 4 ≤ j ∧ j < 34 then sg.getD (j - 4) 0 else L0.getD j 0) ∧ (L2.getD j 0 = if 34 ≤ j ∧ j < 64 then db.getD (j - 34) 0 else L1.getD j 0) ∧
    (L3.getD j 0 = if 156 ≤ j ∧ j < 159 then (db.take 3).getD (j - 156) 0 else L2.getD j 0) ∧ (L4.getD j 0 = if 64 ≤ j ∧ j < 94 then u0.getD (j - 64) 0 else L3.getD j 0) ∧ (L5.getD j 0 = if 94 ≤ j ∧ j < 124 then u1.getD (j - 94) 0 else L4.getD j 0) ∧ (L6.getD j 0 = if 124 ≤ j ∧ j < 154 then u2.getD (j - 124) 0 else L5.getD j 0) := by
  obtain ⟨l0, l1, l2, l3, l4, l5, l6⟩ := w.lens
  have hb3 : (db.take 3).length = 3 := by rw [List.length_take, w.hb]; decide
  refine ⟨by rw [w.e0]; exact gat0_get w.hd s t j, by rw [w.e1]; exact lay_got w.hs (by omega) j, by rw [w.e2]; exact lay_got w.hb (by omega) j, by rw [w.e3]; exact lay_got hb3 (by omega) j, by rw [w.e4]; exact lay_got w.h0 (by omega) j, by rw [w.e5]; exact lay_got w.h1 (by omega) j, by rw [w.e6]; exact lay_got w.h2 (by omega) j⟩

theorem Way.full (w : Way L0 L1 L2 L3 L4 L5 L6 d sg db u0 u1 u2 s t) {q0 q1 q2 : Int} (hq : db.take 3 = [q0, q1, q2]) (hi : (∀ z ∈ d, I64 z) ∧ I64 s ∧ I64 t ∧ (∀ z ∈ sg, I64 z) ∧ (∀ z ∈ db, I64 z) ∧ (∀ z ∈ u0, I64 z) ∧ (∀ z ∈ u1, I64 z) ∧ ∀ z ∈ u2, I64 z) : Full L6 d sg u0 u1 u2 [s, t, q0, q1, q2] := by
  obtain ⟨l0, l1, l2, l3, l4, l5, l6⟩ := w.lens
  have hb3 : (db.take 3).length = 3 := by rw [hq]; rfl
  refine ⟨l6, ?_, ?_, ?_, ?_, ?_, ?_, ?_⟩
  · have := part_is (L := L6) (cs := d) (o := 0) (n := 4) w.hd (by omega) (fun k hk => by
      obtain ⟨g0, g1, g2, g3, g4, g5, g6⟩ := w.gets (0 + k)
      rw [g6, if_neg (by omega), g5, if_neg (by omega), g4, if_neg (by omega), g3, if_neg (by omega), g2, if_neg (by omega), g1, if_neg (by omega), g0, if_pos (by omega), Nat.zero_add])
    rwa [List.drop_zero] at this
  · exact part_is w.hs (by omega) (fun k hk => by
      obtain ⟨g0, g1, g2, g3, g4, g5, g6⟩ := w.gets (4 + 0 * 30 + k)
      rw [g6, if_neg (by omega), g5, if_neg (by omega), g4, if_neg (by omega), g3, if_neg (by omega), g2, if_neg (by omega), g1, if_pos (by omega)]
      exact congrArg (fun k => sg.getD k 0) (by omega))
  · exact part_is w.h0 (by omega) (fun k hk => by
      obtain ⟨g0, g1, g2, g3, g4, g5, g6⟩ := w.gets (4 + 2 * 30 + k)
      rw [g6, if_neg (by omega), g5, if_neg (by omega), g4, if_pos (by omega)]
      exact congrArg (fun k => u0.getD k 0) (by omega))
  · exact part_is w.h1 (by omega) (fun k hk => by
      obtain ⟨g0, g1, g2, g3, g4, g5, g6⟩ := w.gets (4 + 3 * 30 + k)
      rw [g6, if_neg (by omega), g5, if_pos (by omega)]
      exact congrArg (fun k => u1.getD k 0) (by omega))
  · exact part_is w.h2 (by omega) (fun k hk => by
      obtain ⟨g0, g1, g2, g3, g4, g5, g6⟩ := w.gets (4 + 4 * 30 + k)
      rw [g6, if_pos (by omega)]
      exact congrArg (fun k => u2.getD k 0) (by omega))
  · refine part_is rfl (by omega) (fun k hk => ?_)
    obtain ⟨g0, g1, g2, g3, g4, g5, g6⟩ := w.gets (154 + k)
    rw [g6, if_neg (by omega), g5, if_neg (by omega), g4, if_neg (by omega)]
    match k, hk with
    | 0, _ => rw [g3, if_neg (by omega), g2, if_neg (by omega), g1, if_neg (by omega), g0]; rfl
    | 1, _ => rw [g3, if_neg (by omega), g2, if_neg (by omega), g1, if_neg (by omega), g0]; rfl
    | 2, _ => rw [g3, if_pos (by omega), hq]; rfl
    | 3, _ => rw [g3, if_pos (by omega), hq]; rfl
    | 4, _ => rw [g3, if_pos (by omega), hq]; rfl
  · obtain ⟨hdI, hsI, htI, hsg, hdb, hu0, hu1, hu2⟩ := hi
    have hz : I64 0 := ⟨by decide, by decide⟩
    have i0 : ∀ z ∈ L0, I64 z := fun z hz' => by
      rw [w.e0] at hz'
      unfold gat0 at hz'
      rcases List.mem_or_eq_of_mem_set hz' with h | h
      · rcases List.mem_or_eq_of_mem_set h with h | h
        · rcases List.mem_append.1 h with h | h
          · exact hdI z h
          · rw [List.eq_of_mem_replicate h]; exact hz
        · rw [h]; exact hsI
      · rw [h]; exact htI
    have i1 : ∀ z ∈ L1, I64 z := fun z h => by rw [w.e1] at h; exact (mem_lay (by rw [w.hs]; omega) h).elim (i0 z) (hsg z)
    have i2 : ∀ z ∈ L2, I64 z := fun z h => by rw [w.e2] at h; exact (mem_lay (by rw [w.hb]; omega) h).elim (i1 z) (hdb z)
    have i3 : ∀ z ∈ L3, I64 z := fun z h => by rw [w.e3] at h; exact (mem_lay (by omega) h).elim (i2 z) (fun h => hdb z (List.mem_of_mem_take h))
    have i4 : ∀ z ∈ L4, I64 z := fun z h => by rw [w.e4] at h; exact (mem_lay (by rw [w.h0]; omega) h).elim (i3 z) (hu0 z)
    have i5 : ∀ z ∈ L5, I64 z := fun z h => by rw [w.e5] at h; exact (mem_lay (by rw [w.h1]; omega) h).elim (i4 z) (hu1 z)
    exact fun z h => by rw [w.e6] at h; exact (mem_lay (by rw [w.h2]; omega) h).elim (i5 z) (hu2 z)

/-- What each fetch finds, and where. -/
theorem Way.finds (w : Way L0 L1 L2 L3 L4 L5 L6 d sg db u0 u1 u2 s t) {q0 q1 q2 : Int} (hq : db.take 3 = [q0, q1, q2]) :
    (L0.getD (154 + 0) 0 = s ∧ pageL L0 0 = List.replicate 30 0) ∧ (L1.getD (154 + 1) 0 = t ∧ pageL L1 1 = List.replicate 30 0) ∧ (L3.getD (154 + 2) 0 = q0 ∧ pageL L3 2 = List.replicate 30 0) ∧ (L4.getD (154 + 3) 0 = q1 ∧ pageL L4 3 = List.replicate 30 0) ∧ (L5.getD (154 + 4) 0 = q2 ∧ pageL L5 4 = List.replicate 30 0) ∧ pageL L2 1 = db := by
  obtain ⟨l0, l1, l2, l3, l4, l5, l6⟩ := w.lens
  refine ⟨⟨?_, ?_⟩, ⟨?_, ?_⟩, ⟨?_, ?_⟩, ⟨?_, ?_⟩, ⟨?_, ?_⟩, ?_⟩
  · obtain ⟨g0, g1, g2, g3, g4, g5, g6⟩ := w.gets (154 + 0)
    rw [g0]; rfl
  · exact page_zero l0 (by decide) (fun j h1 h2 => by rw [(w.gets j).1, if_neg (by omega), if_neg (by omega), if_neg (by omega)])
  · obtain ⟨g0, g1, g2, g3, g4, g5, g6⟩ := w.gets (154 + 1)
    rw [g1, if_neg (by omega), g0]; rfl
  · exact page_zero l1 (by decide) (fun j h1 h2 => by
      obtain ⟨g0, g1, g2, g3, g4, g5, g6⟩ := w.gets j
      rw [g1, if_neg (by omega), g0, if_neg (by omega), if_neg (by omega), if_neg (by omega)])
  · obtain ⟨g0, g1, g2, g3, g4, g5, g6⟩ := w.gets (154 + 2)
    rw [g3, if_pos (by omega), hq]; rfl
  · exact page_zero l3 (by decide) (fun j h1 h2 => by
      obtain ⟨g0, g1, g2, g3, g4, g5, g6⟩ := w.gets j
      rw [g3, if_neg (by omega), g2, if_neg (by omega), g1, if_neg (by omega), g0, if_neg (by omega), if_neg (by omega), if_neg (by omega)])
  · obtain ⟨g0, g1, g2, g3, g4, g5, g6⟩ := w.gets (154 + 3)
    rw [g4, if_neg (by omega), g3, if_pos (by omega), hq]; rfl
  · exact page_zero l4 (by decide) (fun j h1 h2 => by
      obtain ⟨g0, g1, g2, g3, g4, g5, g6⟩ := w.gets j
      rw [g4, if_neg (by omega), g3, if_neg (by omega), g2, if_neg (by omega), g1, if_neg (by omega), g0, if_neg (by omega), if_neg (by omega), if_neg (by omega)])
  · obtain ⟨g0, g1, g2, g3, g4, g5, g6⟩ := w.gets (154 + 4)
    rw [g5, if_neg (by omega), g4, if_neg (by omega), g3, if_pos (by omega), hq]; rfl
  · exact page_zero l5 (by decide) (fun j h1 h2 => by
      obtain ⟨g0, g1, g2, g3, g4, g5, g6⟩ := w.gets j
      rw [g5, if_neg (by omega), g4, if_neg (by omega), g3, if_neg (by omega), g2, if_neg (by omega), g1, if_neg (by omega), g0, if_neg (by omega), if_neg (by omega), if_neg (by omega)])
  · exact part_is w.hb (by omega) (fun k hk => by
      obtain ⟨g0, g1, g2, g3, g4, g5, g6⟩ := w.gets (4 + 1 * 30 + k)
      rw [g2, if_pos (by omega)]
      exact congrArg (fun k => db.getD k 0) (by omega))
end

set_option maxRecDepth 100000 in
set_option maxHeartbeats 6400000 in
theorem gather_any {w : World} {ao : Option Addr} {m cap : Nat} {ws : List (Int × List Int)} {x0 x1 x2 x3 s t q0 q1 q2 : Int} {sg u0 u1 u2 : List Int} (hW : WIs w ao m ws)
    (h1 : pageAt ws s = some sg) (h2 : pageAt ws t = some ([q0, q1, q2] ++ List.replicate 27 0)) (h3 : pageAt ws q0 = some u0) (h4 : pageAt ws q1 = some u1) (h5 : pageAt ws q2 = some u2) (hI : (∀ z ∈ [x0, x1, x2, x3], I64 z) ∧ I64 s ∧ I64 t) :
    Calls Try.prog 30 #[nodeV 1 x0 x1 x2 x3 s t, .slice ao m cap] w fun e w' => ∃ g M, e = .returned (.tuple #[.pointer (some ⟨g, 0, none⟩), .bool true]) ∧ OwnV w.heap.size w g (ints M) w' ∧ Full M [x0, x1, x2, x3] sg u0 u1 u2 [s, t, q0, q1, q2] := by
  unfold nodeV nodeCs
  go_enter Try.func30, Try.ntmps30
  go_wp2_with fail
  obtain ⟨W2, hW2⟩ : ∃ W2, W2 = ((w.alloc (.cells (nodeCs 1 x0 x1 x2 x3 s t).toArray 32)).alloc (.cells (ints ([x0, x1, x2, x3] ++ List.replicate 155 0)).toArray 57)) := ⟨_, rfl⟩
  have HB2 : Hid (Below w.heap.size w W2) := Lib.hid (by rw [hW2]; exact ((Below.refl _ _).alloc (Nat.le_refl _) _).alloc (by simp) _)
  have HO2 : Hid (OwnV w.heap.size w (w.heap.size + 1) (ints ([x0, x1, x2, x3] ++ List.replicate 155 0)) W2) := Lib.hid (by
    rw [hW2]
    have h := made_ints (w.alloc (.cells (nodeCs 1 x0 x1 x2 x3 s t).toArray 32)) ([x0, x1, x2, x3] ++ List.replicate 155 0) 57
    rw [World.size_alloc] at h
    exact ⟨h.1, h.2.1, Nat.le_succ _, ((Below.refl _ _).alloc (Nat.le_refl _) _).alloc (by simp) _⟩)
  have HN2 : Hid (W2.rangeAt w.heap.size 0 (nodeCs 1 x0 x1 x2 x3 s t)) := Lib.hid (by
    rw [hW2]
    intro j v hj
    rw [Nat.zero_add]
    refine cell_later ((Below.refl _ _).alloc (Nat.le_refl _) _) ?_
    rw [World.cell?_alloc_new]
    simpa using hj)
  have c8 : W2.cell? ⟨w.heap.size, 8, none⟩ = some (.int .i64 s) := by have := HN2.out 8 _ rfl; simpa using this
  have c9 : W2.cell? ⟨w.heap.size, 9, none⟩ = some (.int .i64 t) := by have := HN2.out 9 _ rfl; simpa using this
  have ca := getD_cell HO2.out (j := 154) (by simp)
  have cb := getD_cell HO2.out (j := 155) (by simp)
  have fa := HO2.out.2.1 154
  have fb := HO2.out.2.1 155
  change Code.wp _ _ _ _ ((w.alloc (.cells (nodeCs 1 x0 x1 x2 x3 s t).toArray 32)).alloc (.cells (ints ([x0, x1, x2, x3] ++ List.replicate 155 0)).toArray 57))
  rw [← hW2]
  clear hW2
  go_region
  obtain ⟨W3, hW3⟩ : ∃ W3, W3 = ((W2.setCell ⟨w.heap.size + 1, 154, none⟩ (.int .i64 s)).setCell ⟨w.heap.size + 1, 155, none⟩ (.int .i64 t)).drew := ⟨_, rfl⟩
  have HO3 : Hid (OwnV w.heap.size w (w.heap.size + 1) (ints (gat0 [x0, x1, x2, x3] s t)) W3) := Lib.hid (by
    rw [hW3]
    unfold gat0
    rw [ints_set, ints_set]
    exact ((HO2.out.store (by simp [ints])).store (by simp [ints])).drew)
  rw [← hW3]
  clear hW3 c8 c9 ca cb fa fb
  obtain ⟨db, hdb⟩ : ∃ db, [q0, q1, q2] ++ List.replicate 27 0 = db := ⟨_, rfl⟩
  have hq3 : db.take 3 = [q0, q1, q2] := by rw [← hdb]; rfl
  have htl : (trimL db).length ≤ 3 := by
    rw [← hdb, trim_append_zeros]
    obtain ⟨n, hn⟩ := trim_prefix [q0, q1, q2]
    have := congrArg List.length hn
    rw [List.length_append, List.length_replicate] at this
    have h3 : ([q0, q1, q2] : List Int).length = 3 := rfl
    omega
  rw [hdb] at h2
  clear hdb
  obtain ⟨ks, is⟩ := pageAt_ok h1
  obtain ⟨kb, ib⟩ := pageAt_ok h2
  obtain ⟨k0, i0⟩ := pageAt_ok h3
  obtain ⟨k1, i1⟩ := pageAt_ok h4
  obtain ⟨k2, i2⟩ := pageAt_ok h5
  have sm : ∀ z : Int, 0 ≤ z ∧ z ≤ 479 → I64 z := fun z h => ⟨by omega, by omega⟩
  obtain ⟨L0, e0⟩ : ∃ L0, L0 = gat0 [x0, x1, x2, x3] s t := ⟨_, rfl⟩
  obtain ⟨L1, e1⟩ : ∃ L1, L1 = lay L0 4 sg := ⟨_, rfl⟩
  obtain ⟨L2, e2⟩ : ∃ L2, L2 = lay L1 34 db := ⟨_, rfl⟩
  obtain ⟨L3, e3⟩ : ∃ L3, L3 = lay L2 156 (db.take 3) := ⟨_, rfl⟩
  obtain ⟨L4, e4⟩ : ∃ L4, L4 = lay L3 64 u0 := ⟨_, rfl⟩
  obtain ⟨L5, e5⟩ : ∃ L5, L5 = lay L4 94 u1 := ⟨_, rfl⟩
  obtain ⟨L6, e6⟩ : ∃ L6, L6 = lay L5 124 u2 := ⟨_, rfl⟩
  have way : Way L0 L1 L2 L3 L4 L5 L6 [x0, x1, x2, x3] sg db u0 u1 u2 s t := ⟨e0, e1, e2, e3, e4, e5, e6, rfl, ks, kb, k0, k1, k2⟩
  have HFULL := Lib.hid (way.full hq3 ⟨hI.1, hI.2.1, hI.2.2, fun z h => sm z (is z h), fun z h => sm z (ib z h), fun z h => sm z (i0 z h), fun z h => sm z (i1 z h), fun z h => sm z (i2 z h)⟩)
  obtain ⟨l0, l1, l2, l3, l4, l5, l6⟩ := way.lens
  obtain ⟨⟨a0, z0⟩, ⟨a1, z1⟩, ⟨a2, z2⟩, ⟨a3, z3⟩, ⟨a4, z4⟩, pdb⟩ := way.finds hq3
  obtain ⟨g, hg⟩ : ∃ g, w.heap.size + 1 = g := ⟨_, rfl⟩
  rw [← e0] at HO3
  rw [hg] at HO3 ⊢
  have HF0 : Hid (∀ W, OwnV w.heap.size w g (ints L0) W → Calls Try.prog 43 #[.pointer (some ⟨g, 0, none⟩), .int .i64 0, .slice ao m cap] W fun e w' => e = .returned (.bool true) ∧ OwnV w.heap.size w g (ints L1) w') := Lib.hid (fun W hW' => by
    have h := fetch_any (cap := cap) (i := 0) hW' l0 hW (by decide) (by rw [a0]; exact h1) z0
    rw [e1]; exact h)
  have HF1 : Hid (∀ W, OwnV w.heap.size w g (ints L1) W → Calls Try.prog 43 #[.pointer (some ⟨g, 0, none⟩), .int .i64 1, .slice ao m cap] W fun e w' => e = .returned (.bool true) ∧ OwnV w.heap.size w g (ints L2) w') := Lib.hid (fun W hW' => by
    have h := fetch_any (cap := cap) (i := 1) hW' l1 hW (by decide) (by rw [a1]; exact h2) z1
    rw [e2]; exact h)
  have HF2 : Hid (∀ W, OwnV w.heap.size w g (ints L3) W → Calls Try.prog 43 #[.pointer (some ⟨g, 0, none⟩), .int .i64 2, .slice ao m cap] W fun e w' => e = .returned (.bool true) ∧ OwnV w.heap.size w g (ints L4) w') := Lib.hid (fun W hW' => by
    have h := fetch_any (cap := cap) (i := 2) hW' l3 hW (by decide) (by rw [a2]; exact h3) z2
    rw [e4]; exact h)
  have HF3 : Hid (∀ W, OwnV w.heap.size w g (ints L4) W → Calls Try.prog 43 #[.pointer (some ⟨g, 0, none⟩), .int .i64 3, .slice ao m cap] W fun e w' => e = .returned (.bool true) ∧ OwnV w.heap.size w g (ints L5) w') := Lib.hid (fun W hW' => by
    have h := fetch_any (cap := cap) (i := 3) hW' l4 hW (by decide) (by rw [a3]; exact h4) z3
    rw [e5]; exact h)
  have HF4 : Hid (∀ W, OwnV w.heap.size w g (ints L5) W → Calls Try.prog 43 #[.pointer (some ⟨g, 0, none⟩), .int .i64 4, .slice ao m cap] W fun e w' => e = .returned (.bool true) ∧ OwnV w.heap.size w g (ints L6) w') := Lib.hid (fun W hW' => by
    have h := fetch_any (cap := cap) (i := 4) hW' l5 hW (by decide) (by rw [a4]; exact h5) z4
    rw [e6]; exact h)
  have HDI : Hid (∀ W, OwnV w.heap.size w g (ints L2) W → IArg W (some ⟨g, 34, none⟩) (30 : Nat) (30 : Nat) db) := Lib.hid (fun W hW' => by
    have h := (chart_of_own hW' l2).page 1
    rw [pdb] at h
    have h2 := iarg_of_range (cap := 30) h (fun z hz => sm z (ib z hz)) (by omega) (by omega)
    rw [kb] at h2
    exact h2)
  have HL2 := Lib.hid l2
  have HE3 : Hid (lay L2 156 (db.take 3) = L3) := Lib.hid e3.symm
  have t3 : ¬ (3 : Int) < ((trimL db).length : Int) := by omega
  have HTR : Hid (∀ W, OwnV w.heap.size w g (ints L2) W → Calls Try.prog 31 #[.slice (some ⟨g, 34, none⟩) (30 : Nat) (30 : Nat)] W fun e w' => e = .returned (.slice (some ⟨g, 34, none⟩) (trimL db).length (30 : Nat)) ∧ W = w') := Lib.hid (fun W hW' => trimmed_any _ 30 30 db W (HDI.out W hW'))
  generalize (trimL db).length = n at *
  clear way e0 e1 e2 e3 e4 e5 e6 l0 l1 l2 l3 l4 l5 l6 a0 a1 a2 a3 a4 z0 z1 z2 z3 z4 pdb ks kb k0 k1 k2 is ib i0 i1 i2 h1 h2 h3 h4 h5 hW hI sm htl hq3 HO2 HN2 HB2
  go_wp2_with (first
    | (go_at_call 43; have gt := HO4; clear gt; refine (HF1.out _ HO4.out).mono ?_; rintro e W5 ⟨rfl, ho⟩; have HO5 := Lib.hid ho; clear ho)
    | (go_at_call 43; refine (HF0.out _ HO3.out).mono ?_; rintro e W4 ⟨rfl, ho⟩; have HO4 := Lib.hid ho; clear ho)
    | (go_at_call 31; refine (HTR.out _ HO5.out).mono ?_; rintro e w6 ⟨rfl, rfl⟩))
  have HCC := Lib.hid (own_copy_ints (off := 156) (len := 3) (cap := 3) HO5.out.drew (by rw [HL2.out]; decide) _ _ _ _ ((HDI.out _ HO5.out).drew) 3)
  rw [HE3.out] at HCC
  refine wp_region_still_tail 9 (by kernel_rfl) (by kernel_rfl) ?_
  simp only [List.take_succ_cons, List.take_zero, List.drop_succ_cons, List.drop_zero]
  try rw [drew_of_r]
  iterate 9 still_step
  refine wpStill_nil ?_
  go_wp2_with (refine wp_copy rfl (.tmp 45) (.tmp 50) 22 22 rfl _ _ rfl rfl _ HCC.out ?_; rintro v7 W7 ⟨rfl, hO7, hK7⟩; have HO7 := Lib.hid hO7; clear hO7 hK7)
  go_loopw [7] (fun iv wr => ∃ i : Int, iv = .int .i64 i ∧ (2 ≤ i ∧ i ≤ 5) ∧ Hid ((i = 2 → OwnV w.heap.size w g (ints L3) wr) ∧ (i = 3 → OwnV w.heap.size w g (ints L4) wr) ∧ (i = 4 → OwnV w.heap.size w g (ints L5) wr) ∧ (i = 5 → OwnV w.heap.size w g (ints L6) wr))) (fun iv _ => 5 - (intOf iv).toNat)
  case atStart => exact ⟨2, rfl, by decide, Lib.hid ⟨fun _ => HO7.out, fun h => absurd h (by decide), fun h => absurd h (by decide), fun h => absurd h (by decide)⟩⟩
  case round =>
    obtain ⟨i, rfl, hi, HR⟩ := hrel
    by_cases hlt : i < 5
    · obtain rfl | rfl | rfl : i = 2 ∨ i = 3 ∨ i = 4 := by omega
      · have cF := HF2.out _ (HR.out.1 rfl)
        go_wp2_with (go_at_call 43; refine cF.mono ?_; rintro e w8 ⟨rfl, ho⟩; have HO8 := Lib.hid ho; clear ho)
        go_roundw
        case rel => exact ⟨3, by go_num, by decide, Lib.hid ⟨fun h => absurd h (by decide), fun _ => HO8.out, fun h => absurd h (by decide), fun h => absurd h (by decide)⟩⟩
        case measure => simp [intOf]
      · have cF := HF3.out _ (HR.out.2.1 rfl)
        go_wp2_with (go_at_call 43; refine cF.mono ?_; rintro e w8 ⟨rfl, ho⟩; have HO8 := Lib.hid ho; clear ho)
        go_roundw
        case rel => exact ⟨4, by go_num, by decide, Lib.hid ⟨fun h => absurd h (by decide), fun h => absurd h (by decide), fun _ => HO8.out, fun h => absurd h (by decide)⟩⟩
        case measure => simp [intOf]
      · have cF := HF4.out _ (HR.out.2.2.1 rfl)
        go_wp2_with (go_at_call 43; refine cF.mono ?_; rintro e w8 ⟨rfl, ho⟩; have HO8 := Lib.hid ho; clear ho)
        go_roundw
        case rel => exact ⟨5, by go_num, by decide, Lib.hid ⟨fun h => absurd h (by decide), fun h => absurd h (by decide), fun h => absurd h (by decide), fun _ => HO8.out⟩⟩
        case measure => simp [intOf]
    · obtain rfl : i = 5 := by omega
      have HO9 : Hid (OwnV w.heap.size w g (ints L6) wr) := Lib.hid (HR.out.2.2.2 rfl)
      go_wp2_with fail
      go_ret2
      first | exact ⟨g, L6, rfl, HO9.out, HFULL.out⟩ | exact ⟨g, rfl, L6, HO9.out, HFULL.out⟩ | exact ⟨L6, g, rfl, HO9.out, HFULL.out⟩

end Go.Proofs.Ytdbkhhmadefccaa
