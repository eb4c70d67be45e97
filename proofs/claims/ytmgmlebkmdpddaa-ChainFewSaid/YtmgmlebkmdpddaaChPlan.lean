/-
  Proved here: what the landed chain's Plan answers of the extents of sound pointers and of fresh blocks.
  The conditions stand at each theorem.
-/
import Derived.Test.YtmgmlebkmdpddaaChPieces
import Derived.Test.YtmgmlebkmdpddaaChClone
import Derived.Test.YtmgmlebkmdpddaaChApart
import Derived.Test.YtmgmlebkmdpddaaExtTo
import Derived.Test.YtmgmlebkmdpddaaRoundWp
namespace Go.Proofs.Ytmgmlebkmdpddaa
open Go.RowKit Go.Shelf
set_option linter.unusedVariables false
set_option linter.unusedSimpArgs false
attribute [local go_sem] Oper.semAt_some

theorem run_make_writes (w : World) (K : Nat) (hK : K ≤ 1000) : (Instr.makeSlice 38 (.int .i64 (K : Int)) (.int .i64 (K : Int))).run Try.prog w =
    .ok (.slice (some ⟨w.heap.size, 0, none⟩) K K) (w.alloc (.cells (madeCells #[.int .i64 0, .slice none 0 0] (K * 2)) 54)) := by
  have hinfo : (Try.prog.info? 54).map (fun i => (i.zero, i.size, i.bytes)) = some (some (.agg #[.int .i64 0, .slice none 0 0]), 2, 32) := by kernel_rfl
  obtain ⟨i0, hi, hz0, hz1, hz2⟩ := info_parts hinfo
  have h := run_make (P := Try.prog) w 38 54 i0 (.agg #[.int .i64 0, .slice none 0 0]) Try.underlying38 hi hz0 .i64 .i64 (K : Int) (K : Int) (by omega) (Int.le_refl _) (by rw [hz2]; omega) (by omega)
  simpa [hz1, Value.cells] using h

theorem made_write (K j : Nat) (h : j < K) : (madeCells #[Value.int .i64 0, .slice none 0 0] (K * 2))[j * 2]? = some (.int .i64 0) ∧ (madeCells #[Value.int .i64 0, .slice none 0 0] (K * 2))[j * 2 + 1]? = some (.slice none 0 0) := by
  constructor
  · simp [madeCells, show j * 2 < K * 2 by omega]
  · simp [madeCells, show j * 2 + 1 < K * 2 by omega, show (j * 2 + 1) % 2 = 1 by omega]

/-- The cells of a node of which the format, the extents and the chain alone are said. -/
def nodeCs (v : Value) (f c : Int) : List Value := [.int .i64 0, .int .i64 f, .int .i64 0, .int .i64 0, .int .i64 0, .int .i64 0, .int .i64 0, .int .i64 0, .int .i64 0, .int .i64 0, v, .int .i64 c]
def nodeC (v : Value) (f c : Int) : Value := .agg #[.int .i64 0, .int .i64 f, .int .i64 0, .int .i64 0, .int .i64 0, .int .i64 0, .int .i64 0, .int .i64 0, .int .i64 0, .int .i64 0, v, .int .i64 c]

theorem there_laterC {w w5 : World} {T : TypeId} {cs : Array Value} (hb : Below (w.alloc (.cells cs T)).heap.size (w.alloc (.cells cs T)) w5) {n : Nat} (hn : cs.size = n) : w5.there w.heap.size 0 n := by
  have hlt : w.heap.size < (w.alloc (.cells cs T)).heap.size := by simp
  intro j hj
  rw [Nat.zero_add, hb.frozen (p := ⟨w.heap.size, j, none⟩) hlt, hb.cell (p := ⟨w.heap.size, j, none⟩) hlt]
  refine ⟨?_, by rw [World.frozen?_alloc_mark]; simp⟩
  rw [World.cell?_alloc_new]
  simp
  omega

section
variable {ops : Array Oper} {rest : List Oper} {o : Oper} {a : Act} {w : World} {K : Act → World → Prop} {Q : Exit → Act → World → Prop} {E : Prop}
theorem wp_store_node (hgd : o.guard = none) (x y : Operand) (ho : o.op = .store 37 x y) (g : Nat) (v : Value) (f c : Int) (hx : a.eval x = .pointer (some ⟨g, 0, none⟩)) (hy : a.eval y = nodeC v f c) (hv : v.oneCell' = true) (ht : w.there g 0 12)
    (h : ∀ w', w'.rangeAt g 0 (nodeCs v f c) → Below g w w' → Keeps g w w' → wpList Try.prog ops Q rest (a.put o.dst undef) w') : wpList Try.prog ops Q (o :: rest) a w := by
  refine wpList_store_mid hgd 37 x y ho g 0 (nodeCs v f c).toArray hx hy ht (by show _ = some 12; kernel_rfl) (all_oneCell_toArray ?_) ?_
  · intro u hu
    simp only [nodeCs, List.mem_cons, List.mem_nil_iff, or_false] at hu
    rcases hu with rfl | rfl | rfl | rfl | rfl | rfl | rfl | rfl | rfl | rfl | rfl | rfl <;> first | rfl | exact hv
  · refine h _ (World.rangeAt_setCells_same _ g 0 _ ht) (below_cells g (Nat.le_refl _) _ _ _ (Below.refl _ _)) (Keeps.sets g _ 0 w)
theorem op_store_node (x y : Operand) (ho : o.op = .store 37 x y) (g : Nat) (v : Value) (f c : Int) (hx : a.eval x = .pointer (some ⟨g, 0, none⟩)) (hy : a.eval y = nodeC v f c) (hv : v.oneCell' = true) (ht : w.there g 0 12)
    (h : ∀ w', w'.rangeAt g 0 (nodeCs v f c) → Below g w w' → Keeps g w w' → K (a.put o.dst undef) w') : o.wp Try.prog a w K Q := by
  refine wp_store_mid 37 x y ho g 0 (nodeCs v f c).toArray hx hy ht (by show _ = some 12; kernel_rfl) (all_oneCell_toArray ?_) ?_
  · intro u hu
    simp only [nodeCs, List.mem_cons, List.mem_nil_iff, or_false] at hu
    rcases hu with rfl | rfl | rfl | rfl | rfl | rfl | rfl | rfl | rfl | rfl | rfl | rfl <;> first | rfl | exact hv
  · exact h _ (World.rangeAt_setCells_same _ g 0 _ ht) (below_cells g (Nat.le_refl _) _ _ _ (Below.refl _ _)) (Keeps.sets g _ 0 w)
end

theorem results_node {fn : Func} {p u q : Tmp} (h : fn.results = #[.cell p 37, .tmp u, .tmp q]) {tmps : Array Value} {g : Nat} {v : Value} {f c : Int} {w : World} (hp : tmps.getD p undef = .pointer (some ⟨g, 0, none⟩)) (hr : w.rangeAt g 0 (nodeCs v f c)) :
    (results fn tmps).run Try.prog w = .ok (.tuple #[nodeC v f c, tmps.getD u undef, tmps.getD q undef]) w := by
  have hp' : tmps[p]?.getD undef = .pointer (some ⟨g, 0, none⟩) := by simpa using hp
  have hL : (loadVar 37 ⟨g, 0, none⟩).run Try.prog w = .ok (.agg (nodeCs v f c).toArray) w := run_loadVar_mid w g 0 37 (nodeCs v f c) _ hr Try.underlying37 rfl (by show _ = some 12; kernel_rfl)
  simp only [results, h]
  simp [Sem.run_bind, Result.andThen, asAddr, hp', hL, nodeC, nodeCs]

set_option maxRecDepth 100000 in
set_option maxHeartbeats 3200000 in
theorem chPlan_few {w : World} {ao bo : Option Addr} {n cap m c K : Nat} {l fs : List Int} (hE : EIs w ao n (fromE 0 l)) (hok : ptrsOk l = true) (hF : IArg w bo m c fs) (hK : (K : Int) = chNeed n) (hn : n ≤ 96) (hm : m < K) :
    Calls Try.prog 8 #[.slice ao n cap, .slice bo m c] w fun e w' => e = .returned (.tuple #[.agg #[.int .i64 0, .int .i64 0, .int .i64 0, .int .i64 0, .int .i64 0, .int .i64 0, .int .i64 0, .int .i64 0, .int .i64 0, .int .i64 0, .slice none 0 0, .int .i64 0], .slice none 0 0, .int .i64 6]) ∧ Below w.heap.size w w' := by
  have cN := chNeed_any (n : Int)
  rw [if_neg (by omega), if_neg (by omega), ← hK] at cN
  have HT : Hid (∀ W, Below w.heap.size w W → Calls Try.prog 10 #[.slice ao n cap] W fun e w' => ∃ v, e = .returned (.tuple #[v, .int .i64 0]) ∧ FreshI w' W.heap.size v (trimL l) ∧ Below W.heap.size W w') := Lib.hid (fun W hW => To_any (cap := cap) (hE.later hW) hok)
  have BA : Hid (∀ (cs : Array Value) (T : TypeId), Below w.heap.size w (w.alloc (.cells cs T))) := Lib.hid (fun cs T => (Below.refl _ _).alloc (Nat.le_refl _) _)
  have k1 : (m : Int) < (K : Int) := by omega
  have HX := Lib.hid hE
  have HF := Lib.hid hF
  have HK := Lib.hid hK
  clear hE hok hF hK
  go_enter Try.func8, Try.ntmps8
  go_wp2_with (first
    | (refine wp_store_node rfl (.tmp 4) (.tmp 36) rfl w.heap.size (.slice none 0 0) 0 0 rfl rfl rfl (there_laterC HB3.out rfl) ?_; intro w5 hr5 hb5 _; have HR5 := Lib.hid hr5; have HB5 := Lib.hid hb5; clear hr5 hb5)
    | (go_at_call 5; refine (cN _).mono ?_; rintro e w4 ⟨rfl, rfl⟩)
    | (go_at_call 10; refine (HT.out _ (BA.out _ _)).mono ?_; rintro e w3 ⟨v3, rfl, hf3, hb3⟩; have HB3 := Lib.hid hb3; clear hb3))
  refine bodyPost_ret (results_node rfl rfl HR5.out) rfl ?_
  exact ⟨rfl, ((BA.out _ _).trans (HB3.out.mono (BA.out _ _).size)).trans HB5.out⟩

/-! ### What is there between two rounds -/

/-- The extents of a piece. -/
def pieceX (xs : List EX) (i : Nat) : List EX := (xs.drop (3 + 14 * i)).take 14
/-- What the blocks are when some pieces were written: of each its number and its bytes; and which block comes next. -/
def stepC (xs : List EX) (fs : List Int) (s : (Nat → Option (Int × List Int)) × Int) (x : Nat) : (Nat → Option (Int × List Int)) × Int :=
  (fun j => if j = x then some (fs.getD x 0, chBlock (pieceX xs x) s.2) else s.1 j, fs.getD x 0)
def stC (xs : List EX) (fs : List Int) (pre : List Nat) : (Nat → Option (Int × List Int)) × Int := pre.foldl (stepC xs fs) (fun _ => none, 0)
theorem stC_snoc (xs : List EX) (fs : List Int) (pre : List Nat) (x : Nat) : stC xs fs (pre ++ [x]) = stepC xs fs (stC xs fs pre) x := by
  unfold stC
  rw [List.foldl_append]
  rfl

/-- A value that is a slice of these bytes, in a block from B0 on. -/
def DatC (W : World) (B0 : Nat) (v : Value) (L : List Int) : Prop := ∃ ao cap, v = .slice ao L.length cap ∧ Arg W ao L.length cap L ∧ (L = [] ∨ ∃ g off, ao = some ⟨g, off, none⟩ ∧ B0 ≤ g)
theorem DatC.of_cells {W W' : World} {B0 : Nat} {v : Value} {L : List Int} (h : DatC W B0 v L) (hc : ∀ (p : Addr) u, B0 ≤ p.block → W.cell? p = some u → W'.cell? p = some u) : DatC W' B0 v L := by
  obtain ⟨ao, cap, h1, ⟨⟨b1, b2, b3, b4⟩, h2⟩, h3⟩ := h
  refine ⟨ao, cap, h1, ⟨⟨b1, b2, b3, ?_⟩, h2⟩, h3⟩
  rcases b4 with b4 | ⟨b, off, rfl, b4⟩
  · exact Or.inl b4
  · refine Or.inr ⟨b, off, rfl, fun j hj => hc _ _ ?_ (b4 j hj)⟩
    rcases h3 with h3 | ⟨g, o, he, hg⟩
    · rw [h3] at hj; simp at hj
    · cases he; exact hg
theorem Fresh.datC {W : World} {B0 : Nat} {v : Value} {L : List Int} (h : Fresh W B0 v L) : DatC W B0 v L := by
  obtain ⟨ao, cap, h1, h2, h3⟩ := h
  exact ⟨ao, cap, h1, h2, h3.imp_right (fun ⟨g, off, e, hg, _⟩ => ⟨g, off, e, hg⟩)⟩

/-- What a block's place in the list holds. -/
def SlotC (W : World) (g B0 j : Nat) : Option (Int × List Int) → Prop
  | none => W.cell? ⟨g, j * 2, none⟩ = some (.int .i64 0) ∧ W.cell? ⟨g, j * 2 + 1, none⟩ = some (.slice none 0 0)
  | some (a, L) => W.cell? ⟨g, j * 2, none⟩ = some (.int .i64 a) ∧ ∃ v, W.cell? ⟨g, j * 2 + 1, none⟩ = some v ∧ DatC W B0 v L
theorem SlotC.there {W : World} {g B0 j : Nat} {x : Option (Int × List Int)} (h : SlotC W g B0 j x) : (∃ v, W.cell? ⟨g, j * 2, none⟩ = some v) ∧ ∃ v, W.cell? ⟨g, j * 2 + 1, none⟩ = some v := by
  cases x with
  | none => exact ⟨⟨_, h.1⟩, _, h.2⟩
  | some p => obtain ⟨v, hv, _⟩ := h.2; exact ⟨⟨_, h.1⟩, v, hv⟩
theorem SlotC.of_cells {W W' : World} {g B0 j : Nat} {x : Option (Int × List Int)} (h : SlotC W g B0 j x) (hg : ∀ u o, (o = j * 2 ∨ o = j * 2 + 1) → W.cell? ⟨g, o, none⟩ = some u → W'.cell? ⟨g, o, none⟩ = some u) (hc : ∀ (p : Addr) u, B0 ≤ p.block → W.cell? p = some u → W'.cell? p = some u) : SlotC W' g B0 j x := by
  cases x with
  | none => exact ⟨hg _ _ (Or.inl rfl) h.1, hg _ _ (Or.inr rfl) h.2⟩
  | some p => obtain ⟨v, hv, hd⟩ := h.2; exact ⟨hg _ _ (Or.inl rfl) h.1, v, hg _ _ (Or.inr rfl) hv, hd.of_cells hc⟩

/-- Where the loop's variables lie, and what they hold. -/
structure PlanI (w0 : World) (Bo Bb Bn g K c : Nat) (bo : Option Addr) (B0 : Nat) (s : (Nat → Option (Int × List Int)) × Int) (W : World) : Prop where
  own : W.cell? ⟨Bo, 0, none⟩ = some (.slice bo K c)
  blk : W.cell? ⟨Bb, 0, none⟩ = some (.slice (some ⟨g, 0, none⟩) K K)
  nxt : W.cell? ⟨Bn, 0, none⟩ = some (.int .i64 s.2)
  nf : W.frozen? ⟨Bn, 0, none⟩ = false
  gf : ∀ j, j < K → W.frozen? ⟨g, j * 2, none⟩ = false ∧ W.frozen? ⟨g, j * 2 + 1, none⟩ = false
  cells : ∀ j, j < K → SlotC W g B0 j (s.1 j)
  bel : Below w0.heap.size w0 W
  lt : B0 ≤ W.heap.size

theorem PlanI.kept {w0 : World} {Bo Bb Bn g K c : Nat} {bo : Option Addr} {B0 : Nat} {s : (Nat → Option (Int × List Int)) × Int} {W W' : World} (h : PlanI w0 Bo Bb Bn g K c bo B0 s W) (hc : ∀ (p : Addr) u, W.cell? p = some u → W'.cell? p = some u)
    (hf : ∀ (p : Addr) u, W.cell? p = some u → W'.frozen? p = W.frozen? p) (hb : Below w0.heap.size w0 W') (hl : W.heap.size ≤ W'.heap.size) : PlanI w0 Bo Bb Bn g K c bo B0 s W' where
  own := hc _ _ h.own
  blk := hc _ _ h.blk
  nxt := hc _ _ h.nxt
  nf := (hf _ _ h.nxt).trans h.nf
  gf := fun j hj => by
    obtain ⟨⟨u, hu⟩, v, hv⟩ := (h.cells j hj).there
    exact ⟨(hf _ _ hu).trans (h.gf j hj).1, (hf _ _ hv).trans (h.gf j hj).2⟩
  cells := fun j hj => (h.cells j hj).of_cells (fun u o _ hu => hc _ _ hu) (fun p u _ hu => hc _ _ hu)
  bel := hb
  lt := Nat.le_trans h.lt hl

theorem PlanI.later {w0 : World} {Bo Bb Bn g K c : Nat} {bo : Option Addr} {B0 : Nat} {s : (Nat → Option (Int × List Int)) × Int} {W W' : World} (h : PlanI w0 Bo Bb Bn g K c bo B0 s W) (hb : Below W.heap.size W W') : PlanI w0 Bo Bb Bn g K c bo B0 s W' :=
  h.kept (fun p u hu => cell_later hb hu) (fun p u hu => hb.frozen (p := p) (World.block_lt_of_cell? W p hu)) (h.bel.trans (hb.mono h.bel.size)) hb.size

theorem PlanI.from {w0 : World} {Bo Bb Bn g K c : Nat} {bo : Option Addr} {B0 B : Nat} (hB : w0.heap.size ≤ B) {α : Type} (f : α → (Nat → Option (Int × List Int)) × Int) : OwnFrom B (fun (x : α) W => PlanI w0 Bo Bb Bn g K c bo B0 (f x) W) :=
  fun x W W' row hs hg hr => hs.kept (fun p u hu => cell_kept hu hg (fun r e => (hr r e).2)) (fun p u hu => frozen_kept hu hg (fun r e => (hr r e).2)) (hs.bel.grown hg hs.bel.size (fun k e => Nat.le_trans hB (hr k e).1)) hg.size

theorem stC_i64 {xs : List EX} {fs : List Int} (hf : ∀ z ∈ fs, I64 z) (pre : List Nat) : I64 (stC xs fs pre).2 := by
  rcases List.eq_nil_or_concat pre with rfl | ⟨p, x, rfl⟩
  · show I64 0; exact ⟨by decide, by decide⟩
  · rw [List.concat_eq_append, stC_snoc]
    show I64 (fs.getD x 0)
    by_cases h : x < fs.length
    · rw [List.getD_eq_getElem?_getD, List.getElem?_eq_getElem h]
      exact hf _ (List.getElem_mem _)
    · rw [getD_behind _ _ (by omega)]
      exact ⟨by decide, by decide⟩

theorem blk_ne {p q : Addr} (h : p.block ≠ q.block) : p ≠ q := fun e => h (by rw [e])
theorem set_same (w : World) (a : Addr) (v : Value) (h : ∃ u, w.cell? a = some u) : (w.setCell a v).cell? a = some v := by
  obtain ⟨u, hu⟩ := h
  exact World.cell?_setCell_same' _ _ _ (by rw [hu]; rfl)
theorem set_far {w : World} {p a : Addr} (v : Value) (h : a ≠ p) : (w.setCell p v).cell? a = w.cell? a := World.cell?_setCell_other w p a v (fun e => h e.symm)

/-- A round: a block was written, and which comes next. -/
theorem plan_step {w0 : World} {Bo Bb Bn g K c : Nat} {bo : Option Addr} {B0 : Nat} {xs : List EX} {fs : List Int} {s : (Nat → Option (Int × List Int)) × Int} {W w5 : World} (h : PlanI w0 Bo Bb Bn g K c bo B0 s W) (hb : Below W.heap.size W w5) {x : Nat} (hx : x < K) {v5 : Value} (hv : DatC w5 W.heap.size v5 (chBlock (pieceX xs x) s.2))
    (d1 : Bo ≠ g) (d2 : Bb ≠ g) (d3 : Bn ≠ g) (d4 : Bo ≠ Bn) (d5 : Bb ≠ Bn) (d6 : g < B0) (d7 : Bn < B0) (d8 : w0.heap.size ≤ g) (d9 : w0.heap.size ≤ Bn) {B : Nat} (d10 : B ≠ g) (d11 : B ≠ Bn) (W7 : World)
    (hW : W7 = ((w5.setCell ⟨g, x * 2, none⟩ (.int .i64 (fs.getD x 0))).setCell ⟨g, x * 2 + 1, none⟩ v5).setCell ⟨Bn, 0, none⟩ (.int .i64 (fs.getD x 0))) :
    PlanI w0 Bo Bb Bn g K c bo B0 (stepC xs fs s x) W7 ∧ KeepsFrom B0 W W7 ∧ KeepsC B W W7 := by
  have h5 := h.later hb
  obtain ⟨A1, h1⟩ : ∃ A1, w5.setCell ⟨g, x * 2, none⟩ (.int .i64 (fs.getD x 0)) = A1 := ⟨_, rfl⟩
  rw [h1] at hW
  obtain ⟨A2, h2⟩ : ∃ A2, A1.setCell ⟨g, x * 2 + 1, none⟩ v5 = A2 := ⟨_, rfl⟩
  rw [h2] at hW
  have hcell : ∀ (p : Addr), p ≠ ⟨g, x * 2, none⟩ → p ≠ ⟨g, x * 2 + 1, none⟩ → p ≠ ⟨Bn, 0, none⟩ → W7.cell? p = w5.cell? p := fun p e1 e2 e3 => by
    rw [hW, set_far _ e3, ← h2, set_far _ e2, ← h1, set_far _ e1]
  have hfz : ∀ p, W7.frozen? p = w5.frozen? p := fun p => by rw [hW, World.frozen?_setCell, ← h2, World.frozen?_setCell, ← h1, World.frozen?_setCell]
  have hsz : W7.heap.size = w5.heap.size := by rw [hW, World.size_setCell, ← h2, World.size_setCell, ← h1, World.size_setCell]
  obtain ⟨⟨u0, hu0⟩, u1, hu1⟩ := (h5.cells x hx).there
  have c1 : W7.cell? ⟨g, x * 2, none⟩ = some (.int .i64 (fs.getD x 0)) := by
    rw [hW, set_far _ (blk_ne (by first | exact d1 | exact d2 | exact d3 | exact d4 | exact d5 | exact d10 | exact d11 | exact Ne.symm d3)), ← h2, set_far _ (by intro e; have := congrArg Addr.off e; simp at this), ← h1]
    exact set_same _ _ _ ⟨_, hu0⟩
  have c2 : W7.cell? ⟨g, x * 2 + 1, none⟩ = some v5 := by
    rw [hW, set_far _ (blk_ne (by first | exact d1 | exact d2 | exact d3 | exact d4 | exact d5 | exact d10 | exact d11 | exact Ne.symm d3)), ← h2]
    refine set_same _ _ _ ⟨u1, ?_⟩
    rw [← h1, set_far _ (by intro e; have := congrArg Addr.off e; simp at this)]
    exact hu1
  have c3 : W7.cell? ⟨Bn, 0, none⟩ = some (.int .i64 (fs.getD x 0)) := by
    rw [hW]
    refine set_same _ _ _ ⟨.int .i64 s.2, ?_⟩
    rw [← h2, set_far _ (blk_ne (by first | exact d1 | exact d2 | exact d3 | exact d4 | exact d5 | exact d10 | exact d11 | exact Ne.symm d3)), ← h1, set_far _ (blk_ne (by first | exact d1 | exact d2 | exact d3 | exact d4 | exact d5 | exact d10 | exact d11 | exact Ne.symm d3))]
    exact h5.nxt
  have hfar : ∀ (p : Addr) u, B0 ≤ p.block → w5.cell? p = some u → W7.cell? p = some u := fun p u hp hu => by
    rw [hcell p (by intro e; rw [e] at hp; exact absurd d6 (by show ¬ g < B0; have : B0 ≤ g := hp; omega)) (by intro e; rw [e] at hp; exact absurd d6 (by show ¬ g < B0; have : B0 ≤ g := hp; omega)) (by intro e; rw [e] at hp; exact absurd d7 (by show ¬ Bn < B0; have : B0 ≤ Bn := hp; omega))]
    exact hu
  refine ⟨{ own := ?_, blk := ?_, nxt := c3, nf := (hfz _).trans h5.nf, gf := fun j hj => ⟨(hfz _).trans (h5.gf j hj).1, (hfz _).trans (h5.gf j hj).2⟩, cells := fun j hj => ?_, bel := ?_, lt := by rw [hsz]; exact h5.lt }, ⟨by rw [hsz]; exact hb.size, fun k o hk ho _ => ?_⟩, fun v hv' => ?_⟩
  · rw [hcell _ (blk_ne (by first | exact d1 | exact d2 | exact d3 | exact d4 | exact d5 | exact d10 | exact d11 | exact Ne.symm d3)) (blk_ne (by first | exact d1 | exact d2 | exact d3 | exact d4 | exact d5 | exact d10 | exact d11 | exact Ne.symm d3)) (blk_ne (by first | exact d1 | exact d2 | exact d3 | exact d4 | exact d5 | exact d10 | exact d11 | exact Ne.symm d3))]
    exact h5.own
  · rw [hcell _ (blk_ne (by first | exact d1 | exact d2 | exact d3 | exact d4 | exact d5 | exact d10 | exact d11 | exact Ne.symm d3)) (blk_ne (by first | exact d1 | exact d2 | exact d3 | exact d4 | exact d5 | exact d10 | exact d11 | exact Ne.symm d3)) (blk_ne (by first | exact d1 | exact d2 | exact d3 | exact d4 | exact d5 | exact d10 | exact d11 | exact Ne.symm d3))]
    exact h5.blk
  · show SlotC W7 g B0 j (if j = x then some (fs.getD x 0, chBlock (pieceX xs x) s.2) else s.1 j)
    by_cases e : j = x
    · subst e
      rw [if_pos rfl]
      exact ⟨c1, v5, c2, (by
        have := hv.of_cells (W' := W7) (fun p u hp hu => hfar p u (Nat.le_trans h.lt hp) hu)
        obtain ⟨ao, cap, e1, e2, e3⟩ := this
        exact ⟨ao, cap, e1, e2, e3.imp_right (fun ⟨g', off, e, hg⟩ => ⟨g', off, e, Nat.le_trans h.lt hg⟩)⟩)⟩
    · rw [if_neg e]
      refine (h5.cells j hj).of_cells (fun u o ho hu => ?_) hfar
      rw [hcell _ (by intro e'; have := congrArg Addr.off e'; simp at this; omega) (by intro e'; have := congrArg Addr.off e'; simp at this; omega) (blk_ne (by first | exact d1 | exact d2 | exact d3 | exact d4 | exact d5 | exact d10 | exact d11 | exact Ne.symm d3))]
      exact hu
  · rw [hW, ← h2, ← h1]
    exact ((h5.bel.setCell (p := ⟨g, x * 2, none⟩) d8 _).setCell (p := ⟨g, x * 2 + 1, none⟩) d8 _).setCell (p := ⟨Bn, 0, none⟩) d9 _
  · have hlt := (Array.getElem?_eq_some_iff.1 ho).1
    rw [hW, Below.heap_setCell _ _ _ _ (by show k ≠ Bn; omega), ← h2, Below.heap_setCell _ _ _ _ (by show k ≠ g; omega), ← h1, Below.heap_setCell _ _ _ _ (by show k ≠ g; omega), hb.block k hlt]
    exact ho
  · rw [hcell _ (blk_ne (by first | exact d1 | exact d2 | exact d3 | exact d4 | exact d5 | exact d10 | exact d11 | exact Ne.symm d3)) (blk_ne (by first | exact d1 | exact d2 | exact d3 | exact d4 | exact d5 | exact d10 | exact d11 | exact Ne.symm d3)) (blk_ne (by first | exact d1 | exact d2 | exact d3 | exact d4 | exact d5 | exact d10 | exact d11 | exact Ne.symm d3))]
    exact cell_later hb hv'

theorem EIs.takeG {w : World} {ao : Option Addr} {n k : Nat} {xs : List EX} (h : EIs w ao n xs) (hk : k ≤ n) : EIs w ao k (xs.take k) := by
  obtain ⟨h1, h2, h3⟩ := h
  refine ⟨by rw [List.length_take]; omega, by omega, ?_⟩
  by_cases h0 : k = 0
  · exact Or.inl h0
  · obtain ⟨b', off', he, hc⟩ := h3.resolve_left (by omega)
    refine Or.inr ⟨b', off', he, fun i x hx => hc i x ?_⟩
    rw [List.getElem?_take] at hx
    split at hx
    · exact hx
    · cases hx
/-- Extents that lie in blocks from base on stay where other blocks alone are written. -/
theorem EIs.of_cells {w w' : World} {ao : Option Addr} {n base : Nat} {xs : List EX} (h : EIs w ao n xs) (hb : ∀ b o s, ao = some ⟨b, o, s⟩ → base ≤ b) (hc : ∀ (p : Addr) u, base ≤ p.block → w.cell? p = some u → w'.cell? p = some u) : EIs w' ao n xs := by
  obtain ⟨h1, h2, h3⟩ := h
  refine ⟨h1, h2, h3.imp_right ?_⟩
  rintro ⟨b, off, rfl, hx⟩
  refine ⟨b, off, rfl, fun i x hi => ?_⟩
  obtain ⟨c1, v, c2, c3⟩ := hx i x hi
  have := hb _ _ _ rfl
  exact ⟨hc _ _ this c1, v, hc _ _ this c2, c3⟩
theorem RowX.eis2 {base : Nat} {w : World} {v : Value} {xs : List EX} (h : RowX base w v xs) (hn : xs.length ≤ 1000) : ∃ ao cap, v = .slice ao xs.length cap ∧ EIs w ao xs.length xs ∧ (∀ b o s, ao = some ⟨b, o, s⟩ → base ≤ b) ∧ (ao = none → cap = 0) := by
  obtain ⟨vs, h1, h2⟩ := h
  have h3 := h1.2
  obtain ⟨ao, cap, rfl⟩ := owns_shape_r h1
  refine ⟨ao, cap, rfl, h2.eis h1 hn, ?_, ?_⟩
  · rintro b o s rfl
    rcases h3 with ⟨h, _⟩ | ⟨g, cap', cur, h, hg, _⟩
    · cases h
    · cases h; exact hg
  · rintro rfl
    rcases h3 with ⟨h, _⟩ | ⟨g, cap', cur, h, hg, _⟩
    · simp only [Value.slice.injEq] at h; exact h.2.2
    · cases h

theorem EIs.piece {w : World} {b off n : Nat} {xs : List EX} (h : EIs w (some ⟨b, off, none⟩) n xs) {o k : Nat} (ho : o ≤ n) : EIs w (some ⟨b, off + o * 2, none⟩) (min k (n - o)) ((xs.drop o).take k) := by
  obtain ⟨h1, h2, h3⟩ := h
  refine ⟨by rw [List.length_take, List.length_drop, h1], by omega, ?_⟩
  by_cases h0 : min k (n - o) = 0
  · exact Or.inl h0
  · obtain ⟨b', off', he, hc⟩ := h3.resolve_left (by omega)
    simp only [Option.some.injEq, Addr.mk.injEq, and_true] at he
    obtain ⟨rfl, rfl⟩ := he
    refine Or.inr ⟨b, off + o * 2, rfl, fun i x hx => ?_⟩
    rw [List.getElem?_take] at hx
    split at hx
    · rw [List.getElem?_drop] at hx
      have := hc _ x hx
      rw [Nat.add_mul, ← Nat.add_assoc] at this
      exact this
    · cases hx

theorem from_fine {l : List Int} (h : ptrsOk l = true) : ∀ x ∈ fromE 0 l, fineX x := fun x hx => by
  obtain ⟨h1, h2, h3, h4, h5⟩ := (from_sound12 h).2.1 x hx
  exact ⟨⟨by omega, by omega⟩, by omega, h1, h3⟩

theorem plan_start (w0 w3 : World) (hb : Below w0.heap.size w0 w3) (bo : Option Addr) (K c : Nat) (t1 t2 t3 t4 t5 : TypeId) (lv : Value) (W : World)
    (hW : W = ((((w3.alloc (.cells #[.slice bo K c] t1)).alloc (.cells (madeCells #[.int .i64 0, .slice none 0 0] (K * 2)) t2)).alloc (.cells #[.slice (some ⟨w3.heap.size + 1, 0, none⟩) K K] t3)).alloc (.cells #[.int .i64 0] t4)).alloc (.cells #[lv] t5)) :
    PlanI w0 w3.heap.size (w3.heap.size + 1 + 1) (w3.heap.size + 1 + 1 + 1) (w3.heap.size + 1) K c bo W.heap.size (fun _ => none, 0) W ∧ W.cell? ⟨w3.heap.size + 1 + 1 + 1 + 1, 0, none⟩ = some lv ∧ W.heap.size = w3.heap.size + 5 := by
  obtain ⟨A1, h1⟩ : ∃ A1, w3.alloc (.cells #[.slice bo K c] t1) = A1 := ⟨_, rfl⟩
  rw [h1] at hW
  obtain ⟨A2, h2⟩ : ∃ A2, A1.alloc (.cells (madeCells #[.int .i64 0, .slice none 0 0] (K * 2)) t2) = A2 := ⟨_, rfl⟩
  rw [h2] at hW
  obtain ⟨A3, h3⟩ : ∃ A3, A2.alloc (.cells #[.slice (some ⟨w3.heap.size + 1, 0, none⟩) K K] t3) = A3 := ⟨_, rfl⟩
  rw [h3] at hW
  obtain ⟨A4, h4⟩ : ∃ A4, A3.alloc (.cells #[.int .i64 0] t4) = A4 := ⟨_, rfl⟩
  rw [h4] at hW
  have s1 : A1.heap.size = w3.heap.size + 1 := by rw [← h1]; simp
  have s2 : A2.heap.size = A1.heap.size + 1 := by rw [← h2]; simp
  have s3 : A3.heap.size = A2.heap.size + 1 := by rw [← h3]; simp
  have s4 : A4.heap.size = A3.heap.size + 1 := by rw [← h4]; simp
  have s5 : W.heap.size = A4.heap.size + 1 := by rw [hW]; simp
  have b1 : Below w3.heap.size w3 A1 := by rw [← h1]; exact (Below.refl _ _).alloc (Nat.le_refl _) _
  have b2 : Below A1.heap.size A1 A2 := by rw [← h2]; exact (Below.refl _ _).alloc (Nat.le_refl _) _
  have b3 : Below A2.heap.size A2 A3 := by rw [← h3]; exact (Below.refl _ _).alloc (Nat.le_refl _) _
  have b4 : Below A3.heap.size A3 A4 := by rw [← h4]; exact (Below.refl _ _).alloc (Nat.le_refl _) _
  have b5 : Below A4.heap.size A4 W := by rw [hW]; exact (Below.refl _ _).alloc (Nat.le_refl _) _
  have l4 : Below A3.heap.size A3 W := b4.trans (b5.mono b4.size)
  have l3 : Below A2.heap.size A2 W := b3.trans (l4.mono b3.size)
  have l2 : Below A1.heap.size A1 W := b2.trans (l3.mono b2.size)
  have l1 : Below w3.heap.size w3 W := b1.trans (l2.mono b1.size)
  have c1 : A1.cell? ⟨w3.heap.size, 0, none⟩ = some (.slice bo K c) := by rw [← h1, World.cell?_alloc_new]; rfl
  have c3 : A3.cell? ⟨A2.heap.size, 0, none⟩ = some (.slice (some ⟨w3.heap.size + 1, 0, none⟩) K K) := by rw [← h3, World.cell?_alloc_new]; rfl
  have c4 : A4.cell? ⟨A3.heap.size, 0, none⟩ = some (.int .i64 0) := by rw [← h4, World.cell?_alloc_new]; rfl
  have c5 : W.cell? ⟨A4.heap.size, 0, none⟩ = some lv := by rw [hW, World.cell?_alloc_new]; rfl
  have f4 : A4.frozen? ⟨A3.heap.size, 0, none⟩ = false := by rw [← h4, World.frozen?_alloc_mark]; simp
  have f2 : ∀ o, A2.frozen? ⟨A1.heap.size, o, none⟩ = false := fun o => by rw [← h2, World.frozen?_alloc_mark]; simp
  have e1 : A1.heap.size = w3.heap.size + 1 := s1
  have e2 : A2.heap.size = w3.heap.size + 1 + 1 := by omega
  have e3 : A3.heap.size = w3.heap.size + 1 + 1 + 1 := by omega
  have e4 : A4.heap.size = w3.heap.size + 1 + 1 + 1 + 1 := by omega
  rw [e2] at c3
  rw [e3] at c4 f4
  rw [e4] at c5
  rw [e1] at f2
  refine ⟨{ own := cell_later l2 c1, blk := cell_later l4 c3, nxt := cell_later b5 c4, nf := ?_, gf := fun j hj => ⟨?_, ?_⟩, cells := fun j hj => ⟨?_, ?_⟩, bel := hb.trans (l1.mono hb.size), lt := Nat.le_refl _ }, c5, by omega⟩
  · rw [b5.frozen (p := ⟨w3.heap.size + 1 + 1 + 1, 0, none⟩) (by show w3.heap.size + 1 + 1 + 1 < A4.heap.size; omega)]; exact f4
  · rw [l3.frozen (p := ⟨w3.heap.size + 1, j * 2, none⟩) (by show w3.heap.size + 1 < A2.heap.size; omega)]; exact f2 _
  · rw [l3.frozen (p := ⟨w3.heap.size + 1, j * 2 + 1, none⟩) (by show w3.heap.size + 1 < A2.heap.size; omega)]; exact f2 _
  · refine cell_later l3 ?_
    rw [← h2, ← e1, World.cell?_alloc_new]
    exact (made_write K j hj).1
  · refine cell_later l3 ?_
    rw [← h2, ← e1, World.cell?_alloc_new]
    exact (made_write K j hj).2

theorem IArg.takeG {w : World} {bo : Option Addr} {m c k : Nat} {zs : List Int} (h : IArg w bo m c zs) (hk : k ≤ m) : IArg w bo k c (zs.take k) := by
  cases bo with
  | some ad =>
    by_cases h0 : m = 0
    · subst h0
      obtain rfl : k = 0 := by omega
      rw [List.take_zero]
      exact ⟨⟨rfl, by decide, Or.inl rfl⟩, by simp, (fun e => by cases e), Nat.zero_le _⟩
    · obtain ⟨b, off, he, _⟩ := h.1.2.2.resolve_left h0
      cases he
      exact h.take hk
  | none =>
    obtain ⟨rfl, rfl⟩ := h.2.2.1 rfl
    obtain rfl : k = 0 := by omega
    rw [List.take_zero]
    exact IArg.nil w

end Go.Proofs.Ytmgmlebkmdpddaa
