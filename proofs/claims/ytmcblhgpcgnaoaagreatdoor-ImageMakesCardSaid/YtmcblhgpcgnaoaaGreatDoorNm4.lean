/-
  Proved here: what the landed node's write answers. The conditions stand at each theorem. Proved here: what the landed node's get answers: the numbers of the places, read into a half. The conditions stand at each theorem. Proved here: what the landed node's fromSlots answers. The conditions stand at each theorem. Proved here: what comes of a node when its numbers are put place by place is its half of a block. The conditions stand at each theorem. Nothing of the program is read here. Proved here: what the landed node's soundMap answers. The conditions stand at each theorem.
-/
import Derived.Test.YtmcblhgpcgnaoaaGreatDoorNm3
import Derived.Test.YtmcblhgpcgnaoaaGreatDoorNm1
import Derived.Deep.RegionHeld
import Derived.Deep.Cut
namespace Go.Proofs.YtmcblhgpcgnaoaaGreatDoor
open Go.RowKit
set_option linter.unusedVariables false
set_option linter.unusedSimpArgs false

set_option maxRecDepth 100000 in
/-- 'append([]byte{}, b...)' of bytes that are there. -/
theorem clone_any (ad : Addr) (len cap : Nat) (zs : List Int) (w : World) (hA : Arg w (some ad) len cap zs) :
    Calls Tryz.prog 200 #[.slice (some ad) len cap] w (Gives w.heap.size w zs) := by
  obtain ⟨hB, hnil, _, hlen⟩ := hA
  have hown := World.ownsRow_made (base := w.heap.size) (e := 5) (size := 1) w #[] 0 (Nat.le_refl _) (by decide) rfl
  have hb0 : Below w.heap.size w (w.alloc (.cells #[] 5)) := (Below.refl _ _).alloc (Nat.le_refl _) _
  have hA0 := hB.later hb0
  have HZ := Lib.hid hB.2.2.1
  have EQ : ∀ w, (binOp .eql 62 (.slice (some ad) len cap) (.slice none 0 0)).run Tryz.prog w = .ok (.bool false) w := fun w => by
    simp only [binOp]
    simp [run_equal_slice_nil w 62 5 (some ad) len cap Tryz.underlying62]
  clear hB hnil
  go_enter Tryz.func200, Tryz.ntmps200
  go_wp2_with (at_builtin; refine wp_append_bytes rfl (.tmp 5) (.tmp 6) rfl w.heap.size 0 _ [] rfl hown (some ad) len cap zs rfl hA0 (by simp) (by omega) (by simp) ?_; intro v1 w1 hown1 hb1; have HB1 := Lib.hid (hb0.trans hb1); have HO1 := Lib.hid hown1; clear hown1 hb1 hown hA0)
  go_ret
  have h := HO1.out
  rw [Nat.zero_add, List.nil_append] at h
  exact ⟨_, rfl, fresh_of_owns h HZ.out hlen, HB1.out⟩

/-- A variable that was made, behind a draw. -/
theorem made_later {w w5 : World} {T : TypeId} {cs : Array Value} (hb : Below (w.alloc (.cells cs T)).drew.heap.size (w.alloc (.cells cs T)).drew w5) :
    (∀ j v, cs[j]? = some v → w5.cell? ⟨w.heap.size, j, none⟩ = some v) ∧ ∀ j, w5.frozen? ⟨w.heap.size, j, none⟩ = false := by
  refine ⟨fun j v h => cell_later hb (show (w.alloc (.cells cs T)).cell? ⟨w.heap.size, j, none⟩ = some v by rw [World.cell?_alloc_new]; exact h), fun j => ?_⟩
  have hlt : w.heap.size < (w.alloc (.cells cs T)).drew.heap.size := by show _ < (w.alloc (.cells cs T)).heap.size; simp
  rw [hb.frozen (p := ⟨w.heap.size, j, none⟩) hlt]
  show (w.alloc (.cells cs T)).frozen? ⟨w.heap.size, j, none⟩ = false
  rw [World.frozen?_alloc_mark]; simp

theorem there_new (w : World) (cs : Array Value) (T : TypeId) {n : Nat} (h : cs.size = n) : (w.alloc (.cells cs T)).there w.heap.size 0 n := by
  intro j hj
  refine ⟨?_, by rw [World.frozen?_alloc_mark]; simp⟩
  rw [World.cell?_alloc_new]
  simp
  omega
theorem there_made {w5 : World} {g : Nat} {cs : Array Value} (h : (∀ j v, cs[j]? = some v → w5.cell? ⟨g, j, none⟩ = some v) ∧ ∀ j, w5.frozen? ⟨g, j, none⟩ = false) {n : Nat} (hn : cs.size = n) : w5.there g 0 n := by
  intro j hj
  refine ⟨?_, h.2 _⟩
  rw [Nat.zero_add, h.1 j cs[j] (by simp [hn, hj])]
  rfl
theorem below_setCells {B g : Nat} {a w : World} (h : Below B a w) (hg : B ≤ g) : ∀ (vs : List Value) (o : Nat), Below B a (w.setCells g o vs)
  | [], _ => h
  | v :: r, o => below_setCells (h.setCell (p := ⟨g, o, none⟩) hg v) hg r (o + 1)

/-- What comes of a block when numbers are put, place by place. -/
def wrt9 (val : Nat → Int) (zs : List Int) (ps : List Pl) : List Int := ps.foldl (fun z p => setOut z p.1 p.2.1 (val p.2.2)) zs

theorem wrt9_snoc (val : Nat → Int) (zs : List Int) (ps : List Pl) (p : Pl) : wrt9 val zs (ps ++ [p]) = setOut (wrt9 val zs ps) p.1 p.2.1 (val p.2.2) := by
  unfold wrt9; rw [List.foldl_append]; rfl

/-- The numbers of a node, cell by cell. -/
def valOf (n : PNode) (o : Nat) : Int := [n.k, n.f, n.l, n.z, n.d0, n.d1, n.d2, n.d3, n.s, n.t, 0, n.c, slotI n.x 0, slotI n.x 1, slotI n.x 2, slotI n.x 3, slotI n.x 4, slotI n.x 5, slotI n.x 6, slotI n.x 7, slotI n.x 8].getD o 0

/-- Block g holds a half: a node and its slots. -/
def HalfAt (w : World) (g : Nat) (n : PNode) : Prop := ∀ o, o < 21 → o ≠ 10 → w.cell? ⟨g, o, none⟩ = some (.int .i64 (valOf n o))

theorem HalfAt.later {w w' : World} {g : Nat} {n : PNode} (h : HalfAt w g n) (hb : Below w.heap.size w w') : HalfAt w' g n := fun o h1 h2 => cell_later hb (h o h1 h2)

/-- Places in memory. -/
def PlcAt (w : World) (gp g : Nat) (ps : List Pl) : Prop := ∀ i p, ps[i]? = some p → w.cell? ⟨gp, i * 3, none⟩ = some (.int .i64 p.1) ∧ w.cell? ⟨gp, i * 3 + 1, none⟩ = some (.int .i64 p.2.1) ∧ w.cell? ⟨gp, i * 3 + 2, none⟩ = some (.pointer (some ⟨g, p.2.2, none⟩))

theorem PlcAt.later {w w' : World} {gp g : Nat} {ps : List Pl} (h : PlcAt w gp g ps) (hb : Below w.heap.size w w') : PlcAt w' gp g ps := fun i p hp => by
  obtain ⟨h1, h2, h3⟩ := h i p hp
  exact ⟨cell_later hb h1, cell_later hb h2, cell_later hb h3⟩

theorem Places.at {w : World} {base g : Nat} {v : Value} {ps : List Pl} (h : Places w base g v ps) (h0 : 0 < ps.length) : ∃ gp cap, v = .slice (some ⟨gp, 0, none⟩) ps.length cap ∧ base ≤ gp ∧ PlcAt w gp g ps := by
  unfold Places at h
  obtain ⟨gp, cap, hv, hg, _⟩ := h.form h0
  refine ⟨gp, cap, hv, hg, fun i p hp => ?_⟩
  obtain ⟨h1, h2, h3⟩ := placesV_at g ps i p hp
  have c := h.cells (g := gp) (by rw [hv]; rfl)
  have c1 := c _ _ h1
  have c2 := c _ _ h2
  have c3 := c _ _ h3
  rw [Go.WideShapes.add_plain, Nat.zero_add] at c1 c2 c3
  exact ⟨c1, c2, c3⟩

theorem fresh_form9 {w : World} {base : Nat} {v : Value} {l : List Int} (h : Fresh w base v l) : ∃ ao cap, v = .slice ao l.length cap ∧ Arg w ao l.length cap l := by
  obtain ⟨ao, cap, hv, hA, _⟩ := h
  exact ⟨ao, cap, hv, hA⟩

theorem half_stored {W : World} {g : Nat} (ht : W.there g 0 21) (n : PNode) (v : Value) : HalfAt (W.setCells g 0 [.int .i64 n.k, .int .i64 n.f, .int .i64 n.l, .int .i64 n.z, .int .i64 n.d0, .int .i64 n.d1, .int .i64 n.d2, .int .i64 n.d3, .int .i64 n.s, .int .i64 n.t, v, .int .i64 n.c, .int .i64 (slotI n.x 0), .int .i64 (slotI n.x 1), .int .i64 (slotI n.x 2), .int .i64 (slotI n.x 3), .int .i64 (slotI n.x 4), .int .i64 (slotI n.x 5), .int .i64 (slotI n.x 6), .int .i64 (slotI n.x 7), .int .i64 (slotI n.x 8)]) g n := by
  intro o ho hne
  have h := World.rangeAt_setCells_same W g 0 [.int .i64 n.k, .int .i64 n.f, .int .i64 n.l, .int .i64 n.z, .int .i64 n.d0, .int .i64 n.d1, .int .i64 n.d2, .int .i64 n.d3, .int .i64 n.s, .int .i64 n.t, v, .int .i64 n.c, .int .i64 (slotI n.x 0), .int .i64 (slotI n.x 1), .int .i64 (slotI n.x 2), .int .i64 (slotI n.x 3), .int .i64 (slotI n.x 4), .int .i64 (slotI n.x 5), .int .i64 (slotI n.x 6), .int .i64 (slotI n.x 7), .int .i64 (slotI n.x 8)] ht o (.int .i64 (valOf n o))
  rw [Nat.zero_add] at h
  apply h
  match o, ho, hne with
  | 0, _, _ | 1, _, _ | 2, _, _ | 3, _, _ | 4, _, _ | 5, _, _ | 6, _, _ | 7, _, _ | 8, _, _ | 9, _, _ | 11, _, _ | 12, _, _ | 13, _, _ | 14, _, _ | 15, _, _ | 16, _, _ | 17, _, _ | 18, _, _ | 19, _, _ | 20, _, _ => rfl
  | 10, _, h => exact absurd rfl h
  | o + 21, h, _ => exact absurd h (by omega)

section
variable {ops : Array Oper} {rest : List Oper} {o : Oper} {a : Act} {w : World} {Q : Exit → Act → World → Prop}
/-- 'append(head, body...)' of two rows of places, of which the second may be empty. -/
theorem wp_append_pl (hgd : o.guard = none) (s y : Operand) (ho : o.op = .call { callee := .builtin .append, args := #[s, y], argTypes := #[261, 261] })
    (base b7 g : Nat) (v6 v7 : Value) (ps qs : List Pl) (hs : a.eval s = v6) (hy : a.eval y = v7) (h6 : Places w base g v6 ps) (h7 : Places w b7 g v7 qs) (hnil : qs = [] → v7 = .slice none 0 0) (hb : ps.length + qs.length ≤ 1000) (hbase : base ≤ w.heap.size)
    (h : ∀ v' w', Places w' base g v' (ps ++ qs) → Below base w w' → wpList Tryz.prog ops Q rest (a.put o.dst v') w') : wpList Tryz.prog ops Q (o :: rest) a w := by
  by_cases hq : qs = []
  · have hv := hnil hq
    subst hq hv
    obtain ⟨i0, hi, _, _, _⟩ := info_parts elemPlace.2.1
    refine wpList_append_own_none hgd s y 261 ho base 264 i0 3 Tryz.underlying261 hi v6 ps.length _ hs h6 hy (h v6 w ?_ (Below.refl _ _))
    rw [List.append_nil]
    exact h6
  · obtain ⟨gp, cap, hv, _, hc⟩ := h7.form (List.length_pos_iff.2 hq)
    have hcl := h7.cells (g := gp) (by rw [hv]; rfl)
    refine wp_append_ks elemPlace hgd s y ho base ps.length v6 (placesV g ps) hs h6 ⟨gp, 0, none⟩ qs.length cap (placesV g qs) (placesV_length g qs) (by rw [hy, hv]) hcl (placesV_one g qs) (by omega) hbase (fun v' w' h1 _ h3 => h v' w' ?_ h3)
    unfold Places
    rw [placesV_append, List.length_append]
    exact h1
end

theorem places_later {w w' : World} {base g : Nat} {v : Value} {ps : List Pl} (h : Places w base g v ps) (hb : Below w.heap.size w w') : Places w' base g v ps :=
  World.ownsRow.kept h (row := none) ⟨hb.os, hb.tape, hb.output, hb.size, fun k hk _ => hb.block k hk⟩ (by cases v.ownBlock <;> simp)

def okPl (p : Pl) : Prop := 0 ≤ p.1 ∧ p.1 ≤ 60 ∧ 1 ≤ p.2.1 ∧ p.2.1 ≤ 4 ∧ p.2.2 < 21 ∧ p.2.2 ≠ 10
theorem okPl_head : ∀ p ∈ headPs9, okPl p := by unfold headPs9 okPl; decide
theorem okPl_body (f : Int) : ∀ p ∈ bodyPs f, okPl p := by
  unfold bodyPs
  split
  · unfold oldPs okPl; decide
  · split
    · unfold newPs slotPs okPl; decide
    · simp

theorem setErr_fits {n : Int} (h : 0 ≤ n ∧ n < 4294967296) : setErr 64 28 4 n = 0 := by
  unfold setErr
  rw [if_neg (by decide), if_neg]
  rintro (h' | h')
  · omega
  · rw [putK_quot] at h'
    have : n / 256 ^ (Int.toNat 4) = 0 := Int.ediv_eq_zero_of_lt h.1 h.2
    omega

def zeros64n : List Int := List.replicate 64 0

set_option maxRecDepth 100000 in
set_option maxHeartbeats 12800000 in
theorem write9_any (n : PNode) {ao : Option Addr} {m cap : Nat} (w : World) (hn : n.small) (hX : XIs w ao m n.x) (hr : ∀ x ∈ n.x, runOk x.f x.c = true ∧ smallX x) (h64 : (wrt9 (valOf n) zeros64n (headPs9 ++ bodyPs n.f)).length = 64) (hval : ∀ o, -9223372036854775808 ≤ valOf n o ∧ valOf n o ≤ 9223372036854775807) :
    Calls Tryz.prog 138 #[n.val (.slice ao m cap)] w (Gives w.heap.size w ((setOut (wrt9 (valOf n) zeros64n (headPs9 ++ bodyPs n.f)) 28 4 (sumS ((wrt9 (valOf n) zeros64n (headPs9 ++ bodyPs n.f)).take 28))).take 32)) := by
  obtain ⟨k, f, l, z, d0, d1, d2, d3, s, t, x, c⟩ := n
  unfold PNode.val
  simp only at hX hr ⊢
  have HVAL := Lib.hid hval
  have HW64 := Lib.hid h64
  have HLEN : Hid (headPs9.length + (bodyPs f).length ≤ 1000) := Lib.hid (by unfold bodyPs; split; decide; split <;> decide)
  simp only at HW64
  clear hval h64
  have HB : Hid (Below w.heap.size w (w.alloc (.cells #[.int .i64 k, .int .i64 f, .int .i64 l, .int .i64 z, .int .i64 d0, .int .i64 d1, .int .i64 d2, .int .i64 d3, .int .i64 s, .int .i64 t, .slice ao m cap, .int .i64 c] 49))) := Lib.hid ((Below.refl _ _).alloc (Nat.le_refl _) _)
  have HC : Hid (∀ j v, (#[.int .i64 k, .int .i64 f, .int .i64 l, .int .i64 z, .int .i64 d0, .int .i64 d1, .int .i64 d2, .int .i64 d3, .int .i64 s, .int .i64 t, .slice ao m cap, .int .i64 c] : Array Value)[j]? = some v → (w.alloc (.cells #[.int .i64 k, .int .i64 f, .int .i64 l, .int .i64 z, .int .i64 d0, .int .i64 d1, .int .i64 d2, .int .i64 d3, .int .i64 s, .int .i64 t, .slice ao m cap, .int .i64 c] 49)).cell? ⟨w.heap.size, j, none⟩ = some v) := Lib.hid (fun j v h => by rw [World.cell?_alloc_new]; exact h)
  have HM : Hid (∀ W, Below w.heap.size w W → Calls Tryz.prog 196 #[.slice ao m cap] W (fun e w' => e = .returned (slotsV x) ∧ Below W.heap.size W w')) := Lib.hid (fun W hW => toSlots_any (cap := cap) (hX.later hW) hr)
  have BA : Hid (Below (w.alloc (.cells #[.int .i64 k, .int .i64 f, .int .i64 l, .int .i64 z, .int .i64 d0, .int .i64 d1, .int .i64 d2, .int .i64 d3, .int .i64 s, .int .i64 t, .slice ao m cap, .int .i64 c] 49)).heap.size (w.alloc (.cells #[.int .i64 k, .int .i64 f, .int .i64 l, .int .i64 z, .int .i64 d0, .int .i64 d1, .int .i64 d2, .int .i64 d3, .int .i64 s, .int .i64 t, .slice ao m cap, .int .i64 c] 49)) ((w.alloc (.cells #[.int .i64 k, .int .i64 f, .int .i64 l, .int .i64 z, .int .i64 d0, .int .i64 d1, .int .i64 d2, .int .i64 d3, .int .i64 s, .int .i64 t, .slice ao m cap, .int .i64 c] 49)).alloc (.cells #[.int .i64 0, .int .i64 0, .int .i64 0, .int .i64 0, .int .i64 0, .int .i64 0, .int .i64 0, .int .i64 0, .int .i64 0, .int .i64 0, .slice none 0 0, .int .i64 0, .int .i64 0, .int .i64 0, .int .i64 0, .int .i64 0, .int .i64 0, .int .i64 0, .int .i64 0, .int .i64 0, .int .i64 0] 260)).drew) := Lib.hid ((Below.refl _ _).alloc (Nat.le_refl _) _).drew
  have HK : Hid (∀ W, Below (w.alloc (.cells #[.int .i64 k, .int .i64 f, .int .i64 l, .int .i64 z, .int .i64 d0, .int .i64 d1, .int .i64 d2, .int .i64 d3, .int .i64 s, .int .i64 t, .slice ao m cap, .int .i64 c] 49)).heap.size (w.alloc (.cells #[.int .i64 k, .int .i64 f, .int .i64 l, .int .i64 z, .int .i64 d0, .int .i64 d1, .int .i64 d2, .int .i64 d3, .int .i64 s, .int .i64 t, .slice ao m cap, .int .i64 c] 49)) W → W.cell? ⟨w.heap.size, 0, none⟩ = some (.int .i64 k) ∧ W.cell? ⟨w.heap.size, 1, none⟩ = some (.int .i64 f) ∧ W.cell? ⟨w.heap.size, 2, none⟩ = some (.int .i64 l) ∧ W.cell? ⟨w.heap.size, 3, none⟩ = some (.int .i64 z) ∧ W.cell? ⟨w.heap.size, 4, none⟩ = some (.int .i64 d0) ∧ W.cell? ⟨w.heap.size, 5, none⟩ = some (.int .i64 d1) ∧ W.cell? ⟨w.heap.size, 6, none⟩ = some (.int .i64 d2) ∧ W.cell? ⟨w.heap.size, 7, none⟩ = some (.int .i64 d3) ∧ W.cell? ⟨w.heap.size, 8, none⟩ = some (.int .i64 s) ∧ W.cell? ⟨w.heap.size, 9, none⟩ = some (.int .i64 t) ∧ W.cell? ⟨w.heap.size, 10, none⟩ = some (.slice ao m cap) ∧ W.cell? ⟨w.heap.size, 11, none⟩ = some (.int .i64 c) ∧ Hid (Below (w.alloc (.cells #[.int .i64 k, .int .i64 f, .int .i64 l, .int .i64 z, .int .i64 d0, .int .i64 d1, .int .i64 d2, .int .i64 d3, .int .i64 s, .int .i64 t, .slice ao m cap, .int .i64 c] 49)).heap.size (w.alloc (.cells #[.int .i64 k, .int .i64 f, .int .i64 l, .int .i64 z, .int .i64 d0, .int .i64 d1, .int .i64 d2, .int .i64 d3, .int .i64 s, .int .i64 t, .slice ao m cap, .int .i64 c] 49)) W)) := Lib.hid (fun W hW => ⟨cell_later hW (HC.out 0 _ rfl), cell_later hW (HC.out 1 _ rfl), cell_later hW (HC.out 2 _ rfl), cell_later hW (HC.out 3 _ rfl), cell_later hW (HC.out 4 _ rfl), cell_later hW (HC.out 5 _ rfl), cell_later hW (HC.out 6 _ rfl), cell_later hW (HC.out 7 _ rfl), cell_later hW (HC.out 8 _ rfl), cell_later hW (HC.out 9 _ rfl), cell_later hW (HC.out 10 _ rfl), cell_later hW (HC.out 11 _ rfl), Lib.hid hW⟩)
  clear hX hr hn
  unfold slotsV at HM
  go_enter Tryz.func138, Tryz.ntmps138
  go_wp2_with fail
  go_upto_region 1 with fail
  go_cut [3] from 7 (fun s3 wx => ∃ g : Nat, s3 = .pointer (some ⟨g, 0, none⟩) ∧ Hid (HalfAt wx g ⟨k, f, l, z, d0, d1, d2, d3, s, t, x, c⟩) ∧ Hid (Below w.heap.size w wx))
  case first =>
    refine wp_region_held_drew (S := (fun W => W.cell? ⟨w.heap.size, 0, none⟩ = some (.int .i64 k) ∧ W.cell? ⟨w.heap.size, 1, none⟩ = some (.int .i64 f) ∧ W.cell? ⟨w.heap.size, 2, none⟩ = some (.int .i64 l) ∧ W.cell? ⟨w.heap.size, 3, none⟩ = some (.int .i64 z) ∧ W.cell? ⟨w.heap.size, 4, none⟩ = some (.int .i64 d0) ∧ W.cell? ⟨w.heap.size, 5, none⟩ = some (.int .i64 d1) ∧ W.cell? ⟨w.heap.size, 6, none⟩ = some (.int .i64 d2) ∧ W.cell? ⟨w.heap.size, 7, none⟩ = some (.int .i64 d3) ∧ W.cell? ⟨w.heap.size, 8, none⟩ = some (.int .i64 s) ∧ W.cell? ⟨w.heap.size, 9, none⟩ = some (.int .i64 t) ∧ W.cell? ⟨w.heap.size, 10, none⟩ = some (.slice ao m cap) ∧ W.cell? ⟨w.heap.size, 11, none⟩ = some (.int .i64 c) ∧ Hid (Below (w.alloc (.cells #[.int .i64 k, .int .i64 f, .int .i64 l, .int .i64 z, .int .i64 d0, .int .i64 d1, .int .i64 d2, .int .i64 d3, .int .i64 s, .int .i64 t, .slice ao m cap, .int .i64 c] 49)).heap.size (w.alloc (.cells #[.int .i64 k, .int .i64 f, .int .i64 l, .int .i64 z, .int .i64 d0, .int .i64 d1, .int .i64 d2, .int .i64 d3, .int .i64 s, .int .i64 t, .slice ao m cap, .int .i64 c] 49)) W))) (by kernel_rfl) (HK.out _ (Below.refl _ _).drew) (fun hHeld => ?_)
    refine wpAnyH_take (i := 0) (oi := ⟨some 7, _, _, _, _, _⟩) (v := ?_) rfl (by kernel_rfl) (by kernel_rfl) (by kernel_rfl) (fun _ _ _ h => h) (Or.inl ⟨by rfl, ?_⟩) (by assumption) ?_
    rotate_left 1
    · (intro w hSw; (try dsimp only at hSw); go_simp); try (with_reducible rfl)
    try simp only [Act.put, List.setIfInBounds_toArray, List.set_cons_zero, List.set_cons_succ]
    refine wpAnyH_take (i := 1) (oi := ⟨some 8, _, _, _, _, _⟩) (v := ?_) rfl (by kernel_rfl) (by kernel_rfl) (by kernel_rfl) (fun _ _ _ h => h) (Or.inl ⟨by rfl, ?_⟩) (by assumption) ?_
    rotate_left 1
    · (intro w hSw; (try dsimp only at hSw); go_simp); try (with_reducible rfl)
    try simp only [Act.put, List.setIfInBounds_toArray, List.set_cons_zero, List.set_cons_succ]
    refine wpAnyH_take (i := 2) (oi := ⟨some 9, _, _, _, _, _⟩) (v := ?_) rfl (by kernel_rfl) (by kernel_rfl) (by kernel_rfl) (fun _ _ _ h => h) (Or.inl ⟨by rfl, ?_⟩) (by assumption) ?_
    rotate_left 1
    · (intro w hSw; (try dsimp only at hSw); go_simp); try (with_reducible rfl)
    try simp only [Act.put, List.setIfInBounds_toArray, List.set_cons_zero, List.set_cons_succ]
    refine wpAnyH_ready (rs := [3, 5]) (by kernel_rfl) (by simp) ?_
    refine AllReadyH.cons rfl (fun K hK => ?_) ?_
    · go_simp
      go_wp2_with (go_at_call 196; refine (HM.out _ HB.out.drew).mono ?_; rintro e' w5 ⟨rfl, hb5⟩; have B5 := Lib.hid ((Below.refl (w.alloc (.cells #[.int .i64 k, .int .i64 f, .int .i64 l, .int .i64 z, .int .i64 d0, .int .i64 d1, .int .i64 d2, .int .i64 d3, .int .i64 s, .int .i64 t, .slice ao m cap, .int .i64 c] 49)).heap.size (w.alloc (.cells #[.int .i64 k, .int .i64 f, .int .i64 l, .int .i64 z, .int .i64 d0, .int .i64 d1, .int .i64 d2, .int .i64 d3, .int .i64 s, .int .i64 t, .slice ao m cap, .int .i64 c] 49))).drew.trans hb5); clear hb5)
      refine hK.out _ _ (HK.out _ B5.out) (fun hHeld => ?_)
      clear hK K
      refine wpAnyH_take (i := 4) (oi := ⟨some 11, _, _, _, _, _⟩) (v := ?_) rfl (by kernel_rfl) (by kernel_rfl) (by kernel_rfl) (fun _ _ _ h => h) (Or.inl ⟨by rfl, ?_⟩) (by assumption) ?_
      rotate_left 1
      · (intro w hSw; (try dsimp only at hSw); go_simp); try (with_reducible rfl)
      try simp only [Act.put, List.setIfInBounds_toArray, List.set_cons_zero, List.set_cons_succ]
      refine wpAnyH_ready (rs := [5]) (by kernel_rfl) (by simp) ?_
      refine AllReadyH.cons rfl (fun K hK => ?_) AllReadyH.nil
      go_simp
      refine hK.out _ _ (HK.out _ (B5.out.alloc B5.out.size _)) (fun hHeld => ?_)
      clear hK K
      refine wpAnyH_ready (rs := [6]) (by kernel_rfl) (by simp) ?_
      refine AllReadyH.cons (o := ⟨none, _, _, _, _, _⟩) rfl (fun K hK => ?_) AllReadyH.nil
      rw [if_pos (by rfl)]
      refine wp_store_mid _ _ _ rfl _ _ (List.toArray [.int .i64 k, .int .i64 f, .int .i64 l, .int .i64 z, .int .i64 d0, .int .i64 d1, .int .i64 d2, .int .i64 d3, .int .i64 s, .int .i64 t, .slice ao m cap, .int .i64 c, .int .i64 (slotI x 0), .int .i64 (slotI x 1), .int .i64 (slotI x 2), .int .i64 (slotI x 3), .int .i64 (slotI x 4), .int .i64 (slotI x 5), .int .i64 (slotI x 6), .int .i64 (slotI x 7), .int .i64 (slotI x 8)]) rfl rfl (there_new w5 _ _ rfl) (by kernel_rfl) (all_oneCell_toArray (by intro v hv; simp only [List.mem_cons, List.mem_nil_iff, or_false] at hv; rcases hv with rfl | rfl | rfl | rfl | rfl | rfl | rfl | rfl | rfl | rfl | rfl | rfl | rfl | rfl | rfl | rfl | rfl | rfl | rfl | rfl | rfl <;> rfl)) ?_
      try simp only [Act.put, List.setIfInBounds_toArray, List.set_cons_zero, List.set_cons_succ]
      refine hK.out _ _ (HK.out _ (below_setCells (B5.out.alloc B5.out.size _) (by exact B5.out.size) _ _)) (fun hHeld => ?_)
      clear hK K
      refine wpAnyH_done (by kernel_rfl) ?_ _
      have HH0 : Hid (HalfAt ((w5.alloc (.cells #[.int .i64 0, .int .i64 0, .int .i64 0, .int .i64 0, .int .i64 0, .int .i64 0, .int .i64 0, .int .i64 0, .int .i64 0, .int .i64 0, .slice none 0 0, .int .i64 0, .int .i64 0, .int .i64 0, .int .i64 0, .int .i64 0, .int .i64 0, .int .i64 0, .int .i64 0, .int .i64 0, .int .i64 0] 260)).setCells w5.heap.size 0 [.int .i64 k, .int .i64 f, .int .i64 l, .int .i64 z, .int .i64 d0, .int .i64 d1, .int .i64 d2, .int .i64 d3, .int .i64 s, .int .i64 t, .slice ao m cap, .int .i64 c, .int .i64 (slotI x 0), .int .i64 (slotI x 1), .int .i64 (slotI x 2), .int .i64 (slotI x 3), .int .i64 (slotI x 4), .int .i64 (slotI x 5), .int .i64 (slotI x 6), .int .i64 (slotI x 7), .int .i64 (slotI x 8)]) w5.heap.size ⟨k, f, l, z, d0, d1, d2, d3, s, t, x, c⟩) := Lib.hid (half_stored (there_new w5 _ _ rfl) (⟨k, f, l, z, d0, d1, d2, d3, s, t, x, c⟩ : PNode) _)
      have HBW0 : Hid (Below w.heap.size w ((w5.alloc (.cells #[.int .i64 0, .int .i64 0, .int .i64 0, .int .i64 0, .int .i64 0, .int .i64 0, .int .i64 0, .int .i64 0, .int .i64 0, .int .i64 0, .slice none 0 0, .int .i64 0, .int .i64 0, .int .i64 0, .int .i64 0, .int .i64 0, .int .i64 0, .int .i64 0, .int .i64 0, .int .i64 0, .int .i64 0] 260)).setCells w5.heap.size 0 [.int .i64 k, .int .i64 f, .int .i64 l, .int .i64 z, .int .i64 d0, .int .i64 d1, .int .i64 d2, .int .i64 d3, .int .i64 s, .int .i64 t, .slice ao m cap, .int .i64 c, .int .i64 (slotI x 0), .int .i64 (slotI x 1), .int .i64 (slotI x 2), .int .i64 (slotI x 3), .int .i64 (slotI x 4), .int .i64 (slotI x 5), .int .i64 (slotI x 6), .int .i64 (slotI x 7), .int .i64 (slotI x 8)])) := Lib.hid (HB.out.trans ((below_setCells (B5.out.alloc B5.out.size _) (by exact B5.out.size) _ _).mono HB.out.size))
      clear hHeld
      generalize (w5.alloc (.cells #[.int .i64 0, .int .i64 0, .int .i64 0, .int .i64 0, .int .i64 0, .int .i64 0, .int .i64 0, .int .i64 0, .int .i64 0, .int .i64 0, .slice none 0 0, .int .i64 0, .int .i64 0, .int .i64 0, .int .i64 0, .int .i64 0, .int .i64 0, .int .i64 0, .int .i64 0, .int .i64 0, .int .i64 0] 260)).setCells w5.heap.size 0 [.int .i64 k, .int .i64 f, .int .i64 l, .int .i64 z, .int .i64 d0, .int .i64 d1, .int .i64 d2, .int .i64 d3, .int .i64 s, .int .i64 t, .slice ao m cap, .int .i64 c, .int .i64 (slotI x 0), .int .i64 (slotI x 1), .int .i64 (slotI x 2), .int .i64 (slotI x 3), .int .i64 (slotI x 4), .int .i64 (slotI x 5), .int .i64 (slotI x 6), .int .i64 (slotI x 7), .int .i64 (slotI x 8)] = W1 at *
      go_wp2_with fail
      go_meet
      case rel => exact ⟨w5.heap.size, rfl, HH0, HBW0⟩
    · refine AllReadyH.cons rfl (fun K hK => ?_) AllReadyH.nil
      go_simp
      refine hK.out _ _ (HK.out _ BA.out) (fun hHeld => ?_)
      clear hK K
      refine wpAnyH_ready (rs := [3]) (by kernel_rfl) (by simp) ?_
      refine AllReadyH.cons rfl (fun K hK => ?_) AllReadyH.nil
      go_simp
      go_wp2_with (go_at_call 196; refine (HM.out _ (HB.out.trans (BA.out.mono HB.out.size))).mono ?_; rintro e' w5 ⟨rfl, hb5⟩; have B5 := Lib.hid (BA.out.trans (hb5.mono BA.out.size)); have ML := made_later hb5; rw [World.size_alloc] at ML; have HML := Lib.hid ML; clear ML hb5)
      refine hK.out _ _ (HK.out _ B5.out) (fun hHeld => ?_)
      clear hK K
      refine wpAnyH_take (i := 4) (oi := ⟨some 11, _, _, _, _, _⟩) (v := ?_) rfl (by kernel_rfl) (by kernel_rfl) (by kernel_rfl) (fun _ _ _ h => h) (Or.inl ⟨by rfl, ?_⟩) (by assumption) ?_
      rotate_left 1
      · (intro w hSw; (try dsimp only at hSw); go_simp); try (with_reducible rfl)
      try simp only [Act.put, List.setIfInBounds_toArray, List.set_cons_zero, List.set_cons_succ]
      refine wpAnyH_ready (rs := [6]) (by kernel_rfl) (by simp) ?_
      refine AllReadyH.cons (o := ⟨none, _, _, _, _, _⟩) rfl (fun K hK => ?_) AllReadyH.nil
      rw [if_pos (by rfl)]
      refine wp_store_mid _ _ _ rfl _ _ (List.toArray [.int .i64 k, .int .i64 f, .int .i64 l, .int .i64 z, .int .i64 d0, .int .i64 d1, .int .i64 d2, .int .i64 d3, .int .i64 s, .int .i64 t, .slice ao m cap, .int .i64 c, .int .i64 (slotI x 0), .int .i64 (slotI x 1), .int .i64 (slotI x 2), .int .i64 (slotI x 3), .int .i64 (slotI x 4), .int .i64 (slotI x 5), .int .i64 (slotI x 6), .int .i64 (slotI x 7), .int .i64 (slotI x 8)]) rfl rfl (there_made HML.out rfl) (by kernel_rfl) (all_oneCell_toArray (by intro v hv; simp only [List.mem_cons, List.mem_nil_iff, or_false] at hv; rcases hv with rfl | rfl | rfl | rfl | rfl | rfl | rfl | rfl | rfl | rfl | rfl | rfl | rfl | rfl | rfl | rfl | rfl | rfl | rfl | rfl | rfl <;> rfl)) ?_
      try simp only [Act.put, List.setIfInBounds_toArray, List.set_cons_zero, List.set_cons_succ]
      refine hK.out _ _ (HK.out _ (below_setCells B5.out (by simp) _ _)) (fun hHeld => ?_)
      clear hK K
      refine wpAnyH_done (by kernel_rfl) ?_ _
      have HH0 : Hid (HalfAt ((w5).setCells (w.heap.size + 1) 0 [.int .i64 k, .int .i64 f, .int .i64 l, .int .i64 z, .int .i64 d0, .int .i64 d1, .int .i64 d2, .int .i64 d3, .int .i64 s, .int .i64 t, .slice ao m cap, .int .i64 c, .int .i64 (slotI x 0), .int .i64 (slotI x 1), .int .i64 (slotI x 2), .int .i64 (slotI x 3), .int .i64 (slotI x 4), .int .i64 (slotI x 5), .int .i64 (slotI x 6), .int .i64 (slotI x 7), .int .i64 (slotI x 8)]) (w.heap.size + 1) ⟨k, f, l, z, d0, d1, d2, d3, s, t, x, c⟩) := Lib.hid (half_stored (there_made HML.out rfl) (⟨k, f, l, z, d0, d1, d2, d3, s, t, x, c⟩ : PNode) _)
      have HBW0 : Hid (Below w.heap.size w ((w5).setCells (w.heap.size + 1) 0 [.int .i64 k, .int .i64 f, .int .i64 l, .int .i64 z, .int .i64 d0, .int .i64 d1, .int .i64 d2, .int .i64 d3, .int .i64 s, .int .i64 t, .slice ao m cap, .int .i64 c, .int .i64 (slotI x 0), .int .i64 (slotI x 1), .int .i64 (slotI x 2), .int .i64 (slotI x 3), .int .i64 (slotI x 4), .int .i64 (slotI x 5), .int .i64 (slotI x 6), .int .i64 (slotI x 7), .int .i64 (slotI x 8)])) := Lib.hid (HB.out.trans ((below_setCells B5.out (by simp) _ _).mono HB.out.size))
      clear hHeld
      generalize (w5).setCells (w.heap.size + 1) 0 [.int .i64 k, .int .i64 f, .int .i64 l, .int .i64 z, .int .i64 d0, .int .i64 d1, .int .i64 d2, .int .i64 d3, .int .i64 s, .int .i64 t, .slice ao m cap, .int .i64 c, .int .i64 (slotI x 0), .int .i64 (slotI x 1), .int .i64 (slotI x 2), .int .i64 (slotI x 3), .int .i64 (slotI x 4), .int .i64 (slotI x 5), .int .i64 (slotI x 6), .int .i64 (slotI x 7), .int .i64 (slotI x 8)] = W1 at *
      go_wp2_with fail
      go_meet
      case rel => exact ⟨(w.heap.size + 1), rfl, HH0, HBW0⟩
  case rest =>
    obtain ⟨g, rfl, HH, HBW⟩ := hcut
    clear HK BA HM HC
    have hmk := run_make_bytes wc 64 (by decide)
    rw [show ((64 : Nat) : Int) = 64 from rfl] at hmk
    have hA0 := made_arg wc 64 (by decide)
    have hB1 : Below wc.heap.size wc (wc.alloc (.cells (madeCells #[.int .u8 0] 64) 5)) := (Below.refl _ _).alloc (Nat.le_refl _) _
    have hF0 := (made_own wc 64).fresh (cap := 64) (by decide) (by decide)
    generalize hw2 : wc.alloc (.cells (madeCells #[.int .u8 0] 64) 5) = W2 at *
    have HF2 : Hid (Fresh W2 w.heap.size (.slice (some ⟨wc.heap.size, 0, none⟩) 64 64) zeros64n) := Lib.hid (by
      rw [List.length_replicate] at hF0
      exact hF0.mono HBW.out.size)
    have HW2 := Lib.hid hw2
    have HB1 := Lib.hid hB1
    clear hw2 hA0 hB1 hF0
    have HBW2 := Lib.hid (HBW.out.trans (HB1.out.mono HBW.out.size))
    have HH2 := Lib.hid (HH.out.later HB1.out)
    obtain ⟨N, hN⟩ : ∃ N, (headPs9 ++ bodyPs f).length = N := ⟨_, rfl⟩
    have HN := Lib.hid hN
    have hNle : N ≤ 1000 := by rw [← hN, List.length_append]; exact HLEN.out
    clear hN
    go_wp2_with (first
      | (go_at_call 197; refine (head9_any g _).mono ?_; rintro e' w6 ⟨v6, rfl, hp6, hb6⟩; have P6 := Lib.hid hp6; have B6 := Lib.hid hb6; have f6 := (HH2.out.later hb6) 1 (by decide) (by decide); clear hp6 hb6)
      | (go_at_call 198; refine (body9_any g f _ f6).mono ?_; rintro e' w7 ⟨v7, rfl, hp7, hn7, hb7⟩; have B7 := Lib.hid (B6.out.trans (hb7.mono B6.out.size)); have P7 := Lib.hid (places_later P6.out hb7); have Q7 := Lib.hid hp7; have N7 := Lib.hid hn7; clear hp7 hn7 hb7 f6)
      | (at_builtin; refine wp_append_pl rfl (.tmp 13) (.tmp 14) rfl W2.heap.size w6.heap.size g v6 v7 headPs9 (bodyPs f) rfl rfl P7.out Q7.out N7.out (HLEN.out) (B7.out.size) ?_; intro v8 w8 hp8 hb8; obtain ⟨gp, cp, hv8, hgp, hpl⟩ := hp8.at (by rw [List.length_append]; show 0 < 4 + _; omega); rw [HN.out] at hv8; subst hv8; have PLC := Lib.hid hpl; have B8 := Lib.hid (B7.out.trans hb8); clear hgp hpl hp8 hb8))
    have HB8 := Lib.hid (HBW2.out.trans (B8.out.mono HBW2.out.size))
    have HH8 := Lib.hid (HH2.out.later B8.out)
    have HF8 := Lib.hid (HF2.out.later B8.out)
    have HOK : Hid (∀ p ∈ headPs9 ++ bodyPs f, okPl p) := Lib.hid (fun p hp => by
      rcases List.mem_append.1 hp with h | h
      · exact okPl_head p h
      · exact okPl_body f p h)
    generalize headPs9 ++ bodyPs f = ps at *
    go_loopw [4, 17] (fun bv iv wr => ∃ i : Nat, iv = .int .i64 (i : Int) ∧ i ≤ N ∧ Hid (Fresh wr w.heap.size bv (wrt9 (valOf ⟨k, f, l, z, d0, d1, d2, d3, s, t, x, c⟩) zeros64n (ps.take i))) ∧ Hid (Below w8.heap.size w8 wr)) (fun _ iv _ => N - (intOf iv).toNat)
    case atStart => exact ⟨0, rfl, Nat.zero_le _, HF8, Lib.hid (Below.refl _ _)⟩
    case round =>
      obtain ⟨i, rfl, hi, HF, HBR⟩ := hrel
      by_cases hlt : i < N
      · obtain ⟨p, hp⟩ : ∃ p, ps[i]? = some p := ⟨_, List.getElem?_eq_getElem (by rw [HN.out]; exact hlt)⟩
        have hok := HOK.out p (List.mem_of_getElem? hp)
        obtain ⟨c1, c2, c3⟩ := PLC.out i p hp
        have HS : Hid (wrt9 (valOf ⟨k, f, l, z, d0, d1, d2, d3, s, t, x, c⟩) zeros64n (ps.take (i + 1)) = setOut (wrt9 (valOf ⟨k, f, l, z, d0, d1, d2, d3, s, t, x, c⟩) zeros64n (ps.take i)) p.1 p.2.1 (valOf ⟨k, f, l, z, d0, d1, d2, d3, s, t, x, c⟩ p.2.2)) := Lib.hid (by
          rw [List.take_add_one, hp]
          exact wrt9_snoc _ _ _ _)
        obtain ⟨a, b, o⟩ := p
        obtain ⟨h0, h1, h2, h3, h4, h5⟩ := hok
        simp only at *
        have c4 := HH8.out o h4 h5
        have hxi := HVAL.out o
        generalize valOf ⟨k, f, l, z, d0, d1, d2, d3, s, t, x, c⟩ o = y at *
        generalize wrt9 (valOf ⟨k, f, l, z, d0, d1, d2, d3, s, t, x, c⟩) zeros64n (ps.take i) = L at *
        obtain ⟨bo, cap', rfl, hA⟩ := fresh_form9 HF.out
        have d1 := cell_later HBR.out c1
        have d2 := cell_later HBR.out c2
        have d3 := cell_later HBR.out c3
        have d4 := cell_later HBR.out c4
        have HCS : Hid (∀ W, Below wr.heap.size wr W → Calls Tryz.prog 161 #[.slice bo L.length cap', .int .i64 a, .int .i64 b, .int .i64 y] W (Handed W.heap.size W (setOut L a b y) (setErr L.length a b y))) :=
          Lib.hid (fun W hW => fSet_any bo L.length cap' L a b y W (hA.later hW) (by omega) (by omega) hxi)
        have HNB : Hid (Below wr.heap.size wr (wr.alloc (.cells #[.int .i64 a, .int .i64 b, .pointer (some ⟨g, o, none⟩)] 264)).drew) := Lib.hid ((Below.refl _ _).alloc (Nat.le_refl _) _).drew
        have HKK : Hid (∀ W, Below (wr.alloc (.cells #[.int .i64 a, .int .i64 b, .pointer (some ⟨g, o, none⟩)] 264)).drew.heap.size (wr.alloc (.cells #[.int .i64 a, .int .i64 b, .pointer (some ⟨g, o, none⟩)] 264)).drew W → W.cell? ⟨wr.heap.size, 0, none⟩ = some (.int .i64 a) ∧ W.cell? ⟨wr.heap.size, 1, none⟩ = some (.int .i64 b) ∧ W.cell? ⟨wr.heap.size, 2, none⟩ = some (.pointer (some ⟨g, o, none⟩)) ∧ W.cell? ⟨g, o, none⟩ = some (.int .i64 y) ∧ Hid (Below wr.heap.size wr W)) := Lib.hid (fun W hW =>
          ⟨cell_later hW (new_cell9 wr _ _ _ _ rfl), cell_later hW (new_cell9 wr _ _ _ _ rfl), cell_later hW (new_cell9 wr _ _ _ _ rfl), cell_later hW (cell_later HNB.out d4), Lib.hid (HNB.out.trans (hW.mono HNB.out.size))⟩)
        have HZB : Hid (w.heap.size ≤ wr.heap.size) := Lib.hid (Nat.le_trans HB8.out.size HBR.out.size)
        have i1 : (i : Int) < (N : Int) := by omega
        generalize L.length = len at *
        clear hp c1 c2 c3 c4 hA hxi h0 h1 h2 h3 h4 h5
        go_wp2_with fail
        go_region_held (fun W => W.cell? ⟨wr.heap.size, 0, none⟩ = some (.int .i64 a) ∧ W.cell? ⟨wr.heap.size, 1, none⟩ = some (.int .i64 b) ∧ W.cell? ⟨wr.heap.size, 2, none⟩ = some (.pointer (some ⟨g, o, none⟩)) ∧ W.cell? ⟨g, o, none⟩ = some (.int .i64 y) ∧ Hid (Below wr.heap.size wr W)) (first | exact HKK.out _ (Below.refl _ _) | exact HKK.out _ B5.out)
          (first | (go_at_call 161; refine (HCS.out _ HNB.out).mono ?_; rintro e' w5 ⟨v5, rfl, hf5, hb5⟩; have F5 := Lib.hid hf5; have B5 := Lib.hid hb5; clear hf5 hb5))
        go_wp2_with fail
        go_roundw
        case rel => exact ⟨i + 1, by go_num, by omega, Lib.hid (by rw [HS.out]; exact F5.out.mono (Nat.le_trans HZB.out HNB.out.size)), Lib.hid ((HBR.out.trans (HNB.out.mono HBR.out.size)).trans (B5.out.mono (Nat.le_trans HBR.out.size HNB.out.size)))⟩
        case measure => simp [intOf]; omega
      · have hin : i = N := by omega
        subst hin
        have HT : Hid (ps.take i = ps) := Lib.hid (by rw [← HN.out]; exact List.take_length)
        rw [HT.out] at HF
        obtain ⟨L, hL⟩ : ∃ L, wrt9 (valOf ⟨k, f, l, z, d0, d1, d2, d3, s, t, x, c⟩) zeros64n ps = L := ⟨_, rfl⟩
        have HLE := Lib.hid hL
        rw [hL] at HF HW64 ⊢
        obtain ⟨bo, cap', rfl, hA⟩ := fresh_form9 HF.out
        rw [HW64.out] at hA ⊢
        obtain ⟨gb, ob, rfl, _⟩ := hA.1.2.2.2.resolve_left (by decide)
        have hcap := hA.2.2.1
        have hB28 := bts_take hA.1 (k := 28) (by decide)
        have cS := Sum_any (some ⟨gb, ob, none⟩) 28 cap' (L.take 28) wr hB28
        have hsb := sumS_bounds (L.take 28)
        have HTB := Lib.hid (Nat.le_trans HB8.out.size HBR.out.size)
        have HBB := Lib.hid (HB8.out.trans (HBR.out.mono HB8.out.size))
        obtain ⟨S, hS⟩ : ∃ S, sumS (L.take 28) = S := ⟨_, rfl⟩
        rw [hS] at cS hsb
        have HSE := Lib.hid hS
        clear hS
        have cF := fSet_any (some ⟨gb, ob, none⟩) 64 cap' L 28 4 S wr hA (by decide) (by decide) (by omega)
        have h28 : (28 : Int) ≤ (cap' : Int) := by omega
        have HA64 := Lib.hid (setErr_fits (n := S) (by omega))
        obtain ⟨M, hM⟩ : ∃ M, setOut L 28 4 S = M := ⟨_, rfl⟩
        have HME := Lib.hid hM
        rw [hM] at cF
        have HML : Hid (M.length = 64) := Lib.hid (by rw [← hM]; exact setOut_length (by rw [HW64.out]; exact HA64.out))
        have hw : IntKind.i64.wrap S = S := by rw [IntKind.wrap_i64]; omega
        clear hA hB28 hL hM
        go_wp2_with (first
          | (go_at_call 199; refine cS.mono ?_; rintro e' w5 ⟨rfl, rfl⟩)
          | (go_at_call 161; refine cF.mono ?_; rintro e' w5 ⟨v5, rfl, hf5, hb5⟩; obtain ⟨b5, c5, rfl, hA5⟩ := fresh_form9 hf5; rw [HML.out] at hA5 ⊢; obtain ⟨g5, o5, rfl, _⟩ := hA5.1.2.2.2.resolve_left (by decide); have hcap5 : (32 : Int) ≤ (c5 : Int) := (by (have := hA5.2.2.1; omega)); have HA5 : Hid (Arg w5 (some ⟨g5, o5, none⟩) 32 c5 (M.take 32)) := Lib.hid ⟨bts_take hA5.1 (by decide), (fun h => by cases h), (by have := hA5.2.2.1; omega), by decide⟩; have B5 := Lib.hid hb5; clear hf5 hb5 hA5)
          | (go_at_call 200; refine (clone_any _ 32 _ (M.take 32) _ HA5.out).mono ?_; rintro e' w9 ⟨v9, rfl, hf9, hb9⟩; have F9 := Lib.hid hf9; have B9 := Lib.hid (B5.out.trans (hb9.mono B5.out.size)); have Z9 := Lib.hid B5.out.size; clear hf9 hb9))
        go_ret
        exact ⟨v9, rfl, by rw [HLE.out, HSE.out, HME.out]; exact F9.out.mono (Nat.le_trans HTB.out Z9.out), HBB.out.trans (B9.out.mono HTB.out)⟩

end Go.Proofs.YtmcblhgpcgnaoaaGreatDoor


namespace Go.Proofs.YtmcblhgpcgnaoaaGreatDoor
open Go.RowKit
set_option linter.unusedVariables false
set_option linter.unusedSimpArgs false

/-- What the cells hold when the numbers of the places are read. -/
def gotV (zs : List Int) (ps : List Pl) (V : Nat → Int) : Nat → Int := ps.foldl (fun V p o => if o = p.2.2 then getOut zs p.1 p.2.1 else V o) V

theorem gotV_snoc (zs : List Int) (ps : List Pl) (p : Pl) (V : Nat → Int) : gotV zs (ps ++ [p]) V = fun o => if o = p.2.2 then getOut zs p.1 p.2.1 else gotV zs ps V o := by
  unfold gotV; rw [List.foldl_append]; rfl

/-- A half that is read into. -/
def Rd9 (w0 : World) (g : Nat) (V : Nat → Int) (wr : World) : Prop :=
  Below w0.heap.size w0 wr ∧ (∀ o, o < 21 → o ≠ 10 → wr.cell? ⟨g, o, none⟩ = some (.int .i64 (V o))) ∧ wr.cell? ⟨g, 10, none⟩ = some (.slice none 0 0) ∧ ∀ j, wr.frozen? ⟨g, j, none⟩ = false

theorem Rd9.lt {w0 wr : World} {g : Nat} {V : Nat → Int} (h : Rd9 w0 g V wr) : g < wr.heap.size := World.block_lt_of_cell? _ _ h.2.2.1

theorem Rd9.later {w0 wr wx : World} {g : Nat} {V : Nat → Int} (h : Rd9 w0 g V wr) (hb : Below wr.heap.size wr wx) : Rd9 w0 g V wx :=
  ⟨h.1.trans (hb.mono h.1.size), fun o h1 h2 => cell_later hb (h.2.1 o h1 h2), cell_later hb h.2.2.1, fun j => by rw [hb.frozen (p := ⟨g, j, none⟩) h.lt]; exact h.2.2.2 j⟩

theorem Rd9.alloc {w0 wr : World} {g : Nat} {V : Nat → Int} (h : Rd9 w0 g V wr) (o : Obj) : Rd9 w0 g V (wr.alloc o) := h.later ((Below.refl _ _).alloc (Nat.le_refl _) _)

theorem Rd9.step {w0 wr : World} {g k : Nat} {V : Nat → Int} (h : Rd9 w0 g V wr) (hg : w0.heap.size ≤ g) (hk : k < 21) (hk10 : k ≠ 10) (x : Int) : Rd9 w0 g (fun o => if o = k then x else V o) (wr.setCell ⟨g, k, none⟩ (.int .i64 x)) := by
  refine ⟨h.1.setCell (p := ⟨g, k, none⟩) hg _, fun o ho hne => ?_, ?_, fun j => by simpa using h.2.2.2 j⟩
  · show (wr.setCell ⟨g, k, none⟩ (.int .i64 x)).cell? ⟨g, o, none⟩ = some (.int .i64 (if o = k then x else V o))
    by_cases e : o = k
    · subst e
      rw [if_pos rfl]
      exact World.cell?_setCell_same wr _ _ (h.2.1 o ho hne)
    · rw [if_neg e, World.cell?_setCell_other (h := by intro e'; exact e (by simpa using (congrArg Addr.off e').symm))]
      exact h.2.1 o ho hne
  · rw [World.cell?_setCell_other (h := by intro e'; exact hk10 (by simpa using congrArg Addr.off e'))]
    exact h.2.2.1

theorem Rd9.drew {w0 wr : World} {g : Nat} {V : Nat → Int} (h : Rd9 w0 g V wr) : Rd9 w0 g V wr.drew := ⟨h.1.drew, fun o h1 h2 => h.2.1 o h1 h2, h.2.2.1, fun j => h.2.2.2 j⟩

theorem PlcAt.set {wr : World} {gp g k : Nat} {ps : List Pl} {v : Value} (h : PlcAt wr gp g ps) (hne : gp ≠ g) : PlcAt (wr.setCell ⟨g, k, none⟩ v) gp g ps := fun i p hp => by
  obtain ⟨h1, h2, h3⟩ := h i p hp
  refine ⟨?_, ?_, ?_⟩
  all_goals rw [World.cell?_setCell_other (h := by intro e; exact hne (by simpa using (congrArg Addr.block e).symm))]
  · exact h1
  · exact h2
  · exact h3

theorem PlcAt.drew {wr : World} {gp g : Nat} {ps : List Pl} (h : PlcAt wr gp g ps) : PlcAt wr.drew gp g ps := h

/-- A list of places as get is handed it. -/
def PlArg (w : World) (g : Nat) (v : Value) (ps : List Pl) : Prop := ∃ gp cp, gp ≠ g ∧ (ps = [] ∧ v = .slice none 0 0 ∨ v = .slice (some ⟨gp, 0, none⟩) ps.length cp ∧ PlcAt w gp g ps)

set_option maxRecDepth 100000 in
set_option maxHeartbeats 6400000 in
theorem getPl_any (ao : Option Addr) (cap : Nat) (zs : List Int) (gp cp g n : Nat) (ps : List Pl) (V : Nat → Int) (w0 w : World) (hA : Arg w0 ao 64 cap zs) (hn : ps.length = n) (hn1000 : n ≤ 1000) (hps : ∀ p ∈ ps, okPl p) (hg : w0.heap.size ≤ g) (hne : gp ≠ g) (hp : PlcAt w gp g ps) (h : Rd9 w0 g V w) :
    Calls Tryz.prog 221 #[.slice ao 64 cap, .slice (some ⟨gp, 0, none⟩) n cp] w fun e w' => e = .returned (.tuple #[]) ∧ Rd9 w0 g (gotV zs ps V) w' := by
  have HA := Lib.hid hA
  have HPS := Lib.hid hps
  have H0 := Lib.hid h
  have HP0 := Lib.hid hp
  clear hA hps h hp
  go_enter Tryz.func221, Tryz.ntmps221
  go_wp2_with fail
  go_loopw [8] (fun iv wr => ∃ i : Nat, iv = .int .i64 (i : Int) ∧ i ≤ n ∧ Hid (Rd9 w0 g (gotV zs (ps.take i) V) wr) ∧ Hid (PlcAt wr gp g ps)) (fun iv _ => n - (intOf iv).toNat)
  case atStart => exact ⟨0, rfl, Nat.zero_le _, H0, HP0⟩
  case round =>
    obtain ⟨i, rfl, hi, HR, HP⟩ := hrel
    by_cases hlt : i < n
    · obtain ⟨p, hpi⟩ : ∃ p, ps[i]? = some p := ⟨_, List.getElem?_eq_getElem (by omega)⟩
      have hok := HPS.out p (List.mem_of_getElem? hpi)
      obtain ⟨c1, c2, c3⟩ := HP.out i p hpi
      have HS : Hid (gotV zs (ps.take (i + 1)) V = fun o => if o = p.2.2 then getOut zs p.1 p.2.1 else gotV zs (ps.take i) V o) := Lib.hid (by
        rw [List.take_add_one, hpi]
        exact gotV_snoc _ _ _ _)
      obtain ⟨a, b, k⟩ := p
      obtain ⟨h0, h1, h2, h3, h4, h5⟩ := hok
      simp only at *
      have c4 := HR.out.2.1 k h4 h5
      have hgr := HR.out.lt
      have HO : Hid (∀ o : Obj, Rd9 w0 g (gotV zs (ps.take (i + 1)) V) ((wr.alloc o).setCell ⟨g, k, none⟩ (.int .i64 (getOut zs a b))).drew) := Lib.hid (fun o => by
        rw [HS.out]
        exact ((HR.out.alloc o).step hg h4 h5 _).drew)
      have HPO : Hid (∀ (o : Obj) (v : Value), PlcAt ((wr.alloc o).setCell ⟨g, k, none⟩ v).drew gp g ps) := Lib.hid (fun o v => ((HP.out.later ((Below.refl _ _).alloc (Nat.le_refl _) _)).set hne).drew)
      have HG : Hid (∀ W, Below w0.heap.size w0 W → Calls Tryz.prog 220 #[.slice ao 64 cap, .int .i64 a, .int .i64 b] W (fun e w' => e = .returned (.tuple #[.int .i64 (getOut zs a b), .int .i64 (fErr 64 a b)]) ∧ w' = W)) :=
        Lib.hid (fun W hW => (fGet_any ao 64 cap zs a b W (HA.out.later hW) (by omega) (by omega)).mono (fun e w' h => ⟨h.1, h.2.symm⟩))
      have HN : Hid (Below w0.heap.size w0 (wr.alloc (.cells #[.int .i64 a, .int .i64 b, .pointer (some ⟨g, k, none⟩)] 264)).drew) := Lib.hid (HR.out.1.trans (((Below.refl _ _).alloc (Nat.le_refl _) _).drew.mono HR.out.1.size))
      have e4 : (wr.alloc (.cells #[.int .i64 a, .int .i64 b, .pointer (some ⟨g, k, none⟩)] 264)).cell? ⟨g, k, none⟩ = some (.int .i64 (gotV zs (ps.take i) V k)) := cell_later ((Below.refl _ _).alloc (Nat.le_refl _) _) c4
      have f4 : (wr.alloc (.cells #[.int .i64 a, .int .i64 b, .pointer (some ⟨g, k, none⟩)] 264)).frozen? ⟨g, k, none⟩ = false := (HR.out.alloc _).2.2.2 k
      have i1 : (i : Int) < (n : Int) := by omega
      generalize getOut zs a b = x at *
      generalize fErr 64 a b = E at *
      generalize gotV zs (ps.take i) V k = y at *
      clear hpi c4 hgr h0 h1 h2 h3 h4 h5 HS
      go_wp2_with fail
      go_region_with (go_at_call 220; refine (HG.out _ HN.out).mono ?_; rintro e w5 ⟨rfl, rfl⟩)
      all_goals go_wp2_with fail
      all_goals go_roundw
      all_goals first
        | (exact ⟨i + 1, by go_num, by omega, Lib.hid (HO.out _), Lib.hid (HPO.out _ _)⟩)
        | (simp [intOf]; omega)
    · have hin : i = n := by omega
      subst hin
      have HT : Hid (ps.take i = ps) := Lib.hid (by rw [← hn]; exact List.take_length)
      go_wp2_with fail
      go_end0
      rw [HT.out] at HR
      exact ⟨rfl, HR.out⟩

theorem getNil_any (ao : Option Addr) (cap : Nat) (w : World) :
    Calls Tryz.prog 221 #[.slice ao 64 cap, .slice none 0 0] w fun e w' => e = .returned (.tuple #[]) ∧ w' = w := by
  go_enter Tryz.func221, Tryz.ntmps221
  go_wp2_with fail
  go_loopw [8] (fun iv wr => iv = .int .i64 0 ∧ wr = w) (fun iv _ => 0)
  case atStart => exact ⟨rfl, rfl⟩
  case round =>
    obtain ⟨rfl, rfl⟩ := hrel
    go_wp2_with fail
    go_end0
    exact ⟨rfl, rfl⟩

theorem get9_any (ao : Option Addr) (cap : Nat) (zs : List Int) (g : Nat) (v : Value) (ps : List Pl) (V : Nat → Int) (w0 w : World) (hA : Arg w0 ao 64 cap zs) (hn : ps.length ≤ 1000) (hps : ∀ p ∈ ps, okPl p) (hg : w0.heap.size ≤ g) (hp : PlArg w g v ps) (h : Rd9 w0 g V w) :
    Calls Tryz.prog 221 #[.slice ao 64 cap, v] w fun e w' => e = .returned (.tuple #[]) ∧ Rd9 w0 g (gotV zs ps V) w' := by
  obtain ⟨gp, cp, hne, ⟨rfl, rfl⟩ | ⟨rfl, hpl⟩⟩ := hp
  · exact (getNil_any ao cap w).mono (fun e w' ⟨h1, h2⟩ => ⟨h1, by rw [h2]; exact h⟩)
  · exact getPl_any ao cap zs gp cp g _ ps V w0 w hA rfl hn hps hg hne hpl h

/-- Places that a call handed back. -/
theorem Places.arg {w : World} {base g : Nat} {v : Value} {ps : List Pl} (h : Places w base g v ps) (hg : g < base) (hnil : ps = [] → v = .slice none 0 0) : PlArg w g v ps := by
  by_cases h0 : ps = []
  · exact ⟨g + 1, 0, by omega, Or.inl ⟨h0, hnil h0⟩⟩
  · obtain ⟨gp, cap, hv, hb, hpl⟩ := h.at (List.length_pos_iff.2 h0)
    exact ⟨gp, cap, by omega, Or.inr ⟨hv, hpl⟩⟩

end Go.Proofs.YtmcblhgpcgnaoaaGreatDoor


namespace Go.Proofs.YtmcblhgpcgnaoaaGreatDoor
open Go.RowKit
set_option linter.unusedVariables false
set_option linter.unusedSimpArgs false

def fixX (x : PX) : PX := ⟨x.a, partA x.f x.c, partB x.f x.c⟩
def noX : PX := ⟨0, 0, 0⟩
/-- What is read of slots: up to the first that says nothing. -/
def gotX (ts : List PX) : List PX := (ts.takeWhile fun x => !decide (x = noX)).map fixX

theorem elemExtent : ElemK9 47 172 (.agg #[.int .i64 0, .complex .f64 0 0]) 2 24 := ⟨Tryz.underlying47, by kernel_rfl, rfl, by decide, by decide⟩

/-- The cells of extents: two each. -/
def XCells : List Value → List PX → Prop
  | [], [] => True
  | a :: v :: r, x :: xs => a = .int .i64 x.a ∧ CX v x.f x.c ∧ XCells r xs
  | _, _ => False

theorem XCells.snoc : ∀ {cs : List Value} {xs : List PX} {x : PX} {v : Value}, XCells cs xs → CX v x.f x.c → XCells (cs ++ [.int .i64 x.a, v]) (xs ++ [x])
  | [], [], _, _, _, hv => ⟨rfl, hv, trivial⟩
  | _ :: _ :: _, _ :: _, _, _, h, hv => ⟨h.1, h.2.1, XCells.snoc h.2.2 hv⟩
  | [], _ :: _, _, _, h, _ => h.elim
  | [_], [], _, _, h, _ => h.elim
  | [_], _ :: _, _, _, h, _ => h.elim
  | _ :: _ :: _, [], _, _, h, _ => h.elim

theorem XCells.at : ∀ {cs : List Value} {xs : List PX} {i : Nat} {x : PX}, XCells cs xs → xs[i]? = some x → cs[i * 2]? = some (.int .i64 x.a) ∧ ∃ v, cs[i * 2 + 1]? = some v ∧ CX v x.f x.c
  | a :: v :: r, y :: xs, 0, x, h, hx => by
    simp at hx
    subst hx
    exact ⟨by rw [h.1]; rfl, v, rfl, h.2.1⟩
  | a :: v :: r, y :: xs, i + 1, x, h, hx => by
    have hx' : xs[i]? = some x := by simpa using hx
    obtain ⟨h1, u, h2, h3⟩ := XCells.at h.2.2 hx'
    rw [show (i + 1) * 2 = i * 2 + 1 + 1 by omega, show i * 2 + 1 + 1 + 1 = (i * 2 + 1) + 1 + 1 by omega]
    exact ⟨by simpa using h1, u, by simpa using h2, h3⟩
  | [], [], _, _, _, hx => by simp at hx
  | [], _ :: _, _, _, h, _ => h.elim
  | [_], [], _, _, h, _ => h.elim
  | [_], _ :: _, _, _, h, _ => h.elim
  | _ :: _ :: _, [], _, _, h, _ => h.elim

/-- A row of extents of the call's own is a list of extents. -/
theorem XIs.of_owns {w : World} {base n : Nat} {v : Value} {cs : List Value} {xs : List PX} (h : w.ownsRow base 172 2 v n cs) (hc : XCells cs xs) (hn : xs.length = n) (h3 : n ≤ 3) : ∃ ao cap, v = .slice ao n cap ∧ XIs w ao n xs ∧ (n ≤ cap ∧ cap ≤ 9223372036854775807) ∧ ∀ b o s, ao = some ⟨b, o, s⟩ → base ≤ b := by
  rcases h.2 with ⟨hv, h0⟩ | ⟨g, cap, cur, hv, hg, hh, hcap, hmax, _⟩
  · subst h0
    have : xs = [] := List.length_eq_zero_iff.1 hn
    subst this
    exact ⟨none, 0, hv, XIs.nil w, by decide, fun b o s h => by cases h⟩
  · refine ⟨some ⟨g, 0, none⟩, cap, hv, ⟨hn, h3, Or.inr ⟨g, 0, rfl, fun i x hx => ?_⟩⟩, ⟨hcap, by unfold maxLen at hmax; omega⟩, fun b o s h => by cases h; exact hg⟩
    have hcell := h.cells (g := g) (by rw [hv]; rfl)
    obtain ⟨h1, u, h2, h3⟩ := hc.at hx
    have c1 := hcell _ _ h1
    have c2 := hcell _ _ h2
    rw [Go.WideShapes.add_plain] at c1 c2
    exact ⟨c1, u, c2, h3⟩

def slots9 (x y z : PX) : Value := .agg #[.int .i64 x.a, .int .i64 x.f, .int .i64 x.c, .int .i64 y.a, .int .i64 y.f, .int .i64 y.c, .int .i64 z.a, .int .i64 z.f, .int .i64 z.c]

theorem wp_index9 {ops : Array Oper} {rest : List Oper} {o : Oper} {a : Act} {w : World} {Q : Exit → Act → World → Prop} (hgd : o.guard = none) (x i : Operand) (t : TypeId) (ho : o.op = .index t x i) (v : Value)
    (hr : ∀ w, (Instr.index t (a.eval x) (a.eval i)).run Tryz.prog w = .ok v w) (h : wpList Tryz.prog ops Q rest (a.put o.dst v) w) : wpList Tryz.prog ops Q (o :: rest) a w := by
  refine wpList_plain hgd fun K hK => ?_
  unfold Oper.wp
  simp [execOp, ho, hr, Result.andThen]
  exact hK _ _ h

theorem idx9 (a b c d e f g h k : Value) (i : Nat) (hi : i < 3) (u v y : Value) (he : (#[a, b, c, d, e, f, g, h, k] : Array Value).extract (i * 3) (i * 3 + 3) = #[u, v, y]) : ∀ w, (Instr.index 257 (.agg #[a, b, c, d, e, f, g, h, k]) (.int .i64 (i : Int))).run Tryz.prog w = .ok (.agg #[u, v, y]) w := by
  intro w
  have z := Tryz.sizeOf256
  have ag := Tryz.isAgg256
  have h3 : (i : Int) < 3 := by omega
  unfold Instr.index part
  have he' : (List.take 3 (List.drop (i * 3) [a, b, c, d, e, f, g, h, k])).toArray = #[u, v, y] := by simpa using he
  simp [asIntOf, run_underlying Tryz.underlying257, z, ag, h3, Result.andThen]
  rw [if_pos hi, he']

theorem takeWhile_at {p : PX → Bool} {l : List PX} {i : Nat} {x : PX} (h : l[i]? = some x) (h0 : (l.take i).takeWhile p = l.take i) : (p x = true → (l.take (i + 1)).takeWhile p = l.take (i + 1)) ∧ (p x = false → l.takeWhile p = l.take i) := by
  have hd := drop_at h
  have hl : l = l.take i ++ (x :: l.drop (i + 1)) := by rw [← hd, List.take_append_drop]
  constructor
  · intro hp
    rw [take_at h, List.takeWhile_append, h0, if_pos rfl]
    simp [hp]
  · intro hp
    conv => lhs; rw [hl]
    rw [List.takeWhile_append, h0, if_pos rfl]
    simp [hp]

set_option maxRecDepth 100000 in
set_option maxHeartbeats 6400000 in
theorem fromSlots_any (x y z : PX) (w : World) (hx : smallX x) (hy : smallX y) (hz : smallX z) :
    Calls Tryz.prog 222 #[slots9 x y z] w fun e w' => ∃ ao m cap, e = .returned (.slice ao m cap) ∧ XIs w' ao m (gotX [x, y, z]) ∧ (m ≤ cap ∧ cap ≤ 9223372036854775807) ∧ (∀ b o s, ao = some ⟨b, o, s⟩ → w.heap.size ≤ b) ∧ Below w.heap.size w w' := by
  have ES := eqS_any
  have SC := st_cx
  have HSM : Hid (∀ u ∈ [x, y, z], smallX u) := Lib.hid (fun u hu => by
    simp only [List.mem_cons, List.mem_nil_iff, or_false] at hu
    rcases hu with rfl | rfl | rfl
    · exact hx
    · exact hy
    · exact hz)
  have HTS : Hid ([x, y, z] = [x, y, z]) := Lib.hid rfl
  clear hx hy hz
  obtain ⟨xa, xf, xc⟩ := x
  obtain ⟨ya, yf, yc⟩ := y
  obtain ⟨za, zf, zc⟩ := z
  unfold slots9
  simp only
  have HB0 : Hid (Below w.heap.size w (w.alloc (.cells #[.int .i64 xa, .int .i64 xf, .int .i64 xc, .int .i64 ya, .int .i64 yf, .int .i64 yc, .int .i64 za, .int .i64 zf, .int .i64 zc] 257))) := Lib.hid ((Below.refl _ _).alloc (Nat.le_refl _) _)
  go_enter Tryz.func222, Tryz.ntmps222
  go_wp2_with fail
  go_loopw [3, 9] (fun lv iv wr => ∃ i : Int, iv = .int .i64 i ∧ (0 ≤ i ∧ i ≤ 3) ∧ Hid (∃ cs, wr.ownsRow w.heap.size 172 2 lv i.toNat cs ∧ XCells cs ((([⟨xa, xf, xc⟩, ⟨ya, yf, yc⟩, ⟨za, zf, zc⟩] : List PX).take i.toNat).map fixX)) ∧ Hid (Below w.heap.size w wr) ∧ Hid (((([⟨xa, xf, xc⟩, ⟨ya, yf, yc⟩, ⟨za, zf, zc⟩] : List PX).take i.toNat).takeWhile fun x => !decide (x = noX)) = ([⟨xa, xf, xc⟩, ⟨ya, yf, yc⟩, ⟨za, zf, zc⟩] : List PX).take i.toNat)) (fun _ iv _ => 3 - (intOf iv).toNat)
  case atStart => exact ⟨0, rfl, by decide, Lib.hid ⟨[], World.ownsRow_nil _ _ _ _, trivial⟩, HB0, Lib.hid rfl⟩
  case round =>
    obtain ⟨i, rfl, hi, HR, HB, HT⟩ := hrel
    by_cases hlt : i < 3
    · obtain ⟨cs, hown, hcs⟩ := HR.out
      have HO := Lib.hid hown
      have HCS := Lib.hid hcs
      have HZ : Hid (w.heap.size ≤ wr.heap.size) := Lib.hid HB.out.size
      clear hown hcs
      obtain rfl | rfl | rfl : i = 0 ∨ i = 1 ∨ i = 2 := by omega
      · have hs := HSM.out ⟨xa, xf, xc⟩ (by simp)
        have tw := takeWhile_at (p := fun x => !decide (x = noX)) (l := [⟨xa, xf, xc⟩, ⟨ya, yf, yc⟩, ⟨za, zf, zc⟩]) (i := 0) (x := ⟨xa, xf, xc⟩) rfl HT.out
        have cO := fun W => Of_any xf xc W hs.2
        generalize (if runOk xf xc = true then (0 : Int) else 1) = E at cO
        by_cases hz : (⟨xa, xf, xc⟩ : PX) = noX
        · have HG : Hid (gotX [⟨xa, xf, xc⟩, ⟨ya, yf, yc⟩, ⟨za, zf, zc⟩] = (([⟨xa, xf, xc⟩, ⟨ya, yf, yc⟩, ⟨za, zf, zc⟩] : List PX).take 0).map fixX) := Lib.hid (by
            unfold gotX
            rw [tw.2 (by simp [hz])])
          have e1 : xa = 0 := congrArg PX.a hz
          have e2 : xf = 0 := congrArg PX.f hz
          have e3 : xc = 0 := congrArg PX.c hz
          clear hz tw cO hs
          subst e1 e2 e3
          obtain ⟨ao, cap, rfl, hX, hc, hb⟩ := XIs.of_owns HO.out HCS.out rfl (by decide)
          have HX := Lib.hid hX
          have HC := Lib.hid hc
          have HBK := Lib.hid hb
          clear hX hc hb
          go_wp2_with (refine wp_index9 rfl (.tmp 8) (.tmp 9) 257 rfl _ (idx9 _ _ _ _ _ _ _ _ _ 0 (by decide) _ _ _ rfl) ?_)
          go_ret
          exact ⟨ao, _, cap, rfl, by rw [HG.out]; exact HX.out.later ((Below.refl _ _).alloc (Nat.le_refl _) _), HC.out, HBK.out, HB.out.alloc HB.out.size _⟩
        · have hne : (xa == 0 && (xf == 0 && xc == 0)) = false := by
            rw [Bool.eq_false_iff]
            intro h
            simp at h
            exact hz (by rw [h.1, h.2.1, h.2.2]; rfl)
          have HT1 := Lib.hid (tw.1 (by simp [hz]))
          have hF : ∀ w, (Op.equalIn 10000 256 (.agg #[.int .i64 xa, .int .i64 xf, .int .i64 xc]) (.agg #[.int .i64 0, .int .i64 0, .int .i64 0])).run Tryz.prog w = .ok false w := fun w => by rw [eqS_any, hne]
          clear tw hs hz hne ES
          go_wp2_with (first
            | (refine wp_index9 rfl (.tmp 8) (.tmp 9) 257 rfl _ (idx9 _ _ _ _ _ _ _ _ _ 0 (by decide) _ _ _ rfl) ?_)
            | (go_at_call 48; refine (cO _).mono ?_; rintro e w3 ⟨v, rfl, hv, rfl⟩; obtain ⟨p, q, rfl, hp, hq⟩ := hv; have HV := Lib.hid (And.intro hp hq); clear hp hq)
            | (at_builtin; refine wp_append_ks elemExtent rfl (.tmp 23) (.tmp 28) rfl w.heap.size 0 _ _ rfl ((HO.out.alloc _).alloc _) ⟨wr.heap.size + 1, 0, none⟩ 1 1 [.int .i64 xa, .complex .f64 p q] rfl rfl (by have h := news_made (wr.alloc (.cells #[.int .i64 xa, .int .i64 xf, .int .i64 xc] 256)) [.int .i64 xa, .complex .f64 p q] 172; rw [World.size_alloc] at h; exact h) (by intro u hu; simp only [List.mem_cons, List.mem_nil_iff, or_false] at hu; rcases hu with rfl | rfl <;> rfl) (by decide) (by have := HZ.out; simp; omega) ?_; intro v1 w1 hown1 hg1 hb1; have HO1 := Lib.hid hown1; have HB1 := Lib.hid (((HB.out.alloc HB.out.size _).alloc (Nat.le_trans HB.out.size (by simp)) _).trans hb1); clear hown1 hg1 hb1))
          go_roundw
          case rel => exact ⟨1, by go_num, by decide, Lib.hid ⟨_, HO1.out, XCells.snoc (x := fixX ⟨xa, xf, xc⟩) HCS.out ⟨p, q, rfl, HV.out.1, HV.out.2⟩⟩, HB1, HT1⟩
          case measure => simp [intOf]
      · have hs := HSM.out ⟨ya, yf, yc⟩ (by simp)
        have tw := takeWhile_at (p := fun x => !decide (x = noX)) (l := [⟨xa, xf, xc⟩, ⟨ya, yf, yc⟩, ⟨za, zf, zc⟩]) (i := 1) (x := ⟨ya, yf, yc⟩) rfl HT.out
        have cO := fun W => Of_any yf yc W hs.2
        generalize (if runOk yf yc = true then (0 : Int) else 1) = E at cO
        by_cases hz : (⟨ya, yf, yc⟩ : PX) = noX
        · have HG : Hid (gotX [⟨xa, xf, xc⟩, ⟨ya, yf, yc⟩, ⟨za, zf, zc⟩] = (([⟨xa, xf, xc⟩, ⟨ya, yf, yc⟩, ⟨za, zf, zc⟩] : List PX).take 1).map fixX) := Lib.hid (by
            unfold gotX
            rw [tw.2 (by simp [hz])])
          have e1 : ya = 0 := congrArg PX.a hz
          have e2 : yf = 0 := congrArg PX.f hz
          have e3 : yc = 0 := congrArg PX.c hz
          clear hz tw cO hs
          subst e1 e2 e3
          obtain ⟨ao, cap, rfl, hX, hc, hb⟩ := XIs.of_owns HO.out HCS.out rfl (by decide)
          have HX := Lib.hid hX
          have HC := Lib.hid hc
          have HBK := Lib.hid hb
          clear hX hc hb
          go_wp2_with (refine wp_index9 rfl (.tmp 8) (.tmp 9) 257 rfl _ (idx9 _ _ _ _ _ _ _ _ _ 1 (by decide) _ _ _ rfl) ?_)
          go_ret
          exact ⟨ao, _, cap, rfl, by rw [HG.out]; exact HX.out.later ((Below.refl _ _).alloc (Nat.le_refl _) _), HC.out, HBK.out, HB.out.alloc HB.out.size _⟩
        · have hne : (ya == 0 && (yf == 0 && yc == 0)) = false := by
            rw [Bool.eq_false_iff]
            intro h
            simp at h
            exact hz (by rw [h.1, h.2.1, h.2.2]; rfl)
          have HT1 := Lib.hid (tw.1 (by simp [hz]))
          have hF : ∀ w, (Op.equalIn 10000 256 (.agg #[.int .i64 ya, .int .i64 yf, .int .i64 yc]) (.agg #[.int .i64 0, .int .i64 0, .int .i64 0])).run Tryz.prog w = .ok false w := fun w => by rw [eqS_any, hne]
          clear tw hs hz hne ES
          go_wp2_with (first
            | (refine wp_index9 rfl (.tmp 8) (.tmp 9) 257 rfl _ (idx9 _ _ _ _ _ _ _ _ _ 1 (by decide) _ _ _ rfl) ?_)
            | (go_at_call 48; refine (cO _).mono ?_; rintro e w3 ⟨v, rfl, hv, rfl⟩; obtain ⟨p, q, rfl, hp, hq⟩ := hv; have HV := Lib.hid (And.intro hp hq); clear hp hq)
            | (at_builtin; refine wp_append_ks elemExtent rfl (.tmp 23) (.tmp 28) rfl w.heap.size 1 _ _ rfl ((HO.out.alloc _).alloc _) ⟨wr.heap.size + 1, 0, none⟩ 1 1 [.int .i64 ya, .complex .f64 p q] rfl rfl (by have h := news_made (wr.alloc (.cells #[.int .i64 ya, .int .i64 yf, .int .i64 yc] 256)) [.int .i64 ya, .complex .f64 p q] 172; rw [World.size_alloc] at h; exact h) (by intro u hu; simp only [List.mem_cons, List.mem_nil_iff, or_false] at hu; rcases hu with rfl | rfl <;> rfl) (by decide) (by have := HZ.out; simp; omega) ?_; intro v1 w1 hown1 hg1 hb1; have HO1 := Lib.hid hown1; have HB1 := Lib.hid (((HB.out.alloc HB.out.size _).alloc (Nat.le_trans HB.out.size (by simp)) _).trans hb1); clear hown1 hg1 hb1))
          go_roundw
          case rel => exact ⟨2, by go_num, by decide, Lib.hid ⟨_, HO1.out, XCells.snoc (x := fixX ⟨ya, yf, yc⟩) HCS.out ⟨p, q, rfl, HV.out.1, HV.out.2⟩⟩, HB1, HT1⟩
          case measure => simp [intOf]
      · have hs := HSM.out ⟨za, zf, zc⟩ (by simp)
        have tw := takeWhile_at (p := fun x => !decide (x = noX)) (l := [⟨xa, xf, xc⟩, ⟨ya, yf, yc⟩, ⟨za, zf, zc⟩]) (i := 2) (x := ⟨za, zf, zc⟩) rfl HT.out
        have cO := fun W => Of_any zf zc W hs.2
        generalize (if runOk zf zc = true then (0 : Int) else 1) = E at cO
        by_cases hz : (⟨za, zf, zc⟩ : PX) = noX
        · have HG : Hid (gotX [⟨xa, xf, xc⟩, ⟨ya, yf, yc⟩, ⟨za, zf, zc⟩] = (([⟨xa, xf, xc⟩, ⟨ya, yf, yc⟩, ⟨za, zf, zc⟩] : List PX).take 2).map fixX) := Lib.hid (by
            unfold gotX
            rw [tw.2 (by simp [hz])])
          have e1 : za = 0 := congrArg PX.a hz
          have e2 : zf = 0 := congrArg PX.f hz
          have e3 : zc = 0 := congrArg PX.c hz
          clear hz tw cO hs
          subst e1 e2 e3
          obtain ⟨ao, cap, rfl, hX, hc, hb⟩ := XIs.of_owns HO.out HCS.out rfl (by decide)
          have HX := Lib.hid hX
          have HC := Lib.hid hc
          have HBK := Lib.hid hb
          clear hX hc hb
          go_wp2_with (refine wp_index9 rfl (.tmp 8) (.tmp 9) 257 rfl _ (idx9 _ _ _ _ _ _ _ _ _ 2 (by decide) _ _ _ rfl) ?_)
          go_ret
          exact ⟨ao, _, cap, rfl, by rw [HG.out]; exact HX.out.later ((Below.refl _ _).alloc (Nat.le_refl _) _), HC.out, HBK.out, HB.out.alloc HB.out.size _⟩
        · have hne : (za == 0 && (zf == 0 && zc == 0)) = false := by
            rw [Bool.eq_false_iff]
            intro h
            simp at h
            exact hz (by rw [h.1, h.2.1, h.2.2]; rfl)
          have HT1 := Lib.hid (tw.1 (by simp [hz]))
          have hF : ∀ w, (Op.equalIn 10000 256 (.agg #[.int .i64 za, .int .i64 zf, .int .i64 zc]) (.agg #[.int .i64 0, .int .i64 0, .int .i64 0])).run Tryz.prog w = .ok false w := fun w => by rw [eqS_any, hne]
          clear tw hs hz hne ES
          go_wp2_with (first
            | (refine wp_index9 rfl (.tmp 8) (.tmp 9) 257 rfl _ (idx9 _ _ _ _ _ _ _ _ _ 2 (by decide) _ _ _ rfl) ?_)
            | (go_at_call 48; refine (cO _).mono ?_; rintro e w3 ⟨v, rfl, hv, rfl⟩; obtain ⟨p, q, rfl, hp, hq⟩ := hv; have HV := Lib.hid (And.intro hp hq); clear hp hq)
            | (at_builtin; refine wp_append_ks elemExtent rfl (.tmp 23) (.tmp 28) rfl w.heap.size 2 _ _ rfl ((HO.out.alloc _).alloc _) ⟨wr.heap.size + 1, 0, none⟩ 1 1 [.int .i64 za, .complex .f64 p q] rfl rfl (by have h := news_made (wr.alloc (.cells #[.int .i64 za, .int .i64 zf, .int .i64 zc] 256)) [.int .i64 za, .complex .f64 p q] 172; rw [World.size_alloc] at h; exact h) (by intro u hu; simp only [List.mem_cons, List.mem_nil_iff, or_false] at hu; rcases hu with rfl | rfl <;> rfl) (by decide) (by have := HZ.out; simp; omega) ?_; intro v1 w1 hown1 hg1 hb1; have HO1 := Lib.hid hown1; have HB1 := Lib.hid (((HB.out.alloc HB.out.size _).alloc (Nat.le_trans HB.out.size (by simp)) _).trans hb1); clear hown1 hg1 hb1))
          go_roundw
          case rel => exact ⟨3, by go_num, by decide, Lib.hid ⟨_, HO1.out, XCells.snoc (x := fixX ⟨za, zf, zc⟩) HCS.out ⟨p, q, rfl, HV.out.1, HV.out.2⟩⟩, HB1, HT1⟩
          case measure => simp [intOf]
    · have hin : i = 3 := by omega
      subst hin
      obtain ⟨cs, hown, hcs⟩ := HR.out
      have hg : gotX [⟨xa, xf, xc⟩, ⟨ya, yf, yc⟩, ⟨za, zf, zc⟩] = ([⟨xa, xf, xc⟩, ⟨ya, yf, yc⟩, ⟨za, zf, zc⟩] : List PX).map fixX := by
        unfold gotX
        have h := HT.out
        rw [show ([⟨xa, xf, xc⟩, ⟨ya, yf, yc⟩, ⟨za, zf, zc⟩] : List PX).take (Int.toNat 3) = [⟨xa, xf, xc⟩, ⟨ya, yf, yc⟩, ⟨za, zf, zc⟩] from rfl] at h
        rw [h]
      obtain ⟨ao, cap, rfl, hX, hc, hb⟩ := XIs.of_owns hown hcs rfl (by decide)
      have HX := Lib.hid hX
      have HBK := Lib.hid hb
      clear hb
      have HG := Lib.hid hg
      clear hX hg hown hcs
      go_wp2_with fail
      go_ret
      exact ⟨ao, _, cap, rfl, by rw [HG.out]; exact HX.out, hc, HBK.out, HB.out⟩

end Go.Proofs.YtmcblhgpcgnaoaaGreatDoor


namespace Go.Proofs.YtmcblhgpcgnaoaaGreatDoor
open Go.RowKit
set_option linter.unusedVariables false
set_option linter.unusedSimpArgs false

theorem setErr_none9 {p size : Nat} {n : Int} (h1 : 1 ≤ size) (h2 : size ≤ 4) (h3 : p + size ≤ 60) (h4 : 0 ≤ n) (h5 : n < 256 ^ size) : setErr 64 p size n = 0 := by
  have hf : fErr 64 p size = 0 := by
    unfold fErr
    rw [if_pos rfl, if_neg (by omega)]
  unfold setErr
  rw [if_neg (by simp [hf]), if_neg]
  rintro (h | h)
  · omega
  · rw [putK_quot, Int.toNat_natCast, Int.ediv_eq_zero_of_lt h4 h5] at h
    omega

/-- A number put in the midst of a block. -/
theorem setOut_splice (l m r : List Int) {size : Nat} {n : Int} (hl : l.length + size + r.length = 64) (hm : m.length = size) (h1 : 1 ≤ size) (h2 : size ≤ 4) (h3 : l.length + size ≤ 60) (h4 : 0 ≤ n) (h5 : n < 256 ^ size) :
    setOut (l ++ m ++ r) (l.length : Nat) (size : Nat) n = l ++ leB n size ++ r := by
  have hlen : (l ++ m ++ r).length = 64 := by rw [List.length_append, List.length_append]; omega
  rw [setOut_ok (by rw [hlen]; exact setErr_none9 h1 h2 h3 h4 h5), Int.toNat_natCast, Int.toNat_natCast, putK_lay, lay_eq _ _ _ (by rw [leB_length]; omega), leB_length]
  have e1 : (l ++ m ++ r).take l.length = l := by rw [List.append_assoc, List.take_left]
  have e2 : (l ++ m ++ r).drop (l.length + size) = r := by
    rw [List.drop_left' (by rw [List.length_append, hm])]
  rw [e1, e2]

/-- Places, one right behind the other. -/
def Contig : Nat → List Pl → Prop
  | _, [] => True
  | d, p :: r => ∃ k : Nat, p.1 = (d : Int) ∧ p.2.1 = (k : Int) ∧ 1 ≤ k ∧ k ≤ 4 ∧ Contig (d + k) r

def bytesPl (val : Nat → Int) (ps : List Pl) : List Int := ps.flatMap fun p => leB (val p.2.2) p.2.1.toNat
def sizePl (ps : List Pl) : Nat := (ps.map fun p => p.2.1.toNat).foldr (· + ·) 0

theorem bytesPl_length (val : Nat → Int) (ps : List Pl) : (bytesPl val ps).length = sizePl ps := by
  unfold bytesPl sizePl
  induction ps with
  | nil => rfl
  | cons p r ih => rw [List.flatMap_cons, List.length_append, leB_length, ih]; rfl

theorem wrt9_contig (val : Nat → Int) : ∀ (ps : List Pl) (done : List Int) (m : Nat), Contig done.length ps → (∀ p ∈ ps, 0 ≤ val p.2.2 ∧ val p.2.2 < 256 ^ p.2.1.toNat) → done.length + sizePl ps ≤ 60 → done.length + m = 64 →
    wrt9 val (done ++ List.replicate m 0) ps = done ++ bytesPl val ps ++ List.replicate (m - sizePl ps) 0
  | [], done, m, _, _, _, _ => by
    show done ++ List.replicate m 0 = done ++ [] ++ List.replicate (m - 0) 0
    rw [List.append_nil, Nat.sub_zero]
  | p :: r, done, m, hc, hv, h60, h64 => by
    obtain ⟨k, e1, e2, k1, k4, hc'⟩ := hc
    have hk : p.2.1.toNat = k := by omega
    have hsz : sizePl (p :: r) = k + sizePl r := by show p.2.1.toNat + _ = _; rw [hk]; rfl
    have hv0 := hv p (by simp)
    rw [hk] at hv0
    rw [hsz] at h60
    have hm : m = k + (m - k) := by omega
    have hstep : wrt9 val (done ++ List.replicate m 0) (p :: r) = wrt9 val (setOut (done ++ List.replicate m 0) p.1 p.2.1 (val p.2.2)) r := rfl
    have hs : setOut (done ++ List.replicate m 0) p.1 p.2.1 (val p.2.2) = (done ++ leB (val p.2.2) k) ++ List.replicate (m - k) 0 := by
      rw [e1, e2]
      have h := setOut_splice done (List.replicate k 0) (List.replicate (m - k) 0) (size := k) (n := val p.2.2) (by simp; omega) (by simp) k1 k4 (by omega) hv0.1 hv0.2
      rw [List.append_assoc, List.replicate_append_replicate, ← hm] at h
      exact h
    rw [hstep, hs, wrt9_contig val r (done ++ leB (val p.2.2) k) (m - k) (by rw [List.length_append, leB_length]; exact hc') (fun q hq => hv q (List.mem_cons_of_mem _ hq)) (by rw [List.length_append, leB_length]; omega) (by rw [List.length_append, leB_length]; omega)]
    rw [hsz, show m - k - sizePl r = m - (k + sizePl r) by omega]
    have hb : bytesPl val (p :: r) = leB (val p.2.2) k ++ bytesPl val r := by unfold bytesPl; rw [List.flatMap_cons, hk]
    rw [hb]
    simp only [List.append_assoc]

theorem contig_old : Contig 0 (headPs9 ++ oldPs) := ⟨1, rfl, rfl, by decide, by decide, 1, rfl, rfl, by decide, by decide, 2, rfl, rfl, by decide, by decide, 2, rfl, rfl, by decide, by decide, 2, rfl, rfl, by decide, by decide, 2, rfl, rfl, by decide, by decide, 2, rfl, rfl, by decide, by decide, 2, rfl, rfl, by decide, by decide, 2, rfl, rfl, by decide, by decide, 2, rfl, rfl, by decide, by decide, trivial⟩
theorem contig_new : Contig 0 (headPs9 ++ newPs) := ⟨1, rfl, rfl, by decide, by decide, 1, rfl, rfl, by decide, by decide, 2, rfl, rfl, by decide, by decide, 2, rfl, rfl, by decide, by decide, 1, rfl, rfl, by decide, by decide, 2, rfl, rfl, by decide, by decide, 1, rfl, rfl, by decide, by decide, 1, rfl, rfl, by decide, by decide, 2, rfl, rfl, by decide, by decide, 1, rfl, rfl, by decide, by decide, 1, rfl, rfl, by decide, by decide, 2, rfl, rfl, by decide, by decide, 1, rfl, rfl, by decide, by decide, 2, rfl, rfl, by decide, by decide, trivial⟩

/-- The numbers of a node fit their places: sound nodes' do. -/
def PNode.fits (n : PNode) : Prop := ∀ p ∈ headPs9 ++ bodyPs n.f, 0 ≤ valOf n p.2.2 ∧ valOf n p.2.2 < 256 ^ p.2.1.toNat

theorem bytesPl_append (val : Nat → Int) (ps qs : List Pl) : bytesPl val (ps ++ qs) = bytesPl val ps ++ bytesPl val qs := by
  unfold bytesPl; rw [List.flatMap_append]

theorem bytes_head (n : PNode) : bytesPl (valOf n) headPs9 = nodeH n := by
  show leB n.k 1 ++ (leB n.f 1 ++ (leB n.l 2 ++ (leB n.z 2 ++ []))) = _
  unfold nodeH
  simp only [List.append_assoc, List.append_nil]

/-- The slots' bytes. -/
def slotB (x : List PX) : List Int := leB (slotI x 0) 1 ++ (leB (slotI x 1) 2 ++ (leB (slotI x 2) 1 ++ (leB (slotI x 3) 1 ++ (leB (slotI x 4) 2 ++ (leB (slotI x 5) 1 ++ (leB (slotI x 6) 1 ++ (leB (slotI x 7) 2 ++ leB (slotI x 8) 1)))))))

theorem bytes_slots (n : PNode) : bytesPl (valOf n) slotPs = slotB n.x := by
  show leB (slotI n.x 0) 1 ++ (leB (slotI n.x 1) 2 ++ (leB (slotI n.x 2) 1 ++ (leB (slotI n.x 3) 1 ++ (leB (slotI n.x 4) 2 ++ (leB (slotI n.x 5) 1 ++ (leB (slotI n.x 6) 1 ++ (leB (slotI n.x 7) 2 ++ (leB (slotI n.x 8) 1 ++ [])))))))) = _
  unfold slotB
  rw [List.append_nil]

theorem leB_zero1 : leB 0 1 = [0] := by decide
theorem leB_zero2 : leB 0 2 = [0, 0] := by decide

theorem slotB_pad : ∀ (x : List PX), x.length ≤ 3 → slotB x = exB x ++ List.replicate (12 - x.length * 4) 0
  | [], _ => by decide
  | [a], _ => by
    unfold slotB
    rw [show slotI [a] 0 = a.a from rfl, show slotI [a] 1 = a.f from rfl, show slotI [a] 2 = a.c from rfl, show slotI [a] 3 = 0 from rfl, show slotI [a] 4 = 0 from rfl, show slotI [a] 5 = 0 from rfl, show slotI [a] 6 = 0 from rfl, show slotI [a] 7 = 0 from rfl, show slotI [a] 8 = 0 from rfl, leB_zero1, leB_zero2]
    unfold exB
    simp [List.replicate]
  | [a, b], _ => by
    unfold slotB
    rw [show slotI [a, b] 0 = a.a from rfl, show slotI [a, b] 1 = a.f from rfl, show slotI [a, b] 2 = a.c from rfl, show slotI [a, b] 3 = b.a from rfl, show slotI [a, b] 4 = b.f from rfl, show slotI [a, b] 5 = b.c from rfl, show slotI [a, b] 6 = 0 from rfl, show slotI [a, b] 7 = 0 from rfl, show slotI [a, b] 8 = 0 from rfl, leB_zero1, leB_zero2]
    unfold exB
    simp [List.replicate]
  | [a, b, d], _ => by
    unfold slotB
    rw [show slotI [a, b, d] 0 = a.a from rfl, show slotI [a, b, d] 1 = a.f from rfl, show slotI [a, b, d] 2 = a.c from rfl, show slotI [a, b, d] 3 = b.a from rfl, show slotI [a, b, d] 4 = b.f from rfl, show slotI [a, b, d] 5 = b.c from rfl, show slotI [a, b, d] 6 = d.a from rfl, show slotI [a, b, d] 7 = d.f from rfl, show slotI [a, b, d] 8 = d.c from rfl]
    unfold exB
    simp
  | a :: b :: d :: e :: r, h => by simp at h

theorem exB_length (xs : List PX) : (exB xs).length = xs.length * 4 := by
  unfold exB
  induction xs with
  | nil => rfl
  | cons p r ih => rw [List.flatMap_cons, List.length_append, ih, List.length_append, List.length_append, leB_length, leB_length, leB_length, List.length_cons]; omega

theorem nodeH_length (n : PNode) : (nodeH n).length = 6 := by unfold nodeH; simp only [List.length_append, leB_length]
theorem nodeP_length (n : PNode) : (nodeP n).length = 12 := by unfold nodeP; simp only [List.length_append, leB_length]

theorem pad_slots (n : PNode) (h3 : n.x.length ≤ 3) : pad 18 (nodeH n ++ exB n.x) = nodeH n ++ slotB n.x := by
  rw [slotB_pad n.x h3]
  unfold pad
  rw [List.length_append, nodeH_length, exB_length, List.append_assoc, show 18 - (6 + n.x.length * 4) = 12 - n.x.length * 4 by omega]

theorem wrt_node (n : PNode) (h : n.fits) (h3 : n.x.length ≤ 3) : wrt9 (valOf n) zeros64n (headPs9 ++ bodyPs n.f) = node28 n ++ List.replicate 36 0 ∨ (n.f ≠ 1 ∧ n.f ≠ 2) := by
  by_cases h1 : n.f = 1
  · left
    unfold PNode.fits at h
    have hb : bodyPs n.f = oldPs := by unfold bodyPs; rw [if_pos h1]
    rw [hb] at h ⊢
    have e := wrt9_contig (valOf n) (headPs9 ++ oldPs) [] 64 contig_old h (by decide) rfl
    rw [List.nil_append] at e
    unfold zeros64n
    rw [e]
    have hN : node28 n = pad 28 (nodeH n ++ nodeP n) := by unfold node28; rw [if_neg (by omega)]
    have hB : bytesPl (valOf n) (headPs9 ++ oldPs) = nodeH n ++ nodeP n := rfl
    rw [hN, hB]
    unfold pad
    have hL : (nodeH n ++ nodeP n).length = 18 := by unfold nodeH nodeP; simp only [List.length_append, leB_length]
    rw [hL, List.nil_append]
    show nodeH n ++ nodeP n ++ List.replicate 46 0 = nodeH n ++ nodeP n ++ List.replicate 10 0 ++ List.replicate 36 0
    rw [List.append_assoc (nodeH n ++ nodeP n), List.replicate_append_replicate]
  · by_cases h2 : n.f = 2
    · left
      unfold PNode.fits at h
      have hb : bodyPs n.f = newPs := by unfold bodyPs; rw [if_neg h1, if_pos h2]
      rw [hb] at h ⊢
      have e := wrt9_contig (valOf n) (headPs9 ++ newPs) [] 64 contig_new h (by decide) rfl
      rw [List.nil_append] at e
      unfold zeros64n
      rw [e]
      have hN : node28 n = pad 28 (pad 18 (nodeH n ++ exB n.x) ++ leB n.c 2) := by unfold node28; rw [if_pos h2]
      rw [hN]
      have hB : bytesPl (valOf n) (headPs9 ++ newPs) = pad 18 (nodeH n ++ exB n.x) ++ leB n.c 2 := by
        rw [pad_slots n h3, ← bytes_head, ← bytes_slots]
        unfold newPs
        rw [← List.append_assoc, bytesPl_append, bytesPl_append]
        rfl
      rw [hB]
      have hL : (pad 18 (nodeH n ++ exB n.x) ++ leB n.c 2).length = 20 := by
        rw [← hB, bytesPl_length]; rfl
      generalize pad 18 (nodeH n ++ exB n.x) ++ leB n.c 2 = B at *
      unfold pad
      rw [hL, List.nil_append]
      show B ++ List.replicate 44 0 = B ++ List.replicate 8 0 ++ List.replicate 36 0
      rw [List.append_assoc, List.replicate_append_replicate]
    · exact Or.inr ⟨h1, h2⟩

theorem wrt_none : wrt9 (valOf noNode) zeros64n (headPs9 ++ bodyPs noNode.f) = node28 noNode ++ List.replicate 36 0 := by decide

theorem sound_f {n : PNode} (h : n.sound = true) : n = noNode ∨ (n.headOk = true ∧ n.mapOk = true ∧ (n.f = 1 ∨ n.f = 2)) := by
  unfold PNode.sound at h
  split at h
  · exact Or.inl (of_decide_eq_true h)
  · rw [Bool.and_eq_true] at h
    refine Or.inr ⟨h.1, h.2, ?_⟩
    have hm := h.2
    unfold PNode.mapOk at hm
    by_cases h1 : n.f = 1
    · exact Or.inl h1
    · by_cases h2 : n.f = 2
      · exact Or.inr h2
      · rw [if_neg h1, if_neg h2] at hm; cases hm

theorem node28_length {n : PNode} (h3 : n.x.length ≤ 3) : (node28 n).length = 28 := by
  unfold node28 pad
  split
  · rw [List.length_append, List.length_append, List.length_replicate, List.length_append, List.length_replicate, leB_length, List.length_append, exB_length, nodeH_length]
    omega
  · rw [List.length_append, List.length_append, List.length_replicate, nodeH_length, nodeP_length]

/-- A sound node's half. -/
theorem wrt_sound {n : PNode} (h : n.sound = true) (hf : n.fits) (h3 : n.x.length ≤ 3) : wrt9 (valOf n) zeros64n (headPs9 ++ bodyPs n.f) = node28 n ++ List.replicate 36 0 := by
  rcases sound_f h with rfl | ⟨_, _, h2⟩
  · exact wrt_none
  · rcases wrt_node n hf h3 with e | e
    · exact e
    · rcases h2 with h2 | h2
      · exact absurd h2 e.1
      · exact absurd h2 e.2

theorem write_node {n : PNode} (h : n.sound = true) (hf : n.fits) (h3 : n.x.length ≤ 3) :
    (wrt9 (valOf n) zeros64n (headPs9 ++ bodyPs n.f)).length = 64 ∧ (setOut (wrt9 (valOf n) zeros64n (headPs9 ++ bodyPs n.f)) 28 4 (sumS ((wrt9 (valOf n) zeros64n (headPs9 ++ bodyPs n.f)).take 28))).take 32 = node32 n := by
  have hl := node28_length h3
  rw [wrt_sound h hf h3]
  have ht : (node28 n ++ List.replicate 36 (0 : Int)).take 28 = node28 n := List.take_left' hl
  refine ⟨by rw [List.length_append, hl]; rfl, ?_⟩
  rw [ht]
  have hb := sumS_bounds (node28 n)
  unfold node32
  generalize sumS (node28 n) = S at *
  have e := setOut_splice (node28 n) (List.replicate 4 0) (List.replicate 32 0) (size := 4) (n := S) (by rw [hl]; simp) (by simp) (by decide) (by decide) (by omega) hb.1 (by omega)
  rw [hl, List.append_assoc, List.replicate_append_replicate] at e
  have e' : setOut (node28 n ++ List.replicate 36 0) 28 4 S = node28 n ++ leB S 4 ++ List.replicate 32 0 := e
  rw [e', List.take_left' (by rw [List.length_append, hl, leB_length])]

end Go.Proofs.YtmcblhgpcgnaoaaGreatDoor


namespace Go.Proofs.YtmcblhgpcgnaoaaGreatDoor
open Go.RowKit
set_option linter.unusedVariables false
set_option linter.unusedSimpArgs false

theorem all_not (l : List Int) (p : Int → Bool) : l.all p = !(l.any fun x => !p x) := by
  induction l with
  | nil => rfl
  | cons x r ih => rw [List.all_cons, List.any_cons, ih]; cases p x <;> simp

set_option maxHeartbeats 12800000 in
theorem soundMap_any (n : PNode) {ao : Option Addr} {m cap : Nat} (w : World) (hn : n.small) (hX : XIs w ao m n.x) (hcap : m ≤ cap ∧ cap ≤ 9223372036854775807) :
    Calls Tryz.prog 195 #[n.val (.slice ao m cap)] w fun e w' => e = .returned (.bool n.mapOk) ∧ Below w.heap.size w w' := by
  obtain ⟨k, f, l, z, d0, d1, d2, d3, s, t, x, c⟩ := n
  unfold PNode.val
  simp only at *
  have hm := hX.2.1
  have hxl : x.length = m := hX.1
  have hb : Below w.heap.size w (w.alloc (.cells #[.int .i64 k, .int .i64 f, .int .i64 l, .int .i64 z, .int .i64 d0, .int .i64 d1, .int .i64 d2, .int .i64 d3, .int .i64 s, .int .i64 t, .slice ao m cap, .int .i64 c] 49)) := (Below.refl _ _).alloc (Nat.le_refl _) _
  have HC : Hid (∀ j v, #[.int .i64 k, .int .i64 f, .int .i64 l, .int .i64 z, .int .i64 d0, .int .i64 d1, .int .i64 d2, .int .i64 d3, .int .i64 s, .int .i64 t, .slice ao m cap, .int .i64 c][j]? = some v → (w.alloc (.cells #[.int .i64 k, .int .i64 f, .int .i64 l, .int .i64 z, .int .i64 d0, .int .i64 d1, .int .i64 d2, .int .i64 d3, .int .i64 s, .int .i64 t, .slice ao m cap, .int .i64 c] 49)).cell? ⟨w.heap.size, j, none⟩ = some v) := Lib.hid (fun j v h => by rw [World.cell?_alloc_new]; exact h)
  have hs : ∀ y ∈ x, smallX y := hn.2.2.2.2.2.2.2.2.2.2.2
  have HB := Lib.hid hb
  have cX := fun (W : World) (hW : Below w.heap.size w W) => soundExtents_any (cap := cap) (hX.later hW) hs hcap
  have HX := Lib.hid cX
  have H6 : Hid (∀ W, Below (w.alloc (.cells #[.int .i64 k, .int .i64 f, .int .i64 l, .int .i64 z, .int .i64 d0, .int .i64 d1, .int .i64 d2, .int .i64 d3, .int .i64 s, .int .i64 t, .slice ao m cap, .int .i64 c] 49)).heap.size (w.alloc (.cells #[.int .i64 k, .int .i64 f, .int .i64 l, .int .i64 z, .int .i64 d0, .int .i64 d1, .int .i64 d2, .int .i64 d3, .int .i64 s, .int .i64 t, .slice ao m cap, .int .i64 c] 49)) W → SixAre W w.heap.size [d0, d1, d2, d3, s, t]) := Lib.hid (fun W hW => ⟨rfl, fun j v hj => by
    refine cell_later hW (HC.out (4 + j) (.int .i64 v) ?_)
    match j, hj with
    | 0, h | 1, h | 2, h | 3, h | 4, h | 5, h => cases h; rfl
    | j + 6, h => cases h⟩)
  clear hX hn hs hb cX
  by_cases hf1 : f = 1
  · subst hf1
    have HM : Hid (PNode.mapOk ⟨k, 1, l, z, d0, d1, d2, d3, s, t, x, c⟩ = (!([d0, d1, d2, d3, s, t].any fun p => !ptrOk p) && (decide (m = 0) && decide (c = 0)))) := Lib.hid (by
      show (if (1 : Int) = 1 then [d0, d1, d2, d3, s, t].all ptrOk && (decide (x = []) && decide (c = 0)) else _) = _
      rw [if_pos rfl, all_not]
      congr 2
      rw [Bool.eq_iff_iff, decide_eq_true_iff, decide_eq_true_iff, ← hxl]
      exact List.length_eq_zero_iff.symm)
    have cC := fun (W : World) (b : Nat) (hW : Below (w.alloc (.cells #[.int .i64 k, .int .i64 1, .int .i64 l, .int .i64 z, .int .i64 d0, .int .i64 d1, .int .i64 d2, .int .i64 d3, .int .i64 s, .int .i64 t, .slice ao m cap, .int .i64 c] 49)).heap.size (w.alloc (.cells #[.int .i64 k, .int .i64 1, .int .i64 l, .int .i64 z, .int .i64 d0, .int .i64 d1, .int .i64 d2, .int .i64 d3, .int .i64 s, .int .i64 t, .slice ao m cap, .int .i64 c] 49)) W) (hp : PtrsAre W b w.heap.size) => containsP1_any hp (H6.out W hW)
    have HCC := Lib.hid cC
    clear cC hxl
    generalize ([d0, d1, d2, d3, s, t].any fun p => !ptrOk p) = u at *
    by_cases hm0 : m = 0
    · subst hm0
      by_cases hc0 : c = 0
      · subst hc0
        cases u with
        | true =>
          go_enter Tryz.func195, Tryz.ntmps195
          go_wp2_with (first
            | (go_at_call 240; refine (pointers_any _ _).mono ?_; rintro e w2 ⟨rfl, hp2, hb2⟩; rw [World.size_alloc] at hp2; have B2 := Lib.hid hb2; have P2 := Lib.hid hp2; have g1 := cell_later B2.out (HC.out 10 _ rfl); have g2 := cell_later B2.out (HC.out 11 _ rfl); clear hp2 hb2)
            | (go_at_call 239; refine (HCC.out _ _ B2.out P2.out).mono ?_; rintro e w3 ⟨rfl, rfl⟩))
          go_ret
          exact ⟨by rw [HM.out]; rfl, HB.out.trans (B2.out.mono HB.out.size)⟩
        | false =>
          go_enter Tryz.func195, Tryz.ntmps195
          go_wp2_with (first
            | (go_at_call 240; refine (pointers_any _ _).mono ?_; rintro e w2 ⟨rfl, hp2, hb2⟩; rw [World.size_alloc] at hp2; have B2 := Lib.hid hb2; have P2 := Lib.hid hp2; have g1 := cell_later B2.out (HC.out 10 _ rfl); have g2 := cell_later B2.out (HC.out 11 _ rfl); clear hp2 hb2)
            | (go_at_call 239; refine (HCC.out _ _ B2.out P2.out).mono ?_; rintro e w3 ⟨rfl, rfl⟩))
          go_ret
          exact ⟨by rw [HM.out]; rfl, HB.out.trans (B2.out.mono HB.out.size)⟩
      · have e1 : (c == 0) = false := by simp [hc0]
        have e2 : decide (c = 0) = false := by simp [hc0]
        rw [e2] at HM
        clear hc0
        cases u with
        | true =>
          go_enter Tryz.func195, Tryz.ntmps195
          go_wp2_with (first
            | (go_at_call 240; refine (pointers_any _ _).mono ?_; rintro e w2 ⟨rfl, hp2, hb2⟩; rw [World.size_alloc] at hp2; have B2 := Lib.hid hb2; have P2 := Lib.hid hp2; have g1 := cell_later B2.out (HC.out 10 _ rfl); have g2 := cell_later B2.out (HC.out 11 _ rfl); clear hp2 hb2)
            | (go_at_call 239; refine (HCC.out _ _ B2.out P2.out).mono ?_; rintro e w3 ⟨rfl, rfl⟩))
          go_ret
          exact ⟨by rw [HM.out]; rfl, HB.out.trans (B2.out.mono HB.out.size)⟩
        | false =>
          go_enter Tryz.func195, Tryz.ntmps195
          go_wp2_with (first
            | (go_at_call 240; refine (pointers_any _ _).mono ?_; rintro e w2 ⟨rfl, hp2, hb2⟩; rw [World.size_alloc] at hp2; have B2 := Lib.hid hb2; have P2 := Lib.hid hp2; have g1 := cell_later B2.out (HC.out 10 _ rfl); have g2 := cell_later B2.out (HC.out 11 _ rfl); clear hp2 hb2)
            | (go_at_call 239; refine (HCC.out _ _ B2.out P2.out).mono ?_; rintro e w3 ⟨rfl, rfl⟩))
          go_ret
          exact ⟨by rw [HM.out]; rfl, HB.out.trans (B2.out.mono HB.out.size)⟩
    · have e1 : ((m : Int) == 0) = false := by simp; omega
      have e2 : decide (m = 0) = false := by simp [hm0]
      rw [e2] at HM
      cases u with
      | true =>
        go_enter Tryz.func195, Tryz.ntmps195
        go_wp2_with (first
          | (go_at_call 240; refine (pointers_any _ _).mono ?_; rintro e w2 ⟨rfl, hp2, hb2⟩; rw [World.size_alloc] at hp2; have B2 := Lib.hid hb2; have P2 := Lib.hid hp2; have g1 := cell_later B2.out (HC.out 10 _ rfl); have g2 := cell_later B2.out (HC.out 11 _ rfl); clear hp2 hb2)
          | (go_at_call 239; refine (HCC.out _ _ B2.out P2.out).mono ?_; rintro e w3 ⟨rfl, rfl⟩))
        go_ret
        exact ⟨by rw [HM.out]; rfl, HB.out.trans (B2.out.mono HB.out.size)⟩
      | false =>
        go_enter Tryz.func195, Tryz.ntmps195
        go_wp2_with (first
          | (go_at_call 240; refine (pointers_any _ _).mono ?_; rintro e w2 ⟨rfl, hp2, hb2⟩; rw [World.size_alloc] at hp2; have B2 := Lib.hid hb2; have P2 := Lib.hid hp2; have g1 := cell_later B2.out (HC.out 10 _ rfl); have g2 := cell_later B2.out (HC.out 11 _ rfl); clear hp2 hb2)
          | (go_at_call 239; refine (HCC.out _ _ B2.out P2.out).mono ?_; rintro e w3 ⟨rfl, rfl⟩))
        go_ret
        exact ⟨by rw [HM.out]; rfl, HB.out.trans (B2.out.mono HB.out.size)⟩
  · have e1 : (f == 1) = false := by simp [hf1]
    have e1' : decide (f = 1) = false := by simp [hf1]
    by_cases hf2 : f = 2
    · subst hf2
      have HM : Hid (PNode.mapOk ⟨k, 2, l, z, d0, d1, d2, d3, s, t, x, c⟩ = (!([d0, d1, d2, d3, s, t].any not0) && (soundXs x && ptrOk c))) := Lib.hid (by
        show (if (2 : Int) = 1 then _ else if (2 : Int) = 2 then [d0, d1, d2, d3, s, t].all (fun p => decide (p = 0)) && (soundXs x && ptrOk c) else _) = _
        rw [if_neg (by decide), if_pos rfl, all_not]
        rfl)
      have cC := fun (W : World) (b : Nat) (hW : Below (w.alloc (.cells #[.int .i64 k, .int .i64 2, .int .i64 l, .int .i64 z, .int .i64 d0, .int .i64 d1, .int .i64 d2, .int .i64 d3, .int .i64 s, .int .i64 t, .slice ao m cap, .int .i64 c] 49)).heap.size (w.alloc (.cells #[.int .i64 k, .int .i64 2, .int .i64 l, .int .i64 z, .int .i64 d0, .int .i64 d1, .int .i64 d2, .int .i64 d3, .int .i64 s, .int .i64 t, .slice ao m cap, .int .i64 c] 49)) W) (hp : PtrsAre W b w.heap.size) => containsP2_any hp (H6.out W hW)
      have HCC := Lib.hid cC
      clear cC hxl e1 e1' hf1
      generalize ([d0, d1, d2, d3, s, t].any not0) = u at *
      generalize soundXs x = v at *
      have cP := fun W => soundPointer_any c W
      generalize ptrOk c = y at *
      cases u with
      | true =>
        go_enter Tryz.func195, Tryz.ntmps195
        go_wp2_with (first
          | (go_at_call 240; refine (pointers_any _ _).mono ?_; rintro e w2 ⟨rfl, hp2, hb2⟩; rw [World.size_alloc] at hp2; have B2 := Lib.hid hb2; have P2 := Lib.hid hp2; have g1 := cell_later B2.out (HC.out 10 _ rfl); have g2 := cell_later B2.out (HC.out 11 _ rfl); clear hp2 hb2)
          | (go_at_call 239; refine (HCC.out _ _ B2.out P2.out).mono ?_; rintro e w3 ⟨rfl, rfl⟩))
        go_ret
        exact ⟨by rw [HM.out]; rfl, HB.out.trans (B2.out.mono HB.out.size)⟩
      | false =>
        cases v with
        | false =>
          go_enter Tryz.func195, Tryz.ntmps195
          go_wp2_with (first
            | (go_at_call 240; refine (pointers_any _ _).mono ?_; rintro e w2 ⟨rfl, hp2, hb2⟩; rw [World.size_alloc] at hp2; have B2 := Lib.hid hb2; have P2 := Lib.hid hp2; have g1 := cell_later B2.out (HC.out 10 _ rfl); have g2 := cell_later B2.out (HC.out 11 _ rfl); clear hp2 hb2)
            | (go_at_call 239; refine (HCC.out _ _ B2.out P2.out).mono ?_; rintro e w3 ⟨rfl, rfl⟩)
            | (go_at_call 244; refine (HX.out _ (HB.out.trans (B2.out.mono HB.out.size))).mono ?_; rintro e w4 ⟨rfl, hb4⟩; have B4 := Lib.hid (B2.out.trans (hb4.mono B2.out.size)); clear hb4))
          go_ret
          exact ⟨by rw [HM.out]; rfl, HB.out.trans (B4.out.mono HB.out.size)⟩
        | true =>
          go_enter Tryz.func195, Tryz.ntmps195
          go_wp2_with (first
            | (go_at_call 240; refine (pointers_any _ _).mono ?_; rintro e w2 ⟨rfl, hp2, hb2⟩; rw [World.size_alloc] at hp2; have B2 := Lib.hid hb2; have P2 := Lib.hid hp2; have g1 := cell_later B2.out (HC.out 10 _ rfl); have g2 := cell_later B2.out (HC.out 11 _ rfl); clear hp2 hb2)
            | (go_at_call 239; refine (HCC.out _ _ B2.out P2.out).mono ?_; rintro e w3 ⟨rfl, rfl⟩)
            | (go_at_call 244; refine (HX.out _ (HB.out.trans (B2.out.mono HB.out.size))).mono ?_; rintro e w4 ⟨rfl, hb4⟩; have B4 := Lib.hid (B2.out.trans (hb4.mono B2.out.size)); have g3 := cell_later B4.out (HC.out 11 _ rfl); clear hb4)
            | (go_at_call 242; refine (cP _).mono ?_; rintro e w5 ⟨rfl, rfl⟩))
          go_ret
          exact ⟨by rw [HM.out]; rfl, HB.out.trans (B4.out.mono HB.out.size)⟩
    · have e2 : (f == 2) = false := by simp [hf2]
      have e2' : decide (f = 2) = false := by simp [hf2]
      have HM : Hid (PNode.mapOk ⟨k, f, l, z, d0, d1, d2, d3, s, t, x, c⟩ = false) := Lib.hid (by unfold PNode.mapOk; simp only; rw [if_neg hf1, if_neg hf2])
      clear hf1 hf2
      go_enter Tryz.func195, Tryz.ntmps195
      go_wp2_with fail
      go_ret
      exact ⟨by rw [HM.out]; rfl, HB.out⟩

end Go.Proofs.YtmcblhgpcgnaoaaGreatDoor

