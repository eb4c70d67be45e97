/-
  Proved here: what the landed image's data and read answer, and its Node of what can be read. The conditions stand at each theorem. Proved here: what slices.IndexFunc and ContainsFunc say of the landed image's absent. The conditions stand at each theorem. Proved here: what the landed image's Node answers of what can be read. The conditions stand at each theorem. Said here: extents in plain words: those of pointers, the pointers of extents, when they are sound; that pointers which were made extents are the pointers again, that the extents are sound and as few as may be, and what their halves are. No conditions but those that each theorem names. Nothing of the program is read here. Said here: the zero values of more than 64 cells: a chart's, a file's (the small loader gives no facts of these). No conditions. Proved here: the landed extent's file: what its two closures say of a place, and what seek answers. The conditions stand at each theorem.
-/
import Derived.Test.YtmcblhgpcgnaoaaGreatDoorNc8
import Derived.Test.YtmcblhgpcgnaoaaGreatDoorNc11
import Derived.Test.YtmcblhgpcgnaoaaGreatDoorNc9
import Derived.Test.YtmcblhgpcgnaoaaGreatDoorNc0
import Derived.KernelRfl
namespace Go.Proofs.YtmcblhgpcgnaoaaGreatDoor
open Go.RowKit
set_option linter.unusedVariables false
set_option linter.unusedSimpArgs false

/-- The data blocks ahead of i, as writes. -/
def dataW (B : List (List Int)) : Nat → List (Int × List Int)
  | 0 => []
  | i + 1 => if i < 59 then [] else dataW B i ++ [((i : Int), B.getD i [])]
def dataC (g : Nat) : Nat → List Value
  | 0 => []
  | i + 1 => if i < 59 then [] else dataC g i ++ [.int .i64 (i : Int), .slice (some ⟨g, i * 64, none⟩) 64 64]
theorem dataW_small (B : List (List Int)) {i : Nat} (h : i ≤ 59) : dataW B i = [] := by
  cases i with
  | zero => rfl
  | succ i => unfold dataW; rw [if_pos (by omega)]
theorem dataC_small (g : Nat) {i : Nat} (h : i ≤ 59) : dataC g i = [] := by
  cases i with
  | zero => rfl
  | succ i => unfold dataC; rw [if_pos (by omega)]
theorem dataW_succ (B : List (List Int)) {i : Nat} (h : 59 ≤ i) : dataW B (i + 1) = dataW B i ++ [((i : Int), B.getD i [])] := by
  show (if i < 59 then _ else _) = _
  rw [if_neg (by omega)]
theorem dataC_succ (g : Nat) {i : Nat} (h : 59 ≤ i) : dataC g (i + 1) = dataC g i ++ [.int .i64 (i : Int), .slice (some ⟨g, i * 64, none⟩) 64 64] := by
  show (if i < 59 then _ else _) = _
  rw [if_neg (by omega)]
theorem dataW_length (B : List (List Int)) : ∀ i, (dataW B i).length = i - 59
  | 0 => rfl
  | i + 1 => by
    by_cases h : i < 59
    · rw [dataW_small B (by omega)]; simp; omega
    · rw [dataW_succ B (by omega), List.length_append, dataW_length B i]; simp; omega
theorem dataC_length (g : Nat) : ∀ i, (dataC g i).length = (i - 59) * 2
  | 0 => rfl
  | i + 1 => by
    by_cases h : i < 59
    · rw [dataC_small g (by omega)]; simp; omega
    · rw [dataC_succ g (by omega), List.length_append, dataC_length g i]; simp; omega
theorem dataW_get (B : List (List Int)) : ∀ (i j : Nat) (a : Int) (zs : List Int), (dataW B i)[j]? = some (a, zs) → j + 59 < i ∧ a = ((j + 59 : Nat) : Int) ∧ zs = B.getD (j + 59) []
  | 0, j, a, zs, h => by simp [dataW] at h
  | i + 1, j, a, zs, h => by
    by_cases hs : i < 59
    · rw [dataW_small B (by omega)] at h; simp at h
    · rw [dataW_succ B (by omega)] at h
      by_cases hj : j < (dataW B i).length
      · rw [List.getElem?_append_left hj] at h
        obtain ⟨h1, h2, h3⟩ := dataW_get B i j a zs h
        exact ⟨by omega, h2, h3⟩
      · have hl := dataW_length B i
        have hj2 := (List.getElem?_eq_some_iff.1 h).1
        rw [List.length_append] at hj2
        simp at hj2
        have e : j = i - 59 := by omega
        rw [List.getElem?_append_right (by omega), show j - (dataW B i).length = 0 by omega] at h
        simp at h
        obtain ⟨rfl, rfl⟩ := h
        have e2 : j + 59 = i := by omega
        rw [e2]
        exact ⟨by omega, rfl, rfl⟩
theorem dataC_get (g : Nat) : ∀ (i j : Nat), j + 59 < i → (dataC g i)[j * 2]? = some (.int .i64 ((j + 59 : Nat) : Int)) ∧ (dataC g i)[j * 2 + 1]? = some (.slice (some ⟨g, (j + 59) * 64, none⟩) 64 64)
  | 0, j, h => by omega
  | i + 1, j, h => by
    rw [dataC_succ g (by omega)]
    have hl := dataC_length g i
    by_cases hj : j + 59 < i
    · obtain ⟨h1, h2⟩ := dataC_get g i j hj
      exact ⟨by rw [List.getElem?_append_left (by omega)]; exact h1, by rw [List.getElem?_append_left (by omega)]; exact h2⟩
    · have e : j + 59 = i := by omega
      rw [e]
      exact ⟨by rw [List.getElem?_append_right (by omega), show j * 2 - (dataC g i).length = 0 by omega]; rfl, by rw [List.getElem?_append_right (by omega), show j * 2 + 1 - (dataC g i).length = 1 by omega]; rfl⟩

set_option maxRecDepth 100000 in
set_option maxHeartbeats 1600000 in
theorem data_any {w : World} {p q g n cap : Nat} {L : List (List Int)} (hp : w.cell? ⟨p, q, none⟩ = some (.slice (some ⟨g, 0, none⟩) n cap)) (hR : Rw w g L) (hn : L.length = n) (h0 : 59 < n) (h1 : n ≤ 480) :
    Calls Tryz.prog 121 #[.pointer (some ⟨p, q, none⟩)] w fun e w' => ∃ ao cap, e = .returned (.slice ao (n - 59) cap) ∧ WIs w' ao (n - 59) (dataW L n) ∧ (n - 59 ≤ cap) ∧ Below w.heap.size w w' := by
  have hp0 := World.block_lt_of_cell? _ _ hp
  have HR := Lib.hid hR
  have HN := Lib.hid hn
  have HP := Lib.hid hp
  clear hR hn hp
  go_enter Tryz.func121, Tryz.ntmps121
  go_wp2_with fail
  have HJ0 : Hid (w.ownsRow w.heap.size 66 2 (.slice none 0 0) (59 - 59) (dataC g 59) ∧ Below w.heap.size w w) := Lib.hid ⟨owns_nil_r _ _ _ _, Below.refl _ _⟩
  go_loopw [3, 4] (fun vv iv wr => ∃ i : Nat, 59 ≤ i ∧ i ≤ n ∧ iv = .int .i64 i ∧ Hid (wr.ownsRow w.heap.size 66 2 vv (i - 59) (dataC g i) ∧ Below w.heap.size w wr)) (fun _ iv _ => n - (intOf iv).toNat)
  case atStart => exact ⟨59, Nat.le_refl _, by omega, rfl, HJ0⟩
  case round =>
    obtain ⟨i, hlo, hi, rfl, HJ⟩ := hrel
    have hc := cell_later HJ.out.2 HP.out
    clear HJ0
    by_cases hlt : i < n
    · have i2 : (i : Int) < n := by omega
      have HO := Lib.hid HJ.out.1
      have HW := Lib.hid HJ.out.2
      have HS : Hid (w.heap.size ≤ wr.heap.size + 1) := Lib.hid (by have := HJ.out.2.size; omega)
      have HC : Hid (dataC g (i + 1) = dataC g i ++ [.int .i64 (i : Int), .slice (some ⟨g, i * 64, none⟩) 64 64]) := Lib.hid (dataC_succ g hlo)
      clear HJ
      go_wp2_with (at_builtin; refine wp_append_r elemW rfl (.tmp 14) (.tmp 24) rfl w.heap.size (i - 59) _ _ rfl (HO.out.alloc _) ⟨wr.heap.size, 0, none⟩ 1 _ [.int .i64 (i : Int), .slice (some ⟨g, i * 64, none⟩) 64 64] rfl rfl (news_r wr _ _) (by simp [Value.oneCell']) (by omega) (by simpa using HS.out) ?_; intro v1 w1 hown1 hg1 hb1; have HO1 := Lib.hid hown1; have HB1 := Lib.hid hb1; clear hown1 hg1 hb1)
      refine ⟨⟨i + 1, by omega, by omega, by go_num, Lib.hid ⟨?_, (HW.out.alloc (by have := HW.out.size; exact this) _).trans HB1.out⟩⟩, by simp [intOf]; omega⟩
      have ho := HO1.out
      rw [← HC.out, show i - 59 + 1 = i + 1 - 59 by omega] at ho
      exact ho
    · have hit : i = n := by omega
      subst hit
      have ho := HJ.out.1
      have hw := HJ.out.2
      obtain ⟨ao, c, rfl⟩ := owns_shape_r ho
      have HWI : Hid (WIs wr ao (i - 59) (dataW L i) ∧ i - 59 ≤ c) := Lib.hid (by
        rcases ho.2 with ⟨hv, h0'⟩ | ⟨b, cap', cur, hv, hb, hg, hc2, hm, hs, ht⟩
        · omega
        · simp only [Value.slice.injEq, true_and] at hv
          obtain ⟨rfl, rfl⟩ := hv
          refine ⟨⟨dataW_length L i, by omega, Or.inr ⟨b, 0, rfl, fun j a zs hj => ?_⟩⟩, hc2⟩
          obtain ⟨h2, rfl, rfl⟩ := dataW_get L i j a zs hj
          obtain ⟨c1, c2⟩ := dataC_get g i j h2
          have q1 := ho.cells (g := b) rfl _ _ c1
          have q2 := ho.cells (g := b) rfl _ _ c2
          rw [Go.WideShapes.add_plain] at q1 q2
          exact ⟨q1, ⟨by omega, by omega⟩, _, 64, 64, q2, (HR.out.later (by rw [HN.out]; omega) hw).whole (by rw [HN.out]; exact h2) (by decide)⟩)
      have HW := Lib.hid hw
      clear ho hw HJ
      go_wp2_with fail
      go_ret
      exact ⟨_, _, rfl, HWI.out.1, HWI.out.2, HW.out⟩

/-- What a node's map is read as: a Free node's, and one of the old format. -/
def ReadOld (ws : List (Int × List Int)) (x : PNode) (ps os : List Int) : Prop :=
  x.f = 1 ∧ ∃ sg q0 q1 q2 u0 u1 u2, pageAt ws x.s = some sg ∧ pageAt ws x.t = some ([q0, q1, q2] ++ List.replicate 27 0) ∧ pageAt ws q0 = some u0 ∧ pageAt ws q1 = some u1 ∧ pageAt ws q2 = some u2 ∧
    trimL ([x.d0, x.d1, x.d2, x.d3] ++ (sg ++ (u0 ++ (u1 ++ u2)))) = ps ∧ nzL [x.s, x.t, q0, q1, q2] = os ∧ ps.length ≤ 96 ∧ apartL (ps ++ os) = true
def ReadFree (x : PNode) (ps os : List Int) : Prop := x.f = 0 ∧ ps = [] ∧ os = []

theorem small_i64 {x : PNode} (h : x.small) : (∀ z ∈ [x.d0, x.d1, x.d2, x.d3], I64 z) ∧ I64 x.s ∧ I64 x.t := by
  obtain ⟨h1, h2, h3, h4, h5, h6, h7, h8, h9, h10, h11, h12⟩ := h
  unfold u16 at *
  refine ⟨fun z hz => ?_, ⟨by omega, by omega⟩, ⟨by omega, by omega⟩⟩
  simp only [List.mem_cons, List.mem_nil_iff, or_false] at hz
  unfold I64
  rcases hz with rfl | rfl | rfl | rfl <;> omega

/-- What read hands back. -/
def ReadDone (w : World) (ps os : List Int) (e : Ending) (w' : World) : Prop :=
  ∃ v u, e = .returned (.tuple #[v, u, .int .i64 0]) ∧ FreshI w' w.heap.size v ps ∧ FreshI w' w.heap.size u os ∧ Below w.heap.size w w'

set_option maxRecDepth 100000 in
set_option maxHeartbeats 1600000 in
theorem read_old {w : World} {p q g n cap : Nat} {L : List (List Int)} (x : PNode) (xo : Option Addr) (xm xc : Nat) {ps os : List Int} (hp : w.cell? ⟨p, q, none⟩ = some (.slice (some ⟨g, 0, none⟩) n cap)) (hR : Rw w g L) (hn : L.length = n) (h0 : 59 < n) (h1 : n ≤ 480) (hs : x.small) (hrd : ReadOld (dataW L n) x ps os) :
    Calls Tryz.prog 70 #[.pointer (some ⟨p, q, none⟩), x.val (.slice xo xm xc)] w (ReadDone w ps os) := by
  have hp0 := World.block_lt_of_cell? _ _ hp
  have HD : Hid (∀ W, Below w.heap.size w W → Calls Tryz.prog 121 #[.pointer (some ⟨p, q, none⟩)] W fun e w' => ∃ ao cap, e = .returned (.slice ao (n - 59) cap) ∧ WIs w' ao (n - 59) (dataW L n) ∧ (n - 59 ≤ cap) ∧ Below W.heap.size W w') := Lib.hid (fun W hW => data_any (by rw [hW.cell (p := ⟨p, q, none⟩) hp0]; exact hp) (hR.later (by omega) hW) hn h0 h1)
  obtain ⟨hf, sg, q0, q1, q2, u0, u1, u2, e1, e2, e3, e4, e5, e6, e7, e8, e9⟩ := hrd
  have hi := small_i64 hs
  obtain ⟨k, f, l, z, d0, d1, d2, d3, s, t, xx, c⟩ := x
  dsimp only at hf e1 e2 e6 e7 hi
  subst hf
  have HR : Hid (∀ W ao cp, WIs W ao (n - 59) (dataW L n) → Calls Tryz.prog 120 #[.agg #[.int .i64 k, .int .i64 1, .int .i64 l, .int .i64 z, .int .i64 d0, .int .i64 d1, .int .i64 d2, .int .i64 d3, .int .i64 s, .int .i64 t, .slice xo xm xc, .int .i64 c], .slice ao (n - 59) cp] W (ReadDone W ps os)) := Lib.hid (fun W ao cp hW =>
    Read_any (nk := k) (nl := l) (nz := z) (ne := c) (no := xo) (nm := xm) (nc := xc) (cap := cp) hW e1 e2 e3 e4 e5 hi e6 e7 e8 e9)
  clear hp hR hn e1 e2 e3 e4 e5 e6 e7 e8 e9 hi hs
  unfold PNode.val
  dsimp only
  have HROW : Hid (∀ W, Below (w.alloc (.cells #[.int .i64 k, .int .i64 1, .int .i64 l, .int .i64 z, .int .i64 d0, .int .i64 d1, .int .i64 d2, .int .i64 d3, .int .i64 s, .int .i64 t, .slice xo xm xc, .int .i64 c] 49)).heap.size (w.alloc (.cells #[.int .i64 k, .int .i64 1, .int .i64 l, .int .i64 z, .int .i64 d0, .int .i64 d1, .int .i64 d2, .int .i64 d3, .int .i64 s, .int .i64 t, .slice xo xm xc, .int .i64 c] 49)) W → W.rangeAt w.heap.size 0 [.int .i64 k, .int .i64 1, .int .i64 l, .int .i64 z, .int .i64 d0, .int .i64 d1, .int .i64 d2, .int .i64 d3, .int .i64 s, .int .i64 t, .slice xo xm xc, .int .i64 c]) := Lib.hid (fun W hW j v hj => by
    rw [hW.cell (p := ⟨w.heap.size, 0 + j, none⟩) (by simp), Nat.zero_add, World.cell?_alloc_new]
    simpa using hj)
  have HB1 : Hid (Below w.heap.size w (w.alloc (.cells #[.int .i64 k, .int .i64 1, .int .i64 l, .int .i64 z, .int .i64 d0, .int .i64 d1, .int .i64 d2, .int .i64 d3, .int .i64 s, .int .i64 t, .slice xo xm xc, .int .i64 c] 49))) := Lib.hid ((Below.refl _ _).alloc (Nat.le_refl _) _)
  go_enter Tryz.func70, Tryz.ntmps70
  go_wp2_with fail
  refine wp_region_held_drew (S := fun W => W.rangeAt w.heap.size 0 [.int .i64 k, .int .i64 1, .int .i64 l, .int .i64 z, .int .i64 d0, .int .i64 d1, .int .i64 d2, .int .i64 d3, .int .i64 s, .int .i64 t, .slice xo xm xc, .int .i64 c]) (by kernel_rfl) (HROW.out _ (Below.refl _ _).drew) (fun hHeld => ?_)
  refine wpAnyH_take (i := 0) (oi := { dst := some 14, op := .load 49 (.tmp 3), type := 49, pos := "state.go:161", after := #[], guard := none }) rfl (by kernel_rfl) (by kernel_rfl) (by kernel_rfl) (fun _ _ _ h => h) (yieldsIf_load_mid (by rfl) _ _ rfl _ _ rfl _ _ (fun W h => h) Tryz.underlying49 rfl (by kernel_rfl)) (by assumption) ?_
  try simp only [Act.put, List.setIfInBounds_toArray, List.set_cons_zero, List.set_cons_succ]
  refine wpAnyH_take (i := 1) (oi := ⟨some 15, _, _, _, _, _⟩) (v := .pointer (some ⟨p, q, none⟩)) rfl (by kernel_rfl) (by kernel_rfl) (by kernel_rfl) (fun _ _ _ h => h) (Or.inl ⟨by kernel_rfl, fun w _ => rfl⟩) (by assumption) ?_
  try simp only [Act.put, List.setIfInBounds_toArray, List.set_cons_zero, List.set_cons_succ]
  refine wpAnyH_ready (rs := [2]) (by kernel_rfl) (by simp) ?_
  refine AllReadyH.cons (o := ⟨some 16, _, _, _, _, _⟩) rfl (fun K hK => ?_) AllReadyH.nil
  go_simp
  go_at_call 121
  refine (HD.out _ HB1.out.drew).mono ?_
  rintro e w2 ⟨ao, cp, rfl, hW2, hc2, hb2⟩
  have HW2 := Lib.hid hW2
  have HB2 := Lib.hid ((Below.refl _ _).drew.trans hb2)
  clear hW2 hc2 hb2
  refine hK.out _ _ ?_ (fun hHeld1 => ?_)
  · exact (HROW.out _ HB2.out)
  clear hK K
  try simp only [Act.put, List.setIfInBounds_toArray, List.set_cons_zero, List.set_cons_succ]
  refine wpAnyH_ready (rs := [3]) (by kernel_rfl) (by simp) ?_
  refine AllReadyH.cons (o := ⟨some 17, _, _, _, _, _⟩) rfl (fun K hK => ?_) AllReadyH.nil
  go_simp
  go_at_call 120
  refine (HR.out _ ao cp HW2.out).mono ?_
  rintro e w3 ⟨v, u, rfl, hv, hu, hb3⟩
  have HB3 := Lib.hid (HB2.out.trans (hb3.mono HB2.out.size))
  have HV3 := Lib.hid (And.intro hv hu)
  clear hv hu hb3
  refine hK.out _ _ ?_ (fun hHeld2 => ?_)
  · exact (HROW.out _ HB3.out)
  clear hK K
  try simp only [Act.put, List.setIfInBounds_toArray, List.set_cons_zero, List.set_cons_succ]
  refine wpAnyH_take (i := 4) (oi := ⟨some 18, _, _, _, _, _⟩) (v := v) rfl (by kernel_rfl) (by kernel_rfl) (by kernel_rfl) (fun _ _ _ h => h) (Or.inl ⟨by kernel_rfl, by intro w _; go_simp; (try omega)⟩) (by assumption) ?_
  try simp only [Act.put, List.setIfInBounds_toArray, List.set_cons_zero, List.set_cons_succ]
  refine wpAnyH_take (i := 5) (oi := ⟨some 19, _, _, _, _, _⟩) (v := u) rfl (by kernel_rfl) (by kernel_rfl) (by kernel_rfl) (fun _ _ _ h => h) (Or.inl ⟨by kernel_rfl, by intro w _; go_simp; (try omega)⟩) (by assumption) ?_
  try simp only [Act.put, List.setIfInBounds_toArray, List.set_cons_zero, List.set_cons_succ]
  refine wpAnyH_take (i := 6) (oi := ⟨some 20, _, _, _, _, _⟩) (v := .int .i64 0) rfl (by kernel_rfl) (by kernel_rfl) (by kernel_rfl) (fun _ _ _ h => h) (Or.inl ⟨by kernel_rfl, by intro w _; go_simp; (try omega)⟩) (by assumption) ?_
  try simp only [Act.put, List.setIfInBounds_toArray, List.set_cons_zero, List.set_cons_succ]
  refine wpAnyH_take (i := 7) (oi := ⟨some 4, _, _, _, _, _⟩) (v := v) rfl (by kernel_rfl) (by kernel_rfl) (by kernel_rfl) (fun _ _ _ h => h) (Or.inl ⟨by kernel_rfl, fun w _ => rfl⟩) (by assumption) ?_
  try simp only [Act.put, List.setIfInBounds_toArray, List.set_cons_zero, List.set_cons_succ]
  refine wpAnyH_take (i := 8) (oi := ⟨some 5, _, _, _, _, _⟩) (v := u) rfl (by kernel_rfl) (by kernel_rfl) (by kernel_rfl) (fun _ _ _ h => h) (Or.inl ⟨by kernel_rfl, fun w _ => rfl⟩) (by assumption) ?_
  try simp only [Act.put, List.setIfInBounds_toArray, List.set_cons_zero, List.set_cons_succ]
  refine wpAnyH_take (i := 9) (oi := ⟨some 6, _, _, _, _, _⟩) (v := .int .i64 0) rfl (by kernel_rfl) (by kernel_rfl) (by kernel_rfl) (fun _ _ _ h => h) (Or.inl ⟨by kernel_rfl, fun w _ => rfl⟩) (by assumption) ?_
  try simp only [Act.put, List.setIfInBounds_toArray, List.set_cons_zero, List.set_cons_succ]
  refine wpAnyH_done (by kernel_rfl) ?_ _
  go_wp2_with fail
  go_ret3
  have hz : w.heap.size ≤ w2.heap.size := by have := HB2.out.size; simp at this; omega
  exact ⟨v, u, rfl, HV3.out.1.mono hz, HV3.out.2.mono hz, below_new HB3.out⟩

set_option maxHeartbeats 1600000 in
theorem read_free {w : World} {p q : Nat} (x : PNode) (xo : Option Addr) (xm xc : Nat) {ps os : List Int} (hrd : ReadFree x ps os) :
    Calls Tryz.prog 70 #[.pointer (some ⟨p, q, none⟩), x.val (.slice xo xm xc)] w (ReadDone w ps os) := by
  obtain ⟨hf, rfl, rfl⟩ := hrd
  obtain ⟨k, f, l, z, d0, d1, d2, d3, s, t, xx, c⟩ := x
  dsimp only at hf
  subst hf
  unfold PNode.val
  dsimp only
  go_enter Tryz.func70, Tryz.ntmps70
  go_wp2_with fail
  go_ret3
  exact ⟨_, _, rfl, FreshI.nil _ _, FreshI.nil _ _, (Below.refl _ _).alloc (Nat.le_refl _) _⟩
end Go.Proofs.YtmcblhgpcgnaoaaGreatDoor


namespace Go.Proofs.YtmcblhgpcgnaoaaGreatDoor
open Go.RowKit
set_option linter.unusedVariables false
set_option linter.unusedSimpArgs false

/-- Is it ahead of the end? -/
def hereB (n : Nat) (x : Int) : Bool := !decide ((n : Int) ≤ x)
/-- An index of what was found, or -1. -/
def FoundA (b : Bool) (k : Int) : Prop := (b = true → 0 ≤ k) ∧ (b = false → k = -1)

set_option maxRecDepth 100000 in
set_option maxHeartbeats 800000 in
theorem indexAbs_any {w : World} {ao : Option Addr} {len cap p q g n c2 : Nat} {zs : List Int} (hp : w.cell? ⟨p, q, none⟩ = some (.slice (some ⟨g, 0, none⟩) n c2)) (hA : IArg w ao len cap zs) :
    Calls Tryz.prog 125 #[.slice ao len cap, .func (.func 72) #[.pointer (some ⟨p, q, none⟩)] #[]] w fun e w' => (∃ k : Int, e = .returned (.int .i64 k) ∧ FoundA (!zs.all (hereB n)) k) ∧ w = w' := by
  have HA := Lib.hid hA
  have HE : Hid (∀ x : Int, Calls Tryz.prog 72 #[.pointer (some ⟨p, q, none⟩), .int .i64 x] w fun e w' => e = .returned (.bool (decide ((n : Int) ≤ x))) ∧ w = w') := Lib.hid (fun x => absent_any x hp)
  have hlen := hA.big
  have HN := Lib.hid hA.len
  clear hA hp
  go_enter Tryz.func125, Tryz.ntmps125
  go_wp2_with fail
  go_loop [8] (fun iv => ∃ i : Nat, iv = .int .i64 (i : Int) ∧ i ≤ len ∧ Hid ((zs.take i).all (hereB n) = true)) (fun iv => len - (intOf iv).toNat)
  case atStart => exact ⟨0, rfl, Nat.zero_le _, Lib.hid rfl⟩
  case round =>
    obtain ⟨i, rfl, hi, HP⟩ := hrel
    by_cases hlt : i < len
    · obtain ⟨b, off, x, rfl, hx, d1, _⟩ := HA.out.at hlt
      have i1 : (i : Int) < (len : Int) := by omega
      have cE := HE.out x
      have HX := Lib.hid hx
      have i0 : (0 : Int) ≤ (i : Int) := by omega
      clear hx
      cases hd : decide ((n : Int) ≤ x) with
      | false =>
        rw [hd] at cE
        have HP2 : Hid ((zs.take (i + 1)).all (hereB n) = true) := Lib.hid (by
          rw [List.take_add_one, HX.out, List.all_append, HP.out]
          simp [hereB, hd])
        clear hd
        go_wp2_with (go_at_call 72; refine cE.mono ?_; rintro e w3 ⟨rfl, rfl⟩)
        go_round
        case rel => exact ⟨i + 1, by go_num, by omega, HP2⟩
        case measure => simp [intOf]; omega
      | true =>
        rw [hd] at cE
        have HP2 : Hid (¬ zs.all (hereB n) = true) := Lib.hid (fun h => by
          have := List.all_eq_true.1 h x (List.mem_of_getElem? HX.out)
          unfold hereB at this
          rw [hd] at this
          cases this)
        clear hd
        go_wp2_with (go_at_call 72; refine cE.mono ?_; rintro e w3 ⟨rfl, rfl⟩)
        go_ret
        exact ⟨⟨_, rfl, fun _ => i0, fun h => absurd (by simpa using h) HP2.out⟩, rfl⟩
    · obtain rfl : i = len := by omega
      have HP2 : Hid (zs.all (hereB n) = true) := Lib.hid (by have := HP.out; rwa [List.take_of_length_le (by rw [HN.out]; exact Nat.le_refl _)] at this)
      go_wp2_with fail
      go_ret
      exact ⟨⟨_, rfl, And.intro (fun h => by rw [HP2.out] at h; cases h) (fun _ => rfl)⟩, rfl⟩

set_option maxHeartbeats 400000 in
theorem containsAbs_any {w : World} {ao : Option Addr} {len cap p q g n c2 : Nat} {zs : List Int} (hp : w.cell? ⟨p, q, none⟩ = some (.slice (some ⟨g, 0, none⟩) n c2)) (hA : IArg w ao len cap zs) :
    Calls Tryz.prog 71 #[.slice ao len cap, .func (.func 72) #[.pointer (some ⟨p, q, none⟩)] #[]] w fun e w' => e = .returned (.bool (!zs.all (hereB n))) ∧ w = w' := by
  have c := indexAbs_any hp hA
  clear hA hp
  cases hd : zs.all (hereB n) with
  | true =>
    rw [hd] at c
    go_enter Tryz.func71, Tryz.ntmps71
    go_wp2_with (go_at_call 125; refine c.mono ?_; rintro e w' ⟨⟨k, rfl, hk⟩, rfl⟩; obtain rfl := hk.2 rfl)
    go_ret
    exact ⟨rfl, rfl⟩
  | false =>
    rw [hd] at c
    go_enter Tryz.func71, Tryz.ntmps71
    go_wp2_with (go_at_call 125; refine c.mono ?_; rintro e w' ⟨⟨k, rfl, hk⟩, rfl⟩; replace hk := hk.1 rfl)
    go_ret
    exact ⟨rfl, rfl⟩

end Go.Proofs.YtmcblhgpcgnaoaaGreatDoor


namespace Go.Proofs.YtmcblhgpcgnaoaaGreatDoor
open Go.RowKit
set_option linter.unusedVariables false
set_option linter.unusedSimpArgs false

/-- What a node's map names, of those that are told here. -/
def Reads (B : List (List Int)) (x : PNode) (ps os : List Int) : Prop := ReadFree x ps os ∨ ReadOld (dataW B B.length) x ps os
/-- The node n of blocks. -/
def nodeAt (B : List (List Int)) (n : Nat) : PNode := decN (halfAt B n)

theorem iread_any {w : World} {p q g cap : Nat} {L : List (List Int)} (x : PNode) (xo : Option Addr) (xm xc : Nat) {ps os : List Int} (hp : w.cell? ⟨p, q, none⟩ = some (.slice (some ⟨g, 0, none⟩) L.length cap)) (hR : Rw w g L) (h0 : 59 < L.length) (h1 : L.length ≤ 480) (hs : x.small) (hrd : Reads L x ps os) :
    Calls Tryz.prog 70 #[.pointer (some ⟨p, q, none⟩), x.val (.slice xo xm xc)] w (ReadDone w ps os) := by
  rcases hrd with hrd | hrd
  · exact read_free x xo xm xc hrd
  · exact read_old x xo xm xc hp hR rfl h0 h1 hs hrd

theorem decN_small {zs : List Int} (hz : ∀ z ∈ zs, 0 ≤ z ∧ z ≤ 255) : (decN zs).small := by
  unfold decN
  split
  · unfold gotN pad64n
    exact readN_small (lay_bytes _ _ _ (fun z hz => by rw [List.eq_of_mem_replicate hz]; decide) (fun z h => hz z (List.mem_of_mem_take h)))
  · unfold PNode.small noNode u16
    simp

/-- What Node hands back. -/
def NodeDone (w : World) (x : PNode) (ps os : List Int) (e : Ending) (w' : World) : Prop :=
  ∃ xo m xc v u, e = .returned (.tuple #[x.val (.slice xo m xc), v, u, .int .i64 0]) ∧ XIs w' xo m x.x ∧ (m ≤ xc ∧ xc ≤ 9223372036854775807) ∧ FreshI w' w.heap.size v ps ∧ FreshI w' w.heap.size u os ∧ Below w.heap.size w w'

theorem results_4 {fn : Func} {p a b c : Tmp} {ty : TypeId} (h : fn.results = #[.cell p ty, .tmp a, .tmp b, .tmp c]) (tmps : Array Value) {ad : Addr} (ha : tmps.getD p undef = .pointer (some ad)) (P : Program) (w : World) {x : Value} (hl : (loadVar ty ad).run P w = .ok x w) :
    (results fn tmps).run P w = .ok (.tuple #[x, tmps.getD a undef, tmps.getD b undef, tmps.getD c undef]) w := by
  have ha' : tmps[p]?.getD undef = Value.pointer (some ad) := by simpa using ha
  simp only [results, h]
  simp [Sem.run_bind, Result.andThen, asAddr, ha', hl]

theorem row_no {k0 f l z d0 d1 d2 d3 s t c : Int} {xo : Option Addr} {xm xc : Nat} {o : Nat} {v : Value} {p q : Int} (h : ([.int .i64 k0, .int .i64 f, .int .i64 l, .int .i64 z, .int .i64 d0, .int .i64 d1, .int .i64 d2, .int .i64 d3, .int .i64 s, .int .i64 t, .slice xo xm xc, .int .i64 c] : List Value)[o]? = some v) : ¬ CX v p q := by
  match o, h with
  | 0, h | 1, h | 2, h | 3, h | 4, h | 5, h | 6, h | 7, h | 8, h | 9, h | 10, h | 11, h => cases Option.some.inj h; intro hC; simp [CX] at hC
  | n + 12, h => cases h

set_option maxRecDepth 100000 in
set_option maxHeartbeats 3200000 in
/-- What Node hands back, whatever is known of read. -/
theorem inode_of {w : World} {p gb gl gs cb cl cs : Nat} {I : Img} (k : Nat) (hk : k < 32) {ps os : List Int} (h : ImgAt w p gb gl gs cb cl cs I) (hV : VolOk I.bl)
    (hrd : ∀ W xo xm xc, Below w.heap.size w W → XIs W xo xm (nodeAt I.bl k).x → Calls Tryz.prog 70 #[.pointer (some ⟨p, 0, none⟩), (nodeAt I.bl k).val (.slice xo xm xc)] W (ReadDone W ps os)) (hh : ps.all (hereB I.bl.length) = true) :
    Calls Tryz.prog 22 #[.pointer (some ⟨p, 0, none⟩), .int .i64 k] w (NodeDone w (nodeAt I.bl k) ps os) := by
  have hp := h.lt.1
  have h64 := hV.n64
  have hcell : ∀ W, Below w.heap.size w W → W.cell? ⟨p, 0, none⟩ = some (.slice (some ⟨gb, 0, none⟩) I.bl.length cb) := fun W hW => by rw [hW.cell (p := ⟨p, 0, none⟩) hp]; exact h.c0
  have hrw : ∀ W, Below w.heap.size w W → Rw W gb I.bl := fun W hW => h.rb.later h.n0.1 hW
  have HN0 : Hid (∀ W, Below w.heap.size w W → Calls Tryz.prog 51 #[.pointer (some ⟨p, 0, none⟩)] W fun e w' => e = .returned (.bool false) ∧ W = w') := Lib.hid (fun W hW => none_of (hcell W hW) h.n0.1)
  have cI := fun (W : World) => iwithin_any k 0 31 W
  rw [show inI k 0 31 = true from decide_eq_true (by omega)] at cI
  have HNO : Hid (∀ W, Below w.heap.size w W → Calls Tryz.prog 69 #[.pointer (some ⟨p, 0, none⟩), .int .i64 k] W fun e w' => ∃ xo m xc, e = .returned ((nodeAt I.bl k).val (.slice xo m xc)) ∧ XIs w' xo m (nodeAt I.bl k).x ∧ (m ≤ xc ∧ xc ≤ 9223372036854775807) ∧ Below W.heap.size W w') := Lib.hid (fun W hW => node_any k (hcell W hW) (hrw W hW) rfl (by omega) hk (hV.nodes k hk))
  have HRD : Hid (∀ W xo xm xc, Below w.heap.size w W → XIs W xo xm (nodeAt I.bl k).x → Calls Tryz.prog 70 #[.pointer (some ⟨p, 0, none⟩), (nodeAt I.bl k).val (.slice xo xm xc)] W (ReadDone W ps os)) := Lib.hid hrd
  have HCO : Hid (∀ W va vc, Below w.heap.size w W → IArg W va ps.length vc ps → Calls Tryz.prog 71 #[.slice va ps.length vc, .func (.func 72) #[.pointer (some ⟨p, 0, none⟩)] #[]] W fun e w' => e = .returned (.bool false) ∧ W = w') := Lib.hid (fun W va vc hW hA => by
    have hx := containsAbs_any (hcell W hW) hA
    rw [hh] at hx
    exact hx)
  clear hcell hrw h64 h hV hrd hh hk
  generalize nodeAt I.bl k = X at *
  obtain ⟨k0, f, l, z, d0, d1, d2, d3, s, t, xx, c⟩ := X
  unfold PNode.val at HNO HRD
  dsimp only at HNO HRD
  have HB1 : Hid (Below w.heap.size w (w.alloc (.cells nodeZ 49))) := Lib.hid ((Below.refl _ _).alloc (Nat.le_refl _) _)
  unfold nodeZ at HB1
  go_enter Tryz.func22, Tryz.ntmps22
  go_wp2_with (first
    | (go_at_call 51; refine (HN0.out _ HB1.out).mono ?_; rintro e w' ⟨rfl, rfl⟩)
    | (go_at_call 39; refine (cI _).mono ?_; rintro e w' ⟨rfl, rfl⟩)
    | (go_at_call 69; refine (HNO.out _ HB1.out).mono ?_; rintro e w3 ⟨xo, xm, xc, rfl, hx3, hm3, hb3⟩; have HB3 := Lib.hid hb3; have HX3 := Lib.hid hx3; have HM3 := Lib.hid hm3; clear hb3 hx3 hm3)
    | (refine wpList_store_mid rfl 49 (.tmp 4) (.tmp 20) rfl w.heap.size 0 #[.int .i64 k0, .int .i64 f, .int .i64 l, .int .i64 z, .int .i64 d0, .int .i64 d1, .int .i64 d2, .int .i64 d3, .int .i64 s, .int .i64 t, .slice xo xm xc, .int .i64 c] rfl rfl (there_newC HB3.out rfl) (by kernel_rfl) (one_node ..) ?_))
  obtain ⟨W5, hW5⟩ : ∃ W5, w3.setCells w.heap.size 0 [.int .i64 k0, .int .i64 f, .int .i64 l, .int .i64 z, .int .i64 d0, .int .i64 d1, .int .i64 d2, .int .i64 d3, .int .i64 s, .int .i64 t, .slice xo xm xc, .int .i64 c] = W5 := ⟨_, rfl⟩
  have HT := Lib.hid (there_newC HB3.out rfl : w3.there w.heap.size 0 12)
  have HR5 : Hid (W5.rangeAt w.heap.size 0 [.int .i64 k0, .int .i64 f, .int .i64 l, .int .i64 z, .int .i64 d0, .int .i64 d1, .int .i64 d2, .int .i64 d3, .int .i64 s, .int .i64 t, .slice xo xm xc, .int .i64 c]) := Lib.hid (by rw [← hW5]; exact World.rangeAt_setCells_same _ _ _ _ HT.out)
  have HBW : Hid (Below w.heap.size w W5) := Lib.hid (by rw [← hW5]; exact below_cells _ (Nat.le_refl _) _ _ _ (below_new HB3.out))
  have HLT : Hid (w.heap.size < W5.heap.size) := Lib.hid (World.block_lt_of_cell? _ _ (HR5.out 0 _ rfl))
  have HX5 : Hid (XIs W5 xo xm xx) := Lib.hid (by
    rw [← hW5]
    refine HX3.out.apart (g := w.heap.size) (fun j hj => heap_setCells _ _ _ _ _ hj) (fun o' f' c' v hv => ?_)
    rw [HB3.out.cell (p := ⟨w.heap.size, o', none⟩) (by simp), World.cell?_alloc_new] at hv
    exact nodeZ_no o' f' c' v hv)
  have HROW : Hid (∀ W, Below W5.heap.size W5 W → W.rangeAt w.heap.size 0 [.int .i64 k0, .int .i64 f, .int .i64 l, .int .i64 z, .int .i64 d0, .int .i64 d1, .int .i64 d2, .int .i64 d3, .int .i64 s, .int .i64 t, .slice xo xm xc, .int .i64 c]) := Lib.hid (fun W hW j v hj => cell_later hW (HR5.out j v hj))
  have HZ : Hid (∀ o' f' c' v, W5.cell? ⟨w.heap.size, o', none⟩ = some v → ¬ CX v f' c') := Lib.hid (fun o' f' c' v hv => by
    have hsz : w3.cell? ⟨w.heap.size, o', none⟩ = nodeZ[o']? := by rw [HB3.out.cell (p := ⟨w.heap.size, o', none⟩) (by simp), World.cell?_alloc_new]; rfl
    rw [← hW5, setCells_cell _ _ _ _ _ (fun k' h1 h2 => by rw [HB3.out.cell (p := ⟨w.heap.size, k', none⟩) (by simp), World.cell?_alloc_new]; simp only [List.length_cons, List.length_nil] at h2; simp; omega)] at hv
    split at hv
    · rw [Nat.sub_zero] at hv
      exact row_no hv
    · rw [hsz] at hv
      exact nodeZ_no o' f' c' v hv)
  have HTH : Hid (∀ W, Below W5.heap.size W5 W → W.there w.heap.size 0 12) := Lib.hid (fun W hW j hj => by
    have h5 : W5.there w.heap.size 0 12 := by rw [← hW5]; exact World.there_setCells HT.out _ _ _
    obtain ⟨h1, h2⟩ := h5 j hj
    exact ⟨by rw [hW.cell (p := ⟨w.heap.size, 0 + j, none⟩) HLT.out]; exact h1, by rw [hW.frozen (p := ⟨w.heap.size, 0 + j, none⟩) HLT.out]; exact h2⟩)
  change Code.wp _ _ _ _ (w3.setCells w.heap.size 0 [.int .i64 k0, .int .i64 f, .int .i64 l, .int .i64 z, .int .i64 d0, .int .i64 d1, .int .i64 d2, .int .i64 d3, .int .i64 s, .int .i64 t, .slice xo xm xc, .int .i64 c])
  rw [hW5]
  clear hW5 HB3 HX3 HT HN0 HNO cI HB1
  refine wp_region_held_drew (S := fun W => W.rangeAt w.heap.size 0 [.int .i64 k0, .int .i64 f, .int .i64 l, .int .i64 z, .int .i64 d0, .int .i64 d1, .int .i64 d2, .int .i64 d3, .int .i64 s, .int .i64 t, .slice xo xm xc, .int .i64 c]) (by kernel_rfl) (HROW.out _ (Below.refl _ _).drew) (fun hHeld => ?_)
  refine wpAnyH_take (i := 0) (oi := ⟨some 22, _, _, _, _, _⟩) (v := .pointer (some ⟨p, 0, none⟩)) rfl (by kernel_rfl) (by kernel_rfl) (by kernel_rfl) (fun _ _ _ h => h) (Or.inl ⟨by kernel_rfl, fun w _ => rfl⟩) (by assumption) ?_
  try simp only [Act.put, List.setIfInBounds_toArray, List.set_cons_zero, List.set_cons_succ]
  refine wpAnyH_take (i := 1) (oi := ⟨some 23, _, _, _, _, _⟩) (v := .pointer (some ⟨p, 0, none⟩)) rfl (by kernel_rfl) (by kernel_rfl) (by kernel_rfl) (fun _ _ _ h => h) (Or.inl ⟨by kernel_rfl, by intro w _; go_simp; (try omega)⟩) (by assumption) ?_
  try simp only [Act.put, List.setIfInBounds_toArray, List.set_cons_zero, List.set_cons_succ]
  refine wpAnyH_take (i := 2) (oi := ⟨some 24, _, _, _, _, _⟩) (v := .pointer (some ⟨p, 0, none⟩)) rfl (by kernel_rfl) (by kernel_rfl) (by kernel_rfl) (fun _ _ _ h => h) (Or.inl ⟨by kernel_rfl, by intro w _; go_simp; (try omega)⟩) (by assumption) ?_
  try simp only [Act.put, List.setIfInBounds_toArray, List.set_cons_zero, List.set_cons_succ]
  refine wpAnyH_take (i := 3) (oi := { dst := some 25, op := .load 49 (.tmp 4), type := 49, pos := "image.go:85", after := #[], guard := none }) rfl (by kernel_rfl) (by kernel_rfl) (by kernel_rfl) (fun _ _ _ h => h) (yieldsIf_load_mid (by rfl) _ _ rfl _ _ rfl _ _ (fun W h => h) Tryz.underlying49 rfl (by kernel_rfl)) (by assumption) ?_
  try simp only [Act.put, List.setIfInBounds_toArray, List.set_cons_zero, List.set_cons_succ]
  refine wpAnyH_ready (rs := [4]) (by kernel_rfl) (by simp) ?_
  refine AllReadyH.cons (o := ⟨some 26, _, _, _, _, _⟩) rfl (fun K hK => ?_) AllReadyH.nil
  go_simp
  go_at_call 70
  refine (HRD.out _ xo xm xc HBW.out.drew (HX5.out.later (Below.refl _ _).drew)).mono ?_
  rintro e w5 ⟨v, u, rfl, hv, hu, hb5⟩
  have HB5 : Hid (Below W5.heap.size W5 w5) := Lib.hid ((Below.refl _ _).drew.trans hb5)
  have HV5 : Hid (FreshI w5 W5.heap.size v ps ∧ FreshI w5 W5.heap.size u os) := Lib.hid (And.intro hv hu)
  obtain ⟨va, vc, rfl, hva, hvf⟩ := hv
  have HVA := Lib.hid hva
  clear hu hb5 hva hvf
  refine hK.out _ _ ?_ (fun hHeld1 => ?_)
  · exact (HROW.out _ HB5.out)
  clear hK K
  try simp only [Act.put, List.setIfInBounds_toArray, List.set_cons_zero, List.set_cons_succ]
  refine wpAnyH_take (i := 5) (oi := ⟨some 21, _, _, _, _, _⟩) (v := .tuple #[.slice va ps.length vc, u, .int .i64 0]) rfl (by kernel_rfl) (by kernel_rfl) (by kernel_rfl) (fun _ _ _ h => h) (Or.inl ⟨by kernel_rfl, fun w _ => rfl⟩) (by assumption) ?_
  try simp only [Act.put, List.setIfInBounds_toArray, List.set_cons_zero, List.set_cons_succ]
  refine wpAnyH_take (i := 6) (oi := ⟨some 27, _, _, _, _, _⟩) (v := .slice va ps.length vc) rfl (by kernel_rfl) (by kernel_rfl) (by kernel_rfl) (fun _ _ _ h => h) (Or.inl ⟨by kernel_rfl, by intro w _; go_simp; (try omega)⟩) (by assumption) ?_
  try simp only [Act.put, List.setIfInBounds_toArray, List.set_cons_zero, List.set_cons_succ]
  refine wpAnyH_take (i := 7) (oi := ⟨some 28, _, _, _, _, _⟩) (v := u) rfl (by kernel_rfl) (by kernel_rfl) (by kernel_rfl) (fun _ _ _ h => h) (Or.inl ⟨by kernel_rfl, by intro w _; go_simp; (try omega)⟩) (by assumption) ?_
  try simp only [Act.put, List.setIfInBounds_toArray, List.set_cons_zero, List.set_cons_succ]
  refine wpAnyH_take (i := 8) (oi := ⟨some 29, _, _, _, _, _⟩) (v := .int .i64 0) rfl (by kernel_rfl) (by kernel_rfl) (by kernel_rfl) (fun _ _ _ h => h) (Or.inl ⟨by kernel_rfl, by intro w _; go_simp; (try omega)⟩) (by assumption) ?_
  try simp only [Act.put, List.setIfInBounds_toArray, List.set_cons_zero, List.set_cons_succ]
  refine wpAnyH_take (i := 9) (oi := ⟨some 5, _, _, _, _, _⟩) (v := .slice va ps.length vc) rfl (by kernel_rfl) (by kernel_rfl) (by kernel_rfl) (fun _ _ _ h => h) (Or.inl ⟨by kernel_rfl, fun w _ => rfl⟩) (by assumption) ?_
  try simp only [Act.put, List.setIfInBounds_toArray, List.set_cons_zero, List.set_cons_succ]
  refine wpAnyH_take (i := 10) (oi := ⟨some 6, _, _, _, _, _⟩) (v := u) rfl (by kernel_rfl) (by kernel_rfl) (by kernel_rfl) (fun _ _ _ h => h) (Or.inl ⟨by kernel_rfl, fun w _ => rfl⟩) (by assumption) ?_
  try simp only [Act.put, List.setIfInBounds_toArray, List.set_cons_zero, List.set_cons_succ]
  refine wpAnyH_take (i := 11) (oi := ⟨some 7, _, _, _, _, _⟩) (v := .int .i64 0) rfl (by kernel_rfl) (by kernel_rfl) (by kernel_rfl) (fun _ _ _ h => h) (Or.inl ⟨by kernel_rfl, fun w _ => rfl⟩) (by assumption) ?_
  try simp only [Act.put, List.setIfInBounds_toArray, List.set_cons_zero, List.set_cons_succ]
  refine wpAnyH_done (by kernel_rfl) ?_ _
  go_wp2_with (first
    | (go_at_call 71; refine (HCO.out _ va vc (HBW.out.trans (HB5.out.mono HBW.out.size)) HVA.out).mono ?_; rintro e w' ⟨rfl, rfl⟩)
    | (refine wpList_load_mid rfl 49 (.tmp 4) rfl w.heap.size 0 rfl [.int .i64 k0, .int .i64 f, .int .i64 l, .int .i64 z, .int .i64 d0, .int .i64 d1, .int .i64 d2, .int .i64 d3, .int .i64 s, .int .i64 t, .slice xo xm xc, .int .i64 c] _ (HROW.out _ HB5.out) Tryz.underlying49 rfl (by kernel_rfl) ?_)
    | (refine wpList_store_mid rfl 49 (.tmp 4) (.tmp 41) rfl w.heap.size 0 #[.int .i64 k0, .int .i64 f, .int .i64 l, .int .i64 z, .int .i64 d0, .int .i64 d1, .int .i64 d2, .int .i64 d3, .int .i64 s, .int .i64 t, .slice xo xm xc, .int .i64 c] rfl rfl (HTH.out _ HB5.out) (by kernel_rfl) (one_node ..) ?_))
  have hb5 := HBW.out.trans (HB5.out.mono HBW.out.size)
  have hkh : ∀ j, j ≠ w.heap.size → (w5.setCells w.heap.size 0 [.int .i64 k0, .int .i64 f, .int .i64 l, .int .i64 z, .int .i64 d0, .int .i64 d1, .int .i64 d2, .int .i64 d3, .int .i64 s, .int .i64 t, .slice xo xm xc, .int .i64 c]).heap[j]? = w5.heap[j]? := fun j hj => heap_setCells _ _ _ _ _ hj
  refine bodyPost_ret (results_4 rfl _ rfl _ _ (load_node (n := ⟨k0, f, l, z, d0, d1, d2, d3, s, t, xx, c⟩) (World.rangeAt_setCells_same _ _ _ _ (HTH.out _ HB5.out)))) rfl ?_
  have hg : Grew (fun k => k = w.heap.size) (fun k => k = w.heap.size) w5 (w5.setCells w.heap.size 0 [.int .i64 k0, .int .i64 f, .int .i64 l, .int .i64 z, .int .i64 d0, .int .i64 d1, .int .i64 d2, .int .i64 d3, .int .i64 s, .int .i64 t, .slice xo xm xc, .int .i64 c]) := Grew.setCells (fun k => k = w.heap.size) rfl _ _ _
  refine ⟨xo, xm, xc, _, u, rfl, (HX5.out.later HB5.out).apart (g := w.heap.size) hkh (fun o' f' c' v hv => HZ.out o' f' c' v (by rw [← HB5.out.cell (p := ⟨w.heap.size, o', none⟩) HLT.out]; exact hv)), HM3.out,
    (HV5.out.1.grew hg (fun k e => by rw [e]; exact HLT.out)).mono HBW.out.size, (HV5.out.2.grew hg (fun k e => by rw [e]; exact HLT.out)).mono HBW.out.size, below_cells _ (Nat.le_refl _) _ _ _ hb5⟩

theorem inode_at {w : World} {p gb gl gs cb cl cs : Nat} {I : Img} (k : Nat) (hk : k < 32) {ps os : List Int} (h : ImgAt w p gb gl gs cb cl cs I) (hV : VolOk I.bl) (hrd : Reads I.bl (nodeAt I.bl k) ps os) (hh : ps.all (hereB I.bl.length) = true) :
    Calls Tryz.prog 22 #[.pointer (some ⟨p, 0, none⟩), .int .i64 k] w (NodeDone w (nodeAt I.bl k) ps os) := by
  have hp := h.lt.1
  have h64 := hV.n64
  have hcell : ∀ W, Below w.heap.size w W → W.cell? ⟨p, 0, none⟩ = some (.slice (some ⟨gb, 0, none⟩) I.bl.length cb) := fun W hW => by rw [hW.cell (p := ⟨p, 0, none⟩) hp]; exact h.c0
  have hrw : ∀ W, Below w.heap.size w W → Rw W gb I.bl := fun W hW => h.rb.later h.n0.1 hW
  have hsm : (nodeAt I.bl k).small := decN_small (h.rb.bts (i := 3 + k / 2) (d := k % 2 * 32) (m := 32) (by omega) (by omega)).2.2.1
  exact inode_of k hk h hV (fun W xo xm xc hW _ => iread_any _ xo xm xc (hcell W hW) (hrw W hW) (by omega) h64.2 hsm hrd) hh

end Go.Proofs.YtmcblhgpcgnaoaaGreatDoor


namespace Go.Proofs.YtmcblhgpcgnaoaaGreatDoor
set_option linter.unusedVariables false
set_option linter.unusedSimpArgs false

/-- An extent: where in the file, its run's first block, and how many. -/
structure EX where
  a : Int
  f : Int
  c : Int
  deriving DecidableEq

/-- One more pointer ahead of extents: it goes on with the first of them, if it may. -/
def joinE (i x : Int) : List EX → List EX
  | [] => [⟨i, x, 1⟩]
  | e :: r => if e.a = i + 1 ∧ e.f = x + 1 then ⟨i, x, e.c + 1⟩ :: r else ⟨i, x, 1⟩ :: e :: r
/-- The extents of pointers that stand from a place on. -/
def fromE (i : Int) : List Int → List EX
  | [] => []
  | x :: r => if x = 0 then fromE (i + 1) r else joinE i x (fromE (i + 1) r)
/-- Where the block at a place lies; 0: nowhere. -/
def ptrE : List EX → Int → Int
  | [], _ => 0
  | e :: r, k => if e.a ≤ k ∧ k < e.a + e.c then e.f + (k - e.a) else ptrE r k
/-- So many pointers of extents. -/
def allE (l : List EX) (n : Nat) : List Int := (List.range n).map fun (k : Nat) => ptrE l (k : Int)
def inE (e : EX) (b : Int) : Prop := e.f ≤ b ∧ b < e.f + e.c
def okE (e : EX) : Prop := 1 ≤ e.c ∧ 59 ≤ e.f ∧ e.f + e.c ≤ 480 ∧ 0 ≤ e.a ∧ e.a + e.c ≤ 96
/-- May an extent come behind another one? -/
def nextE (e g : EX) : Prop := e.a + e.c ≤ g.a ∧ ¬ (g.a = e.a + e.c ∧ g.f = e.f + e.c)
def chainE : List EX → Prop
  | [] => True
  | [_] => True
  | e :: g :: r => nextE e g ∧ chainE (g :: r)
def farE (e g : EX) : Prop := e.f + e.c ≤ g.f ∨ g.f + g.c ≤ e.f
def soundE12 (l : List EX) : Prop := l.length ≤ 96 ∧ (∀ e ∈ l, okE e) ∧ chainE l ∧ l.Pairwise farE
/-! ### What extents of pointers are -/

theorem joinE_cc (i x : Int) (e : EX) (r : List EX) : joinE i x (e :: r) = if e.a = i + 1 ∧ e.f = x + 1 then ⟨i, x, e.c + 1⟩ :: r else ⟨i, x, 1⟩ :: e :: r := rfl
theorem joinE_cons (i x : Int) (l : List EX) : ∃ c r, joinE i x l = ⟨i, x, c⟩ :: r := by
  cases l with
  | nil => exact ⟨1, [], rfl⟩
  | cons e r =>
    rw [joinE_cc]
    split
    · exact ⟨_, _, rfl⟩
    · exact ⟨_, _, rfl⟩

/-- All extents begin from the place on, and have blocks. -/
theorem fromE_low : ∀ (l : List Int) (i : Int), ∀ e ∈ fromE i l, i ≤ e.a ∧ 1 ≤ e.c ∧ e.a + e.c ≤ i + l.length
  | [], _, _, h => by cases h
  | x :: r, i, e, h => by
    have ih := fromE_low r (i + 1)
    rw [List.length_cons]
    unfold fromE at h
    split at h
    · have := ih e h; omega
    · generalize fromE (i + 1) r = l at *
      cases l with
      | nil =>
        simp only [joinE, List.mem_singleton] at h
        subst h
        simp only
        omega
      | cons g s =>
        have hg := ih g (List.mem_cons_self ..)
        rw [joinE_cc] at h
        split at h
        · next hc =>
          rcases List.mem_cons.1 h with rfl | h
          · simp only; omega
          · have := ih e (List.mem_cons_of_mem _ h); omega
        · rcases List.mem_cons.1 h with rfl | h
          · simp only; omega
          · have := ih e h; omega

theorem ptrE_low : ∀ (l : List EX) (i k : Int), (∀ e ∈ l, i ≤ e.a) → k < i → ptrE l k = 0
  | [], _, _, _, _ => rfl
  | e :: r, i, k, h, hk => by
    unfold ptrE
    have := h e (List.mem_cons_self ..)
    rw [if_neg (by omega)]
    exact ptrE_low r i k (fun g hg => h g (List.mem_cons_of_mem _ hg)) hk

theorem ptrE_join {i x : Int} {l : List EX} (hl : ∀ e ∈ l, i + 1 ≤ e.a ∧ 1 ≤ e.c) (k : Int) : ptrE (joinE i x l) k = if k = i then x else ptrE l k := by
  cases l with
  | nil =>
    show (if i ≤ k ∧ k < i + 1 then x + (k - i) else 0) = _
    by_cases h : k = i
    · rw [if_pos (by omega), if_pos h]; omega
    · rw [if_neg (by omega), if_neg h]; rfl
  | cons e r =>
    have he := hl e (List.mem_cons_self ..)
    rw [joinE_cc]
    by_cases hc : e.a = i + 1 ∧ e.f = x + 1
    · rw [if_pos hc]
      show (if i ≤ k ∧ k < i + (e.c + 1) then x + (k - i) else ptrE r k) = if k = i then x else if e.a ≤ k ∧ k < e.a + e.c then e.f + (k - e.a) else ptrE r k
      by_cases h : k = i
      · rw [if_pos (by omega), if_pos h]; omega
      · rw [if_neg h]
        by_cases h2 : e.a ≤ k ∧ k < e.a + e.c
        · rw [if_pos (by omega), if_pos h2]; omega
        · rw [if_neg (by omega), if_neg h2]
    · rw [if_neg hc]
      show (if i ≤ k ∧ k < i + 1 then x + (k - i) else ptrE (e :: r) k) = _
      by_cases h : k = i
      · rw [if_pos (by omega), if_pos h]; omega
      · rw [if_neg (by omega), if_neg h]

/-- Pointers that were made extents are the pointers. -/
theorem ptr_from : ∀ (l : List Int) (i : Int) (j : Nat), ptrE (fromE i l) (i + j) = l.getD j 0
  | [], i, j => by simp [fromE, ptrE]
  | x :: r, i, j => by
    have hlow := fromE_low r (i + 1)
    have h1 : ∀ e ∈ fromE (i + 1) r, i + 1 ≤ e.a ∧ 1 ≤ e.c := fun e he => ⟨(hlow e he).1, (hlow e he).2.1⟩
    unfold fromE
    cases j with
    | zero =>
      split
      · next hx =>
        rw [ptrE_low _ (i + 1) _ (fun e he => (h1 e he).1) (by omega)]
        exact hx.symm
      · rw [ptrE_join h1, if_pos (by omega)]
        rfl
    | succ j =>
      have ih := ptr_from r (i + 1) j
      have e1 : i + ((j + 1 : Nat) : Int) = i + 1 + (j : Int) := by omega
      rw [e1]
      show _ = r.getD j 0
      split
      · exact ih
      · rw [ptrE_join h1, if_neg (by omega)]
        exact ih

theorem all_from (l : List Int) (n : Nat) (h : l.length ≤ n) : allE (fromE 0 l) n = l ++ List.replicate (n - l.length) 0 := by
  rw [← partP_all l n h]
  unfold allE partP
  apply List.map_congr_left
  intro k _
  have := ptr_from l 0 k
  rw [Int.zero_add] at this
  rw [this, Nat.zero_add]

/-- Zeros behind make no other extents. -/
theorem from_zeros : ∀ (n : Nat) (i : Int), fromE i (List.replicate n 0) = []
  | 0, _ => rfl
  | n + 1, i => by rw [List.replicate_succ]; unfold fromE; rw [if_pos rfl]; exact from_zeros n _
theorem from_append_zeros (n : Nat) : ∀ (l : List Int) (i : Int), fromE i (l ++ List.replicate n 0) = fromE i l
  | [], i => by rw [List.nil_append, from_zeros]; rfl
  | x :: r, i => by
    show (if x = 0 then fromE (i + 1) (r ++ List.replicate n 0) else joinE i x (fromE (i + 1) (r ++ List.replicate n 0))) = _
    rw [from_append_zeros n r]
    rfl
/-! ### As few as may be -/

theorem joinE_len (i x : Int) (l : List EX) : (joinE i x l).length = l.length + (match l with | [] => 1 | e :: _ => if e.a = i + 1 ∧ e.f = x + 1 then 0 else 1) := by
  cases l with
  | nil => rfl
  | cons e r =>
    rw [joinE_cc]
    split
    · next h => simp [h]
    · next h => simp [h]

/-- Does the first extent begin just there? It does, if the pointer there is one. -/
theorem from_head : ∀ (l : List Int) (i : Int), (∃ e r, fromE i l = e :: r ∧ e.a = i ∧ e.f = l.headD 0 ∧ l.headD 0 ≠ 0) ∨ (l.headD 0 = 0 ∧ ∀ e ∈ fromE i l, i + 1 ≤ e.a)
  | [], i => Or.inr ⟨rfl, fun e h => by cases h⟩
  | x :: r, i => by
    by_cases hx : x = 0
    · refine Or.inr ⟨hx, fun e he => ?_⟩
      unfold fromE at he
      rw [if_pos hx] at he
      exact (fromE_low r (i + 1) e he).1
    · refine Or.inl ?_
      unfold fromE
      rw [if_neg hx]
      obtain ⟨c, s, h⟩ := joinE_cons i x (fromE (i + 1) r)
      exact ⟨_, _, h, rfl, rfl, hx⟩

/-! ### Sound -/

/-- The blocks of extents are the pointers that are none of 0. -/
theorem from_blocks : ∀ (l : List Int) (i b : Int), (∃ e ∈ fromE i l, inE e b) ↔ b ∈ nzL l
  | [], i, b => by simp [fromE, nzL]
  | x :: r, i, b => by
    have ih := from_blocks r (i + 1) b
    have hlow := fromE_low r (i + 1)
    unfold fromE
    by_cases hx : x = 0
    · rw [if_pos hx, ih]
      unfold nzL nzB
      simp [hx]
    · rw [if_neg hx]
      have hn : b ∈ nzL (x :: r) ↔ b = x ∨ b ∈ nzL r := by unfold nzL nzB; simp [hx]
      rw [hn, ← ih]
      generalize fromE (i + 1) r = l at *
      cases l with
      | nil =>
        simp only [joinE, List.mem_singleton, exists_eq_left, inE]
        constructor
        · intro h; exact Or.inl (by omega)
        · rintro (h | ⟨e, he, _⟩)
          · omega
          · cases he
      | cons e s =>
        have he := hlow e (List.mem_cons_self ..)
        rw [joinE_cc]
        split
        · next hc =>
          simp only [List.mem_cons, exists_eq_or_imp, inE]
          constructor
          · rintro (h | h)
            · by_cases hb : b = x
              · exact Or.inl hb
              · exact Or.inr (Or.inl (by omega))
            · exact Or.inr (Or.inr h)
          · rintro (h | h | h)
            · exact Or.inl (by omega)
            · exact Or.inl (by omega)
            · exact Or.inr h
        · simp only [List.mem_cons, exists_eq_or_imp, inE]
          constructor
          · rintro (h | h)
            · exact Or.inl (by omega)
            · exact Or.inr h
          · rintro (h | h)
            · exact Or.inl (by omega)
            · exact Or.inr h

theorem from_sound : ∀ (l : List Int) (i : Int), 0 ≤ i → i + l.length ≤ 96 → apartL l = true → (∀ e ∈ fromE i l, okE e) ∧ chainE (fromE i l) ∧ (fromE i l).Pairwise farE
  | [], i, _, _, _ => ⟨fun e h => (by cases h), trivial, List.Pairwise.nil⟩
  | x :: r, i, hi, hl, ha => by
    rw [List.length_cons] at hl
    have har : apartL r = true := (apart_append (a := [x]) (b := r) ha).2
    obtain ⟨i1, i2, i3⟩ := from_sound r (i + 1) (by omega) (by omega) har
    have hblk := from_blocks r (i + 1)
    have hlow := fromE_low r (i + 1)
    unfold fromE
    by_cases hx : x = 0
    · rw [if_pos hx]; exact ⟨i1, i2, i3⟩
    · rw [if_neg hx]
      have hxd : 59 ≤ x ∧ x ≤ 479 := by
        unfold apartL at ha
        rw [Bool.and_eq_true, List.all_eq_true] at ha
        have := ha.1 x (List.mem_cons_self ..)
        unfold okP at this
        simp only [decide_eq_true_eq] at this
        omega
      have hxn : x ∉ nzL r := by
        unfold apartL at ha
        rw [Bool.and_eq_true, decide_eq_true_eq] at ha
        have h2 := ha.2
        have e : nzL (x :: r) = x :: nzL r := by unfold nzL nzB; simp [hx]
        rw [e, List.nodup_cons] at h2
        exact h2.1
      have hxf : ∀ e ∈ fromE (i + 1) r, ¬ inE e x := fun e he h => hxn ((hblk x).1 ⟨e, he, h⟩)
      generalize fromE (i + 1) r = l at *
      cases l with
      | nil =>
        refine ⟨fun e he => ?_, trivial, by show [(⟨i, x, 1⟩ : EX)].Pairwise farE; exact List.pairwise_singleton _ _⟩
        simp only [joinE, List.mem_singleton] at he
        subst he
        unfold okE
        simp only
        omega
      | cons g s =>
        have hg := hlow g (List.mem_cons_self ..)
        have gok := i1 g (List.mem_cons_self ..)
        unfold okE at gok
        rw [List.pairwise_cons] at i3
        rw [joinE_cc]
        split
        · next hc =>
          refine ⟨fun e he => ?_, ?_, ?_⟩
          · rcases List.mem_cons.1 he with rfl | he
            · unfold okE; simp only; omega
            · exact i1 e (List.mem_cons_of_mem _ he)
          · cases s with
            | nil => trivial
            | cons k t =>
              obtain ⟨⟨n1, n2⟩, n3⟩ := i2
              refine ⟨⟨by simp only; omega, fun h => n2 ?_⟩, n3⟩
              simp only at h
              omega
          · rw [List.pairwise_cons]
            refine ⟨fun e he => ?_, i3.2⟩
            have h1 := i3.1 e he
            have h2 := hxf e (List.mem_cons_of_mem _ he)
            have h3 := i1 e (List.mem_cons_of_mem _ he)
            unfold farE at h1 ⊢
            unfold inE at h2
            unfold okE at h3
            simp only
            omega
        · next hc =>
          refine ⟨fun e he => ?_, ⟨⟨by simp only; omega, ?_⟩, i2⟩, ?_⟩
          · rcases List.mem_cons.1 he with rfl | he
            · unfold okE; simp only; omega
            · exact i1 e he
          · intro h
            simp only at h
            exact hc (by omega)
          · rw [List.pairwise_cons]
            refine ⟨fun e he => ?_, List.pairwise_cons.2 i3⟩
            have h2 := hxf e he
            have h3 := i1 e he
            unfold farE
            unfold inE at h2
            unfold okE at h3
            simp only
            omega

theorem from_le : ∀ (l : List Int) (i : Int), (fromE i l).length ≤ l.length
  | [], _ => Nat.le_refl _
  | x :: r, i => by
    have := from_le r (i + 1)
    unfold fromE
    rw [List.length_cons]
    split
    · omega
    · rw [joinE_len]
      have h1 : (match fromE (i + 1) r with | [] => 1 | e :: _ => if e.a = i + 1 ∧ e.f = x + 1 then 0 else 1) ≤ 1 := by
        cases fromE (i + 1) r with
        | nil => exact Nat.le_refl _
        | cons e s =>
          show (if e.a = i + 1 ∧ e.f = x + 1 then 0 else 1) ≤ 1
          split <;> decide
      omega

theorem from_sound12 {l : List Int} (h : ptrsOk l = true) : soundE12 (fromE 0 l) := by
  unfold ptrsOk at h
  rw [Bool.and_eq_true, decide_eq_true_eq] at h
  obtain ⟨h1, h2, h3⟩ := from_sound l 0 (by decide) (by omega) h.2
  exact ⟨Nat.le_trans (from_le l 0) h.1, h1, h2, h3⟩

/-! ### How many blocks -/

end Go.Proofs.YtmcblhgpcgnaoaaGreatDoor


namespace Go.Proofs.YtmcblhgpcgnaoaaGreatDoor
open Go.RowKit
set_option linter.unusedVariables false

/-- A variable of 96 numbers that was made. -/
theorem made_file (w : World) : OwnV w.heap.size w w.heap.size (ints (List.replicate 96 0)) (w.alloc (.cells Tryz.zeroCells239 239)) := by
  refine ⟨fun j x hj => ?_, fun j => by rw [World.frozen?_alloc_mark]; simp, Nat.le_refl _, (Below.refl _ _).alloc (Nat.le_refl _) _⟩
  rw [World.cell?_alloc_new]
  rw [show Tryz.zeroCells239 = (ints (List.replicate 96 0)).toArray from rfl]
  simpa using hj

end Go.Proofs.YtmcblhgpcgnaoaaGreatDoor


namespace Go.Proofs.YtmcblhgpcgnaoaaGreatDoor
open Go.RowKit
set_option linter.unusedVariables false
set_option linter.unusedSimpArgs false

def fileV (F : List Int) : Value := .agg (ints F).toArray
/-- Block b is a file: its 96 numbers. -/
def FileAt (w : World) (b : Nat) (F : List Int) : Prop := F.length = 96 ∧ w.rangeAt b 0 (ints F)

theorem uFile : Tryz.prog.underlying 239 = some (.array 96 3) := Tryz.underlying239
theorem iFile {F : List Int} (h : F.length = 96) : (Tryz.prog.info? 239).map (·.size) = some (ints F).length := by rw [ints_length, h]; kernel_rfl

theorem FileAt.later {w wx : World} {b : Nat} {F : List Int} (h : FileAt w b F) (hb : Below w.heap.size w wx) : FileAt wx b F := ⟨h.1, fun j v hj => cell_later hb (h.2 j v hj)⟩
theorem FileAt.cell {w : World} {b k : Nat} {F : List Int} (h : FileAt w b F) (hk : k < 96) : w.cell? ⟨b, k, none⟩ = some (.int .i64 (F.getD k 0)) := by
  have := h.2 k (.int .i64 (F.getD k 0)) (ints_get (by rw [List.getD_eq_getElem?_getD, List.getElem?_eq_getElem (by rw [h.1]; exact hk)]; rfl))
  rwa [Nat.zero_add] at this
theorem file_new (w : World) {F : List Int} (h : F.length = 96) (T : TypeId) : FileAt (w.alloc (.cells (ints F).toArray T)) w.heap.size F := ⟨h, fun j v hj => by
  rw [Nat.zero_add, World.cell?_alloc_new]
  simpa using hj⟩
theorem file_of_own {base g : Nat} {w0 w : World} {F : List Int} (h : OwnV base w0 g (ints F) w) (hl : F.length = 96) : FileAt w g F := ⟨hl, own_range h⟩

/-- Is it so of a place that a block lies there? -/
def liesB (F : List Int) (k : Nat) : Bool := F.getD k 0 != 0
/-- Is it so of a place that the blocks go on no longer? -/
def endsB (F : List Int) (s : Int) (k : Nat) : Bool := F.getD k 0 != s + k

set_option maxHeartbeats 800000 in
theorem lies_any {w : World} {b k : Nat} {F : List Int} (hF : FileAt w b F) (hk : k < 96) :
    Calls Tryz.prog 249 #[.int .i64 (k : Int), .pointer (some ⟨b, 0, none⟩)] w fun e w' => e = .returned (.bool (liesB F k)) ∧ Below w.heap.size w w' := by
  have d1 := hF.cell hk
  unfold liesB
  obtain ⟨x, hx⟩ : ∃ x, F.getD k 0 = x := ⟨_, rfl⟩
  rw [hx] at d1 ⊢
  have i1 : (k : Int) < 96 := by omega
  clear hF hx
  go_enter Tryz.func249, Tryz.ntmps249
  go_wp2_with fail
  go_ret
  exact ⟨rfl, Below.refl _ _⟩

set_option maxHeartbeats 1600000 in
theorem ends_any {w : World} {b s k : Nat} {F : List Int} {x : Int} (hF : FileAt w b F) (hs : w.cell? ⟨s, 0, none⟩ = some (.int .i64 x)) (hx : -1000 ≤ x ∧ x ≤ 1000) (hk : k < 96) :
    Calls Tryz.prog 251 #[.int .i64 (k : Int), .pointer (some ⟨b, 0, none⟩), .pointer (some ⟨s, 0, none⟩)] w fun e w' => e = .returned (.bool (endsB F x k)) ∧ Below w.heap.size w w' := by
  have d1 := hF.cell hk
  have e1 : endsB F x k = (F.getD k 0 != x + k) := rfl
  rw [e1]
  obtain ⟨y, hy⟩ : ∃ y, F.getD k 0 = y := ⟨_, rfl⟩
  rw [hy] at d1 ⊢
  have i1 : (k : Int) < 96 := by omega
  have i2 : wrap64 (x + (k : Int)) = x + k := by unfold wrap64; omega
  clear hF hy e1
  go_enter Tryz.func251, Tryz.ntmps251
  go_wp2_with fail
  go_quiet (fail)
  go_wp2_with fail
  go_ret
  exact ⟨rfl, below_drewN (Below.refl _ _) _⟩

set_option maxRecDepth 100000 in
set_option maxHeartbeats 1600000 in
theorem seekL_any {w : World} {b from_ : Nat} {F G : List Int}  (hF : FileAt w b F) (hG : G.length = 96)  (hf : from_ ≤ 96) :
    Calls Tryz.prog 250 #[fileV G, .int .i64 (from_ : Int), .func (.func 249) #[] #[.pointer (some ⟨b, 0, none⟩)]] w fun e w' => ∃ r : Nat, e = .returned (.int .i64 (r : Int)) ∧ (from_ ≤ r ∧ r ≤ 96) ∧ (∀ k, from_ ≤ k → k < r → liesB F k = false) ∧ (r < 96 → liesB F r = true) ∧ Below w.heap.size w w' := by
  have HF := Lib.hid hF
  unfold fileV
  have HG := Lib.hid hG
  clear hF hG
  go_enter Tryz.func250, Tryz.ntmps250
  go_wp2_with fail
  go_loopw [1] (fun iv wr => ∃ i : Nat, iv = .int .i64 (i : Int) ∧ (from_ ≤ i ∧ i ≤ 96) ∧ Hid (Below w.heap.size w wr) ∧ Hid (∀ k, from_ ≤ k → k < i → liesB F k = false)) (fun iv _ => 96 - (intOf iv).toNat)
  case atStart => exact ⟨from_, rfl, ⟨Nat.le_refl _, hf⟩, Lib.hid ((Below.refl _ _).alloc (Nat.le_refl _) _), Lib.hid (fun k h1 h2 => by omega)⟩
  case round =>
    obtain ⟨i, rfl, hi, HB, HP⟩ := hrel
    by_cases hlt : i < 96
    · have cF := lies_any (HF.out.later HB.out) hlt
      have i1 : (i : Int) < 96 := by omega
      obtain ⟨B, hB⟩ : ∃ B, liesB F i = B := ⟨_, rfl⟩
      have HV := Lib.hid hB
      rw [hB] at cF
      clear hB
      cases B with
      | true =>
        go_wp2_with (go_at_call 249; refine cF.mono ?_; rintro e w3 ⟨rfl, hb3⟩; have HB3 := Lib.hid hb3; clear hb3)
        go_ret
        exact ⟨i, rfl, hi, HP.out, fun _ => HV.out, HB.out.trans (HB3.out.mono HB.out.size)⟩
      | false =>
        go_wp2_with (go_at_call 249; refine cF.mono ?_; rintro e w3 ⟨rfl, hb3⟩; have HB3 := Lib.hid hb3; clear hb3)
        go_roundw
        case rel => exact ⟨i + 1, by go_num, by omega, Lib.hid (HB.out.trans (HB3.out.mono HB.out.size)), Lib.hid (fun k h1 h2 => by
          by_cases hk : k = i
          · subst hk; exact HV.out
          · exact HP.out k h1 (by omega))⟩
        case measure => simp [intOf]; omega
    · have hin : i = 96 := by omega
      subst hin
      go_wp2_with fail
      go_ret
      exact ⟨96, rfl, hi, HP.out, fun h => absurd h (by decide), HB.out⟩

set_option maxRecDepth 100000 in
set_option maxHeartbeats 1600000 in
theorem seekE_any {w : World} {b from_ : Nat} {F G : List Int} {s : Nat} {x : Int} (hF : FileAt w b F) (hG : G.length = 96) (hs : w.cell? ⟨s, 0, none⟩ = some (.int .i64 x)) (hx : -1000 ≤ x ∧ x ≤ 1000) (hf : from_ ≤ 96) :
    Calls Tryz.prog 250 #[fileV G, .int .i64 (from_ : Int), .func (.func 251) #[] #[.pointer (some ⟨b, 0, none⟩), .pointer (some ⟨s, 0, none⟩)]] w fun e w' => ∃ r : Nat, e = .returned (.int .i64 (r : Int)) ∧ (from_ ≤ r ∧ r ≤ 96) ∧ (∀ k, from_ ≤ k → k < r → endsB F x k = false) ∧ (r < 96 → endsB F x r = true) ∧ Below w.heap.size w w' := by
  have HF := Lib.hid hF
  have HS := Lib.hid hs
  clear hs
  unfold fileV
  have HG := Lib.hid hG
  clear hF hG
  go_enter Tryz.func250, Tryz.ntmps250
  go_wp2_with fail
  go_loopw [1] (fun iv wr => ∃ i : Nat, iv = .int .i64 (i : Int) ∧ (from_ ≤ i ∧ i ≤ 96) ∧ Hid (Below w.heap.size w wr) ∧ Hid (∀ k, from_ ≤ k → k < i → endsB F x k = false)) (fun iv _ => 96 - (intOf iv).toNat)
  case atStart => exact ⟨from_, rfl, ⟨Nat.le_refl _, hf⟩, Lib.hid ((Below.refl _ _).alloc (Nat.le_refl _) _), Lib.hid (fun k h1 h2 => by omega)⟩
  case round =>
    obtain ⟨i, rfl, hi, HB, HP⟩ := hrel
    by_cases hlt : i < 96
    · have cF := ends_any (HF.out.later HB.out) (cell_later HB.out HS.out) hx hlt
      have i1 : (i : Int) < 96 := by omega
      obtain ⟨B, hB⟩ : ∃ B, endsB F x i = B := ⟨_, rfl⟩
      have HV := Lib.hid hB
      rw [hB] at cF
      clear hB
      cases B with
      | true =>
        go_wp2_with (go_at_call 251; refine cF.mono ?_; rintro e w3 ⟨rfl, hb3⟩; have HB3 := Lib.hid hb3; clear hb3)
        go_ret
        exact ⟨i, rfl, hi, HP.out, fun _ => HV.out, HB.out.trans (HB3.out.mono HB.out.size)⟩
      | false =>
        go_wp2_with (go_at_call 251; refine cF.mono ?_; rintro e w3 ⟨rfl, hb3⟩; have HB3 := Lib.hid hb3; clear hb3)
        go_roundw
        case rel => exact ⟨i + 1, by go_num, by omega, Lib.hid (HB.out.trans (HB3.out.mono HB.out.size)), Lib.hid (fun k h1 h2 => by
          by_cases hk : k = i
          · subst hk; exact HV.out
          · exact HP.out k h1 (by omega))⟩
        case measure => simp [intOf]; omega
    · have hin : i = 96 := by omega
      subst hin
      go_wp2_with fail
      go_ret
      exact ⟨96, rfl, hi, HP.out, fun h => absurd h (by decide), HB.out⟩

end Go.Proofs.YtmcblhgpcgnaoaaGreatDoor

