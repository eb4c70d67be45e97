/-
  Proved here: what the landed entry answers when an entry is added (add, Add).
  The conditions stand at each theorem.
-/
import Derived.Test.YtkpgefjbhimmgaaEntRows
namespace Go.Proofs.Ytkpgefjbhimmgaa
open Go.RowKit
set_option linter.unusedVariables false
set_option linter.unusedSimpArgs false

theorem addIn_room (x : PEnt) : ∀ bs : List (List PEnt), addIn bs x = (bs.findIdx? (fun b => decide (b.length < 3))).map (fun i => (bs.set i (bs.getD i [] ++ [x]), i))
  | [] => rfl
  | b :: r => by
    unfold addIn
    by_cases h : b.length < 3
    · rw [if_pos h, List.findIdx?_cons, if_pos (decide_eq_true h)]
      rfl
    · rw [if_neg h, List.findIdx?_cons, if_neg (by simpa using h), addIn_room x r]
      cases r.findIdx? (fun b => decide (b.length < 3)) <;> rfl

theorem grown_setCell (w : World) (a : Addr) (v : Value) : w.grownBy (w.setCell a v) (some a.block) :=
  ⟨rfl, rfl, rfl, by simp [World.setCell], fun k _ hk => by rw [Below.heap_setCell _ _ _ _ (fun e => hk (by rw [e]))]⟩

theorem pair_at {xs : List Value} (h : xs.Pairwise (fun u u' => u.ownBlock = none ∨ u.ownBlock ≠ u'.ownBlock)) {i j : Nat} {u u' : Value} (hi : xs[i]? = some u) (hj : xs[j]? = some u') (hne : j ≠ i) : u'.ownBlock = none ∨ u'.ownBlock ≠ u.ownBlock := by
  obtain ⟨hil, rfl⟩ := List.getElem?_eq_some_iff.1 hi
  obtain ⟨hjl, rfl⟩ := List.getElem?_eq_some_iff.1 hj
  rcases Nat.lt_or_gt_of_ne hne with h1 | h1
  · exact List.pairwise_iff_getElem.1 h j i hjl hil h1
  · rcases List.pairwise_iff_getElem.1 h i j hil hjl h1 with e | e
    · cases h2 : xs[j].ownBlock with
      | none => exact Or.inl rfl
      | some g => right; rw [e]; simp
    · exact Or.inr (fun e2 => e e2.symm)

/-- Blocks of which one has been written anew, as a call hands them back. -/
theorem rows_done {base : Nat} {wr wq w' : World} {v u u' : Value} {bs : List (List PEnt)} {xs : List Value} {i og : Nat} {es es' : List PEnt}
    (x1 : wr.ownsRow base 22 1 v bs.length xs) (x2 : ∀ (j : Nat) (u : Value) (es : List PEnt), xs[j]? = some u → bs[j]? = some es → OwnE base wr u es) (x3 : xs.Pairwise (fun u u' => u.ownBlock = none ∨ u.ownBlock ≠ u'.ownBlock))
    (hq : Below wr.heap.size wr wq) (hg : wq.grownBy w' u.ownBlock) (hu : xs[i]? = some u) (hes : bs[i]? = some es) (hu' : OwnE base w' u' es') (hv : v.ownBlock = some og) (hl : ∀ b ∈ bs, b.length ≤ 100000) (hl' : es'.length ≤ 100000) (hn : bs.length ≤ 100000) :
    BlkVal (w'.setCell ⟨og, i, none⟩ u') v (bs.set i es') := by
  have hxl : xs.length = bs.length := by have := x1.1; omega
  have hil := (List.getElem?_eq_some_iff.1 hes).1
  have hui := x2 i u es hu hes
  have v1 := owns_later_k x1 hq
  have u1 := owns_later_k hui.1 hq
  have v2 := v1.kept hg (owns_ne_k v1 u1 (by decide))
  obtain ⟨ao, cap, hvv⟩ := owns_shape v2
  have hao : ao = some ⟨og, 0, none⟩ := by
    obtain ⟨g, cap', hv2, _, _⟩ := v2.form (by omega)
    rw [hv2] at hv
    simp [Value.ownBlock] at hv
    rw [hvv] at hv2
    simp only [Value.slice.injEq] at hv2
    rw [hv2.1, hv]
  subst hao
  rw [hvv] at v2
  have hcap : bs.length ≤ cap := by
    rcases v2.2 with ⟨h, _⟩ | ⟨g, cap', cur, h, _, _, hc, _⟩
    · cases h
    · simp only [Value.slice.injEq, Option.some.injEq, Addr.mk.injEq, and_true, true_and] at h
      omega
  obtain ⟨v3, hgs⟩ := v2.stored i u'
  have inner : ∀ {y : Value} {e : List PEnt}, OwnE base w' y e → OwnE base (w'.setCell ⟨og, i, none⟩ u') y e := fun h => ⟨h.1.kept hgs (by
    have := owns_ne_k h.1 v2 (by decide)
    simpa [Value.ownBlock] using this), h.2⟩
  refine ⟨some ⟨og, 0, none⟩, cap, by rw [List.length_set]; exact hvv, ⟨rfl, by rw [List.length_set]; omega, Or.inr ⟨og, 0, rfl, fun j e hj => ?_⟩⟩, (fun h => by cases h), by rw [List.length_set]; exact hcap⟩
  have hjl : j < bs.length := by have := (List.getElem?_eq_some_iff.1 hj).1; rwa [List.length_set] at this
  have cell : ∀ y, (xs.set i u')[j]? = some y → (w'.setCell ⟨og, i, none⟩ u').cell? ⟨og, 0 + j, none⟩ = some y := fun y hy => by
    have := v3.cells rfl j y hy
    rwa [Go.WideShapes.add_plain] at this
  have fin : ∀ {y : Value}, (xs.set i u')[j]? = some y → OwnE base (w'.setCell ⟨og, i, none⟩ u') y e → e.length ≤ 100000 → ∃ ad len cap, (w'.setCell ⟨og, i, none⟩ u').cell? ⟨og, 0 + j, none⟩ = some (.slice ad len cap) ∧ EntArg (w'.setCell ⟨og, i, none⟩ u') ad len cap e := fun hy ho hle => by
    obtain ⟨ad, c, rfl, hA⟩ := ho.val hle
    exact ⟨ad, e.length, c, cell _ hy, hA⟩
  by_cases hji : j = i
  · subst hji
    rw [List.getElem?_set_self hil] at hj
    obtain rfl : es' = e := by simpa using hj
    exact fin (List.getElem?_set_self (by omega)) (inner hu') hl'
  · rw [List.getElem?_set_ne (fun e => hji e.symm)] at hj
    have hy : xs[j]? = some (xs[j]'(by omega)) := List.getElem?_eq_getElem (by omega)
    have ho := x2 j _ e hy hj
    refine fin (by rw [List.getElem?_set_ne (fun e => hji e.symm)]; exact hy) (inner ⟨(owns_later_k ho.1 hq).kept hg (pair_at x3 hu hy hji), ho.2⟩) (hl e (List.mem_of_getElem? hj))

/-- Blocks of the call's own, as a call hands them back. -/
theorem RowsE.val {base : Nat} {w : World} {v : Value} {bs : List (List PEnt)} (h : RowsE base w v bs) (hl : ∀ b ∈ bs, b.length ≤ 100000) (hn : bs.length ≤ 100000) : BlkVal w v bs := by
  obtain ⟨xs, x1, x2, x3⟩ := h
  have hxl : xs.length = bs.length := by have := x1.1; omega
  rcases x1.2 with ⟨hv, h0⟩ | ⟨g, cap, cur, hv, hg, _, hc, _⟩
  · obtain rfl : bs = [] := List.length_eq_zero_iff.1 h0
    rw [hv]
    exact BlkVal.nil w
  · refine ⟨_, cap, hv, ⟨rfl, by omega, Or.inr ⟨g, 0, rfl, fun j e hj => ?_⟩⟩, (fun h => by cases h), hc⟩
    have hjl : j < xs.length := by rw [hxl]; exact (List.getElem?_eq_some_iff.1 hj).1
    have hy : xs[j]? = some xs[j] := List.getElem?_eq_getElem hjl
    obtain ⟨ad, c, hya, hA⟩ := (x2 j _ e hy hj).val (hl e (List.mem_of_getElem? hj))
    rw [hv] at x1
    have := x1.cells rfl j _ hy
    rw [Go.WideShapes.add_plain, hya] at this
    exact ⟨ad, e.length, c, this, hA⟩

/-- What Add answers. -/
def AddDone (w0 : World) (bs : List (List PEnt)) (x : PEnt) (e : Ending) (w : World) : Prop :=
  ∃ v, e = .returned (.tuple #[v, .int .i64 (addRes bs x).2.1, .int .i64 (addRes bs x).2.2]) ∧ BlkVal w v (addRes bs x).1 ∧ Below w0.heap.size w0 w

/-- The same, of an answer that is given. -/
def AddGives (w0 : World) (R : List (List PEnt) × Int × Int) (e : Ending) (w : World) : Prop :=
  ∃ v, e = .returned (.tuple #[v, .int .i64 R.2.1, .int .i64 R.2.2]) ∧ BlkVal w v R.1 ∧ Below w0.heap.size w0 w

set_option maxHeartbeats 3200000 in
theorem add_room (ao : Option Addr) (len cap : Nat) (bs : List (List PEnt)) (nd : Int) (nm : ByteArray) (w : World) (hA : BlkArg w ao len cap bs) (h3 : ∀ b ∈ bs, b.length ≤ 3) (h96 : len ≤ 96) (hx : (-9223372036854775808 ≤ nd ∧ nd ≤ 9223372036854775807) ∧ nm.size ≤ 140737488351232)
    (i : Nat) (hf : bs.findIdx? (fun b => decide (b.length < 3)) = some i) :
    Calls Try.prog 35 #[.slice ao len cap, .agg #[.int .i64 nd, .string nm]] w (AddGives w (bs.set i (bs.getD i [] ++ [⟨nd, nm⟩]), i, 0)) := by
  have HB1 : Hid (Below w.heap.size w (w.alloc (.cells #[.int .i64 nd, .string nm] 40))) := Lib.hid ((Below.refl _ _).alloc (Nat.le_refl _) _)
  have cC := cloned_any ao len cap bs _ (hA.later HB1.out) h3 (by omega)
  have HL : Hid (bs.length = len) := Lib.hid hA.1.1
  have H3 := Lib.hid h3
  have HX := Lib.hid hx
  have HR : Hid (roomAt bs = (i : Int)) := Lib.hid (by unfold roomAt; rw [hf])
  obtain ⟨hil, hroom, hrest⟩ := List.findIdx?_eq_some_iff_getElem.1 hf
  obtain ⟨es, hes⟩ : ∃ es, bs[i]? = some es := ⟨_, List.getElem?_eq_getElem hil⟩
  have hg : bs.getD i [] = es := (getD_of hes).1
  have hes3 : es.length < 3 := by
    have := of_decide_eq_true hroom
    have h2 := List.getElem?_eq_getElem hil
    rw [hes] at h2
    simp only [Option.some.injEq] at h2
    rw [h2]; exact this
  rw [hg]
  have HES := Lib.hid hes
  have il : i < len := by rw [← HL.out]; exact hil
  have i0 : 0 ≤ (i : Int) := by omega
  have i1 : (i : Int) < (len : Int) := by omega
  have k0 := two_cells_new w (.int .i64 nd) (.string nm) 40 0 _ rfl
  have k1 := two_cells_new w (.int .i64 nd) (.string nm) 40 1 _ rfl
  generalize hw1 : w.alloc (.cells #[.int .i64 nd, .string nm] 40) = w1 at *
  have HW1 : Hid (w1.heap.size = w.heap.size + 1) := Lib.hid (by rw [← hw1, World.size_alloc])
  have HWW := Lib.hid hw1
  clear hA h3 hx hf hrest hroom hg hes hil hw1
  go_enter Try.func35, Try.ntmps35
  go_wp2_with fail
  go_at_call 37
  first | rw [HWW.out] | skip
  refine cC.mono ?_
  rintro e w2 ⟨v, rfl, hv, hb2⟩
  obtain ⟨va, vc, rfl, hVA⟩ := hv.val (fun b hb => by have := H3.out b hb; omega) (by have := HL.out; omega)
  have cI := index_room va bs.length vc bs w2 hVA
  rw [HR.out, HL.out] at cI
  obtain ⟨xs, x1, x2, x3⟩ := hv
  rw [HL.out] at x1
  have X1 := Lib.hid x1
  have X2 := Lib.hid x2
  have X3 := Lib.hid x3
  have HB2 := Lib.hid hb2
  rw [HL.out]
  obtain ⟨og, vc', hvs, hogb, _⟩ := x1.form (by omega)
  simp only [Value.slice.injEq] at hvs
  obtain ⟨rfl, _, rfl⟩ := hvs
  obtain ⟨u, hu⟩ : ∃ u, xs[i]? = some u := ⟨xs[i]'(by have := x1.1; omega), List.getElem?_eq_getElem _⟩
  have HU := Lib.hid hu
  have HUE := Lib.hid (x2 i u es hu HES.out)
  obtain ⟨ua, uc, hud⟩ := owns_shape HUE.out.1
  have oc : w2.cell? ⟨og, i, none⟩ = some (.slice ua es.length uc) := by
    have := x1.cells rfl i u hu
    rwa [Go.WideShapes.add_plain, Nat.zero_add, hud] at this
  have hf0 : w2.frozen? ⟨og, i, none⟩ = false := x1.frozenAt i
  have m0 := cell_later hb2 k0
  have m1 := cell_later hb2 k1
  have HUD := Lib.hid hud
  have HFZ := Lib.hid hf0
  have HOC := Lib.hid oc
  have HNE : Hid (some og ≠ (Value.slice ua es.length uc).ownBlock) := Lib.hid (by
    have := (owns_ne_k x1 HUE.out.1 (by decide)).resolve_left (by simp [Value.ownBlock])
    rw [hud] at this
    simpa [Value.ownBlock] using this)
  have HOG := Lib.hid hogb
  have HUO : Hid (w2.ownsRow w1.heap.size 40 2 (.slice ua es.length uc) es.length (cellsE es)) := Lib.hid (by have := HUE.out.1; rwa [hud] at this)
  have HQ : Hid (Below w2.heap.size w2 (w2.alloc (.cells #[.int .i64 nd, .string nm] 40)).drew) := Lib.hid ((Below.refl _ _).alloc (Nat.le_refl _) _).drew
  have oa := cell_later HQ.out oc
  have oaf : (w2.alloc (.cells #[.int .i64 nd, .string nm] 40)).drew.frozen? ⟨og, i, none⟩ = false := by
    rw [HQ.out.frozen (p := ⟨og, i, none⟩) (World.block_lt_of_cell? _ _ oc)]; exact hf0
  have HOA := Lib.hid oa
  have HOF := Lib.hid oaf
  have HOL : Hid (og < (w2.alloc (.cells #[.int .i64 nd, .string nm] 40)).drew.heap.size) := Lib.hid (World.block_lt_of_cell? _ _ oa)
  have HZ2 : Hid (w1.heap.size ≤ w2.heap.size) := Lib.hid hb2.size
  have n0 : w2.drew.cell? ⟨w.heap.size, 0, none⟩ = some (.int .i64 nd) := m0
  have n1 : w2.drew.cell? ⟨w.heap.size, 1, none⟩ = some (.string nm) := m1
  have n2 : w2.drew.cell? ⟨og, i, none⟩ = some (.slice ua es.length uc) := oc
  clear hVA hb2 x1 x2 x3 hu hud hf0 cC k0 k1 hogb oa oaf
  go_wp2_with (go_at_call 47; refine cI.mono ?_; rintro e w' ⟨rfl, rfl⟩)
  go_region_law (refine step_append_ks (o := ⟨some 31, _, _, _, _, _⟩) elemEntry rfl (.tmp 28) (.tmp 30) rfl w1.heap.size es.length _ (cellsE es) rfl (owns_drew (HUO.out.alloc _)) ⟨w2.heap.size, 0, none⟩ 1 1 [.int .i64 nd, .string nm] rfl rfl (news_made w2 [.int .i64 nd, .string nm] _) (by intro q hq; simp only [List.mem_cons, List.mem_nil_iff, or_false] at hq; rcases hq with rfl | rfl <;> rfl) (by omega) (by have := HZ2.out; simp; omega) ?_; intro u' w' hown hg hb; obtain ⟨ua', uc', rfl⟩ := owns_shape hown; have p1 : w'.cell? ⟨og, i, none⟩ = some (.slice ua es.length uc) := hg.cell HOA.out HNE.out; have p2 : w'.frozen? ⟨og, i, none⟩ = false := (World.frozen?_of_block (w := (w2.alloc (.cells #[.int .i64 nd, .string nm] 40)).drew) (a := ⟨og, i, none⟩) (hg.block og HOL.out HNE.out)).trans HOF.out; have HOWN := Lib.hid hown; have HG := Lib.hid hg; have HBB := Lib.hid hb; clear hown hg hb)
  all_goals
    go_wp2_with fail
    go_ret3
    refine ⟨_, rfl, rows_done (base := w1.heap.size) (og := og) (i := i) (u := u) (es := es) (by rw [HL.out]; exact X1.out) X2.out X3.out HQ.out (by rw [HUD.out]; exact HG.out) HU.out HES.out (ownE_snoc (x := ⟨nd, nm⟩) HOWN.out HUE.out.2 HX.out) rfl (fun b hb => by have := H3.out b hb; omega) (by simp; omega) (by rw [HL.out]; omega), ?_⟩
    have h1 := HW1.out
    have h2 := HOG.out
    exact ((HB1.out.trans ((HB2.out.trans (HQ.out.mono HZ2.out)).mono (by omega))).trans (HBB.out.mono (by omega))).setCell (by show w.heap.size ≤ og; omega) _

end Go.Proofs.Ytkpgefjbhimmgaa
