/-
  Proved here: what the landed entry answers when no block has room for one more entry, and what Add answers of any blocks.
  The conditions stand at each theorem.
-/
import Derived.Test.YtkpgefjbhimmgaaEntAdd
namespace Go.Proofs.Ytkpgefjbhimmgaa
open Go.RowKit
set_option linter.unusedVariables false
set_option linter.unusedSimpArgs false

set_option maxHeartbeats 1600000 in
theorem add_full (ao : Option Addr) (len cap : Nat) (bs : List (List PEnt)) (nd : Int) (nm : ByteArray) (w : World) (hA : BlkArg w ao len cap bs) (h3 : ∀ b ∈ bs, b.length ≤ 3) (h96 : len = 96) (hf : bs.findIdx? (fun b => decide (b.length < 3)) = none) :
    Calls Try.prog 35 #[.slice ao len cap, .agg #[.int .i64 nd, .string nm]] w (AddGives w ([], 0, 11)) := by
  have HB1 : Hid (Below w.heap.size w (w.alloc (.cells #[.int .i64 nd, .string nm] 40))) := Lib.hid ((Below.refl _ _).alloc (Nat.le_refl _) _)
  have cC := cloned_any ao len cap bs _ (hA.later HB1.out) h3 (by omega)
  have HL : Hid (bs.length = len) := Lib.hid hA.1.1
  have H3 := Lib.hid h3
  have HR : Hid (roomAt bs = -1) := Lib.hid (by unfold roomAt; rw [hf])
  have H96 := Lib.hid h96
  clear hA h3 hf h96
  go_enter Try.func35, Try.ntmps35
  go_wp2_with fail
  go_at_call 37
  refine cC.mono ?_
  rintro e w2 ⟨v, rfl, hv, hb2⟩
  obtain ⟨va, vc, rfl, hVA⟩ := hv.val (fun b hb => by have := H3.out b hb; omega) (by have := HL.out; have := H96.out; omega)
  have cI := index_room va bs.length vc bs w2 hVA
  rw [HR.out, HL.out, H96.out] at cI
  rw [HL.out, H96.out]
  have HB2 := Lib.hid hb2
  have e96 : ((96 : Nat) : Int) = 96 := rfl
  clear hVA hb2 hv cC
  go_wp2_with (go_at_call 47; refine cI.mono ?_; rintro e w' ⟨rfl, rfl⟩)
  go_ret3
  exact ⟨_, rfl, BlkVal.nil _, HB1.out.trans (HB2.out.mono HB1.out.size)⟩

set_option maxHeartbeats 3200000 in
theorem add_new (ao : Option Addr) (len cap : Nat) (bs : List (List PEnt)) (nd : Int) (nm : ByteArray) (w : World) (hA : BlkArg w ao len cap bs) (h3 : ∀ b ∈ bs, b.length ≤ 3) (h96 : len < 96) (hx : (-9223372036854775808 ≤ nd ∧ nd ≤ 9223372036854775807) ∧ nm.size ≤ 140737488351232)
    (hf : bs.findIdx? (fun b => decide (b.length < 3)) = none) :
    Calls Try.prog 35 #[.slice ao len cap, .agg #[.int .i64 nd, .string nm]] w (AddGives w (bs ++ [[⟨nd, nm⟩]], len, 0)) := by
  have HB1 : Hid (Below w.heap.size w (w.alloc (.cells #[.int .i64 nd, .string nm] 40))) := Lib.hid ((Below.refl _ _).alloc (Nat.le_refl _) _)
  have cC := cloned_any ao len cap bs _ (hA.later HB1.out) h3 (by omega)
  have HL : Hid (bs.length = len) := Lib.hid hA.1.1
  have H3 := Lib.hid h3
  have HX := Lib.hid hx
  have HR : Hid (roomAt bs = -1) := Lib.hid (by unfold roomAt; rw [hf])
  have i0 : ¬ (len : Int) = 96 := by omega
  have i2 : ((len : Int) == 96) = false := by simpa using i0
  have i3 : (len : Int) < (len : Int) + 1 := by omega
  have i4 : 0 ≤ (len : Int) := by omega
  have k0 := two_cells_new w (.int .i64 nd) (.string nm) 40 0 _ rfl
  have k1 := two_cells_new w (.int .i64 nd) (.string nm) 40 1 _ rfl
  generalize hw1 : w.alloc (.cells #[.int .i64 nd, .string nm] 40) = w1 at *
  have HW1 : Hid (w1.heap.size = w.heap.size + 1) := Lib.hid (by rw [← hw1, World.size_alloc])
  have HWW := Lib.hid hw1
  clear hA h3 hx hf hw1
  go_enter Try.func35, Try.ntmps35
  go_wp2_with fail
  go_at_call 37
  first | rw [HWW.out] | skip
  refine cC.mono ?_
  rintro e w2 ⟨v, rfl, hv, hb2⟩
  obtain ⟨va, vc, rfl, hVA⟩ := hv.val (fun b hb => by have := H3.out b hb; omega) (by have := HL.out; omega)
  have cI := index_room va bs.length vc bs w2 hVA
  rw [HR.out, HL.out] at cI
  obtain ⟨xs, x1, x2, x3⟩ := hv
  rw [HL.out]
  rw [HL.out] at x1
  have X1 := Lib.hid x1
  have X2 := Lib.hid x2
  have X3 := Lib.hid x3
  have HB2 := Lib.hid hb2
  have m0 := cell_later hb2 k0
  have m1 := cell_later hb2 k1
  have HM := Lib.hid (And.intro m0 m1)
  have HZ2 : Hid (w1.heap.size ≤ w2.heap.size) := Lib.hid hb2.size
  have HO2 : Hid ((w2.alloc (.cells #[.slice none 0 0] 22)).ownsRow w1.heap.size 22 1 (.slice va len vc) len xs) := Lib.hid (x1.alloc _)
  have HNIL : Hid (OwnE w2.heap.size w2 (.slice none 0 0) []) := Lib.hid ⟨⟨rfl, Or.inl ⟨rfl, rfl⟩⟩, fun x hx => by cases hx⟩
  clear hVA hb2 x1 x2 x3 cC k0 k1 m0 m1
  go_wp2_with (first | (go_at_call 47; refine cI.mono ?_; rintro e w' ⟨rfl, rfl⟩) | (refine wp_append_ks elemEnts rfl (.tmp 20) (.tmp 21) rfl w1.heap.size len _ xs rfl HO2.out ⟨w2.heap.size, 0, none⟩ 1 1 [.slice none 0 0] rfl rfl (news_made w2 [.slice none 0 0] _) (by intro q hq; rw [List.mem_singleton.1 hq]; rfl) (by omega) (by have := HZ2.out; simp; omega) ?_; intro v4 w4 hown4 hg4 hb4; obtain ⟨og, vc4, rfl, hogb, _⟩ := hown4.form (by omega); have HOG := Lib.hid hogb; have HV4 := Lib.hid (RowsE.snoc (bs := bs) (es := []) (by rw [HL.out]; exact X1.out) X2.out X3.out (Below.refl _ _) HZ2.out HNIL.out (by rw [HL.out]; exact hown4) hg4); have HO4 := Lib.hid hown4; have HB4 := Lib.hid hb4; clear hown4 hg4 hb4 hogb))
  obtain ⟨ys, y1, y2, y3⟩ := HV4.out
  have hbl : (bs ++ [[]]).length = len + 1 := by rw [List.length_append, HL.out]; rfl
  have hyl : ys.length = len + 1 := by have := y1.1; omega
  have hes : (bs ++ [([] : List PEnt)])[len]? = some [] := by rw [List.getElem?_append_right (by rw [HL.out]; omega), HL.out, Nat.sub_self]; rfl
  obtain ⟨u, hu⟩ : ∃ u, ys[len]? = some u := ⟨ys[len]'(by omega), List.getElem?_eq_getElem _⟩
  have hue := y2 len u [] hu hes
  obtain ⟨ua, uc, hud⟩ := owns_shape hue.1
  have oc : w4.cell? ⟨og, len, none⟩ = some (.slice ua 0 uc) := by
    have := y1.cells rfl len u hu
    rwa [Go.WideShapes.add_plain, Nat.zero_add, hud] at this
  have hf0 : w4.frozen? ⟨og, len, none⟩ = false := by rw [hbl] at y1; exact y1.frozenAt len
  have HY1 := Lib.hid y1
  have HY2 := Lib.hid y2
  have HY3 := Lib.hid y3
  have HU := Lib.hid hu
  have HES := Lib.hid hes
  have HUE := Lib.hid hue
  have HUD := Lib.hid hud
  have HBL := Lib.hid hbl
  have HW4 : Hid (w1.heap.size ≤ w4.heap.size) := Lib.hid (by have := HB4.out.size; simp at this; have h2 := HZ2.out; omega)
  have HNE : Hid (some og ≠ (Value.slice ua 0 uc).ownBlock) := Lib.hid (by
    have := (owns_ne_k y1 hue.1 (by decide)).resolve_left (by simp [Value.ownBlock])
    rw [hud] at this
    simpa [Value.ownBlock] using this)
  have HUO : Hid (w4.ownsRow w1.heap.size 40 2 (.slice ua 0 uc) 0 (cellsE [])) := Lib.hid (by have := hue.1; rwa [hud] at this)
  have HQ : Hid (Below w4.heap.size w4 (w4.alloc (.cells #[.int .i64 nd, .string nm] 40)).drew) := Lib.hid ((Below.refl _ _).alloc (Nat.le_refl _) _).drew
  have hbox : ∀ j, w4.cell? ⟨w.heap.size, j, none⟩ = w2.cell? ⟨w.heap.size, j, none⟩ := fun j => by
    have hlt : w.heap.size < w1.heap.size := by have := HW1.out; omega
    have h1 := HB4.out.cell (p := ⟨w.heap.size, j, none⟩) hlt
    rw [h1]
    exact World.cell?_alloc_lt _ _ _ (by have := HZ2.out; show w.heap.size < w2.heap.size; omega)
  have oa := cell_later HQ.out oc
  have oaf : (w4.alloc (.cells #[.int .i64 nd, .string nm] 40)).drew.frozen? ⟨og, len, none⟩ = false := by
    rw [HQ.out.frozen (p := ⟨og, len, none⟩) (World.block_lt_of_cell? _ _ oc)]; exact hf0
  have HOA := Lib.hid oa
  have HOF := Lib.hid oaf
  have HOL : Hid (og < (w4.alloc (.cells #[.int .i64 nd, .string nm] 40)).drew.heap.size) := Lib.hid (World.block_lt_of_cell? _ _ oa)
  have m0 : w4.cell? ⟨w.heap.size, 0, none⟩ = some (.int .i64 nd) := (hbox 0).trans HM.out.1
  have m1 : w4.cell? ⟨w.heap.size, 1, none⟩ = some (.string nm) := (hbox 1).trans HM.out.2
  have n0 : w4.drew.cell? ⟨w.heap.size, 0, none⟩ = some (.int .i64 nd) := m0
  have n1 : w4.drew.cell? ⟨w.heap.size, 1, none⟩ = some (.string nm) := m1
  have n2 : w4.drew.cell? ⟨og, len, none⟩ = some (.slice ua 0 uc) := oc
  have hb14 : Below w1.heap.size w1 w4 := (HB2.out.alloc HZ2.out _).trans HB4.out
  have HB14 := Lib.hid hb14
  clear y1 y2 y3 hu hes hue hud hbl hyl hf0 hbox oa oaf hb14
  go_region_law (refine step_append_ks (o := ⟨some 31, _, _, _, _, _⟩) elemEntry rfl (.tmp 28) (.tmp 30) rfl w1.heap.size 0 _ (cellsE []) rfl (owns_drew (HUO.out.alloc _)) ⟨w4.heap.size, 0, none⟩ 1 1 [.int .i64 nd, .string nm] rfl rfl (news_made w4 [.int .i64 nd, .string nm] _) (by intro q hq; simp only [List.mem_cons, List.mem_nil_iff, or_false] at hq; rcases hq with rfl | rfl <;> rfl) (by omega) (by have := HW4.out; simp; omega) ?_; intro u' w' hown hg hb; obtain ⟨ua', uc', rfl⟩ := owns_shape hown; have p1 : w'.cell? ⟨og, len, none⟩ = some (.slice ua 0 uc) := hg.cell HOA.out HNE.out; have p2 : w'.frozen? ⟨og, len, none⟩ = false := (World.frozen?_of_block (w := (w4.alloc (.cells #[.int .i64 nd, .string nm] 40)).drew) (a := ⟨og, len, none⟩) (hg.block og HOL.out HNE.out)).trans HOF.out; have HOWN := Lib.hid hown; have HG := Lib.hid hg; have HBB := Lib.hid hb; clear hown hg hb)
  all_goals
    go_wp2_with fail
    go_ret3
    have hset : (bs ++ [([] : List PEnt)]).set len ([] ++ [⟨nd, nm⟩]) = bs ++ [[⟨nd, nm⟩]] := by
      rw [List.set_append_right _ _ (by rw [HL.out]; exact Nat.le_refl _), HL.out, Nat.sub_self]
      rfl
    refine ⟨_, rfl, ?_, ?_⟩
    · have hd := rows_done (base := w1.heap.size) (og := og) (i := len) (u := u) (es := []) HY1.out HY2.out HY3.out HQ.out (by rw [HUD.out]; exact HG.out) HU.out HES.out (ownE_snoc (es := []) (x := ⟨nd, nm⟩) HOWN.out HUE.out.2 HX.out) rfl (fun b hb => by
        rcases List.mem_append.1 hb with hb | hb
        · have := H3.out b hb; omega
        · rw [List.mem_singleton.1 hb]; decide) (by simp) (by rw [HBL.out]; omega)
      rw [hset] at hd
      exact hd
    · have h1 := HW1.out
      have h2 := HOG.out
      exact ((HB1.out.trans ((HB14.out.trans (HQ.out.mono HW4.out)).mono (by omega))).trans (HBB.out.mono (by omega))).setCell (by show w.heap.size ≤ og; omega) _

/-- The errors of a call, and what is left of it. -/
theorem add_ways (bs : List (List PEnt)) (x : PEnt) : (nodeOk x.node = false ∧ addRes bs x = ([], 0, 1)) ∨
    (nodeOk x.node = true ∧ (findRes bs x.name).2.2 ≠ 0 ∧ (findRes bs x.name).2.2 ≠ 4 ∧ addRes bs x = ([], 0, (findRes bs x.name).2.2)) ∨
    (nodeOk x.node = true ∧ (findRes bs x.name).2.2 = 0 ∧ addRes bs x = ([], 0, 5)) ∨
    (nodeOk x.node = true ∧ (findRes bs x.name).2.2 = 4 ∧ bs.length ≤ 96 ∧ (∀ b ∈ bs, b.length ≤ 3) ∧
      ((∃ i, bs.findIdx? (fun b => decide (b.length < 3)) = some i ∧ addRes bs x = (bs.set i (bs.getD i [] ++ [x]), (i : Int), 0)) ∨
       (bs.findIdx? (fun b => decide (b.length < 3)) = none ∧ bs.length = 96 ∧ addRes bs x = ([], 0, 11)) ∨
       (bs.findIdx? (fun b => decide (b.length < 3)) = none ∧ bs.length ≠ 96 ∧ addRes bs x = (bs ++ [[x]], (bs.length : Int), 0)))) := by
  have hc : checkE bs x = if nodeOk x.node = false ∨ named x.name = false then 1 else if 96 < bs.length ∨ soundE bs = false then 2 else 0 := by
    unfold checkE
    rw [right_eq]
    cases nodeOk x.node <;> cases named x.name <;> simp
  by_cases h0 : nodeOk x.node = true
  · rw [h0] at hc
    rcases find_ways bs x.name with ⟨h1, hr⟩ | ⟨h1, h2, hr⟩ | ⟨h1, h2, h3, hr⟩ | ⟨h1, h2, h3, h4⟩
    · right; left
      rw [hr]
      unfold addRes
      rw [hc, h1]
      exact ⟨h0, by decide, by decide, rfl⟩
    · right; left
      rw [hr]
      unfold addRes
      rw [hc, h1, if_neg (c := (true = false ∨ true = false)) (by decide), if_pos (Or.inl h2)]
      exact ⟨h0, by decide, by decide, rfl⟩
    · right; left
      rw [hr]
      unfold addRes
      rw [hc, h1, if_neg (c := (true = false ∨ true = false)) (by decide), if_pos (Or.inr h3)]
      exact ⟨h0, by decide, by decide, rfl⟩
    · have hz : checkE bs x = 0 := by
        rw [hc, h1, if_neg (by decide), if_neg]
        rintro (h | h)
        · omega
        · rw [h3] at h; cases h
      right; right
      rcases h4 with ⟨hf, hr⟩ | ⟨i, k, hf, hr⟩
      · right
        rw [hr]
        refine ⟨h0, rfl, h2, (sound_parts.1 h3).1, ?_⟩
        have ha : addRes bs x = match addIn bs x with
            | some p => (p.1, (p.2 : Int), 0)
            | none => if bs.length = 96 then ([], 0, 11) else (bs ++ [[x]], (bs.length : Int), 0) := by
          unfold addRes
          rw [hz, if_neg (by decide), hf, if_neg (by decide)]
          rfl
        rw [ha, addIn_room]
        cases hi : bs.findIdx? (fun b => decide (b.length < 3)) with
        | some i => exact Or.inl ⟨i, rfl, rfl⟩
        | none =>
          right
          by_cases h96 : bs.length = 96
          · exact Or.inl ⟨rfl, h96, by simp [h96]⟩
          · exact Or.inr ⟨rfl, h96, by simp [h96]⟩
      · left
        rw [hr]
        unfold addRes
        rw [hz, if_neg (by decide), hf]
        exact ⟨h0, rfl, rfl⟩
  · have h0 : nodeOk x.node = false := by simpa using h0
    left
    unfold addRes
    rw [hc, h0]
    exact ⟨rfl, rfl⟩

set_option maxHeartbeats 3200000 in
theorem eadd_any (ao : Option Addr) (len cap : Nat) (bs : List (List PEnt)) (nd : Int) (nm : ByteArray) (w : World) (hA : BlkArg w ao len cap bs) (hx : (-9223372036854775808 ≤ nd ∧ nd ≤ 9223372036854775807) ∧ nm.size ≤ 140737488351232) :
    Calls Try.prog 22 #[.slice ao len cap, .agg #[.int .i64 nd, .string nm]] w (AddDone w bs ⟨nd, nm⟩) := by
  have HB1 : Hid (Below w.heap.size w (w.alloc (.cells #[.int .i64 nd, .string nm] 40))) := Lib.hid ((Below.refl _ _).alloc (Nat.le_refl _) _)
  have cF := efind_any ao len cap bs nm _ (hA.later HB1.out) hx.2
  unfold FindDone at cF
  have cO := fun W => soundNode_any nd W
  have HL : Hid (bs.length = len) := Lib.hid hA.1.1
  have HA := Lib.hid hA
  have HX := Lib.hid hx
  have HW := Lib.hid (add_ways bs ⟨nd, nm⟩)
  dsimp only at HW
  have k0 := two_cells_new w (.int .i64 nd) (.string nm) 40 0 _ rfl
  have k1 := two_cells_new w (.int .i64 nd) (.string nm) 40 1 _ rfl
  have K := Lib.hid (And.intro k0 k1)
  unfold AddDone
  generalize addRes bs ⟨nd, nm⟩ = R at *
  generalize findRes bs nm = F at *
  obtain ⟨f1, f2, f3⟩ := F
  obtain ⟨R1, R2, R3⟩ := R
  dsimp only at cF HW
  clear hA hx k0 k1
  rcases HW.out with ⟨h0, hr⟩ | ⟨h0, h1, h2, hr⟩ | ⟨h0, h1, hr⟩ | ⟨h0, h1, h2, h3, h4⟩
  · simp only [Prod.mk.injEq] at hr
    obtain ⟨rfl, rfl, rfl⟩ := hr
    rw [h0] at cO
    clear h0
    go_enter Try.func22, Try.ntmps22
    go_wp2_with (go_at_call 34; refine (cO _).mono ?_; rintro e w' ⟨rfl, rfl⟩)
    go_ret3
    exact ⟨_, rfl, BlkVal.nil _, HB1.out⟩
  · simp only [Prod.mk.injEq] at hr
    obtain ⟨rfl, rfl, rfl⟩ := hr
    rw [h0] at cO
    have j1 : (R3 == 4) = false := by simpa using h2
    have j2 : (R3 == 0) = false := by simpa using h1
    clear h0 h1 h2
    go_enter Try.func22, Try.ntmps22
    go_wp2_with (first | (go_at_call 34; refine (cO _).mono ?_; rintro e w' ⟨rfl, rfl⟩) | (go_at_call 20; refine cF.mono ?_; rintro e w2 ⟨rfl, hb2⟩; have HB2 := Lib.hid (HB1.out.trans (hb2.mono HB1.out.size)); clear hb2))
    go_ret3
    exact ⟨_, rfl, BlkVal.nil _, HB2.out⟩
  · simp only [Prod.mk.injEq] at hr
    obtain ⟨rfl, rfl, rfl⟩ := hr
    subst h1
    rw [h0] at cO
    clear h0
    go_enter Try.func22, Try.ntmps22
    go_wp2_with (first | (go_at_call 34; refine (cO _).mono ?_; rintro e w' ⟨rfl, rfl⟩) | (go_at_call 20; refine cF.mono ?_; rintro e w2 ⟨rfl, hb2⟩; have HB2 := Lib.hid (HB1.out.trans (hb2.mono HB1.out.size)); clear hb2))
    go_ret3
    exact ⟨_, rfl, BlkVal.nil _, HB2.out⟩
  · subst h1
    rw [h0] at cO
    have CA : Hid (∀ W, Below w.heap.size w W → Calls Try.prog 35 #[.slice ao len cap, .agg #[.int .i64 nd, .string nm]] W (AddGives W (R1, R2, R3))) := Lib.hid (fun W hW => by
      have hl := HL.out
      rcases h4 with ⟨i, hi, hr⟩ | ⟨hi, h96, hr⟩ | ⟨hi, h96, hr⟩
      · rw [hr]; exact add_room ao len cap bs nd nm W (HA.out.later hW) h3 (by omega) HX.out i hi
      · rw [hr]; exact add_full ao len cap bs nd nm W (HA.out.later hW) h3 (by omega) hi
      · rw [hr, hl]; exact add_new ao len cap bs nd nm W (HA.out.later hW) h3 (by omega) HX.out hi)
    clear h0 h2 h3 h4
    go_enter Try.func22, Try.ntmps22
    go_wp2_with (first | (go_at_call 34; refine (cO _).mono ?_; rintro e w' ⟨rfl, rfl⟩) | (go_at_call 20; refine cF.mono ?_; rintro e w2 ⟨rfl, hb2⟩; have HB2 := Lib.hid (HB1.out.trans (hb2.mono HB1.out.size)); have m0 := cell_later hb2 K.out.1; have m1 := cell_later hb2 K.out.2; clear hb2) | (go_at_call 35; refine (CA.out _ HB2.out).mono ?_; rintro e w3 ⟨v, rfl, hv, hb3⟩; have HV := Lib.hid hv; have HB3 := Lib.hid (HB2.out.trans (hb3.mono HB2.out.size)); clear hv hb3))
    go_ret3
    exact ⟨v, rfl, HV.out, HB3.out⟩

end Go.Proofs.Ytkpgefjbhimmgaa
