/-
  Proved here: what the landed tree's Plan answers.
  The conditions stand at each theorem.
-/
import Derived.Test.YtdbkhhmadefccaaTrBlocks
import Derived.Test.YtdbkhhmadefccaaTrIndex
import Derived.Deep.RegionHeld3
namespace Go.Proofs.Ytdbkhhmadefccaa
open Go.RowKit
set_option linter.unusedVariables false
set_option linter.unusedSimpArgs false

/-- A node of the old format, as its cells. -/
def nodeCs (f a b c d s t : Int) : List Value := [.int .i64 0, .int .i64 f, .int .i64 0, .int .i64 0, .int .i64 a, .int .i64 b, .int .i64 c, .int .i64 d, .int .i64 s, .int .i64 t, .slice none 0 0, .int .i64 0]
def nodeV (f a b c d s t : Int) : Value := .agg (nodeCs f a b c d s t).toArray
def node0 : Value := nodeV 0 0 0 0 0 0 0

theorem uNode : ∃ fs, Try.prog.underlying 32 = some (.struct fs) := ⟨_, Try.underlying32⟩
theorem iNode (cs : List Value) (h : cs.length = 12) : (Try.prog.info? 32).map (·.size) = some cs.length := by rw [h]; kernel_rfl
theorem iNodeA (f a b c d s t : Int) : (Try.prog.info? 32).map (·.size) = some (nodeCs f a b c d s t).toArray.size := by
  have h := iNode (nodeCs f a b c d s t) rfl
  exact h
theorem node_one (f a b c d s t : Int) : ∀ v ∈ nodeCs f a b c d s t, v.oneCell' = true := by
  intro v hv
  unfold nodeCs at hv
  simp only [List.mem_cons, List.mem_nil_iff, or_false] at hv
  rcases hv with rfl | rfl | rfl | rfl | rfl | rfl | rfl | rfl | rfl | rfl | rfl | rfl <;> rfl

theorem results_cell_tt {fn : Func} {p x y : Tmp} {ty : TypeId} (h : fn.results = #[.cell p ty, .tmp x, .tmp y]) (tmps : Array Value) (P : Program) (w : World) {v : Value} {a : Addr} (ha : tmps.getD p undef = .pointer (some a)) (hr : (loadVar ty a).run P w = .ok v w) :
    (results fn tmps).run P w = .ok (.tuple #[v, tmps.getD x undef, tmps.getD y undef]) w := by
  have ha' : tmps[p]?.getD undef = .pointer (some a) := by simpa using ha
  simp only [results, h]
  simp [Sem.run_bind, Result.andThen, ha', asAddr, hr]

theorem run_load_node (w : World) (g : Nat) (f a b c d s t : Int) (h : w.rangeAt g 0 (nodeCs f a b c d s t)) : (loadVar 32 ⟨g, 0, none⟩).run Try.prog w = .ok (nodeV f a b c d s t) w := by
  obtain ⟨fs, hu⟩ := uNode
  exact run_loadVar_mid w g 0 32 (nodeCs f a b c d s t) _ h hu rfl (iNode _ rfl)

def zeroN : Array Value := (nodeCs 0 0 0 0 0 0 0).toArray

theorem made_node (w : World) : (w.alloc (.cells zeroN 32)).there w.heap.size 0 12 ∧ (w.alloc (.cells zeroN 32)).rangeAt w.heap.size 0 (nodeCs 0 0 0 0 0 0 0) := by
  constructor
  · intro j hj
    refine ⟨?_, by rw [World.frozen?_alloc_mark]; simp⟩
    rw [Nat.zero_add, World.cell?_alloc_new]
    unfold zeroN nodeCs
    simp [hj]
  · intro j v hj
    rw [Nat.zero_add, World.cell?_alloc_new]
    unfold zeroN
    simpa using hj

theorem there_later {w wx : World} {b o n : Nat} (hb : Below w.heap.size w wx) (h : w.there b o n) (hlt : b < w.heap.size) : wx.there b o n := fun j hj => by
  obtain ⟨h1, h2⟩ := h j hj
  obtain ⟨u, hu⟩ := Option.isSome_iff_exists.1 h1
  exact ⟨by rw [cell_later hb hu]; rfl, by rw [hb.frozen (p := ⟨b, o + j, none⟩) hlt]; exact h2⟩

set_option maxRecDepth 100000 in
set_option maxHeartbeats 6400000 in
theorem PlanArg_any (ao bo : Option Addr) (len cap n c : Nat) (zs fs : List Int) (w : World) (hA : IArg w ao len cap zs) (hF : IArg w bo n c fs) (hE : ptrsOk zs = false) :
    Calls Try.prog 11 #[.slice ao len cap, .slice bo n c] w fun e w' => e = .returned (.tuple #[node0, .slice none 0 0, .int .i64 1]) ∧ Below w.heap.size w w' := by
  have HN : Hid (∀ W, Below w.heap.size w W → Calls Try.prog 7 #[.slice ao len cap] W fun e w' => e = .returned (.tuple #[.int .i64 0, .int .i64 1]) ∧ Below W.heap.size W w') := Lib.hid (fun W hW => by
    have h := Need_any ao len cap zs W (hA.later hW)
    have e1 : needOut zs = 0 := by unfold needOut; rw [hE]; rfl
    have e2 : needErr zs = 1 := by unfold needErr; rw [hE]; rfl
    rw [e1, e2] at h
    exact h)
  have HT := Lib.hid (made_node w)
  have HB0 : Hid (Below w.heap.size w (w.alloc (.cells zeroN 32))) := Lib.hid ((Below.refl _ _).alloc (Nat.le_refl _) _)
  unfold zeroN nodeCs at HT HB0
  clear hA hF hE
  go_enter Try.func11, Try.ntmps11
  go_wp2_with (first
    | (go_at_call 7; refine (HN.out _ HB0.out).mono ?_; rintro e w2 ⟨rfl, hb⟩; have HB2 := Lib.hid hb; clear hb)
    | (refine wpList_store_mid rfl 32 (.tmp 4) (.tmp 19) rfl w.heap.size 0 (nodeCs 0 0 0 0 0 0 0).toArray rfl rfl (there_later HB2.out HT.out.1 (by simp)) (iNodeA 0 0 0 0 0 0 0) (all_oneCell_toArray (node_one 0 0 0 0 0 0 0)) ?_))
  refine bodyPost_ret (v := .tuple #[node0, .slice none 0 0, .int .i64 1]) ?_ rfl ⟨rfl, ?_⟩
  · rw [results_cell_tt rfl _ _ _ (v := node0) (a := ⟨w.heap.size, 0, none⟩) rfl ?_]
    · rfl
    · exact run_load_node _ _ _ _ _ _ _ _ _ (World.rangeAt_setCells_same _ _ _ _ (there_later HB2.out HT.out.1 (by simp)))
  · exact below_cells _ (Nat.le_refl _) _ _ _ (HB0.out.trans (HB2.out.mono HB0.out.size))


/-! ### Fresh blocks -/

theorem freshErr_eq {zs fs : List Int} {n : Nat} (hn : n ≤ fs.length) : freshErr fs n zs = if decide ((0 : Int) ∈ fs.take n) = true then 1 else if apartL (zs ++ fs.take n) = true then 0 else 1 := by
  unfold freshErr
  rw [if_neg (by omega)]
  cases ha : apartL (zs ++ fs.take n) with
  | false => cases (fs.take n).all dataP <;> cases decide ((0 : Int) ∈ fs.take n) <;> rfl
  | true =>
    have key : (fs.take n).all dataP = !decide ((0 : Int) ∈ fs.take n) := by
      by_cases h0 : (0 : Int) ∈ fs.take n
      · rw [decide_eq_true h0, Bool.not_true, ← Bool.not_eq_true, List.all_eq_true]
        intro h
        have := h 0 h0
        unfold dataP at this
        simp at this
      · rw [decide_eq_false h0, Bool.not_false, List.all_eq_true]
        intro x hx
        have h2 := (apart_append ha).2
        unfold apartL at h2
        rw [Bool.and_eq_true, List.all_eq_true] at h2
        have := h2.1 x hx
        unfold okP at this
        unfold dataP
        simp only [decide_eq_true_eq] at this ⊢
        rcases this with h | h
        · rw [h] at hx; exact absurd hx h0
        · exact h
    rw [key]
    cases decide ((0 : Int) ∈ fs.take n) <;> rfl

theorem placeL_at {L fs : List Int} (hL : L.length = 159) : ∀ i k, k < i → i ≤ 5 → (placeL L fs i).getD (154 + k) 0 = if needsB L k = true then fs.getD (usedN L k) 0 else L.getD (154 + k) 0
  | i + 1, k, hk, hi => by
    have hpl := placeL_length L fs i
    have hnew : ∀ m, i ≤ m → ∀ j, j ≤ i → (placeL L fs j).getD (154 + m) 0 = L.getD (154 + m) 0 := by
      intro m hm j
      induction j with
      | zero => intro _; rfl
      | succ j ih =>
        intro hj
        unfold placeL
        split
        · rw [List.getD_eq_getElem?_getD, List.getElem?_set_ne (by omega), ← List.getD_eq_getElem?_getD]
          exact ih (by omega)
        · exact ih (by omega)
    show (if needsB L i = true then (placeL L fs i).set (154 + i) (fs.getD (usedN L i) 0) else placeL L fs i).getD (154 + k) 0 = _
    by_cases hik : k = i
    · subst hik
      by_cases hb : needsB L k = true
      · rw [if_pos hb, if_pos hb, List.getD_eq_getElem?_getD, List.getElem?_set_self (by omega)]
        rfl
      · rw [if_neg hb, if_neg hb]
        exact hnew k (Nat.le_refl _) k (Nat.le_refl _)
    · have ih := placeL_at (fs := fs) hL i k (by omega) (by omega)
      rw [← ih]
      split
      · rw [List.getD_eq_getElem?_getD, List.getElem?_set_ne (by omega), ← List.getD_eq_getElem?_getD]
      · rfl

/-- The numbers of the blocks of pointers, in a chart. -/
def ownP (zs fs : List Int) : List Int := [singleP zs fs, doubleP zs fs, under0 zs fs, under1 zs fs, under2 zs fs]

theorem place_own {zs fs : List Int} {k : Nat} (hk : k < 5) : (placeL (splitL zs) (fs.take (needP zs)) 5).getD (154 + k) 0 = (ownP zs fs).getD k 0 := by
  have h := placeL_at (fs := fs.take (needP zs)) (split_length zs) 5 k hk (Nat.le_refl _)
  have hu : needsB (splitL zs) k = true → (fs.take (needP zs)).getD (usedN (splitL zs) k) 0 = fs.getD (usedN (splitL zs) k) 0 := fun hb => by
    refine take_getD' _ _ _ ?_
    have h1 := usedN_succ (splitL zs) k
    have h2 := usedN_mono (splitL zs) (show k + 1 ≤ 5 by omega)
    rw [usedN_need] at h2
    rw [hb] at h1
    have : (true : Bool).toNat = 1 := rfl
    omega
  rw [h, split_zero (Or.inr (by omega))]
  have e : (if needsB (splitL zs) k = true then (fs.take (needP zs)).getD (usedN (splitL zs) k) 0 else 0) = whenB (needsB (splitL zs) k) (fs.getD (usedN (splitL zs) k) 0) := by
    unfold whenB
    split
    · next hb => exact hu hb
    · rfl
  rw [e]
  obtain ⟨h0, h1, h2, h3, h4⟩ := split_needs zs
  have u0 : usedN (splitL zs) 0 = 0 := rfl
  have u1 := usedN_succ (splitL zs) 0
  have u2 := usedN_succ (splitL zs) 1
  have u3 := usedN_succ (splitL zs) 2
  have u4 := usedN_succ (splitL zs) 3
  rw [h0, u0] at u1
  rw [h1, u1] at u2
  rw [h2, u2] at u3
  rw [h3, u3] at u4
  unfold ownP singleP doubleP under0 under1 under2
  match k, hk with
  | 0, _ => rw [h0, u0]; rfl
  | 1, _ => rw [h1, u1, Nat.zero_add]; rfl
  | 2, _ =>
    rw [h2, u2, Nat.zero_add]
    unfold doubleB underN
    cases someP zs 34 30 <;> cases someP zs 64 30 <;> cases someP zs 94 30 <;> rfl
  | 3, _ =>
    rw [h3, u3, Nat.zero_add]
    unfold doubleB underN
    cases someP zs 34 30 <;> cases someP zs 64 30 <;> cases someP zs 94 30 <;> rfl
  | 4, _ =>
    rw [h4, u4, Nat.zero_add]
    unfold doubleB underN
    cases someP zs 34 30 <;> cases someP zs 64 30 <;> cases someP zs 94 30 <;> rfl

def planL (zs fs : List Int) : List Int := placedL (splitL zs) (fs.take (needP zs))

theorem planL_length (zs fs : List Int) : (planL zs fs).length = 159 := by
  unfold planL placedL
  rw [lay_length, placeL_length, split_length]

theorem planL_get (zs fs : List Int) (j : Nat) : (planL zs fs).getD j 0 = if 34 ≤ j ∧ j < 37 then (ownP zs fs).getD (j - 32) 0 else (placeL (splitL zs) (fs.take (needP zs)) 5).getD j 0 := by
  unfold planL placedL
  have hl : (placeL (splitL zs) (fs.take (needP zs)) 5).length = 159 := by rw [placeL_length, split_length]
  have hc : (((placeL (splitL zs) (fs.take (needP zs)) 5).drop 156).take 3).length = 3 := by rw [List.length_take, List.length_drop, hl]; decide
  rw [lay_get _ _ _ _ (by omega), hc]
  by_cases h : 34 ≤ j ∧ j < 37
  · rw [if_pos h, if_pos h, take_getD' _ _ _ (by omega), drop_getD', show 156 + (j - 34) = 154 + (j - 32) by omega]
    exact place_own (by omega)
  · rw [if_neg h, if_neg h]

theorem planL_own {zs fs : List Int} {k : Nat} (hk : k < 5) : (planL zs fs).getD (154 + k) 0 = (ownP zs fs).getD k 0 := by
  rw [planL_get, if_neg (by omega)]
  exact place_own hk

theorem planL_low {zs fs : List Int} {j : Nat} (hj : j < 154) (h : ¬ (34 ≤ j ∧ j < 37)) : (planL zs fs).getD j 0 = (splitL zs).getD j 0 := by
  rw [planL_get, if_neg h, List.getD_eq_getElem?_getD, placeL_low _ _ 5 j hj, ← List.getD_eq_getElem?_getD]

theorem planL_page {zs fs : List Int} {i s : Nat} (h : i = 0 ∧ s = 4 ∨ i = 2 ∧ s = 34 ∨ i = 3 ∧ s = 64 ∨ i = 4 ∧ s = 94) : pageL (planL zs fs) i = partP zs s 30 := by
  rw [← split_page h]
  unfold pageL
  rw [part_of (by rw [planL_length]; omega), part_of (by rw [split_length]; omega)]
  apply List.map_congr_left
  intro k hk
  have hk' := List.mem_range.1 hk
  exact planL_low (by omega) (by omega)

theorem planL_double {zs fs : List Int} : pageL (planL zs fs) 1 = [under0 zs fs, under1 zs fs, under2 zs fs] ++ List.replicate 27 0 := by
  unfold pageL
  rw [part_of (by rw [planL_length]; omega)]
  apply List.ext_getElem?
  intro k
  by_cases hk : k < 30
  · rw [List.getElem?_map, List.getElem?_range hk]
    show some ((planL zs fs).getD (4 + 1 * 30 + k) 0) = _
    by_cases h3 : k < 3
    · rw [planL_get, if_pos (by omega), List.getElem?_append_left (by simpa using h3)]
      match k, h3 with
      | 0, _ => rfl
      | 1, _ => rfl
      | 2, _ => rfl
    · rw [planL_low (by omega) (by omega), split_zero (by omega), List.getElem?_append_right (by simp; omega), List.getElem?_replicate, if_pos (by simp; omega)]
  · rw [List.getElem?_eq_none (by simp; omega), List.getElem?_eq_none (by simp; omega)]

theorem planL_direct (zs fs : List Int) : (planL zs fs).take 4 = partP zs 0 4 := by
  rw [← split_direct]
  have h1 := part_of (L := planL zs fs) (o := 0) (n := 4) (by rw [planL_length]; decide)
  have h2 := part_of (L := splitL zs) (o := 0) (n := 4) (by rw [split_length]; decide)
  rw [List.drop_zero] at h1 h2
  rw [h1, h2]
  apply List.map_congr_left
  intro k hk
  have hk' := List.mem_range.1 hk
  exact planL_low (by omega) (by omega)

theorem flat_zeros : ∀ n : Nat, (List.replicate n (0 : Int)).flatMap (fun p => leB p 2) = List.replicate (2 * n) 0
  | 0 => rfl
  | n + 1 => by
    rw [List.replicate_succ, List.flatMap_cons, flat_zeros n, show 2 * (n + 1) = 2 + 2 * n by omega, ← List.replicate_append_replicate]
    rfl

/-- Zeros behind pointers make no other block. -/
theorem pageB_zeros {xs : List Int} {n : Nat} (h : xs.length + n ≤ 30) : pageB (xs ++ List.replicate n 0) = pageB xs := by
  have hl : (xs.flatMap fun p => leB p 2).length = 2 * xs.length := flat_len xs
  have e : ((xs ++ List.replicate n 0).flatMap fun p => leB p 2) = (xs.flatMap fun p => leB p 2) ++ List.replicate (2 * n) 0 := by rw [List.flatMap_append, flat_zeros]
  have e2 : ((xs.flatMap fun p => leB p 2) ++ List.replicate (2 * n) 0) ++ List.replicate (60 - ((xs.flatMap fun p => leB p 2) ++ List.replicate (2 * n) 0).length) 0 = (xs.flatMap fun p => leB p 2) ++ List.replicate (60 - (xs.flatMap fun p => leB p 2).length) 0 := by
    rw [List.append_assoc, List.replicate_append_replicate, List.length_append, hl, List.length_replicate, show 2 * n + (60 - (2 * xs.length + 2 * n)) = 60 - 2 * xs.length by omega]
  unfold pageB
  rw [e, seal_short (by rw [List.length_append, hl, List.length_replicate]; omega), seal_short (by omega), e2]

/-- The blocks that are planned. -/
theorem plan_blocks {zs fs : List Int} (hz : ∀ i, i < needP zs → nzB (fs.getD i 0) = true) : blocksL (planL zs fs) 5 = writesP zs fs := by
  rw [blocksL_succ, blocksL_succ, blocksL_succ, blocksL_succ, blocksL_succ]
  have o0 := planL_own (zs := zs) (fs := fs) (show 0 < 5 by decide)
  have o1 := planL_own (zs := zs) (fs := fs) (show 1 < 5 by decide)
  have o2 := planL_own (zs := zs) (fs := fs) (show 2 < 5 by decide)
  have o3 := planL_own (zs := zs) (fs := fs) (show 3 < 5 by decide)
  have o4 := planL_own (zs := zs) (fs := fs) (show 4 < 5 by decide)
  rw [o0, o1, o2, o3, o4, planL_page (i := 0) (s := 4) (by omega), planL_page (i := 2) (s := 34) (by omega), planL_page (i := 3) (s := 64) (by omega), planL_page (i := 4) (s := 94) (by omega), planL_double, pageB_zeros (by simp)]
  show [] ++ (if singleP zs fs = 0 then [] else [(singleP zs fs, _)]) ++ (if doubleP zs fs = 0 then [] else [(doubleP zs fs, _)]) ++ (if under0 zs fs = 0 then [] else [(under0 zs fs, _)]) ++ (if under1 zs fs = 0 then [] else [(under1 zs fs, _)]) ++ (if under2 zs fs = 0 then [] else [(under2 zs fs, _)]) = _
  unfold writesP
  have W : ∀ (b : Bool) (p : Int) (xs : List Int), (b = true → p ≠ 0) → (if whenB b p = 0 then [] else [(whenB b p, pageB xs)]) = whenW b (whenB b p) xs := fun b p xs h => by
    cases b with
    | false => rfl
    | true => exact if_neg (h rfl)
  have nz : ∀ i, i < needP zs → fs.getD i 0 ≠ 0 := fun i hi => by have := hz i hi; unfold nzB at this; simpa using this
  have hneed : needP zs = (someP zs 4 30).toNat + (doubleB zs).toNat + (someP zs 34 30).toNat + (someP zs 64 30).toNat + (someP zs 94 30).toNat := by
    unfold needP doubleB underN
    cases someP zs 4 30 <;> cases someP zs 34 30 <;> cases someP zs 64 30 <;> cases someP zs 94 30 <;> rfl
  have hd : someP zs 34 30 = true ∨ someP zs 64 30 = true ∨ someP zs 94 30 = true → (doubleB zs).toNat = 1 := by
    unfold doubleB underN
    cases someP zs 34 30 <;> cases someP zs 64 30 <;> cases someP zs 94 30 <;> simp
  have t1 : (true : Bool).toNat = 1 := rfl
  have e0 := W (someP zs 4 30) (fs.getD 0 0) (partP zs 4 30) (fun h => nz 0 (by rw [hneed, h]; omega))
  have e1 := W (doubleB zs) (fs.getD (someP zs 4 30).toNat 0) [under0 zs fs, under1 zs fs, under2 zs fs] (fun h => nz _ (by rw [hneed, h]; omega))
  have e2 := W (someP zs 34 30) (fs.getD ((someP zs 4 30).toNat + 1) 0) (partP zs 34 30) (fun h => nz _ (by have := hd (Or.inl h); rw [hneed, h]; omega))
  have e3 := W (someP zs 64 30) (fs.getD ((someP zs 4 30).toNat + 1 + (someP zs 34 30).toNat) 0) (partP zs 64 30) (fun h => nz _ (by have := hd (Or.inr (Or.inl h)); rw [hneed, h]; omega))
  have e4 := W (someP zs 94 30) (fs.getD ((someP zs 4 30).toNat + 1 + (someP zs 34 30).toNat + (someP zs 64 30).toNat) 0) (partP zs 94 30) (fun h => nz _ (by have := hd (Or.inr (Or.inr h)); rw [hneed, h]; omega))
  unfold singleP doubleP under0 under1 under2 at *
  rw [e0, e1, e2, e3, e4]
  simp only [List.nil_append, List.append_assoc]

end Go.Proofs.Ytdbkhhmadefccaa
