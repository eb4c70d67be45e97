/-
  Proved here: what the landed choose.Some answers of any bytes, number and blocks.
  The conditions stand at each theorem.
-/
import Derived.Test.YtfhfjnfejcggcaaStab
import Derived.Test.YtfhfjnfejcggcaaTake
import Derived.Test.YtfhfjnfejcggcaaChoosePick
import Derived.Shelf.SlSortCmp.Whole1
namespace Go.Proofs.Ytfhfjnfejcggcaa
open Go.RowKit
open Go.Sort (swp SWO PermIn SortedIn size_swp insertionSort)

theorem lt_rest (x y : Gp) : ltOf byRest x y = decide ((numG y).2 < (numG x).2) := by
  unfold ltOf byRest
  rw [decide_eq_decide]
  exact cmpN_neg _ _
theorem lt_first (x y : Gp) : ltOf byFirst x y = decide ((numG x).1 < (numG y).1) := by
  unfold ltOf byFirst
  rw [decide_eq_decide]
  exact cmpN_neg _ _

theorem swo_rest : SWO (ltOf byRest) where
  irrefl x := by rw [lt_rest]; simp
  trans x y z h1 h2 := by rw [lt_rest] at *; simp at *; omega
  ntrans x y z h1 h2 := by rw [lt_rest] at *; simp at *; omega
theorem swo_first : SWO (ltOf byFirst) where
  irrefl x := by rw [lt_first]; simp
  trans x y z h1 h2 := by rw [lt_first] at *; simp at *; omega
  ntrans x y z h1 h2 := by rw [lt_first] at *; simp at *; omega

/-- Gaps as they lie, the first one first. -/
def Before (x y : Gp) : Prop := (numG x).1 < (numG y).1

theorem bang_of {D : Array Gp} {i : Nat} (h : i < D.toList.length) : D[i]! = D.toList[i] := by
  rw [getElem!_pos D i (by simpa using h)]
  simp

theorem perm_list {N : Nat} {gs : List Gp} {D : Array Gp} (hN : gs.length = N) (hp : PermIn 0 N gs.toArray D) : D.toList.Perm gs := by
  have h := hp.2.2
  have h1 : D.size = N := by rw [hp.1]; simpa using hN
  have e1 : D.extract 0 N = D := by rw [← h1]; simp
  have e2 : gs.toArray.extract 0 N = gs.toArray := by rw [← hN]; simp
  rw [e1, e2] at h
  simpa using h

theorem stands_gp : ∀ gs : List Gp, Stands (gs.map encG) (gs.map numG) := fun gs => by
  refine ⟨by simp, fun j x p hx hp => ?_⟩
  rw [List.getElem?_map] at hx hp
  cases hz : gs[j]? with
  | none => rw [hz] at hx; cases hx
  | some z =>
    rw [hz] at hx hp
    cases hx
    cases hp
    exact ⟨_, _, rfl, gp_fst z, gp_snd z⟩

theorem stab_start {gs : List Gp} (hr : (gs.map numG).Pairwise (fun a b => a.1 + a.2 < b.1)) : Stab (ltOf byRest) Before gs.toArray := by
  intro i j hij hj _ _
  have hj' : j < gs.length := by simpa using hj
  have h := List.pairwise_iff_getElem.1 hr i j (by rw [List.length_map]; omega) (by rw [List.length_map]; omega) hij
  rw [List.getElem_map, List.getElem_map] at h
  unfold Before
  rw [get_bang (List.getElem?_eq_getElem (show i < gs.length by omega)), get_bang (List.getElem?_eq_getElem hj')]
  omega

/-- Sorted by what is longer, and equals in their order: the gaps as they are taken. -/
theorem stable_list {N : Nat} {gs : List Gp} {D : Array Gp} (hN : gs.length = N) (hp : PermIn 0 N gs.toArray D) (hs : SortedIn (ltOf byRest) 0 N D) (ht : Stab (ltOf byRest) Before D) : D.toList.map numG = byLen (gs.map numG) := by
  have hpl := perm_list hN hp
  have hlen : D.toList.length = N := by rw [hpl.length_eq, hN]
  have hT : (D.toList.map numG).Pairwise (fun a b => aheadB a b = true) := by
    rw [List.pairwise_iff_getElem]
    intro i j hi hj hij
    rw [List.length_map] at hi hj
    rw [List.getElem_map, List.getElem_map]
    have h1 := hs i j (Nat.zero_le _) hij (by omega)
    have h2 := ht i j hij (by simpa using hj) h1
    rw [bang_of hi, bang_of hj, lt_rest] at h1 h2
    unfold aheadB
    rw [decide_eq_true_iff]
    unfold Before at h2
    simp only [decide_eq_false_iff_not] at h1 h2
    by_cases e : (numG D.toList[j]).2 < (numG D.toList[i]).2
    · exact Or.inl e
    · have := h2 (by omega)
      exact Or.inr ⟨by omega, by omega⟩
  have hperm : (D.toList.map numG).Perm (byLen (gs.map numG)) := (hpl.map numG).trans (byLen_perm _).symm
  refine List.Perm.eq_of_pairwise (le := fun a b => aheadB a b = true) (fun a b _ _ h1 h2 => ahead_anti h1 h2) hT (byLen_sorted _) hperm

theorem first_list {N k : Nat} {l : List (Nat × Nat)} {gs : List Gp} {D : Array Gp} (hr : l.Pairwise (fun a b => a.1 + a.2 < b.1)) (hg : gs.map numG = cutAt (byLen l) k) (hN : gs.length = N) (hp : PermIn 0 N gs.toArray D) (hs : SortedIn (ltOf byFirst) 0 N D) : D.toList.map numG = someOf l k := by
  have hpl := perm_list hN hp
  have hlen : D.toList.length = N := by rw [hpl.length_eq, hN]
  refine sorted_some hr (by rw [← hg]; exact hpl.map numG) ?_
  intro a b p q hab hb hpa hqb
  rw [List.length_map] at hb
  have ha' : a < D.toList.length := by omega
  rw [List.getElem?_map, List.getElem?_eq_getElem ha'] at hpa
  rw [List.getElem?_map, List.getElem?_eq_getElem hb] at hqb
  cases hpa
  cases hqb
  have h1 := hs a b (Nat.zero_le _) hab (by omega)
  rw [bang_of ha', bang_of hb, lt_first] at h1
  simpa using h1

theorem below_sorted {B : Nat} {w w' : World} {blk off : Nat} {D : Array Gp} (hB : B ≤ blk) (hw : blk < w.heap.size) (h : SW encG w blk off D w') : Below B w w' := by
  obtain ⟨n, os, rfl⟩ := h
  have h1 : Below B w (Sort.putRow encG (Sort.ahead w n) blk off D) := below_put (show Below B w (Sort.ahead w n) from ⟨rfl, rfl, rfl, Nat.le_refl _, fun _ _ => rfl⟩) encG hB off D
  refine h1.trans ⟨rfl, rfl, rfl, by show _ ≤ (Sort.grow _ os).heap.size; rw [Sort.size_grow]; exact Nat.le_add_right _ _, fun k hk => Sort.heap_grow_old _ os (by rw [Sort.size_putRow]; show k < w.heap.size; omega)⟩

theorem row_of {w : World} {g : Nat} {gs : List Gp} (h0 : gs ≠ []) (hO : OwnV w.heap.size w g (gs.map encG) w ∨ ∃ base, base ≤ g ∧ (∀ j x, (gs.map encG)[j]? = some x → w.cell? ⟨g, j, none⟩ = some x) ∧ ∀ j, w.frozen? ⟨g, j, none⟩ = false) : Row1 encG w g 0 gs.toArray := by
  have hx : (∀ j x, (gs.map encG)[j]? = some x → w.cell? ⟨g, j, none⟩ = some x) ∧ ∀ j, w.frozen? ⟨g, j, none⟩ = false := by
    rcases hO with h | ⟨_, _, h1, h2⟩
    · exact ⟨h.1, h.2.1⟩
    · exact ⟨h1, h2⟩
  refine ⟨fun _ => rfl, holds_of hx.1 hx.2, ?_⟩
  have hpos : 0 < gs.length := List.length_pos_iff.2 h0
  exact World.block_lt_of_cell? _ _ (hx.1 0 (encG gs[0]) (by rw [List.getElem?_map, List.getElem?_eq_getElem hpos]; rfl))

/-- What a row that was sorted holds. -/
theorem vals_sorted {w w' : World} {g m : Nat} {gs : List Gp} {D : Array Gp} (R : Row1 encG w g 0 gs.toArray) (hm : gs.length = m) (hm1 : m ≤ 481) (hz : D.size = m) (h : SW encG w g 0 D w') : Vals w' (some ⟨g, 0, none⟩) m (D.toList.map encG) ∧ ∀ j, j < m → w'.frozen? ⟨g, j, none⟩ = false := by
  have hH := h.holds R.hblk R.hH (by rw [hz]; simpa using hm.symm)
  refine ⟨⟨by simpa using hz, by omega, Or.inr ⟨g, 0, rfl, fun j x hj => ?_⟩⟩, fun j hj => by have := (hH j (by omega)).2; rwa [Nat.zero_add] at this⟩
  rw [List.getElem?_map] at hj
  cases hd : D.toList[j]? with
  | none => rw [hd] at hj; cases hj
  | some z =>
    rw [hd] at hj
    cases hj
    obtain ⟨hjl, e⟩ := List.getElem?_eq_some_iff.1 hd
    rw [(hH j (by simpa using hjl)).1, bang_of hjl, e]

set_option maxRecDepth 100000 in
set_option maxHeartbeats 800000 in
theorem ins_none (a : Option Addr) (c : Nat) (fv : Value) (w : World) :
    Calls Try.prog 58 #[.slice a 0 c, .int .i64 0, .int .i64 0, fv] w fun e w' => e = .returned (.tuple #[]) ∧ w = w' := by
  go_enter Try.func58, Try.ntmps58
  go_wp2_with fail
  go_loop [8] (fun iv => iv = .int .i64 1) (fun _ => 0)
  case atStart => rfl
  case round =>
    subst hrel
    go_wp2_with fail
    go_end0
    exact ⟨rfl, rfl⟩

set_option maxRecDepth 100000 in
set_option maxHeartbeats 800000 in
theorem stable_none (a : Option Addr) (c : Nat) (fv : Value) (w : World) :
    Calls Try.prog 48 #[.slice a 0 c, .int .i64 0, fv] w fun e w' => e = .returned (.tuple #[]) ∧ w = w' := by
  have c1 := ins_none a c fv w
  go_enter Try.func48, Try.ntmps48
  go_wp2_with fail
  go_loop [7, 8] (fun av bv => av = .int .i64 0 ∧ bv = .int .i64 20) (fun _ _ => 0)
  case atStart => exact ⟨rfl, rfl⟩
  case round =>
    obtain ⟨rfl, rfl⟩ := hrel
    go_wp2_with fail
    refine c1.mono ?_
    rintro e w' ⟨rfl, rfl⟩
    go_wp2_with fail
    go_loop [6] (fun sv => sv = .int .i64 20) (fun _ => 0)
    case atStart => rfl
    case round =>
      subst hrel
      go_wp2_with fail
      go_end0
      exact ⟨rfl, rfl⟩

set_option maxHeartbeats 400000 in
theorem sort_stable_none (a : Option Addr) (c : Nat) (fv : Value) (w : World) :
    Calls Try.prog 31 #[.slice a 0 c, fv] w fun e w' => e = .returned (.tuple #[]) ∧ w = w' := by
  have c1 := stable_none a c fv w
  go_enter Try.func31, Try.ntmps31
  go_wp2_with fail
  refine c1.mono ?_
  rintro e w' ⟨rfl, rfl⟩
  go_wp2_with fail
  go_end0
  exact ⟨rfl, rfl⟩

/-- Gaps that a call has handed back, sorted: the longest first. -/
theorem rest_sorted (base m : Nat) (gs : List Gp) (w : World) (v : Value) (hf : FreshV w base v (gs.map encG)) (hm : gs.length = m) (hm1 : m ≤ 481) (hr : (gs.map numG).Pairwise (fun a b => a.1 + a.2 < b.1)) :
    ∃ ao c, v = .slice ao m c ∧ Calls Try.prog 31 #[.slice ao m c, .func (.func 32) #[] #[]] w fun e w' => e = .returned (.tuple #[]) ∧ ∃ ds : List Gp, ds.length = m ∧ ds.map numG = byLen (gs.map numG) ∧ (∀ z ∈ ds, z ∈ gs) ∧ Vals w' ao m (ds.map encG) ∧ Below base w w' := by
  by_cases h0 : gs = []
  · subst h0
    obtain ⟨ao, c, hv, hV, _, _⟩ := hf
    have hm0 : m = 0 := by rw [← hm]; rfl
    subst hm0
    refine ⟨ao, c, hv, (sort_stable_none ao c _ w).mono ?_⟩
    rintro e w' ⟨rfl, rfl⟩
    exact ⟨rfl, [], rfl, by unfold byLen; simp, fun z hz => by simp at hz, hV, Below.refl _ _⟩
  · obtain ⟨g, c, hv, hcap, hO⟩ := ownV_of_fresh (w0 := w) hf (Below.refl _ _) (by simpa using h0)
    rw [List.length_map, hm] at hv
    have R : Row1 encG w g 0 gs.toArray := row_of h0 (Or.inr ⟨base, hO.2.2.1, hO.1, hO.2.1⟩)
    have eg : ∀ args w, (callFunc 32 args).run Try.prog w = .ok (.enter 32 args) w := enters_of Try.func32 (by kernel_rfl) rfl
    refine ⟨some ⟨g, 0, none⟩, c, hv, (sort_stable_any 32 byRest rest_cmp eg swo_rest Before g 0 c m gs.toArray w R (by simpa using hm) hm1 (stab_start hr)).mono ?_⟩
    rintro e w' ⟨rfl, D, hp, ho, ht, hS⟩
    have hpl := perm_list hm hp
    have hz : D.size = m := by rw [hp.1]; simpa using hm
    exact ⟨rfl, D.toList, by simpa using hz, stable_list hm hp ho ht, fun z hz => hpl.mem_iff.1 hz, (vals_sorted R hm hm1 hz hS).1, below_sorted hO.2.2.1 R.hblk hS⟩

/-- Gaps of a call's own, sorted: the first one first. -/
theorem last_sorted (base m k : Nat) (l : List (Nat × Nat)) (gs : List Gp) (w : World) (v : Value) (hf : FreshV w base v (gs.map encG)) (h0 : gs ≠ []) (hm : gs.length = m) (hm1 : m ≤ 481) (hr : l.Pairwise (fun a b => a.1 + a.2 < b.1)) (hg : gs.map numG = cutAt (byLen l) k) :
    ∃ g c, v = .slice (some ⟨g, 0, none⟩) m c ∧ Calls Try.prog 34 #[.slice (some ⟨g, 0, none⟩) m c, .func (.func 35) #[] #[]] w fun e w' => e = .returned (.tuple #[]) ∧ ∃ xs, FreshV w' base (.slice (some ⟨g, 0, none⟩) m c) xs ∧ Stands xs (someOf l k) ∧ Below base w w' := by
  obtain ⟨g, c, hv, hcap, hO⟩ := ownV_of_fresh (w0 := w) hf (Below.refl _ _) (by simpa using h0)
  rw [List.length_map, hm] at hv hcap
  have R : Row1 encG w g 0 gs.toArray := row_of h0 (Or.inr ⟨base, hO.2.2.1, hO.1, hO.2.1⟩)
  have eg : ∀ args w, (callFunc 35 args).run Try.prog w = .ok (.enter 35 args) w := enters_of Try.func35 (by kernel_rfl) rfl
  have hsz : gs.toArray.size = m := by simpa using hm
  have h := Any.slices_SortFunc (P := Try.prog) (ρ := sortL_ren) sortL encG (fun _ => rfl) byFirst swo_first 35 #[] g 0 c gs.toArray w eg (cmps_lays last_cmp g 0 _ w) R.hH R.hblk (by omega)
  change Calls Try.prog 34 _ _ _ at h
  rw [hsz] at h
  refine ⟨g, c, hv, h.mono ?_⟩
  rintro e w' ⟨rfl, D, n, os, hp, ho, hw⟩
  have hS : SW encG w g 0 D w' := ⟨n, os, hw⟩
  have hz : D.size = m := by rw [hp.1]; exact hsz
  obtain ⟨hV, hfr⟩ := vals_sorted R hm hm1 hz hS
  have hl : (D.toList.map encG).length = m := by simpa using hz
  refine ⟨rfl, D.toList.map encG, ⟨some ⟨g, 0, none⟩, c, by rw [hl], by rw [hl]; exact hV, by rw [hl]; exact hcap, Or.inr ⟨g, rfl, hO.2.2.1, fun j => ?_⟩⟩, ?_, below_sorted hO.2.2.1 R.hblk hS⟩
  · obtain ⟨n, os, rfl⟩ := hS
    unfold sortWorld
    rw [Sort.frozen?_grow _ _ _ (by show g < (Sort.putRow _ _ _ _ _).heap.size; rw [Sort.size_putRow]; exact R.hblk), Sort.frozen?_putRow]
    exact hO.2.1 j
  · rw [← first_list hr hg hm hp ho]
    exact stands_gp _

theorem cut_length : ∀ (l : List (Nat × Nat)) (k : Nat), (cutAt l k).length ≤ l.length
  | [], _ => Nat.le_refl _
  | p :: r, k => by
    show (if k = 0 then [] else if k ≤ p.2 then [(p.1, k)] else p :: cutAt r (k - p.2)).length ≤ _
    have ih := cut_length r (k - p.2)
    split
    · simp
    · split
      · simp
      · simpa using ih

set_option maxRecDepth 100000 in
set_option maxHeartbeats 1600000 in
theorem cSome_any (ao : Option Addr) (len cap : Nat) (zs : List Int) (n p q : Int) (w : World) (hA : Arg w ao len cap zs) (_hn : -9223372036854775808 ≤ n ∧ n ≤ 9223372036854775807) (hp : -9223372036854775808 ≤ p ∧ p ≤ 9223372036854775807) (hq : -9223372036854775808 ≤ q ∧ q ≤ 9223372036854775807) :
    Calls Try.prog 14 #[.slice ao len cap, .int .i64 n, .int .i64 p, .int .i64 q] w
      (HandedRuns w.heap.size w (someOut (gapErr len n p q) (downOut zs p q) n.toNat) (someErr (gapErr len n p q) (downOut zs p q) n.toNat)) := by
  have c := cgaps_any ao len cap zs n p q w hA hp hq
  have HR := Lib.hid (Rise.pairs (down_rise zs p q))
  have HM := Lib.hid (down_bound (zs := zs) (lo := p) (hi := q))
  have hlen := down_length zs p q
  have hok := gap_ok (len := len) (n := n) (lo := p) (hi := q)
  clear hA
  generalize downOut zs p q = l at *
  generalize gapErr len n p q = E at *
  by_cases hE : E = 0
  · obtain ⟨hn1, hn2⟩ := hok hE
    obtain ⟨k, hk⟩ : ∃ k : Nat, n = k := ⟨n.toNat, by omega⟩
    subst hk
    rw [if_pos hE, hE] at c
    rw [hE]
    rw [show Int.toNat (k : Int) = k by omega]
    have hk1 : 1 ≤ k := by omega
    have hk2 : k ≤ 480 := by omega
    clear hE hok hp hq _hn
    go_enter Try.func14, Try.ntmps14
    go_wp2_with fail
    refine c.mono ?_
    rintro e w2 ⟨v1, xs, rfl, hf1, hs1, hb1⟩
    obtain ⟨gs, g1, g2⟩ := gps_of hs1 (fun x hx => ⟨(HM.out x hx).1, (HM.out x hx).2.1⟩)
    have HG2 := Lib.hid g2
    have HB2 := Lib.hid hb1
    have hgl : gs.length ≤ 481 := by
      have : (gs.map numG).length = l.length := by rw [g2]
      rw [List.length_map] at this
      omega
    rw [← g1] at hf1
    obtain ⟨ao1, c1, hv1, cS⟩ := rest_sorted w.heap.size gs.length gs w2 v1 hf1 rfl hgl (by rw [g2]; exact HR.out)
    have HGL : Hid (gs.length = l.length) := Lib.hid (by have : (gs.map numG).length = l.length := by rw [g2]
                                                         rwa [List.length_map] at this)
    rw [g2] at cS
    rw [hv1]
    generalize gs.length = m at *
    clear hv1 hf1 hs1 hb1 c g1 g2 hlen
    go_wp2_with fail
    refine cS.mono ?_
    rintro e w3 ⟨rfl, ds, d1, d2, d3, d4, d5⟩
    have HB3 : Hid (Below w.heap.size w w3) := Lib.hid (HB2.out.trans d5)
    have hz1 : ∀ z ∈ ds, 1 ≤ (numG z).2 := fun z hz => (HM.out (numG z) (by rw [← HG2.out]; exact List.mem_map_of_mem (f := numG) (d3 z hz))).2.1
    have cT := take_any ao1 c1 m k ds w3 d4 hgl hz1 hk2
    have hsum : sumG (byLen l) = sumG l := sumG_perm (byLen_perm l)
    rw [d2, hsum] at cT
    clear cS d3 d4 d5 d1 d2 hz1 hsum
    go_wp2_with fail
    refine cT.mono ?_
    rintro e w4 ⟨v4, rfl, hf4, hb4⟩
    have HB4 : Hid (Below w.heap.size w w4) := Lib.hid (HB3.out.trans (hb4.mono HB3.out.size))
    have hf4' := hf4.mono HB3.out.size
    clear cT hf4 hb4
    by_cases hlt : sumG l < k
    · have HS : Hid (someOut 0 l k = [] ∧ someErr 0 l k = 6) := Lib.hid ⟨by unfold someOut; rw [if_neg (by omega)], by unfold someErr; rw [if_pos rfl, if_pos hlt]⟩
      have hz : (0 : Int) < ((k - sumG l : Nat) : Int) := by omega
      generalize ((k - sumG l : Nat) : Int) = z at *
      obtain ⟨ao4, c4, hv4, _, _, _⟩ := hf4'
      rw [hv4]
      clear hv4 hlt
      go_wp2_with fail
      go_ret2
      rw [HS.out.1, HS.out.2]
      exact ⟨_, [], rfl, FreshV.nil _ _, stands_nil, HB4.out⟩
    · have HS : Hid (someOut 0 l k = someOf l k ∧ someErr 0 l k = 0) := Lib.hid ⟨by unfold someOut; rw [if_pos ⟨rfl, by omega⟩], by unfold someErr; rw [if_pos rfl, if_neg hlt]⟩
      have hz : ((k - sumG l : Nat) : Int) = 0 := by omega
      rw [hz]
      have hbl : ∀ x ∈ cutAt (byLen l) k, x.1 + x.2 ≤ 480 ∧ 1 ≤ x.2 := fun x hx => by
        obtain ⟨y, hy, e1, e2, e3⟩ := cut_mem (byLen l) k (fun y hy => (HM.out y ((byLen_perm l).mem_iff.1 hy)).2.1) x hx
        have := (HM.out y ((byLen_perm l).mem_iff.1 hy)).1
        omega
      obtain ⟨ts, t1, t2⟩ := gps_of (stands_cV (fun x hx => (hbl x hx).1)) hbl
      have ht0 : ts ≠ [] := by
        intro h
        have hs := cut_sum (byLen l) k (by rw [sumG_perm (byLen_perm l)]; omega)
        rw [← t2, h] at hs
        have : (0 : Nat) = k := hs
        omega
      have htl : ts.length ≤ 481 := by
        have e1 : (ts.map numG).length = (cutAt (byLen l) k).length := by rw [t2]
        rw [List.length_map] at e1
        have e2 := cut_length (byLen l) k
        have e3 : (byLen l).length = l.length := (byLen_perm l).length_eq
        have := HGL.out
        omega
      rw [← t1] at hf4'
      obtain ⟨g, c4, hv4, cL⟩ := last_sorted w.heap.size ts.length k l ts w4 v4 hf4' ht0 rfl htl HR.out t2
      rw [hv4]
      generalize ts.length = m2 at *
      clear hv4 hf4' t1 t2 ht0 htl hbl hz hlt
      go_wp2_with fail
      refine cL.mono ?_
      rintro e w5 ⟨rfl, ys, hf5, hs5, hb5⟩
      have HF5 := Lib.hid (And.intro hf5 (And.intro hs5 (HB4.out.trans hb5)))
      clear cL hf5 hs5 hb5
      go_wp2_with fail
      go_ret2
      rw [HS.out.1, HS.out.2]
      exact ⟨_, ys, rfl, HF5.out.1, HF5.out.2.1, HF5.out.2.2⟩
  · rw [if_neg hE] at c
    have HS : Hid (someOut E l n.toNat = [] ∧ someErr E l n.toNat = E) := Lib.hid ⟨by unfold someOut; rw [if_neg (fun h => hE h.1)], by unfold someErr; rw [if_neg hE]⟩
    have hne : (E == 0) = false := by simp; exact hE
    clear hE hok hp hq hlen _hn
    go_enter Try.func14, Try.ntmps14
    go_wp2_with fail
    refine c.mono ?_
    rintro e w2 ⟨v1, xs, rfl, hf1, hs1, hb1⟩
    have HB2 := Lib.hid hb1
    obtain ⟨ao1, c1, hv1, _, _, _⟩ := hf1
    rw [hv1]
    clear hv1 hs1 hb1 c
    go_wp2_with fail
    go_ret2
    rw [HS.out.1, HS.out.2]
    exact ⟨_, [], rfl, FreshV.nil _ _, stands_nil, HB2.out⟩

end Go.Proofs.Ytfhfjnfejcggcaa
