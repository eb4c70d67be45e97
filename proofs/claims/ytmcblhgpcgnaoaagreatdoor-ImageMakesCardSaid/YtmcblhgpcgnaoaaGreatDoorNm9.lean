/-
  Proved here: what the landed choose.Some answers of any bytes, number and blocks. The conditions stand at each theorem. Proved here: what the landed image's free, blocksOf and pick answer. The conditions stand at each theorem. Said here: when bytes are a sealed block, in plain words. No conditions. Proved here: what the landed image's end, Super, Free, Data and SetData answer of a volume. The conditions stand at each theorem. Said here: maps of pointers in plain words: when pointers are sound, how many blocks their map needs, the map, and what blocks are as a map; that what was planned is read as it was. No conditions but those that each theorem names. Nothing of the program is read here. Proved here: what the landed tree's page says of itself (used): whether one of its numbers is not 0. The conditions stand at each theorem. Proved here: what the landed tree's chart answers: which pages are needed (needs). The conditions stand at each theorem. Proved here: where the landed tree's pointers stand in a chart (parts). The conditions stand at each theorem.
-/
import Derived.Test.YtmcblhgpcgnaoaaGreatDoorNm8
import Derived.Shelf.SlSortCmp.Whole1
import Derived.Test.YtmcblhgpcgnaoaaGreatDoorNm7
import Derived.Test.YtmcblhgpcgnaoaaGreatDoorNm0
import Derived.Test.YtmcblhgpcgnaoaaGreatDoorNm1
import Derived.Test.YtmcblhgpcgnaoaaGreatDoorNm6
import Derived.Deep.QuietTactic
import Derived.BigQuiet
import Derived.StillTailTactics
namespace Go.Proofs.YtmcblhgpcgnaoaaGreatDoor
open Go.RowKit
open Go.Sort (swp SWO PermIn SortedIn size_swp insertionSort)

theorem lt_rest (x y : Gp) : ltOf byRest x y = decide ((numG y).2 < (numG x).2) := by
  unfold ltOf byRest
  rw [decide_eq_decide]
  exact cmpN_neg _ _
theorem lt_first (x y : Gp) : ltOf byFirst x y = decide ((numG x).1 < (numG y).1) := by
  unfold ltOf byFirst
  rw [decide_eq_decide]
  exact cmpN_neg _ _

theorem swo_rest : SWO (ltOf byRest) where
  irrefl x := by rw [lt_rest]; simp
  trans x y z h1 h2 := by rw [lt_rest] at *; simp at *; omega
  ntrans x y z h1 h2 := by rw [lt_rest] at *; simp at *; omega
theorem swo_first : SWO (ltOf byFirst) where
  irrefl x := by rw [lt_first]; simp
  trans x y z h1 h2 := by rw [lt_first] at *; simp at *; omega
  ntrans x y z h1 h2 := by rw [lt_first] at *; simp at *; omega

/-- Gaps as they lie, the first one first. -/
def Before (x y : Gp) : Prop := (numG x).1 < (numG y).1

theorem bang_of {D : Array Gp} {i : Nat} (h : i < D.toList.length) : D[i]! = D.toList[i] := by
  rw [getElem!_pos D i (by simpa using h)]
  simp

theorem perm_list {N : Nat} {gs : List Gp} {D : Array Gp} (hN : gs.length = N) (hp : PermIn 0 N gs.toArray D) : D.toList.Perm gs := by
  have h := hp.2.2
  have h1 : D.size = N := by rw [hp.1]; simpa using hN
  have e1 : D.extract 0 N = D := by rw [← h1]; simp
  have e2 : gs.toArray.extract 0 N = gs.toArray := by rw [← hN]; simp
  rw [e1, e2] at h
  simpa using h

theorem stands_gp : ∀ gs : List Gp, Stands (gs.map encG) (gs.map numG) := fun gs => by
  refine ⟨by simp, fun j x p hx hp => ?_⟩
  rw [List.getElem?_map] at hx hp
  cases hz : gs[j]? with
  | none => rw [hz] at hx; cases hx
  | some z =>
    rw [hz] at hx hp
    cases hx
    cases hp
    exact ⟨_, _, rfl, gp_fst z, gp_snd z⟩

theorem stab_start {gs : List Gp} (hr : (gs.map numG).Pairwise (fun a b => a.1 + a.2 < b.1)) : Stab (ltOf byRest) Before gs.toArray := by
  intro i j hij hj _ _
  have hj' : j < gs.length := by simpa using hj
  have h := List.pairwise_iff_getElem.1 hr i j (by rw [List.length_map]; omega) (by rw [List.length_map]; omega) hij
  rw [List.getElem_map, List.getElem_map] at h
  unfold Before
  rw [get_bang (List.getElem?_eq_getElem (show i < gs.length by omega)), get_bang (List.getElem?_eq_getElem hj')]
  omega

/-- Sorted by what is longer, and equals in their order: the gaps as they are taken. -/
theorem stable_list {N : Nat} {gs : List Gp} {D : Array Gp} (hN : gs.length = N) (hp : PermIn 0 N gs.toArray D) (hs : SortedIn (ltOf byRest) 0 N D) (ht : Stab (ltOf byRest) Before D) : D.toList.map numG = byLen (gs.map numG) := by
  have hpl := perm_list hN hp
  have hlen : D.toList.length = N := by rw [hpl.length_eq, hN]
  have hT : (D.toList.map numG).Pairwise (fun a b => aheadB a b = true) := by
    rw [List.pairwise_iff_getElem]
    intro i j hi hj hij
    rw [List.length_map] at hi hj
    rw [List.getElem_map, List.getElem_map]
    have h1 := hs i j (Nat.zero_le _) hij (by omega)
    have h2 := ht i j hij (by simpa using hj) h1
    rw [bang_of hi, bang_of hj, lt_rest] at h1 h2
    unfold aheadB
    rw [decide_eq_true_iff]
    unfold Before at h2
    simp only [decide_eq_false_iff_not] at h1 h2
    by_cases e : (numG D.toList[j]).2 < (numG D.toList[i]).2
    · exact Or.inl e
    · have := h2 (by omega)
      exact Or.inr ⟨by omega, by omega⟩
  have hperm : (D.toList.map numG).Perm (byLen (gs.map numG)) := (hpl.map numG).trans (byLen_perm _).symm
  refine List.Perm.eq_of_pairwise (le := fun a b => aheadB a b = true) (fun a b _ _ h1 h2 => ahead_anti h1 h2) hT (byLen_sorted _) hperm

theorem first_list {N k : Nat} {l : List (Nat × Nat)} {gs : List Gp} {D : Array Gp} (hr : l.Pairwise (fun a b => a.1 + a.2 < b.1)) (hg : gs.map numG = cutAt (byLen l) k) (hN : gs.length = N) (hp : PermIn 0 N gs.toArray D) (hs : SortedIn (ltOf byFirst) 0 N D) : D.toList.map numG = someOf l k := by
  have hpl := perm_list hN hp
  have hlen : D.toList.length = N := by rw [hpl.length_eq, hN]
  refine sorted_some hr (by rw [← hg]; exact hpl.map numG) ?_
  intro a b p q hab hb hpa hqb
  rw [List.length_map] at hb
  have ha' : a < D.toList.length := by omega
  rw [List.getElem?_map, List.getElem?_eq_getElem ha'] at hpa
  rw [List.getElem?_map, List.getElem?_eq_getElem hb] at hqb
  cases hpa
  cases hqb
  have h1 := hs a b (Nat.zero_le _) hab (by omega)
  rw [bang_of ha', bang_of hb, lt_first] at h1
  simpa using h1

theorem below_sorted {B : Nat} {w w' : World} {blk off : Nat} {D : Array Gp} (hB : B ≤ blk) (hw : blk < w.heap.size) (h : SW encG w blk off D w') : Below B w w' := by
  obtain ⟨n, os, rfl⟩ := h
  have h1 : Below B w (Sort.putRow encG (Sort.ahead w n) blk off D) := below_put (show Below B w (Sort.ahead w n) from ⟨rfl, rfl, rfl, Nat.le_refl _, fun _ _ => rfl⟩) encG hB off D
  refine h1.trans ⟨rfl, rfl, rfl, by show _ ≤ (Sort.grow _ os).heap.size; rw [Sort.size_grow]; exact Nat.le_add_right _ _, fun k hk => Sort.heap_grow_old _ os (by rw [Sort.size_putRow]; show k < w.heap.size; omega)⟩

theorem row_of {w : World} {g : Nat} {gs : List Gp} (h0 : gs ≠ []) (hO : OwnV w.heap.size w g (gs.map encG) w ∨ ∃ base, base ≤ g ∧ (∀ j x, (gs.map encG)[j]? = some x → w.cell? ⟨g, j, none⟩ = some x) ∧ ∀ j, w.frozen? ⟨g, j, none⟩ = false) : Row1 encG w g 0 gs.toArray := by
  have hx : (∀ j x, (gs.map encG)[j]? = some x → w.cell? ⟨g, j, none⟩ = some x) ∧ ∀ j, w.frozen? ⟨g, j, none⟩ = false := by
    rcases hO with h | ⟨_, _, h1, h2⟩
    · exact ⟨h.1, h.2.1⟩
    · exact ⟨h1, h2⟩
  refine ⟨fun _ => rfl, holds_of hx.1 hx.2, ?_⟩
  have hpos : 0 < gs.length := List.length_pos_iff.2 h0
  exact World.block_lt_of_cell? _ _ (hx.1 0 (encG gs[0]) (by rw [List.getElem?_map, List.getElem?_eq_getElem hpos]; rfl))

/-- What a row that was sorted holds. -/
theorem vals_sorted {w w' : World} {g m : Nat} {gs : List Gp} {D : Array Gp} (R : Row1 encG w g 0 gs.toArray) (hm : gs.length = m) (hm1 : m ≤ 481) (hz : D.size = m) (h : SW encG w g 0 D w') : Vals w' (some ⟨g, 0, none⟩) m (D.toList.map encG) ∧ ∀ j, j < m → w'.frozen? ⟨g, j, none⟩ = false := by
  have hH := h.holds R.hblk R.hH (by rw [hz]; simpa using hm.symm)
  refine ⟨⟨by simpa using hz, by omega, Or.inr ⟨g, 0, rfl, fun j x hj => ?_⟩⟩, fun j hj => by have := (hH j (by omega)).2; rwa [Nat.zero_add] at this⟩
  rw [List.getElem?_map] at hj
  cases hd : D.toList[j]? with
  | none => rw [hd] at hj; cases hj
  | some z =>
    rw [hd] at hj
    cases hj
    obtain ⟨hjl, e⟩ := List.getElem?_eq_some_iff.1 hd
    rw [(hH j (by simpa using hjl)).1, bang_of hjl, e]

set_option maxRecDepth 100000 in
set_option maxHeartbeats 800000 in
theorem ins_none (a : Option Addr) (c : Nat) (fv : Value) (w : World) :
    Calls Tryz.prog 269 #[.slice a 0 c, .int .i64 0, .int .i64 0, fv] w fun e w' => e = .returned (.tuple #[]) ∧ w = w' := by
  go_enter Tryz.func269, Tryz.ntmps269
  go_wp2_with fail
  go_loop [8] (fun iv => iv = .int .i64 1) (fun _ => 0)
  case atStart => rfl
  case round =>
    subst hrel
    go_wp2_with fail
    go_end0
    exact ⟨rfl, rfl⟩

set_option maxRecDepth 100000 in
set_option maxHeartbeats 800000 in
theorem stable_none (a : Option Addr) (c : Nat) (fv : Value) (w : World) :
    Calls Tryz.prog 235 #[.slice a 0 c, .int .i64 0, fv] w fun e w' => e = .returned (.tuple #[]) ∧ w = w' := by
  have c1 := ins_none a c fv w
  go_enter Tryz.func235, Tryz.ntmps235
  go_wp2_with fail
  go_loop [7, 8] (fun av bv => av = .int .i64 0 ∧ bv = .int .i64 20) (fun _ _ => 0)
  case atStart => exact ⟨rfl, rfl⟩
  case round =>
    obtain ⟨rfl, rfl⟩ := hrel
    go_wp2_with fail
    refine c1.mono ?_
    rintro e w' ⟨rfl, rfl⟩
    go_wp2_with fail
    go_loop [6] (fun sv => sv = .int .i64 20) (fun _ => 0)
    case atStart => rfl
    case round =>
      subst hrel
      go_wp2_with fail
      go_end0
      exact ⟨rfl, rfl⟩

set_option maxHeartbeats 400000 in
theorem sort_stable_none (a : Option Addr) (c : Nat) (fv : Value) (w : World) :
    Calls Tryz.prog 186 #[.slice a 0 c, fv] w fun e w' => e = .returned (.tuple #[]) ∧ w = w' := by
  have c1 := stable_none a c fv w
  go_enter Tryz.func186, Tryz.ntmps186
  go_wp2_with fail
  refine c1.mono ?_
  rintro e w' ⟨rfl, rfl⟩
  go_wp2_with fail
  go_end0
  exact ⟨rfl, rfl⟩

/-- Gaps that a call has handed back, sorted: the longest first. -/
theorem rest_sorted (base m : Nat) (gs : List Gp) (w : World) (v : Value) (hf : FreshV w base v (gs.map encG)) (hm : gs.length = m) (hm1 : m ≤ 481) (hr : (gs.map numG).Pairwise (fun a b => a.1 + a.2 < b.1)) :
    ∃ ao c, v = .slice ao m c ∧ Calls Tryz.prog 186 #[.slice ao m c, .func (.func 187) #[] #[]] w fun e w' => e = .returned (.tuple #[]) ∧ ∃ ds : List Gp, ds.length = m ∧ ds.map numG = byLen (gs.map numG) ∧ (∀ z ∈ ds, z ∈ gs) ∧ Vals w' ao m (ds.map encG) ∧ Below base w w' := by
  by_cases h0 : gs = []
  · subst h0
    obtain ⟨ao, c, hv, hV, _, _⟩ := hf
    have hm0 : m = 0 := by rw [← hm]; rfl
    subst hm0
    refine ⟨ao, c, hv, (sort_stable_none ao c _ w).mono ?_⟩
    rintro e w' ⟨rfl, rfl⟩
    exact ⟨rfl, [], rfl, by unfold byLen; simp, fun z hz => by simp at hz, hV, Below.refl _ _⟩
  · obtain ⟨g, c, hv, hcap, hO⟩ := ownV_of_fresh (w0 := w) hf (Below.refl _ _) (by simpa using h0)
    rw [List.length_map, hm] at hv
    have R : Row1 encG w g 0 gs.toArray := row_of h0 (Or.inr ⟨base, hO.2.2.1, hO.1, hO.2.1⟩)
    have eg : ∀ args w, (callFunc 187 args).run Tryz.prog w = .ok (.enter 187 args) w := enters_of Tryz.func187 (by kernel_rfl) rfl
    refine ⟨some ⟨g, 0, none⟩, c, hv, (sort_stable_any 187 byRest rest_cmp eg swo_rest Before g 0 c m gs.toArray w R (by simpa using hm) hm1 (stab_start hr)).mono ?_⟩
    rintro e w' ⟨rfl, D, hp, ho, ht, hS⟩
    have hpl := perm_list hm hp
    have hz : D.size = m := by rw [hp.1]; simpa using hm
    exact ⟨rfl, D.toList, by simpa using hz, stable_list hm hp ho ht, fun z hz => hpl.mem_iff.1 hz, (vals_sorted R hm hm1 hz hS).1, below_sorted hO.2.2.1 R.hblk hS⟩

/-- Gaps of a call's own, sorted: the first one first. -/
theorem last_sorted (base m k : Nat) (l : List (Nat × Nat)) (gs : List Gp) (w : World) (v : Value) (hf : FreshV w base v (gs.map encG)) (h0 : gs ≠ []) (hm : gs.length = m) (hm1 : m ≤ 481) (hr : l.Pairwise (fun a b => a.1 + a.2 < b.1)) (hg : gs.map numG = cutAt (byLen l) k) :
    ∃ g c, v = .slice (some ⟨g, 0, none⟩) m c ∧ Calls Tryz.prog 189 #[.slice (some ⟨g, 0, none⟩) m c, .func (.func 190) #[] #[]] w fun e w' => e = .returned (.tuple #[]) ∧ ∃ xs, FreshV w' base (.slice (some ⟨g, 0, none⟩) m c) xs ∧ Stands xs (someOf l k) ∧ Below base w w' := by
  obtain ⟨g, c, hv, hcap, hO⟩ := ownV_of_fresh (w0 := w) hf (Below.refl _ _) (by simpa using h0)
  rw [List.length_map, hm] at hv hcap
  have R : Row1 encG w g 0 gs.toArray := row_of h0 (Or.inr ⟨base, hO.2.2.1, hO.1, hO.2.1⟩)
  have eg : ∀ args w, (callFunc 190 args).run Tryz.prog w = .ok (.enter 190 args) w := enters_of Tryz.func190 (by kernel_rfl) rfl
  have hsz : gs.toArray.size = m := by simpa using hm
  have h := Any.slices_SortFunc (P := Tryz.prog) (ρ := sortL_ren) sortL encG (fun _ => rfl) byFirst swo_first 190 #[] g 0 c gs.toArray w eg (cmps_lays last_cmp g 0 _ w) R.hH R.hblk (by omega)
  change Calls Tryz.prog 189 _ _ _ at h
  rw [hsz] at h
  refine ⟨g, c, hv, h.mono ?_⟩
  rintro e w' ⟨rfl, D, n, os, hp, ho, hw⟩
  have hS : SW encG w g 0 D w' := ⟨n, os, hw⟩
  have hz : D.size = m := by rw [hp.1]; exact hsz
  obtain ⟨hV, hfr⟩ := vals_sorted R hm hm1 hz hS
  have hl : (D.toList.map encG).length = m := by simpa using hz
  refine ⟨rfl, D.toList.map encG, ⟨some ⟨g, 0, none⟩, c, by rw [hl], by rw [hl]; exact hV, by rw [hl]; exact hcap, Or.inr ⟨g, rfl, hO.2.2.1, fun j => ?_⟩⟩, ?_, below_sorted hO.2.2.1 R.hblk hS⟩
  · obtain ⟨n, os, rfl⟩ := hS
    unfold sortWorld
    rw [Sort.frozen?_grow _ _ _ (by show g < (Sort.putRow _ _ _ _ _).heap.size; rw [Sort.size_putRow]; exact R.hblk), Sort.frozen?_putRow]
    exact hO.2.1 j
  · rw [← first_list hr hg hm hp ho]
    exact stands_gp _

theorem cut_length : ∀ (l : List (Nat × Nat)) (k : Nat), (cutAt l k).length ≤ l.length
  | [], _ => Nat.le_refl _
  | p :: r, k => by
    show (if k = 0 then [] else if k ≤ p.2 then [(p.1, k)] else p :: cutAt r (k - p.2)).length ≤ _
    have ih := cut_length r (k - p.2)
    split
    · simp
    · split
      · simp
      · simpa using ih

set_option maxRecDepth 100000 in
set_option maxHeartbeats 1600000 in
theorem cSome_any (ao : Option Addr) (len cap : Nat) (zs : List Int) (n p q : Int) (w : World) (hA : Arg w ao len cap zs) (_hn : -9223372036854775808 ≤ n ∧ n ≤ 9223372036854775807) (hp : -9223372036854775808 ≤ p ∧ p ≤ 9223372036854775807) (hq : -9223372036854775808 ≤ q ∧ q ≤ 9223372036854775807) :
    Calls Tryz.prog 135 #[.slice ao len cap, .int .i64 n, .int .i64 p, .int .i64 q] w
      (HandedRuns w.heap.size w (someOut (gapErr len n p q) (downOut zs p q) n.toNat) (someErr (gapErr len n p q) (downOut zs p q) n.toNat)) := by
  have c := cgaps_any ao len cap zs n p q w hA hp hq
  have HR := Lib.hid (Rise.pairs (down_rise zs p q))
  have HM := Lib.hid (down_bound (zs := zs) (lo := p) (hi := q))
  have hlen := down_length zs p q
  have hok := gap_ok (len := len) (n := n) (lo := p) (hi := q)
  clear hA
  generalize downOut zs p q = l at *
  generalize gapErr len n p q = E at *
  by_cases hE : E = 0
  · obtain ⟨hn1, hn2⟩ := hok hE
    obtain ⟨k, hk⟩ : ∃ k : Nat, n = k := ⟨n.toNat, by omega⟩
    subst hk
    rw [if_pos hE, hE] at c
    rw [hE]
    rw [show Int.toNat (k : Int) = k by omega]
    have hk1 : 1 ≤ k := by omega
    have hk2 : k ≤ 480 := by omega
    clear hE hok hp hq _hn
    go_enter Tryz.func135, Tryz.ntmps135
    go_wp2_with fail
    refine c.mono ?_
    rintro e w2 ⟨v1, xs, rfl, hf1, hs1, hb1⟩
    obtain ⟨gs, g1, g2⟩ := gps_of hs1 (fun x hx => ⟨(HM.out x hx).1, (HM.out x hx).2.1⟩)
    have HG2 := Lib.hid g2
    have HB2 := Lib.hid hb1
    have hgl : gs.length ≤ 481 := by
      have : (gs.map numG).length = l.length := by rw [g2]
      rw [List.length_map] at this
      omega
    rw [← g1] at hf1
    obtain ⟨ao1, c1, hv1, cS⟩ := rest_sorted w.heap.size gs.length gs w2 v1 hf1 rfl hgl (by rw [g2]; exact HR.out)
    have HGL : Hid (gs.length = l.length) := Lib.hid (by have : (gs.map numG).length = l.length := by rw [g2]
                                                         rwa [List.length_map] at this)
    rw [g2] at cS
    rw [hv1]
    generalize gs.length = m at *
    clear hv1 hf1 hs1 hb1 c g1 g2 hlen
    go_wp2_with fail
    refine cS.mono ?_
    rintro e w3 ⟨rfl, ds, d1, d2, d3, d4, d5⟩
    have HB3 : Hid (Below w.heap.size w w3) := Lib.hid (HB2.out.trans d5)
    have hz1 : ∀ z ∈ ds, 1 ≤ (numG z).2 := fun z hz => (HM.out (numG z) (by rw [← HG2.out]; exact List.mem_map_of_mem (f := numG) (d3 z hz))).2.1
    have cT := take_any ao1 c1 m k ds w3 d4 hgl hz1 hk2
    have hsum : sumG (byLen l) = sumG l := sumG_perm (byLen_perm l)
    rw [d2, hsum] at cT
    clear cS d3 d4 d5 d1 d2 hz1 hsum
    go_wp2_with fail
    refine cT.mono ?_
    rintro e w4 ⟨v4, rfl, hf4, hb4⟩
    have HB4 : Hid (Below w.heap.size w w4) := Lib.hid (HB3.out.trans (hb4.mono HB3.out.size))
    have hf4' := hf4.mono HB3.out.size
    clear cT hf4 hb4
    by_cases hlt : sumG l < k
    · have HS : Hid (someOut 0 l k = [] ∧ someErr 0 l k = 6) := Lib.hid ⟨by unfold someOut; rw [if_neg (by omega)], by unfold someErr; rw [if_pos rfl, if_pos hlt]⟩
      have hz : (0 : Int) < ((k - sumG l : Nat) : Int) := by omega
      generalize ((k - sumG l : Nat) : Int) = z at *
      obtain ⟨ao4, c4, hv4, _, _, _⟩ := hf4'
      rw [hv4]
      clear hv4 hlt
      go_wp2_with fail
      go_ret2
      rw [HS.out.1, HS.out.2]
      exact ⟨_, [], rfl, FreshV.nil _ _, stands_nil, HB4.out⟩
    · have HS : Hid (someOut 0 l k = someOf l k ∧ someErr 0 l k = 0) := Lib.hid ⟨by unfold someOut; rw [if_pos ⟨rfl, by omega⟩], by unfold someErr; rw [if_pos rfl, if_neg hlt]⟩
      have hz : ((k - sumG l : Nat) : Int) = 0 := by omega
      rw [hz]
      have hbl : ∀ x ∈ cutAt (byLen l) k, x.1 + x.2 ≤ 480 ∧ 1 ≤ x.2 := fun x hx => by
        obtain ⟨y, hy, e1, e2, e3⟩ := cut_mem (byLen l) k (fun y hy => (HM.out y ((byLen_perm l).mem_iff.1 hy)).2.1) x hx
        have := (HM.out y ((byLen_perm l).mem_iff.1 hy)).1
        omega
      obtain ⟨ts, t1, t2⟩ := gps_of (stands_cV (fun x hx => (hbl x hx).1)) hbl
      have ht0 : ts ≠ [] := by
        intro h
        have hs := cut_sum (byLen l) k (by rw [sumG_perm (byLen_perm l)]; omega)
        rw [← t2, h] at hs
        have : (0 : Nat) = k := hs
        omega
      have htl : ts.length ≤ 481 := by
        have e1 : (ts.map numG).length = (cutAt (byLen l) k).length := by rw [t2]
        rw [List.length_map] at e1
        have e2 := cut_length (byLen l) k
        have e3 : (byLen l).length = l.length := (byLen_perm l).length_eq
        have := HGL.out
        omega
      rw [← t1] at hf4'
      obtain ⟨g, c4, hv4, cL⟩ := last_sorted w.heap.size ts.length k l ts w4 v4 hf4' ht0 rfl htl HR.out t2
      rw [hv4]
      generalize ts.length = m2 at *
      clear hv4 hf4' t1 t2 ht0 htl hbl hz hlt
      go_wp2_with fail
      refine cL.mono ?_
      rintro e w5 ⟨rfl, ys, hf5, hs5, hb5⟩
      have HF5 := Lib.hid (And.intro hf5 (And.intro hs5 (HB4.out.trans hb5)))
      clear cL hf5 hs5 hb5
      go_wp2_with fail
      go_ret2
      rw [HS.out.1, HS.out.2]
      exact ⟨_, ys, rfl, HF5.out.1, HF5.out.2.1, HF5.out.2.2⟩
  · rw [if_neg hE] at c
    have HS : Hid (someOut E l n.toNat = [] ∧ someErr E l n.toNat = E) := Lib.hid ⟨by unfold someOut; rw [if_neg (fun h => hE h.1)], by unfold someErr; rw [if_neg hE]⟩
    have hne : (E == 0) = false := by simp; exact hE
    clear hE hok hp hq hlen _hn
    go_enter Tryz.func135, Tryz.ntmps135
    go_wp2_with fail
    refine c.mono ?_
    rintro e w2 ⟨v1, xs, rfl, hf1, hs1, hb1⟩
    have HB2 := Lib.hid hb1
    obtain ⟨ao1, c1, hv1, _, _, _⟩ := hf1
    rw [hv1]
    clear hv1 hs1 hb1 c
    go_wp2_with fail
    go_ret2
    rw [HS.out.1, HS.out.2]
    exact ⟨_, [], rfl, FreshV.nil _ _, stands_nil, HB2.out⟩

end Go.Proofs.YtmcblhgpcgnaoaaGreatDoor


namespace Go.Proofs.YtmcblhgpcgnaoaaGreatDoor
open Go.RowKit
set_option linter.unusedVariables false
set_option linter.unusedSimpArgs false

/-- How many blocks are free ahead of hi. -/
def freeOf (f : List Int) (hi : Nat) : Int := (hi : Int) - 59 - ((cnt (flag f) hi : Nat) - (cnt (flag f) 59 : Nat))
/-- The blocks of runs. -/
def runBlks (rs : List (Nat × Nat)) : List Int := rs.flatMap fun r => (List.range r.2).map fun (i : Nat) => (r.1 : Int) + (i : Int)
/-- Which blocks are picked. -/
def pickL (f : List Int) (n hi : Nat) : List Int :=
  if n = 0 then [] else match tightGap (downOut f 59 hi) n with
    | some p => runBlks [(p.1, n)]
    | none => runBlks (someOf (downOut f 59 hi) n)
def pickE (f : List Int) (n hi : Nat) : Int := if freeOf f hi < (n : Int) then 6 else 0

theorem cnt60 {f : List Int} {k : Nat} (hl : f.length = 60) (hk : k ≤ 480) : cntOut f k = cnt (flag f) k ∧ cntErr 60 k = 0 := by
  have h : cntErr 60 k = 0 := by unfold cntErr; rw [if_pos rfl, if_neg (by omega)]
  refine ⟨?_, h⟩
  unfold cntOut
  rw [hl, h, if_pos rfl]
  rfl

set_option maxHeartbeats 800000 in
theorem ifree_any (ao : Option Addr) (cap : Nat) (f : List Int) (hi : Nat) (w : World) (hA : Arg w ao 60 cap f) (h0 : 59 ≤ hi) (h1 : hi ≤ 480) :
    Calls Tryz.prog 59 #[.slice ao 60 cap, .int .i64 hi] w (Tells w.heap.size w (.int .i64 (freeOf f hi))) := by
  obtain ⟨x, hx⟩ : ∃ x : Nat, cnt (flag f) hi = x := ⟨_, rfl⟩
  obtain ⟨y, hy⟩ : ∃ y : Nat, cnt (flag f) 59 = y := ⟨_, rfl⟩
  have hx1 : x ≤ hi := by rw [← hx]; exact cnt_le _ _
  have hy1 : y ≤ 59 := by rw [← hy]; exact cnt_le _ _
  have HF : Hid (freeOf f hi = (hi : Int) - 59 - ((x : Int) - (y : Int))) := Lib.hid (by unfold freeOf; rw [hx, hy])
  have HC : Hid (∀ W (k : Nat) (z : Nat), Below w.heap.size w W → k ≤ 480 → cnt (flag f) k = z → Calls Tryz.prog 112 #[.slice ao 60 cap, .int .i64 k] W (Tells W.heap.size W (.tuple #[.int .i64 z, .int .i64 0]))) := Lib.hid (fun W k z hW hk hz => by
    have h := xCount_any ao 60 cap f k W (hA.later hW) (by omega)
    rw [(cnt60 hA.1.1 hk).1, (cnt60 hA.1.1 hk).2, hz] at h
    exact h)
  have c1 := HC.out w hi x (Below.refl _ _) h1 hx
  have C2 : Hid (∀ W, Below w.heap.size w W → Calls Tryz.prog 112 #[.slice ao 60 cap, .int .i64 59] W (Tells W.heap.size W (.tuple #[.int .i64 y, .int .i64 0]))) := Lib.hid (fun W hW => HC.out W 59 y hW (by decide) hy)
  clear hA hx hy HC
  go_enter Tryz.func59, Tryz.ntmps59
  go_wp2_with (first
    | (go_at_call 112; first | ((with_reducible refine c1.mono ?_); rintro e w2 ⟨rfl, hb⟩; have HB2 := Lib.hid hb; clear hb) | (refine (C2.out _ HB2.out).mono ?_; rintro e w3 ⟨rfl, hb⟩; have HB3 := Lib.hid (HB2.out.trans (hb.mono HB2.out.size)); clear hb))
    | (go_at_call 111; refine (mustI_any _ _).mono ?_; rintro e w4 ⟨rfl, rfl⟩))
  go_ret
  exact ⟨by rw [HF.out]; rfl, HB3.out⟩

theorem runBlks_snoc (rs : List (Nat × Nat)) (r : Nat × Nat) : runBlks (rs ++ [r]) = runBlks rs ++ (List.range r.2).map fun (i : Nat) => (r.1 : Int) + (i : Int) := by
  unfold runBlks
  rw [List.flatMap_append]
  simp

set_option maxRecDepth 100000 in
set_option maxHeartbeats 1600000 in
theorem blocksOf_any (ro : Option Addr) (m rcap : Nat) (xs : List Value) (rs : List (Nat × Nat)) (w : World) (hR : Vals w ro m xs) (hS : Stands xs rs) (hok : okRuns rs) (hm : m ≤ 1000) (ht : (runBlks rs).length ≤ 10000) :
    Calls Tryz.prog 133 #[.slice ro m rcap] w fun e w' => ∃ v, e = .returned v ∧ FreshI w' w.heap.size v (runBlks rs) ∧ Below w.heap.size w w' := by
  have hml : rs.length = m := by rw [← hS.1, hR.1]
  have HML := Lib.hid hml
  have HR := Lib.hid hR
  have HS := Lib.hid hS
  have HOK := Lib.hid hok
  have HLB : Hid (∀ i, (runBlks (rs.take i)).length ≤ 10000) := Lib.hid (fun i => by
    have h : (runBlks rs).length = (runBlks (rs.take i)).length + (runBlks (rs.drop i)).length := by
      conv => lhs; rw [← List.take_append_drop i rs]
      unfold runBlks
      rw [List.flatMap_append, List.length_append]
    omega)
  clear ht
  clear hml hR hS hok
  go_enter Tryz.func133, Tryz.ntmps133
  go_wp2_with fail
  have HR0 : Hid (∃ acc, acc = runBlks (rs.take 0) ∧ w.ownsRow w.heap.size 3 1 (.slice none 0 0) acc.length (ints acc) ∧ Below w.heap.size w w) := Lib.hid ⟨[], by simp [runBlks], World.ownsRow_nil w w.heap.size 3 1, Below.refl _ _⟩
  go_loopw [3, 12] (fun vv iv wr => ∃ i : Nat, i ≤ m ∧ iv = .int .i64 i ∧ Hid (∃ acc, acc = runBlks (rs.take i) ∧ wr.ownsRow w.heap.size 3 1 vv acc.length (ints acc) ∧ Below w.heap.size w wr)) (fun _ iv _ => m - (intOf iv).toNat)
  case atStart => exact ⟨0, Nat.zero_le _, rfl, HR0⟩
  case round =>
    obtain ⟨i, hi, rfl, HJ⟩ := hrel
    by_cases hlt : i < m
    · obtain ⟨acc0, ha0, ho0, hbw⟩ := HJ.out
      obtain ⟨⟨a, b⟩, hr⟩ : ∃ r, rs[i]? = some r := ⟨_, List.getElem?_eq_getElem (by rw [HML.out]; exact hlt)⟩
      obtain ⟨hb1, hab⟩ := HOK.out _ (List.mem_of_getElem? hr)
      have hb1 : 1 ≤ b := hb1
      have hab : a + b ≤ 480 := hab
      obtain ⟨v, hv⟩ : ∃ v, xs[i]? = some v := ⟨_, List.getElem?_eq_getElem (by rw [HR.out.1]; exact hlt)⟩
      obtain ⟨x, y, rfl, hx, hy⟩ := HS.out.2 i v (a, b) hv hr
      obtain ⟨rb, roff, rfl, hrc⟩ := HR.out.2.2.resolve_left (by omega)
      have hcell := cell_later hbw (hrc i _ hv)
      have HT : Hid (runBlks (rs.take (i + 1)) = runBlks (rs.take i) ++ (List.range b).map fun (j : Nat) => (a : Int) + (j : Int)) := Lib.hid (by
        rw [List.take_add_one, hr]
        exact runBlks_snoc _ _)
      have hl1 := HLB.out (i + 1)
      rw [HT.out, List.length_append, List.length_map, List.length_range] at hl1
      obtain ⟨B0, hB0⟩ : ∃ B0, runBlks (rs.take i) = B0 := ⟨_, rfl⟩
      rw [hB0] at HT hl1 ha0
      have HN : Hid (∃ acc, acc = B0 ++ (List.range 0).map (fun (j : Nat) => (a : Int) + (j : Int)) ∧ wr.ownsRow w.heap.size 3 1 _ acc.length (ints acc) ∧ Below w.heap.size w wr) := Lib.hid ⟨acc0, by rw [ha0]; simp, ho0, hbw⟩
      have cP := Parts_any x y a b wr hx hy (by omega) (by omega) (by omega)
      have i2 : (i : Int) < m := by omega
      clear HJ hbw hr hv hx hy hrc HR0 ha0 ho0 hB0
      go_wp2_with (first | (go_at_call 99; refine cP.mono ?_; rintro e w' ⟨rfl, rfl⟩) | (go_at_call 111; refine (mustI_any _ _).mono ?_; rintro e w' ⟨rfl, rfl⟩))
      clear cP hcell
      go_loopw [3, 25] (fun vv jv wr => ∃ j : Nat, j ≤ b ∧ jv = .int .i64 j ∧ Hid (∃ acc, acc = B0 ++ (List.range j).map (fun (j : Nat) => (a : Int) + (j : Int)) ∧ wr.ownsRow w.heap.size 3 1 vv acc.length (ints acc) ∧ Below w.heap.size w wr)) (fun _ jv _ => b - (intOf jv).toNat)
      case atStart => exact ⟨0, Nat.zero_le _, rfl, HN⟩
      case round =>
        obtain ⟨j, hj, rfl, HJ⟩ := hrel
        obtain ⟨acc, ha, ho, hbw⟩ := HJ.out
        by_cases hlt2 : j < b
        · have hal : acc.length = B0.length + j := by rw [ha]; simp
          have HA2 : Hid (acc ++ [(a : Int) + (j : Int)] = B0 ++ (List.range (j + 1)).map (fun (j : Nat) => (a : Int) + (j : Int))) := Lib.hid (by rw [ha, List.range_succ, List.map_append]; simp)
          have HO := Lib.hid ho
          have HW := Lib.hid hbw
          have HS2 : Hid (w.heap.size ≤ wr.heap.size + 1) := Lib.hid (by have := hbw.size; omega)
          have hl2 : acc.length ≤ 100000 := by omega
          have j2 : (j : Int) < b := by omega
          clear HJ ha ho hbw hal
          go_wp2_with (at_builtin; refine wp_append_one elemI rfl (.tmp 28) (.tmp 32) rfl w.heap.size acc.length _ _ rfl (HO.out.alloc _) ⟨wr.heap.size, 0, none⟩ 1 _ rfl (one_cell_new _ _ _) rfl rfl hl2 (by simpa using HS2.out) ?_; intro v1 w1' hown1 hb1; have HO1 := Lib.hid hown1; have HB2 := Lib.hid hb1; clear hown1 hb1)
          go_roundw
          case rel => exact ⟨j + 1, by omega, by go_num, Lib.hid ⟨acc ++ [(a : Int) + (j : Int)], HA2.out, by rw [List.length_append, ints_append]; exact HO1.out, (HW.out.alloc (by have := HW.out.size; exact this) _).trans HB2.out⟩⟩
          case measure => simp [intOf]; omega
        · have hjb : j = b := by omega
          subst hjb
          have HB3 : Hid (∃ acc, acc = runBlks (rs.take (i + 1)) ∧ wr.ownsRow w.heap.size 3 1 _ acc.length (ints acc) ∧ Below w.heap.size w wr) := Lib.hid ⟨acc, by rw [HT.out]; exact ha, ho, hbw⟩
          clear HJ ha ho hbw
          go_wp2_with fail
          go_roundw
          case rel => exact ⟨i + 1, by omega, by go_num, HB3⟩
          case measure => simp [intOf]; omega
    · have him : i = m := by omega
      subst him
      obtain ⟨acc, ha, ho, hbw⟩ := HJ.out
      have hfull : rs.take i = rs := List.take_of_length_le (by rw [HML.out]; exact Nat.le_refl _)
      rw [hfull] at ha
      have hb480 : ∀ z ∈ runBlks rs, I64 z := fun z hz => by
        unfold runBlks at hz
        obtain ⟨r, hr, hz⟩ := List.mem_flatMap.1 hz
        obtain ⟨k, hk, rfl⟩ := List.mem_map.1 hz
        have h2 := (HOK.out r hr).2
        have h3 := List.mem_range.1 hk
        unfold I64
        omega
      have hlb := HLB.out i
      rw [hfull] at hlb
      have HF := Lib.hid (fresh_of_ints ho (by rw [ha]; exact hb480) (by rw [ha]; omega))
      have HW := Lib.hid hbw
      have HAE := Lib.hid ha
      clear HJ ha ho hbw hfull hb480 HR0 hlb
      go_wp2_with fail
      go_ret
      exact ⟨_, rfl, by rw [← HAE.out]; exact HF.out, HW.out⟩

theorem runBlks_length (rs : List (Nat × Nat)) : (runBlks rs).length = sumG rs := by
  induction rs with
  | nil => rfl
  | cons r t ih =>
    show ((List.range r.2).map _ ++ runBlks t).length = r.2 + sumG t
    rw [List.length_append, List.length_map, List.length_range, ih]

/-- What is free is in the gaps. -/
theorem free_sum {f : List Int} {hi : Nat} (hl : f.length = 60) (h0 : 59 ≤ hi) (h1 : hi ≤ 480) : (sumG (downOut f 59 hi) : Int) = freeOf f hi := by
  have hd : downErr f.length 59 hi = 0 := by unfold downErr; rw [hl, if_pos rfl, if_neg (by omega)]
  obtain ⟨_, _, h, _⟩ := all_sum hd
  have e1 := (cnt60 (k := hi) hl h1).1
  have e2 := (cnt60 (k := 59) hl (by decide)).1
  have e3 : ((59 : Nat) : Int) = 59 := rfl
  rw [e3] at e2
  rw [e1, e2] at h
  unfold freeOf
  omega

theorem cnt_mono59 (g : Nat → Bool) {hi : Nat} (h : 59 ≤ hi) : cnt g 59 ≤ cnt g hi := by
  obtain ⟨d, rfl⟩ : ∃ d, hi = 59 + d := ⟨hi - 59, by omega⟩
  clear h
  induction d with
  | zero => exact Nat.le_refl _
  | succ d ih =>
    show _ ≤ cnt g (59 + d) + (if g (59 + d) then 1 else 0)
    omega

theorem gap60 {n hi : Nat} (h0 : 59 ≤ hi) (h1 : hi ≤ 480) (h2 : 1 ≤ n) (h3 : n ≤ 480) : gapErr 60 n 59 hi = 0 := by
  have hd : downErr 60 59 hi = 0 := by unfold downErr; rw [if_pos rfl, if_neg (by omega)]
  unfold gapErr
  rw [if_neg (by rw [hd]; decide), if_neg (by omega)]

theorem some_bound {f : List Int} {n hi : Nat} : okRuns (someOf (downOut f 59 hi) n) := fun p hp => by
  obtain ⟨q, hq, e, h1, h2⟩ := some_mem (fun q hq => (down_bound q hq).2.1) p hp
  have := (down_bound q hq).1
  omega

/-- What pick hands back. -/
def PickDone (base : Nat) (w0 : World) (f : List Int) (n hi : Nat) (e : Ending) (w' : World) : Prop :=
  ∃ v, e = .returned (.tuple #[v, .int .i64 (pickE f n hi)]) ∧ FreshI w' base v (if pickE f n hi = 0 then pickL f n hi else []) ∧ Below base w0 w'

set_option maxRecDepth 100000 in
set_option maxHeartbeats 1600000 in
theorem ipick_any (ao : Option Addr) (cap : Nat) (f : List Int) (n hi : Nat) (w : World) (hA : Arg w ao 60 cap f) (h0 : 59 ≤ hi) (h1 : hi ≤ 480) (hn : n ≤ 9223372036854775807) :
    Calls Tryz.prog 79 #[.slice ao 60 cap, .int .i64 n, .int .i64 hi] w (PickDone w.heap.size w f n hi) := by
  have cF := ifree_any ao cap f hi w hA h0 h1
  obtain ⟨F, hF⟩ : ∃ F, freeOf f hi = F := ⟨_, rfl⟩
  rw [hF] at cF
  by_cases hgt : F < (n : Int)
  · have HE : Hid (pickE f n hi = 6) := Lib.hid (by unfold pickE; rw [hF, if_pos hgt])
    clear hA hF
    go_enter Tryz.func79, Tryz.ntmps79
    go_wp2_with (go_at_call 59; refine cF.mono ?_; rintro e w2 ⟨rfl, hb⟩; have HB2 := Lib.hid hb; clear hb)
    go_ret2
    exact ⟨_, by rw [HE.out]; rfl, by rw [HE.out]; exact FreshI.nil _ _, HB2.out⟩
  · have HE : Hid (pickE f n hi = 0) := Lib.hid (by unfold pickE; rw [hF, if_neg hgt])
    by_cases hz : n = 0
    · subst hz
      have HL : Hid (pickL f 0 hi = []) := Lib.hid (by unfold pickL; rw [if_pos rfl])
      have hgt2 : ¬ F < 0 := by simpa using hgt
      have hgt3 : decide (F < 0) = false := decide_eq_false hgt2
      clear hA hF
      go_enter Tryz.func79, Tryz.ntmps79
      go_wp2_with (go_at_call 59; refine cF.mono ?_; rintro e w2 ⟨rfl, hb⟩; have HB2 := Lib.hid hb; clear hb)
      go_ret2
      exact ⟨_, by rw [HE.out]; rfl, by rw [HE.out, if_pos rfl, HL.out]; exact FreshI.nil _ _, HB2.out⟩
    · have hsum := free_sum hA.1.1 h0 h1
      rw [hF] at hsum
      have hF480 : F ≤ 421 := by
        rw [← hF]
        unfold freeOf
        have := cnt_le (fun i => !flag f i) 59
        have h3 := cnt_mono59 (flag f) h0
        omega
      have hg := gap60 (n := n) h0 h1 (by omega) (by omega)
      have HT : Hid (∀ W, Below w.heap.size w W → Calls Tryz.prog 132 #[.slice ao 60 cap, .int .i64 n, .int .i64 59, .int .i64 hi] W (HandedRun W.heap.size W (pickOut 0 (tightGap (downOut f 59 hi) n) n) (pickErr 0 (tightGap (downOut f 59 hi) n)))) := Lib.hid (fun W hW => by
        have h := cTight_any ao 60 cap f n 59 hi W (hA.later hW) (by omega) (by decide) (by omega)
        rw [hg] at h
        exact h)
      cases ht : tightGap (downOut f 59 hi) n with
      | some p =>
        have hp := (tight_mem ht)
        have hpb := down_bound p hp.1
        have HL : Hid (pickL f n hi = runBlks [(p.1, n)]) := Lib.hid (by unfold pickL; rw [if_neg hz, ht])
        rw [ht] at HT
        have e1 : pickOut 0 (some p) n = (p.1, n) := rfl
        have e2 : pickErr 0 (some p) = 0 := rfl
        rw [e1, e2] at HT
        have HOK : Hid (okRuns [(p.1, n)]) := Lib.hid (fun r hr => by rw [List.mem_singleton.1 hr]; exact ⟨by show 1 ≤ n; omega, by show p.1 + n ≤ 480; omega⟩)
        have HLEN : Hid ((runBlks [(p.1, n)]).length ≤ 10000) := Lib.hid (by rw [runBlks_length]; show n + 0 ≤ 10000; omega)
        have hne : ((n : Int) == 0) = false := by simpa using hz
        clear hA hF hsum hg ht hp hpb e1 e2 hz
        go_enter Tryz.func79, Tryz.ntmps79
        go_wp2_with (first
          | (go_at_call 59; refine cF.mono ?_; rintro e w2 ⟨rfl, hb⟩; have HB2 := Lib.hid hb; clear hb)
          | (go_at_call 132; refine (HT.out _ HB2.out).mono ?_; rintro e w3 ⟨x, y, rfl, hx, hy, hb⟩; have HB3 := Lib.hid (HB2.out.trans (hb.mono HB2.out.size)); have HX := Lib.hid (And.intro hx hy); clear hb hx hy)
          | (go_at_call 133
             have HV : Hid (Vals (w3.alloc (.cells #[.complex .f64 x y] 93)) (some ⟨w3.heap.size, 0, none⟩) 1 [.complex .f64 x y]) := Lib.hid ⟨rfl, by decide, Or.inr ⟨w3.heap.size, 0, rfl, fun j v hj => by
               match j, hj with
               | 0, hj => cases Option.some.inj hj; simp
               | j + 1, hj => simp at hj⟩⟩
             refine (blocksOf_any (some ⟨w3.heap.size, 0, none⟩) 1 1 _ [(p.1, n)] _ HV.out ⟨rfl, fun j v q hj hq => ?_⟩ HOK.out (by decide) HLEN.out).mono ?_
             · match j, hj, hq with
               | 0, hj, hq => cases Option.some.inj hj; cases Option.some.inj hq; exact ⟨x, y, rfl, HX.out.1, HX.out.2⟩
               | j + 1, hj, hq => simp at hj
             rintro e w4 ⟨v4, rfl, hf4, hb4⟩
             have HF4 := Lib.hid hf4
             have HB4 := Lib.hid (HB3.out.trans (((Below.refl w3.heap.size w3).alloc (Nat.le_refl _) (.cells #[.complex .f64 x y] 93)).trans (hb4.mono (by simp)) |>.mono HB3.out.size))
             clear hf4 hb4))
        go_ret2
        refine ⟨v4, by rw [HE.out]; rfl, by rw [HE.out, if_pos rfl, HL.out]; exact HF4.out.mono (by have := HB3.out.size; simp; omega), HB4.out⟩
      | none =>
        have HL : Hid (pickL f n hi = runBlks (someOf (downOut f 59 hi) n)) := Lib.hid (by unfold pickL; rw [if_neg hz, ht])
        rw [ht] at HT
        have e2 : pickErr 0 (none : Option (Nat × Nat)) = 6 := rfl
        rw [e2] at HT
        have hle : n ≤ sumG (downOut f 59 hi) := by omega
        have HSM : Hid (∀ W, Below w.heap.size w W → Calls Tryz.prog 135 #[.slice ao 60 cap, .int .i64 n, .int .i64 59, .int .i64 hi] W (HandedRuns W.heap.size W (someOf (downOut f 59 hi) n) 0)) := Lib.hid (fun W hW => by
          have h := cSome_any ao 60 cap f n 59 hi W (hA.later hW) (by omega) (by decide) (by omega)
          rw [hg, show ((n : Int)).toNat = n by omega] at h
          have e3 : someErr 0 (downOut f 59 hi) n = 0 := by unfold someErr; rw [if_pos rfl, if_neg (by omega)]
          have e4 : someOut 0 (downOut f 59 hi) n = someOf (downOut f 59 hi) n := by unfold someOut; rw [if_pos ⟨rfl, hle⟩]
          rw [e3, e4] at h
          exact h)
        have HLEN : Hid ((runBlks (someOf (downOut f 59 hi) n)).length = n) := Lib.hid (by rw [runBlks_length, some_sum hle])
        have HOK : Hid (okRuns (someOf (downOut f 59 hi) n)) := Lib.hid some_bound
        have HRL : Hid ((someOf (downOut f 59 hi) n).length ≤ 1000) := Lib.hid (by
          have h1 : ∀ l : List (Nat × Nat), (∀ q ∈ l, 1 ≤ q.2) → l.length ≤ sumG l := fun l => by
            induction l with
            | nil => intro _; exact Nat.le_refl _
            | cons q t ih => intro h; have := ih (fun x hx => h x (List.mem_cons_of_mem _ hx)); have := h q (by simp); show t.length + 1 ≤ q.2 + sumG t; omega
          have h2 := h1 _ (fun q hq => (HOK.out q hq).1)
          rw [some_sum hle] at h2
          omega)
        have hne : ((n : Int) == 0) = false := by simpa using hz
        clear hA hF hsum hg ht e2 hz hle
        generalize someOf (downOut f 59 hi) n = rs at *
        go_enter Tryz.func79, Tryz.ntmps79
        go_wp2_with (first
          | (go_at_call 59; refine cF.mono ?_; rintro e w2 ⟨rfl, hb⟩; have HB2 := Lib.hid hb; clear hb)
          | (go_at_call 132; refine (HT.out _ HB2.out).mono ?_; rintro e w3 ⟨x, y, rfl, hx, hy, hb⟩; have HB3 := Lib.hid (HB2.out.trans (hb.mono HB2.out.size)); clear hb hx hy)
          | (go_at_call 135; refine (HSM.out _ HB3.out).mono ?_; rintro e w5 ⟨v5, xs5, rfl, hf5, hs5, hb5⟩; have HB5 := Lib.hid (HB3.out.trans (hb5.mono HB3.out.size)); have HS5 := Lib.hid hs5; obtain ⟨ao5, c5, rfl, hv5, hc5, _⟩ := hf5; have HV5 := Lib.hid hv5; have HX5 : Hid (xs5.length ≤ 1000) := Lib.hid (by rw [hs5.1]; exact HRL.out); clear hb5 hs5 hv5 hc5)
          | (go_at_call 134; refine (mustCs_any _ _).mono ?_; rintro e w6 ⟨rfl, rfl⟩)
          | (go_at_call 133
             refine (blocksOf_any ao5 _ c5 xs5 rs _ HV5.out HS5.out HOK.out HX5.out (by rw [HLEN.out]; omega)).mono ?_
             rintro e w4 ⟨v4, rfl, hf4, hb4⟩
             have HF4 := Lib.hid hf4
             have HB4 := Lib.hid (HB5.out.trans (hb4.mono HB5.out.size))
             clear hf4 hb4))
        go_ret2
        refine ⟨v4, by rw [HE.out]; rfl, by rw [HE.out, if_pos rfl, HL.out]; exact HF4.out.mono HB5.out.size, HB4.out⟩
end Go.Proofs.YtmcblhgpcgnaoaaGreatDoor


namespace Go.Proofs.YtmcblhgpcgnaoaaGreatDoor
def sealedB (zs : List Int) : Bool := decide (zs.length = 64 ∧ sealOf sumS zs = zs)
end Go.Proofs.YtmcblhgpcgnaoaaGreatDoor


namespace Go.Proofs.YtmcblhgpcgnaoaaGreatDoor
open Go.RowKit
set_option linter.unusedVariables false
set_option linter.unusedSimpArgs false

/-- Are these a volume's blocks? -/
structure VolOk (B : List (List Int)) : Prop where
  n64 : 64 ≤ B.length ∧ B.length ≤ 480
  sup : isSup (B.getD 0 []) = true
  siz : (supAt B).a = (B.length : Int)
  head : isHead (B.getD 1 []) = true
  sld : sealedB (B.getD 2 []) = true
  nodes : ∀ n, n < 32 → isNode (halfAt B n) = true

theorem VolOk.super {B : List (List Int)} (h : VolOk B) : (supAt B).sound = true := by
  have hs := h.sup
  unfold isSup at hs
  have : supAt B = readSup (B.getD 0 []) := by unfold supAt getSup; rw [if_pos h.sup]
  rw [this]
  simp only [Bool.and_eq_true] at hs
  exact hs.2.1
theorem VolOk.ends {B : List (List Int)} (h : VolOk B) : ∃ hi : Nat, endOf (supAt B) = hi ∧ 59 ≤ hi ∧ hi ≤ B.length := by
  have hs := of_decide_eq_true h.super
  have hz := h.siz
  have h64 := h.n64
  refine ⟨(endOf (supAt B)).toNat, ?_, ?_, ?_⟩ <;> unfold endOf <;> split <;> omega

set_option maxHeartbeats 1600000 in
theorem end_any {w : World} {p q g n cap : Nat} {L : List (List Int)} (hp : w.cell? ⟨p, q, none⟩ = some (.slice (some ⟨g, 0, none⟩) n cap)) (hR : Rw w g L) (hn : L.length = n) (hV : VolOk L) :
    Calls Tryz.prog 61 #[.pointer (some ⟨p, q, none⟩)] w (Tells w.heap.size w (.int .i64 (endOf (supAt L)))) := by
  have cS := super_any hp hR hn (by have := hV.n64; omega) hV.sup
  have hs := of_decide_eq_true hV.super
  obtain ⟨X, hX⟩ : ∃ X, supAt L = X := ⟨_, rfl⟩
  rw [hX] at cS hs ⊢
  clear hp hR hn hV hX
  obtain ⟨a, b, c, d, e⟩ := X
  obtain ⟨s1, s2, s3, s4, s5, s6, s7, s8, s9, s10⟩ := hs
  dsimp only at s1 s2 s3 s4 s5 s6 s7 s8 s9 s10
  unfold PSup.val at cS
  dsimp only at cS
  by_cases hc : c = 2
  · have HE : Hid (endOf ⟨a, b, c, d, e⟩ = max 59 (min a e)) := Lib.hid (by unfold endOf; rw [if_pos hc])
    subst hc
    go_enter Tryz.func61, Tryz.ntmps61
    go_wp2_with (go_at_call 58; refine cS.mono ?_; rintro e' w2 ⟨rfl, hb⟩; have HB := Lib.hid hb; clear hb)
    go_ret
    exact ⟨by rw [HE.out]; rfl, HB.out.alloc (HB.out.size) _⟩
  · have HE : Hid (endOf ⟨a, b, c, d, e⟩ = a) := Lib.hid (by unfold endOf; rw [if_neg hc])
    have hne : (c != 2) = true := by simpa using hc
    go_enter Tryz.func61, Tryz.ntmps61
    go_wp2_with (go_at_call 58; refine cS.mono ?_; rintro e' w2 ⟨rfl, hb⟩; have HB := Lib.hid hb; clear hb)
    go_ret
    exact ⟨by rw [HE.out]; rfl, HB.out.alloc (HB.out.size) _⟩

/-- How many blocks of a volume are free. -/
def freeB (B : List (List Int)) : Int := freeOf (flagsAt B) (endOf (supAt B)).toNat

theorem flags_arg {w : World} {g : Nat} {L : List (List Int)} (hR : Rw w g L) (h : 2 < L.length) : Arg w (some ⟨g, 128, none⟩) 60 64 (flagsAt L) := by
  have := hR.arg (i := 2) (d := 0) (m := 60) (cap := 64) h (by decide) (by decide)
  rw [List.drop_zero] at this
  exact this

set_option maxRecDepth 100000 in
set_option maxHeartbeats 1600000 in
theorem free_at {w : World} {p gb gl gs cb cl cs : Nat} {I : Img} (h : ImgAt w p gb gl gs cb cl cs I) (hV : VolOk I.bl) :
    Calls Tryz.prog 17 #[.pointer (some ⟨p, 0, none⟩)] w (Tells w.heap.size w (.int .i64 (freeB I.bl))) := by
  have cN := none_at h
  have hp := h.lt.1
  have hcell : ∀ W, Below w.heap.size w W → W.cell? ⟨p, 0, none⟩ = some (.slice (some ⟨gb, 0, none⟩) I.bl.length cb) := fun W hW => by rw [hW.cell (p := ⟨p, 0, none⟩) hp]; exact h.c0
  have hrw : ∀ W, Below w.heap.size w W → Rw W gb I.bl := fun W hW => h.rb.later h.n0.1 hW
  obtain ⟨hi, he, h59, hle⟩ := hV.ends
  have h480 := hV.n64.2
  have HE : Hid (∀ W, Below w.heap.size w W → Calls Tryz.prog 61 #[.pointer (some ⟨p, 0, none⟩)] W (Tells W.heap.size W (.int .i64 hi))) := Lib.hid (fun W hW => by
    rw [← he]
    exact end_any (hcell W hW) (hrw W hW) rfl hV)
  have HFL : Hid (∀ W, Below w.heap.size w W → Calls Tryz.prog 60 #[.pointer (some ⟨p, 0, none⟩)] W fun e w' => e = .returned (.slice (some ⟨gb, 128, none⟩) 60 64) ∧ W = w') := Lib.hid (fun W hW => flags_any (hcell W hW) (by omega))
  have HFR : Hid (∀ W, Below w.heap.size w W → Calls Tryz.prog 59 #[.slice (some ⟨gb, 128, none⟩) 60 64, .int .i64 hi] W (Tells W.heap.size W (.int .i64 (freeB I.bl)))) := Lib.hid (fun W hW => by
    have hx := ifree_any _ 64 (flagsAt I.bl) hi W (flags_arg (hrw W hW) (by omega)) h59 (by omega)
    unfold freeB
    rw [he]
    exact hx)
  generalize freeB I.bl = Z at *
  clear hcell hrw he h59 hle h480 h hV
  go_enter Tryz.func17, Tryz.ntmps17
  go_wp2_with (go_at_call 51; refine cN.mono ?_; rintro e' w' ⟨rfl, rfl⟩)
  go_region_held3 (fun _ => True) (exact True.intro) ((first
    | (go_at_call 60; refine (HFL.out _ (Below.refl _ _).drew).mono ?_; rintro e' w' ⟨rfl, rfl⟩)
    | (go_at_call 61; refine (HE.out _ (Below.refl _ _).drew).mono ?_; rintro e' w2 ⟨rfl, hb⟩; have HB2 : Hid (Below w.heap.size w w2) := Lib.hid ((Below.refl _ _).drew.trans hb); clear hb)
    | (go_at_call 59; refine (HFR.out _ HB2.out).mono ?_; rintro e' w3 ⟨rfl, hb⟩; have HB3 : Hid (Below w.heap.size w w3) := Lib.hid (HB2.out.trans (hb.mono HB2.out.size)); clear hb)))
  go_wp2_with fail
  go_ret
  exact ⟨rfl, HB3.out⟩

theorem free_any {w : World} {a : Addr} {F : Nat → Prop} {I : Img} (h : ImgI w a F I) (hV : VolOk I.bl) :
    Calls Tryz.prog 17 #[.pointer (some a)] w (Tells w.heap.size w (.int .i64 (freeB I.bl))) := by
  obtain ⟨p, gb, gl, gs, cb, cl, cs, rfl, h, rfl⟩ := h
  exact free_at h hV

theorem FreshI.grew {F F' : Nat → Prop} {w w' : World} {base : Nat} {v : Value} {zs : List Int} (h : FreshI w base v zs) (hG : Grew F F' w w') (hF : ∀ k, F k → k < base) : FreshI w' base v zs := by
  obtain ⟨ao, cap, rfl, ⟨⟨h1, h2, h3⟩, h4, h5, h6⟩, hf⟩ := h
  refine ⟨ao, cap, rfl, ⟨⟨h1, h2, ?_⟩, h4, h5, h6⟩, hf⟩
  rcases hf with rfl | ⟨g, off, rfl, hg⟩
  · exact Or.inl rfl
  · rcases h3 with h3 | ⟨b, o, e, hc⟩
    · exact Or.inl h3
    · cases e
      by_cases h0 : zs.length = 0
      · exact Or.inl h0
      · refine Or.inr ⟨g, off, rfl, fun j x hx => ?_⟩
        have hlt := World.block_lt_of_cell? _ _ (hc j x hx)
        rw [cell_of_heap (p := ⟨g, off + j, none⟩) (hG.block hlt (fun hf => by have := hF g hf; omega))]
        exact hc j x hx

/-! ### Take -/
def takeE (B : List (List Int)) (n : Nat) : Int := pickE (flagsAt B) n (endOf (supAt B)).toNat
def takeL (B : List (List Int)) (n : Nat) : List Int := if takeE B n = 0 then pickL (flagsAt B) n (endOf (supAt B)).toNat else []
def takeB (B : List (List Int)) (n : Nat) : List (List Int) := if takeE B n = 0 then withFlags B (markL (flagsAt B) true (takeL B n)) else B
/-- What Take hands back. -/
def TakeDone (w : World) (a : Addr) (F : Nat → Prop) (I : Img) (n : Nat) (e : Ending) (w' : World) : Prop :=
  ∃ v, e = .returned (.tuple #[v, .int .i64 (takeE I.bl n)]) ∧ FreshI w' w.heap.size v (takeL I.bl n) ∧ ImgI w' a F { I with bl := takeB I.bl n } ∧ Grew F F w w'

theorem runBlks_ok {rs : List (Nat × Nat)} (h : okRuns rs) : okNums (runBlks rs) := fun x hx => by
  unfold runBlks at hx
  obtain ⟨r, hr, hx⟩ := List.mem_flatMap.1 hx
  obtain ⟨k, hk, rfl⟩ := List.mem_map.1 hx
  have h2 := (h r hr).2
  have h3 := List.mem_range.1 hk
  omega
theorem pick_runs (f : List Int) (n hi : Nat) (hp : pickE f n hi = 0) (hl : f.length = 60) (h0 : 59 ≤ hi) (h1 : hi ≤ 480) : ∃ rs, pickL f n hi = runBlks rs ∧ okRuns rs ∧ (pickL f n hi).length = n := by
  unfold pickL
  by_cases hz : n = 0
  · rw [if_pos hz]; exact ⟨[], rfl, by intro r hr; simp at hr, by rw [hz]; rfl⟩
  · rw [if_neg hz]
    have hsum := free_sum hl h0 h1
    have hle : n ≤ sumG (downOut f 59 hi) := by
      unfold pickE at hp
      split at hp
      · cases hp
      · omega
    cases ht : tightGap (downOut f 59 hi) n with
    | some p =>
      have hq := tight_mem ht
      have hb := down_bound p hq.1
      refine ⟨_, rfl, fun r hr => by rw [List.mem_singleton.1 hr]; exact ⟨by show 1 ≤ n; omega, by show p.1 + n ≤ 480; omega⟩, by show (runBlks [(p.1, n)]).length = n; rw [runBlks_length]; rfl⟩
    | none => exact ⟨_, rfl, some_bound, by show (runBlks _).length = n; rw [runBlks_length, some_sum hle]⟩
theorem takeL_ok {B : List (List Int)} (hV : VolOk B) (n : Nat) (h60 : (flagsAt B).length = 60) : okNums (takeL B n) ∧ (takeL B n).length ≤ 1000 := by
  unfold takeL takeE
  obtain ⟨hi, he, h59, hle⟩ := hV.ends
  have h480 := hV.n64.2
  rw [he, show ((hi : Int)).toNat = hi by omega]
  split
  · rename_i hp
    obtain ⟨rs, h1, h2, h3⟩ := pick_runs _ n hi hp h60 h59 (by omega)
    refine ⟨by rw [h1]; exact runBlks_ok h2, ?_⟩
    rw [h3]
    unfold pickE at hp
    split at hp
    · cases hp
    · rename_i hlt
      have : freeOf (flagsAt B) hi ≤ 421 := by
        unfold freeOf
        have h3 := cnt_mono59 (flag (flagsAt B)) h59
        omega
      omega
  · exact ⟨by intro x hx; simp at hx, by simp⟩

set_option maxRecDepth 100000 in
set_option maxHeartbeats 1600000 in
theorem takes_at {w : World} {p gb gl gs cb cl cs : Nat} {I : Img} (n : Nat) (hn : n ≤ 9223372036854775807) (h : ImgAt w p gb gl gs cb cl cs I) (hV : VolOk I.bl) :
    Calls Tryz.prog 26 #[.pointer (some ⟨p, 0, none⟩), .int .i64 n] w (TakeDone w ⟨p, 0, none⟩ (FootI p gb gl gs) I n) := by
  have cN := none_at h
  have hp := h.lt.1
  have hgb := h.lt.2.1
  have hcell : ∀ W, Below w.heap.size w W → W.cell? ⟨p, 0, none⟩ = some (.slice (some ⟨gb, 0, none⟩) I.bl.length cb) := fun W hW => by rw [hW.cell (p := ⟨p, 0, none⟩) hp]; exact h.c0
  have hrw : ∀ W, Below w.heap.size w W → Rw W gb I.bl := fun W hW => h.rb.later h.n0.1 hW
  obtain ⟨hi, he, h59, hle⟩ := hV.ends
  have h480 := hV.n64.2
  have h60 : (flagsAt I.bl).length = 60 := (flags_arg h.rb (by omega)).1.1
  have HE : Hid (∀ W, Below w.heap.size w W → Calls Tryz.prog 61 #[.pointer (some ⟨p, 0, none⟩)] W (Tells W.heap.size W (.int .i64 hi))) := Lib.hid (fun W hW => by
    rw [← he]
    exact end_any (hcell W hW) (hrw W hW) rfl hV)
  have HFL : Hid (∀ W, Below w.heap.size w W → Calls Tryz.prog 60 #[.pointer (some ⟨p, 0, none⟩)] W fun e w' => e = .returned (.slice (some ⟨gb, 128, none⟩) 60 64) ∧ W = w') := Lib.hid (fun W hW => flags_any (hcell W hW) (by omega))
  obtain ⟨E, hE⟩ : ∃ E, takeE I.bl n = E := ⟨_, rfl⟩
  obtain ⟨l, hL⟩ : ∃ l, takeL I.bl n = l := ⟨_, rfl⟩
  have hlok := takeL_ok hV n h60
  rw [hL] at hlok
  have HPK : Hid (∀ W, Below w.heap.size w W → Calls Tryz.prog 79 #[.slice (some ⟨gb, 128, none⟩) 60 64, .int .i64 n, .int .i64 hi] W fun e w' => ∃ v, e = .returned (.tuple #[v, .int .i64 E]) ∧ FreshI w' W.heap.size v l ∧ Below W.heap.size W w') := Lib.hid (fun W hW => by
    have hx := ipick_any _ 64 (flagsAt I.bl) n hi W (flags_arg (hrw W hW) (by omega)) h59 (by omega) hn
    unfold PickDone at hx
    have e1 : pickE (flagsAt I.bl) n hi = E := by rw [← hE]; unfold takeE; rw [he]; rfl
    have e2 : (if pickE (flagsAt I.bl) n hi = 0 then pickL (flagsAt I.bl) n hi else []) = l := by rw [← hL]; unfold takeL takeE; rw [he]; rfl
    rw [e2, e1] at hx
    exact hx)
  have HT : Hid (takeB I.bl n = if E = 0 then withFlags I.bl (markL (flagsAt I.bl) true l) else I.bl) := Lib.hid (by unfold takeB; rw [hE, hL])
  have HEL := Lib.hid (And.intro hE hL)
  have HMK : Hid (∀ W ao cap, Below w.heap.size w W → IArg W ao l.length cap l → Calls Tryz.prog 80 #[.slice (some ⟨gb, 128, none⟩) 60 64, .bool true, .slice (some ⟨W.heap.size, 0, none⟩) 1 1] (W.alloc (.cells #[.slice ao l.length cap] 50)) (Gives (W.alloc (.cells #[.slice ao l.length cap] 50)).heap.size (W.alloc (.cells #[.slice ao l.length cap] 50)) (markL (flagsAt I.bl) true l))) := Lib.hid (fun W ao cap hW hA => by
    have hb : Below W.heap.size W (W.alloc (.cells #[.slice ao l.length cap] 50)) := (Below.refl _ _).alloc (Nat.le_refl _) _
    have hx := imark_any _ 64 (flagsAt I.bl) true W.heap.size 0 1 1 [l] _ ((flags_arg (hrw W hW) (by omega)).later hb) rfl (fun j zs hj => by
      match j, hj with
      | 0, hj => cases Option.some.inj hj; exact ⟨ao, l.length, cap, by simp, hA.later hb⟩
      | j + 1, hj => simp at hj) (by show l.length + 0 ≤ 10000; omega) (by decide) (by simpa using hlok.1)
    rw [show [l].flatten = l by simp] at hx
    exact hx)
  have HSF : Hid (∀ W g o c, Below w.heap.size w W → Arg W (some ⟨g, o, none⟩) 60 c (markL (flagsAt I.bl) true l) → Calls Tryz.prog 44 #[.pointer (some ⟨p, 0, none⟩), .slice (some ⟨g, o, none⟩) 60 c] W fun e w' => e = .returned (.tuple #[]) ∧ Rw w' gb (withFlags I.bl (markL (flagsAt I.bl) true l)) ∧ Grew (fun k => k = gb) (fun k => k = gb) W w') := Lib.hid (fun W g o c hW hA => setFlags_any (hcell W hW) (hrw W hW) rfl (by omega) hA)
  have HI := Lib.hid h
  have HML : Hid ((markL (flagsAt I.bl) true l).length = 60 ∧ markL (flagsAt I.bl) true l ≠ []) := Lib.hid (by
    have : (markL (flagsAt I.bl) true l).length = 60 := markP_length _ _ _
    exact ⟨this, fun h => by rw [h] at this; cases this⟩)
  clear hcell hrw he h59 hle h480 h hV hE hL hlok h60 hn
  by_cases hE0 : E = 0
  · subst hE0
    go_enter Tryz.func26, Tryz.ntmps26
    go_wp2_with (go_at_call 51; refine cN.mono ?_; rintro e' w' ⟨rfl, rfl⟩)
    go_region_held3 (fun _ => True) (exact True.intro) ((first
      | (go_at_call 60; refine (HFL.out _ (Below.refl _ _).drew).mono ?_; rintro e' w' ⟨rfl, rfl⟩)
      | (go_at_call 61; refine (HE.out _ (Below.refl _ _).drew).mono ?_; rintro e' w2 ⟨rfl, hb⟩; have HB2 : Hid (Below w.heap.size w w2) := Lib.hid ((Below.refl _ _).drew.trans hb); clear hb)
      | (go_at_call 79; refine (HPK.out _ HB2.out).mono ?_; rintro e' w3 ⟨v, rfl, hf, hb⟩; have HF3 := Lib.hid (hf.mono HB2.out.size); obtain ⟨ao, cap, rfl, hA, _⟩ := hf; have HA3 := Lib.hid hA; have HB3 : Hid (Below w.heap.size w w3) := Lib.hid (HB2.out.trans (hb.mono HB2.out.size)); clear hb hA)))
    go_wp2_with fail
    go_region_held3 (fun _ => True) (exact True.intro) ((first
      | (go_at_call 60; first | ((refine (HFL.out _ HB3.out.drew).mono ?_); rintro e' w' ⟨rfl, rfl⟩) | ((refine (HFL.out _ (HB3.out.drew.alloc HB3.out.drew.size _)).mono ?_); rintro e' w' ⟨rfl, rfl⟩))
      | (go_at_call 80; refine (HMK.out _ ao cap HB3.out.drew (HA3.out.later (Below.refl _ _).drew)).mono ?_; rintro e' w4 ⟨v4, rfl, hf4, hb4⟩; obtain ⟨g4, o4, k4, rfl, hA4, _⟩ := fresh_slice hf4 HML.out.2; rw [HML.out.1] at hA4 ⊢; have HA4 := Lib.hid hA4; have HB34 : Hid (Below w3.heap.size w3 w4) := Lib.hid (((Below.refl w3.heap.size w3).drew.alloc (Nat.le_refl _) _).trans (hb4.mono (by simp))); have HB4 := Lib.hid (HB3.out.trans (HB34.out.mono HB3.out.size)); clear hf4 hb4 hA4)
      | (go_at_call 44; refine (HSF.out w4 g4 o4 k4 HB4.out HA4.out).mono ?_; rintro e' w5 ⟨rfl, hr5, hg5⟩; have H5 := Lib.hid (And.intro hr5 hg5); clear hr5 hg5)))
    all_goals
      go_wp2_with fail
      go_ret2
      have hg := (Grew.of_below (F := fun k => k = gb) HB4.out).trans H5.out.2
      refine ⟨_, by rw [HEL.out.1]; rfl, ?_, ⟨p, gb, gl, gs, cb, cl, cs, rfl, ?_, rfl⟩, hg.foot⟩
      · rw [HEL.out.2]
        exact (HF3.out.later HB34.out).grew H5.out.2 (fun k e => by omega)
      · have hT := HT.out
        simp only [if_true] at hT
        rw [hT]
        exact HI.out.setBl H5.out.1 (by unfold withFlags; rw [List.length_set]) hg
  · have hne : (E != 0) = true := by simpa using hE0
    go_enter Tryz.func26, Tryz.ntmps26
    go_wp2_with (go_at_call 51; refine cN.mono ?_; rintro e' w' ⟨rfl, rfl⟩)
    go_region_held3 (fun _ => True) (exact True.intro) ((first
      | (go_at_call 60; refine (HFL.out _ (Below.refl _ _).drew).mono ?_; rintro e' w' ⟨rfl, rfl⟩)
      | (go_at_call 61; refine (HE.out _ (Below.refl _ _).drew).mono ?_; rintro e' w2 ⟨rfl, hb⟩; have HB2 : Hid (Below w.heap.size w w2) := Lib.hid ((Below.refl _ _).drew.trans hb); clear hb)
      | (go_at_call 79; refine (HPK.out _ HB2.out).mono ?_; rintro e' w3 ⟨v, rfl, hf, hb⟩; have HB3 : Hid (Below w.heap.size w w3) := Lib.hid (HB2.out.trans (hb.mono HB2.out.size)); clear hb hf)))
    go_wp2_with fail
    go_ret2
    refine ⟨_, by rw [HEL.out.1]; rfl, ?_, ⟨p, gb, gl, gs, cb, cl, cs, rfl, ?_, rfl⟩, Grew.of_below HB3.out⟩
    · unfold takeL
      rw [HEL.out.1, if_neg hE0]
      exact FreshI.nil _ _
    · rw [HT.out, if_neg hE0]
      exact HI.out.kept (fun k hk => HB3.out.block k (by have := HI.out.lt; rcases hk with rfl | rfl | rfl | rfl <;> omega))
end Go.Proofs.YtmcblhgpcgnaoaaGreatDoor


namespace Go.Proofs.YtmcblhgpcgnaoaaGreatDoor
set_option linter.unusedVariables false
set_option linter.unusedSimpArgs false

def okP (p : Int) : Bool := decide (p = 0 ∨ 59 ≤ p ∧ p ≤ 479)
def nzB (p : Int) : Bool := decide (p ≠ 0)
def nzL (l : List Int) : List Int := l.filter nzB
/-- Each is 0 or a data block, and no two of these are the same. -/
def apartL (l : List Int) : Bool := l.all okP && decide (nzL l).Nodup
def ptrsOk (l : List Int) : Bool := decide (l.length ≤ 96) && apartL l
/-- So many pointers from one on; 0 behind the end. -/
def partP (l : List Int) (s n : Nat) : List Int := (List.range n).map fun i => l.getD (s + i) 0
def someP (l : List Int) (s n : Nat) : Bool := (partP l s n).any nzB
def underN (l : List Int) : Nat := (someP l 34 30).toNat + ((someP l 64 30).toNat + (someP l 94 30).toNat)
def needP (l : List Int) : Nat := (someP l 4 30).toNat + (if underN l = 0 then 0 else underN l + 1)
/-- A block of pointers. -/
def pageB (l : List Int) : List Int := sealOf sumS (l.flatMap fun p => leB p 2)
def needErr (l : List Int) : Int := if ptrsOk l = true then 0 else 1
def needOut (l : List Int) : Int := if ptrsOk l = true then (needP l : Int) else 0
def dataP (p : Int) : Bool := decide (59 ≤ p ∧ p ≤ 479)
def freshErr (fresh : List Int) (need : Nat) (others : List Int) : Int :=
  if fresh.length < need then 6 else if (fresh.take need).all dataP && apartL (others ++ fresh.take need) then 0 else 1
def whenB (b : Bool) (p : Int) : Int := if b = true then p else 0
def whenW (b : Bool) (p : Int) (xs : List Int) : List (Int × List Int) := if b = true then [(p, pageB xs)] else []

/-- The map: Single, Double, and the blocks of pointers. -/
def singleP (l fresh : List Int) : Int := whenB (someP l 4 30) (fresh.getD 0 0)
def doubleB (l : List Int) : Bool := decide (underN l ≠ 0)
def doubleP (l fresh : List Int) : Int := whenB (doubleB l) (fresh.getD (someP l 4 30).toNat 0)
def under0 (l fresh : List Int) : Int := whenB (someP l 34 30) (fresh.getD ((someP l 4 30).toNat + 1) 0)
def under1 (l fresh : List Int) : Int := whenB (someP l 64 30) (fresh.getD ((someP l 4 30).toNat + 1 + (someP l 34 30).toNat) 0)
def under2 (l fresh : List Int) : Int := whenB (someP l 94 30) (fresh.getD ((someP l 4 30).toNat + 1 + (someP l 34 30).toNat + (someP l 64 30).toNat) 0)
def writesP (l fresh : List Int) : List (Int × List Int) :=
  whenW (someP l 4 30) (singleP l fresh) (partP l 4 30) ++ (whenW (doubleB l) (doubleP l fresh) [under0 l fresh, under1 l fresh, under2 l fresh] ++
    (whenW (someP l 34 30) (under0 l fresh) (partP l 34 30) ++ (whenW (someP l 64 30) (under1 l fresh) (partP l 64 30) ++ whenW (someP l 94 30) (under2 l fresh) (partP l 94 30))))

/-! ### ReadingT -/

def words (b : List Int) : List Int := (List.range 30).map fun i => leN b (2 * i) 2
/-- What a block is as a block of pointers. -/
def pageOf (b : List Int) : Option (List Int) :=
  if (decide (b.length = 64 ∧ sealOf sumS b = b) && ((words b).any nzB && apartL (words b))) = true then some (words b) else none
def findW (bs : List (Int × List Int)) (p : Int) : Option (List Int) := (bs.find? fun w => decide (w.1 = p)).map (·.2)
def pageAt (bs : List (Int × List Int)) (p : Int) : Option (List Int) := if p = 0 then some (List.replicate 30 0) else (findW bs p).bind pageOf
/-- Without zeros at the end. -/
def trimL : List Int → List Int
  | [] => []
  | x :: r => if x = 0 ∧ trimL r = [] then [] else x :: trimL r

/-- The pointers of many blocks, one behind the other. -/
def allOf (f : Int → Option (List Int)) : List Int → Option (List Int)
  | [] => some []
  | x :: r => match f x, allOf f r with
    | some a, some b => some (a ++ b)
    | _, _ => none

/-! ### Plain facts -/

theorem trim_zeros (n : Nat) : trimL (List.replicate n 0) = [] := by
  induction n with
  | zero => rfl
  | succ n ih => show (if (0 : Int) = 0 ∧ trimL (List.replicate n 0) = [] then [] else _) = []; rw [if_pos ⟨rfl, ih⟩]

theorem trim_append_zeros (l : List Int) (n : Nat) : trimL (l ++ List.replicate n 0) = trimL l := by
  induction l with
  | nil => exact trim_zeros n
  | cons x r ih => show (if x = 0 ∧ trimL (r ++ List.replicate n 0) = [] then [] else x :: trimL (r ++ List.replicate n 0)) = _; rw [ih]; rfl

theorem trim_prefix (l : List Int) : ∃ n, l = trimL l ++ List.replicate n 0 := by
  induction l with
  | nil => exact ⟨0, rfl⟩
  | cons x r ih =>
    obtain ⟨n, h⟩ := ih
    by_cases hx : x = 0 ∧ trimL r = []
    · refine ⟨n + 1, ?_⟩
      have e : trimL (x :: r) = [] := if_pos hx
      rw [hx.2, List.nil_append] at h
      rw [e, hx.1, List.replicate_succ, List.nil_append, ← h]
    · refine ⟨n, ?_⟩
      have e : trimL (x :: r) = x :: trimL r := if_neg hx
      rw [e, List.cons_append, ← h]

theorem nz_zeros (n : Nat) : nzL (List.replicate n 0) = [] := by
  unfold nzL
  rw [List.filter_eq_nil_iff]
  intro a ha
  rw [List.eq_of_mem_replicate ha]
  decide

theorem nz_append (a b : List Int) : nzL (a ++ b) = nzL a ++ nzL b := List.filter_append ..

theorem all_zeros (n : Nat) : (List.replicate n (0 : Int)).all okP = true := by
  rw [List.all_eq_true]
  intro x hx
  rw [List.eq_of_mem_replicate hx]
  decide

theorem apart_append {a b : List Int} (h : apartL (a ++ b) = true) : apartL a = true ∧ apartL b = true := by
  unfold apartL at h ⊢
  rw [nz_append, List.all_append] at h
  simp only [Bool.and_eq_true, decide_eq_true_eq] at h ⊢
  have := List.nodup_append.1 h.2
  exact ⟨⟨h.1.1, this.1⟩, h.1.2, this.2.1⟩

theorem apart_zeros {a : List Int} (n : Nat) : apartL (a ++ List.replicate n 0) = apartL a := by
  unfold apartL
  rw [nz_append, nz_zeros, List.append_nil, List.all_append, all_zeros, Bool.and_true]

theorem flat_len : ∀ xs : List Int, (xs.flatMap fun p => leB p 2).length = 2 * xs.length
  | [] => rfl
  | x :: r => by
    rw [List.flatMap_cons, List.length_append, leB_length, flat_len r, List.length_cons]
    omega

theorem page_sealed {xs : List Int} (hl : xs.length ≤ 30) : (pageB xs).length = 64 ∧ sealOf sumS (pageB xs) = pageB xs := by
  have hb : (xs.flatMap fun p => leB p 2).length ≤ 60 := by rw [flat_len]; omega
  have h64 : (pageB xs).length = 64 := seal_short_length hb
  refine ⟨h64, ?_⟩
  rw [sealOf_take h64]
  unfold pageB
  rw [seal_short hb, List.take_append_of_le_length (by rw [List.length_append, List.length_replicate]; omega), List.take_of_length_le (by rw [List.length_append, List.length_replicate]; omega)]

theorem take_range (l : List Int) (n : Nat) (h : n ≤ l.length) : l.take n = (List.range n).map fun i => l.getD i 0 := by
  apply List.ext_getElem?
  intro i
  by_cases hi : i < n
  · rw [List.getElem?_take, if_pos hi, List.getElem?_map, List.getElem?_range hi, List.getElem?_eq_getElem (by omega)]
    simp [List.getD_eq_getElem?_getD, List.getElem?_eq_getElem (show i < l.length by omega)]
  · rw [List.getElem?_eq_none (by rw [List.length_take]; omega), List.getElem?_eq_none (by simp; omega)]

/-- The blocks of a map are the fresh ones, in order. -/
theorem keys_plan {l fresh : List Int} (h : needP l ≤ fresh.length) : (writesP l fresh).map (·.1) = fresh.take (needP l) := by
  rw [take_range fresh (needP l) h]
  unfold writesP singleP doubleP under0 under1 under2 needP doubleB underN
  generalize someP l 4 30 = a
  generalize someP l 34 30 = b
  generalize someP l 64 30 = c
  generalize someP l 94 30 = d
  cases a <;> cases b <;> cases c <;> cases d <;> rfl

theorem numbers_plan {l fresh : List Int} (hz : ∀ i, i < needP l → nzB (fresh.getD i 0) = true) :
    nzL [singleP l fresh, doubleP l fresh, under0 l fresh, under1 l fresh, under2 l fresh] = (writesP l fresh).map (·.1) := by
  unfold writesP singleP doubleP under0 under1 under2 doubleB underN
  unfold needP underN at hz
  generalize someP l 4 30 = a at *
  generalize someP l 34 30 = b at *
  generalize someP l 64 30 = c at *
  generalize someP l 94 30 = d at *
  have h0 := hz 0
  have h1 := hz 1
  have h2 := hz 2
  have h3 := hz 3
  have h4 := hz 4
  clear hz
  have n0 : nzB 0 = false := rfl
  cases a <;> cases b <;> cases c <;> cases d <;> simp_all [whenB, whenW, nzL, Bool.toNat]

theorem all_append (f : Int → Option (List Int)) : ∀ {a b x y : List Int}, allOf f a = some x → allOf f b = some y → allOf f (a ++ b) = some (x ++ y)
  | [], b, x, y, h1, h2 => by
    cases h1
    exact h2
  | q :: r, b, x, y, h1, h2 => by
    unfold allOf at h1
    show (match f q, allOf f (r ++ b) with
      | some a, some b => some (a ++ b)
      | _, _ => none) = _
    cases hq : f q with
    | none => rw [hq] at h1; cases h1
    | some u =>
      cases hr : allOf f r with
      | none => rw [hq, hr] at h1; cases h1
      | some v =>
        rw [hq, hr] at h1
        cases h1
        rw [all_append f hr h2]
        show some (u ++ (v ++ y)) = _
        rw [List.append_assoc]

theorem fresh_ok {fresh others : List Int} {n : Nat} (h : freshErr fresh n others = 0) : n ≤ fresh.length ∧ (∀ x ∈ fresh.take n, dataP x = true) ∧ apartL (others ++ fresh.take n) = true := by
  unfold freshErr at h
  split at h
  · exact absurd h (by decide)
  · split at h
    · next h1 h2 =>
      rw [Bool.and_eq_true, List.all_eq_true] at h2
      exact ⟨by omega, h2⟩
    · exact absurd h (by decide)

/-! ### Zeros behind pointers -/

end Go.Proofs.YtmcblhgpcgnaoaaGreatDoor


namespace Go.Proofs.YtmcblhgpcgnaoaaGreatDoor
open Go.RowKit
set_option linter.unusedVariables false
set_option linter.unusedSimpArgs false

def pageV (p : List Int) : Value := .agg (ints p).toArray

theorem uPage : Tryz.prog.underlying 267 = some (.array 30 3) := Tryz.underlying267
theorem iPage {p : List Int} (h : p.length = 30) : (Tryz.prog.info? 267).map (·.size) = some (ints p).length := by rw [ints_length, h]; kernel_rfl

theorem part_int (w : World) (p : List Int) (i : Nat) (h : i < p.length) : (part 3 (ints p).toArray i).run Tryz.prog w = .ok (.int .i64 (p.getD i 0)) w := by
  have e : (ints p).toArray[i]? = some (.int .i64 (p.getD i 0)) := by
    rw [List.getElem?_toArray]
    exact ints_get (by rw [List.getD_eq_getElem?_getD, List.getElem?_eq_getElem h]; rfl)
  unfold part isAgg
  rw [Sem.run_bind, Sem.run_bind, run_underlying Tryz.underlying3 w]
  simp [e]

theorem eq_items (w : World) (d : Nat) (p q : List Int) : ∀ is : List Nat, (∀ i ∈ is, i < p.length ∧ i < q.length) →
    (Op.eqItems (d + 1) 3 1 (ints p).toArray (ints q).toArray is).run Tryz.prog w = .ok (is.all fun j => p.getD j 0 == q.getD j 0) w
  | [], _ => by simp [Op.eqItems]
  | i :: is, h => by
    obtain ⟨h1, h2⟩ := h i (by simp)
    simp only [Op.eqItems, Sem.run_bind, Nat.mul_one, part_int w p i h1, part_int w q i h2, Result.andThen_ok, run_equalIn_int w d 3 .i64 .i64 (p.getD i 0) (q.getD i 0) Tryz.underlying3, List.all_cons]
    cases p.getD i 0 == q.getD i 0
    · simp
    · simpa using eq_items w d p q is (fun j hj => h j (List.mem_cons_of_mem _ hj))

theorem zero_items {p : List Int} (h : p.length = 30) : (List.range 30).all (fun j => p.getD j 0 == (List.replicate 30 (0 : Int)).getD j 0) = !(p.any nzB) := by
  rw [Bool.eq_iff_iff, List.all_eq_true, Bool.not_eq_true', List.any_eq_false]
  constructor
  · intro hh x hx
    obtain ⟨i, hi, rfl⟩ := List.mem_iff_getElem.1 hx
    have := hh i (List.mem_range.2 (by omega))
    rw [List.getD_eq_getElem?_getD, List.getD_eq_getElem?_getD, List.getElem?_replicate, if_pos (by omega), List.getElem?_eq_getElem hi] at this
    simpa [nzB] using this
  · intro hh i hi
    have hi' := List.mem_range.1 hi
    have := hh p[i] (List.getElem_mem (by omega))
    rw [List.getD_eq_getElem?_getD, List.getD_eq_getElem?_getD, List.getElem?_replicate, if_pos (by omega), List.getElem?_eq_getElem (by omega)]
    simpa [nzB] using this

def zero30 : Array Value := #[Value.int .i64 0, Value.int .i64 0, Value.int .i64 0, Value.int .i64 0, Value.int .i64 0, Value.int .i64 0, Value.int .i64 0, Value.int .i64 0, Value.int .i64 0, Value.int .i64 0, Value.int .i64 0, Value.int .i64 0, Value.int .i64 0, Value.int .i64 0, Value.int .i64 0, Value.int .i64 0, Value.int .i64 0, Value.int .i64 0, Value.int .i64 0, Value.int .i64 0, Value.int .i64 0, Value.int .i64 0, Value.int .i64 0, Value.int .i64 0, Value.int .i64 0, Value.int .i64 0, Value.int .i64 0, Value.int .i64 0, Value.int .i64 0, Value.int .i64 0]

theorem run_eq_page (w : World) (p : List Int) (h : p.length = 30) : (Op.equalIn 10000 267 (.agg (ints p).toArray) (.agg zero30)).run Tryz.prog w = .ok (!(p.any nzB)) w := by
  obtain ⟨i0, hi0, hz0, hz1, hz2⟩ := info_parts elemI.2.1
  have hc : Tryz.prog.cellsOf 3 = 1 := by kernel_rfl
  rw [show zero30 = (ints (List.replicate 30 0)).toArray from rfl, show (10000 : Nat) = 9999 + 1 from rfl, run_equalIn_array (P := Tryz.prog) w 9999 _ _ uPage hi0, hc, eq_items w 9998 p (List.replicate 30 0) (List.range 30) (fun i hi => by have := List.mem_range.1 hi; simp only [List.length_replicate]; omega), zero_items h]

set_option maxRecDepth 100000 in
set_option maxHeartbeats 1600000 in
theorem used_any (p : List Int) (w : World) (h : p.length = 30) : Calls Tryz.prog 248 #[pageV p] w fun e w' => e = .returned (.bool (p.any nzB)) ∧ Below w.heap.size w w' := by
  have hn := fun W => run_eq_page W p h
  unfold zero30 at hn
  have hr : (w.alloc (.cells (ints p).toArray 267)).rangeAt w.heap.size 0 (ints p) := fun j v hj => by
    rw [Nat.zero_add, World.cell?_alloc_new]
    simpa using hj
  unfold pageV at *
  go_enter Tryz.func248, Tryz.ntmps248
  go_wp2_with (refine wpList_load_mid rfl 267 (.tmp 1) rfl w.heap.size 0 rfl (ints p) _ hr uPage rfl (iPage h) ?_)
  go_ret
  exact ⟨by simp, (Below.refl _ _).alloc (Nat.le_refl _) _⟩

end Go.Proofs.YtmcblhgpcgnaoaaGreatDoor


namespace Go.Proofs.YtmcblhgpcgnaoaaGreatDoor
open Go.RowKit
set_option linter.unusedVariables false
set_option linter.unusedSimpArgs false

/-- Block g is a chart: its 159 numbers. -/
def ChartAt (w : World) (g : Nat) (L : List Int) : Prop := L.length = 159 ∧ w.rangeAt g 0 (ints L)
def pageL (L : List Int) (i : Nat) : List Int := (L.drop (4 + i * 30)).take 30
def needsB (L : List Int) (i : Nat) : Bool := if i = 1 then [pageL L 2, pageL L 3, pageL L 4].any (fun p => p.any nzB) else (pageL L i).any nzB

theorem pageL_length {L : List Int} (h : L.length = 159) {i : Nat} (hi : i < 5) : (pageL L i).length = 30 := by
  unfold pageL
  rw [List.length_take, List.length_drop]
  omega

theorem range_part {w : World} {g : Nat} {L : List Int} (h : w.rangeAt g 0 (ints L)) (o n : Nat) : w.rangeAt g o (ints ((L.drop o).take n)) := fun j v hj => by
  rw [ints_take, ints_drop, List.getElem?_take] at hj
  split at hj
  · rw [List.getElem?_drop] at hj
    have := h _ v hj
    rwa [Nat.zero_add] at this
  · cases hj

theorem ChartAt.page {w : World} {g : Nat} {L : List Int} (h : ChartAt w g L) (i : Nat) : w.rangeAt g (4 + i * 30) (ints (pageL L i)) := range_part h.2 _ _
theorem ChartAt.later {w wx : World} {g : Nat} {L : List Int} (h : ChartAt w g L) (hb : Below w.heap.size w wx) : ChartAt wx g L := ⟨h.1, fun j v hj => cell_later hb (h.2 j v hj)⟩

theorem any_take_p {p : List Int → Bool} {l : List (List Int)} {i : Nat} {x : List Int} (h : l[i]? = some x) (h0 : (l.take i).any p = false) : (l.take (i + 1)).any p = p x := by
  rw [List.take_add_one, h, List.any_append, h0]
  simp
theorem any_of_take_p {p : List Int → Bool} {l : List (List Int)} {i : Nat} (h : (l.take i).any p = true) : l.any p = true := by
  rw [List.any_eq_true] at h ⊢
  obtain ⟨x, hx, hp⟩ := h
  exact ⟨x, List.mem_of_mem_take hx, hp⟩

def anyP (p : List Int) : Bool := p.any nzB

set_option maxRecDepth 100000 in
set_option maxHeartbeats 1600000 in
theorem indexU_any {w : World} {g : Nat} {ps : List (List Int)} (h3 : ps.length = 3) (hp : ∀ i p, ps[i]? = some p → p.length = 30 ∧ w.rangeAt g (64 + i * 30) (ints p)) :
    Calls Tryz.prog 283 #[.slice (some ⟨g, 64, none⟩) (3 : Nat) (3 : Nat), .func (.func 248) #[] #[]] w fun e w' => ∃ r : Int, e = .returned (.int .i64 r) ∧ decide (0 ≤ r) = ps.any anyP ∧ Below w.heap.size w w' := by
  have HP := Lib.hid hp
  have HL := Lib.hid h3
  clear hp h3
  go_enter Tryz.func283, Tryz.ntmps283
  go_wp2_with fail
  go_loopw [8] (fun iv wr => ∃ i : Nat, iv = .int .i64 (i : Int) ∧ i ≤ 3 ∧ Hid (Below w.heap.size w wr) ∧ Hid ((ps.take i).any anyP = false)) (fun iv _ => 3 - (intOf iv).toNat)
  case atStart => exact ⟨0, rfl, Nat.zero_le _, Lib.hid (Below.refl _ _), Lib.hid rfl⟩
  case round =>
    obtain ⟨i, rfl, hi, HB, HQ⟩ := hrel
    by_cases hlt : i < 3
    · obtain ⟨x, hx⟩ : ∃ x, ps[i]? = some x := ⟨_, List.getElem?_eq_getElem (by rw [HL.out]; exact hlt)⟩
      obtain ⟨hl, hr⟩ := HP.out i x hx
      have hr : wr.rangeAt g (64 + i * 30) (ints x) := fun j v hj => cell_later HB.out (hr j v hj)
      have HI := Lib.hid (iPage hl)
      have HR := Lib.hid hr
      have cF := fun W => used_any x W hl
      unfold pageV at cF
      have i1 : (i : Int) < 3 := by omega
      have HX := Lib.hid hx
      have HV : Hid ((ps.take (i + 1)).any anyP = x.any nzB) := Lib.hid (any_take_p HX.out HQ.out)
      obtain ⟨B, hB⟩ : ∃ B, x.any nzB = B := ⟨_, rfl⟩
      rw [hB] at HV cF
      clear hx hr hl hB
      cases B with
      | true =>
        have HT := Lib.hid (any_of_take_p HV.out)
        clear HV
        go_wp2_with (first | (refine wpList_load_mid rfl 267 (.tmp 14) rfl g (64 + i * 30) rfl (ints x) _ HR.out uPage rfl HI.out ?_) | (go_at_call 248; refine (cF _).mono ?_; rintro e w3 ⟨rfl, hb3⟩; have HB3 := Lib.hid hb3; clear hb3))
        go_ret
        exact ⟨(i : Int), rfl, by rw [HT.out]; exact decide_eq_true (by omega), HB.out.trans (HB3.out.mono HB.out.size)⟩
      | false =>
        go_wp2_with (first | (refine wpList_load_mid rfl 267 (.tmp 14) rfl g (64 + i * 30) rfl (ints x) _ HR.out uPage rfl HI.out ?_) | (go_at_call 248; refine (cF _).mono ?_; rintro e w3 ⟨rfl, hb3⟩; have HB3 := Lib.hid hb3; clear hb3))
        go_roundw
        case rel => exact ⟨i + 1, by go_num, by omega, Lib.hid (HB.out.trans (HB3.out.mono HB.out.size)), HV⟩
        case measure => simp [intOf]; omega
    · have hin : i = 3 := by omega
      subst hin
      go_wp2_with fail
      go_ret
      refine ⟨-1, rfl, ?_, HB.out⟩
      have h := HQ.out
      rw [← HL.out, List.take_length] at h
      rw [h]
      rfl

set_option maxHeartbeats 800000 in
theorem containsU_any {w : World} {g : Nat} {ps : List (List Int)} (h3 : ps.length = 3) (hp : ∀ i p, ps[i]? = some p → p.length = 30 ∧ w.rangeAt g (64 + i * 30) (ints p)) :
    Calls Tryz.prog 247 #[.slice (some ⟨g, 64, none⟩) (3 : Nat) (3 : Nat), .func (.func 248) #[] #[]] w fun e w' => e = .returned (.bool (ps.any anyP)) ∧ Below w.heap.size w w' := by
  have c := indexU_any h3 hp
  clear h3 hp
  go_enter Tryz.func247, Tryz.ntmps247
  go_wp2_with (go_at_call 283; refine c.mono ?_; rintro e w2 ⟨r, rfl, hr, hb⟩; have HR := Lib.hid hr; have HB := Lib.hid hb; clear hr hb)
  go_ret
  exact ⟨by rw [← HR.out]; rfl, HB.out⟩

set_option maxRecDepth 100000 in
set_option maxHeartbeats 1600000 in
/-- Is a page needed? -/
theorem needs_any {w : World} {g i : Nat} {L : List Int} (hC : ChartAt w g L) (hi : i < 5) :
    Calls Tryz.prog 202 #[.pointer (some ⟨g, 0, none⟩), .int .i64 i] w fun e w' => e = .returned (.bool (needsB L i)) ∧ Below w.heap.size w w' := by
  by_cases h1 : i = 1
  · subst h1
    have c := containsU_any (w := w) (g := g) (ps := [pageL L 2, pageL L 3, pageL L 4]) rfl (fun k p hk => by
      match k, hk with
      | 0, hk => cases hk; exact ⟨pageL_length hC.1 (by decide), hC.page 2⟩
      | 1, hk => cases hk; exact ⟨pageL_length hC.1 (by decide), hC.page 3⟩
      | 2, hk => cases hk; exact ⟨pageL_length hC.1 (by decide), hC.page 4⟩
      | k + 3, hk => simp at hk)
    have HN : Hid (needsB L 1 = [pageL L 2, pageL L 3, pageL L 4].any anyP) := Lib.hid rfl
    obtain ⟨B, hB⟩ : ∃ B, [pageL L 2, pageL L 3, pageL L 4].any anyP = B := ⟨_, rfl⟩
    rw [hB] at HN c
    clear hC hB
    go_enter Tryz.func202, Tryz.ntmps202
    go_wp2_with (go_at_call 247; refine c.mono ?_; rintro e w2 ⟨rfl, hb⟩; have HB := Lib.hid hb; clear hb)
    go_ret
    exact ⟨by rw [HN.out]; rfl, HB.out⟩
  · have HR := Lib.hid (hC.page i)
    have hl := pageL_length hC.1 hi
    have HI := Lib.hid (iPage hl)
    have c := fun W => used_any (pageL L i) W hl
    unfold pageV at c
    have HN : Hid (needsB L i = (pageL L i).any nzB) := Lib.hid (by unfold needsB; rw [if_neg h1])
    obtain ⟨B, hB⟩ : ∃ B, (pageL L i).any nzB = B := ⟨_, rfl⟩
    rw [hB] at HN c
    have i5 : (i : Int) < 5 := by omega
    have n1 : ((i : Int) == 1) = false := by simp; omega
    clear hC hB hl
    go_enter Tryz.func202, Tryz.ntmps202
    go_wp2_with (first | (refine wpList_load_mid rfl 267 (.tmp 16) rfl g (4 + i * 30) rfl (ints (pageL L i)) _ HR.out uPage rfl HI.out ?_) | (go_at_call 248; refine (c _).mono ?_; rintro e w2 ⟨rfl, hb⟩; have HB := Lib.hid hb; clear hb))
    go_ret
    exact ⟨by rw [HN.out]; rfl, HB.out⟩

end Go.Proofs.YtmcblhgpcgnaoaaGreatDoor


namespace Go.Proofs.YtmcblhgpcgnaoaaGreatDoor
open Go.RowKit
set_option linter.unusedVariables false
set_option linter.unusedSimpArgs false

def partV (g off n : Nat) : Value := .slice (some ⟨g, off, none⟩) n n
def partsVT (g : Nat) : List Value := [partV g 0 4, partV g 4 30, partV g 64 30, partV g 94 30, partV g 124 30]
theorem one_part (g o n : Nat) : ∀ u ∈ [partV g o n], u.oneCell' = true := by
  intro u hu
  rw [List.mem_singleton.1 hu]
  rfl

theorem elemRows : ElemR 197 50 (.slice none 0 0) 1 24 := ⟨Tryz.underlying197, by kernel_rfl, rfl, by decide, by decide⟩

theorem drew_of_r (w : World) : ({ w with drawn := w.drawn + 1 } : World) = w.drew := rfl

set_option maxRecDepth 100000 in
set_option maxHeartbeats 3200000 in
theorem parts_any (g : Nat) (w : World) : Calls Tryz.prog 224 #[.pointer (some ⟨g, 0, none⟩)] w fun e w' => ∃ v, e = .returned v ∧ w'.ownsRow w.heap.size 50 1 v 5 (partsVT g) ∧ Below w.heap.size w w' := by
  go_enter Tryz.func224, Tryz.ntmps224
  go_wp2_with fail
  refine wp_region_still_tail 9 (by kernel_rfl) (by kernel_rfl) ?_
  simp only [List.take_succ_cons, List.take_zero, List.drop_succ_cons, List.drop_zero]
  try rw [drew_of_r]
  iterate 9 still_step
  refine wpStill_nil ?_
  go_wp2_with fail
  go_loopw [3, 4] (fun lv iv wr => ∃ i : Int, iv = .int .i64 i ∧ (2 ≤ i ∧ i ≤ 5) ∧ Hid (wr.ownsRow w.heap.size 50 1 lv i.toNat ((partsVT g).take i.toNat)) ∧ Hid (Below w.heap.size w wr)) (fun _ iv _ => 5 - (intOf iv).toNat)
  case atStart => exact ⟨2, rfl, by decide, Lib.hid (World.ownsRow_lit (base := w.heap.size) (e := 50) (size := 1) w ((partsVT g).take 2).toArray 2 (Nat.le_refl _) (by decide) rfl), Lib.hid (((Below.refl _ _).alloc (Nat.le_refl _) _).drew)⟩
  case round =>
    obtain ⟨i, rfl, hi, HR, HB⟩ := hrel
    by_cases hlt : i < 5
    · have HZ : Hid (w.heap.size ≤ wr.heap.size + 1) := Lib.hid (by have := HB.out.size; omega)
      obtain rfl | rfl | rfl : i = 2 ∨ i = 3 ∨ i = 4 := by omega
      · go_wp2_with (at_builtin; refine wp_append_r elemRows rfl (.tmp 19) (.tmp 26) rfl w.heap.size 2 _ _ rfl (HR.out.alloc _) ⟨wr.heap.size, 0, none⟩ 1 1 [partV g 64 30] rfl rfl (news_r wr [partV g 64 30] _) (one_part _ _ _) (by decide) (by simpa using HZ.out) ?_; intro v1 w1 hown1 hg1 hb1; have HO1 := Lib.hid hown1; have HB1 := Lib.hid ((HB.out.alloc HB.out.size _).trans hb1); clear hown1 hg1 hb1)
        go_roundw
        case rel => exact ⟨3, by go_num, by decide, HO1, HB1⟩
        case measure => simp [intOf]
      · go_wp2_with (at_builtin; refine wp_append_r elemRows rfl (.tmp 19) (.tmp 26) rfl w.heap.size 3 _ _ rfl (HR.out.alloc _) ⟨wr.heap.size, 0, none⟩ 1 1 [partV g 94 30] rfl rfl (news_r wr [partV g 94 30] _) (one_part _ _ _) (by decide) (by simpa using HZ.out) ?_; intro v1 w1 hown1 hg1 hb1; have HO1 := Lib.hid hown1; have HB1 := Lib.hid ((HB.out.alloc HB.out.size _).trans hb1); clear hown1 hg1 hb1)
        go_roundw
        case rel => exact ⟨4, by go_num, by decide, HO1, HB1⟩
        case measure => simp [intOf]
      · go_wp2_with (at_builtin; refine wp_append_r elemRows rfl (.tmp 19) (.tmp 26) rfl w.heap.size 4 _ _ rfl (HR.out.alloc _) ⟨wr.heap.size, 0, none⟩ 1 1 [partV g 124 30] rfl rfl (news_r wr [partV g 124 30] _) (one_part _ _ _) (by decide) (by simpa using HZ.out) ?_; intro v1 w1 hown1 hg1 hb1; have HO1 := Lib.hid hown1; have HB1 := Lib.hid ((HB.out.alloc HB.out.size _).trans hb1); clear hown1 hg1 hb1)
        go_roundw
        case rel => exact ⟨5, by go_num, by decide, HO1, HB1⟩
        case measure => simp [intOf]
    · have hin : i = 5 := by omega
      subst hin
      go_wp2_with fail
      go_ret
      exact ⟨_, rfl, HR.out, HB.out⟩

end Go.Proofs.YtmcblhgpcgnaoaaGreatDoor

