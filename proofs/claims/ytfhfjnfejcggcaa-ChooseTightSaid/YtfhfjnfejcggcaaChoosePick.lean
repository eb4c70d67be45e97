/-
  Proved here: what the landed choose.First and choose.Tight answer of any bytes, number and blocks.
  The conditions stand at each theorem.
-/
import Derived.Test.YtfhfjnfejcggcaaPickOne
namespace Go.Proofs.Ytfhfjnfejcggcaa
open Go.RowKit

theorem below_put {B : Nat} {a w : World} (h : Below B a w) (enc : Gp → Value) {blk : Nat} (hb : B ≤ blk) (off : Nat) (d : Array Gp) : Below B a (Sort.putRow enc w blk off d) :=
  ⟨h.os, h.tape, h.output, by rw [Sort.size_putRow]; exact h.size, fun k hk => by
    rw [← h.block k hk]
    show (w.heap.modify blk _)[k]? = _
    rw [Array.getElem?_modify, if_neg (by omega)]⟩

theorem get_bang {gs : List Gp} {j : Nat} {x : Gp} (h : gs[j]? = some x) : gs.toArray[j]! = x := by
  obtain ⟨hj, e⟩ := List.getElem?_eq_some_iff.1 h
  rw [getElem!_pos _ j (by simpa using hj)]
  simpa using e

theorem holds_of {w : World} {b : Nat} {gs : List Gp} (hc : ∀ j x, (gs.map encG)[j]? = some x → w.cell? ⟨b, j, none⟩ = some x) (hf : ∀ j, w.frozen? ⟨b, j, none⟩ = false) : Sort.Holds encG w b 0 gs.toArray := by
  intro j hj
  have hj' : j < gs.length := by simpa using hj
  refine ⟨?_, by rw [Nat.zero_add]; exact hf j⟩
  rw [Nat.zero_add]
  refine hc j _ ?_
  rw [List.getElem?_map, List.getElem?_eq_getElem hj', getElem!_pos _ j hj]
  simp

theorem fold_mem (cf : Gp → Gp → Int) : ∀ (r : List Gp) (x : Gp), r.foldl (stepG cf) x ∈ x :: r
  | [], x => List.mem_cons_self ..
  | y :: r, x => by
    have h := fold_mem cf r (stepG cf x y)
    rw [List.foldl_cons]
    rcases List.mem_cons.1 h with h | h
    · rw [h]
      unfold stepG
      split
      · exact List.mem_cons_of_mem _ (List.mem_cons_self ..)
      · exact List.mem_cons_self ..
    · exact List.mem_cons_of_mem _ (List.mem_cons_of_mem _ h)

set_option maxHeartbeats 800000 in
theorem Del_none (a : Option Addr) (c : Nat) (fv : Value) (w : World) :
    Calls Try.prog 39 #[.slice a 0 c, fv] w fun e w' => e = .returned (.slice a 0 c) ∧ w = w' := by
  have c0 := AnyE.slices_IndexFunc_empty (P := Try.prog) (ρ := delL_ren) { delL with } a c fv w
  change Calls Try.prog 52 _ _ _ at c0
  go_enter Try.func39, Try.ntmps39
  go_wp2_with (go_at_call 52; refine c0.mono ?_; rintro e w' ⟨rfl, rfl⟩)
  go_ret
  exact ⟨rfl, rfl⟩

theorem Del_any (n : Int) (B b c m : Nat) (gs : List Gp) (w : World) (hm : gs.length = m) (hm1 : m ≤ 481) (hc : m ≤ c) (hcells : ∀ j x, (gs.map encG)[j]? = some x → w.cell? ⟨b, j, none⟩ = some x) (hfr : ∀ j, w.frozen? ⟨b, j, none⟩ = false) (hB : w.cell? ⟨B, 0, none⟩ = some (.int .i64 n)) (hne : B ≠ b) :
    Calls Try.prog 39 #[.slice (some ⟨b, 0, none⟩) m c, .func (.func 40) #[] #[.pointer (some ⟨B, 0, none⟩)]] w
      fun e w' => e = .returned (.slice (some ⟨b, 0, none⟩) (bigs gs n).length c) ∧ (∀ (j : Nat) (x : Gp), (bigs gs n)[j]? = some x → w'.cell? ⟨b, 0 + j, none⟩ = some (encG x)) ∧ w'.cell? ⟨B, 0, none⟩ = some (.int .i64 n) ∧ Below b w w' := by
  have hH := holds_of hcells hfr
  have hsz : gs.toArray.size = m := by simpa using hm
  have hBl := World.block_lt_of_cell? _ _ hB
  have eg : ∀ args w, (callFunc 40 args).run Try.prog w = .ok (.enter 40 args) w := enters_of Try.func40 (by kernel_rfl) rfl
  have hP : PredAt Try.prog 40 #[.pointer (some ⟨B, 0, none⟩)] encG (fun z => decide (((numG z).2 : Int) < n)) w :=
    fun W x hb => small_any x n B W ((hb.cell (p := ⟨B, 0, none⟩) hBl).trans hB)
  have hO : PredOver Try.prog 40 #[.pointer (some ⟨B, 0, none⟩)] encG (fun z => decide (((numG z).2 : Int) < n)) b 0 gs.toArray.size w :=
    fun k os dk x _ => small_any x n B _ (by
      unfold sortWorld
      rw [Sort.cell?_grow _ _ _ (by show B < (Sort.putRow _ _ _ _ _).heap.size; rw [Sort.size_putRow]; exact hBl), Sort.cell?_putRow_other _ _ b 0 _ _ (Or.inl hne)]
      exact hB)
  have h := AnyE.slices_DeleteFunc (P := Try.prog) (ρ := delL_ren) delL encG (fun _ => rfl) (fun z => decide (((numG z).2 : Int) < n)) 40 #[.pointer (some ⟨B, 0, none⟩)] eg zeroG Try.zeroValue23 b 0 c gs.toArray w hP hO hH (by omega) (by omega)
  change Calls Try.prog 39 _ _ _ at h
  rw [hsz] at h
  refine h.mono ?_
  rintro e w' ⟨rfl, q, rfl⟩
  have hk : (bigs gs n).length ≤ m := by rw [← hm]; exact List.length_filter_le _ _
  refine ⟨rfl, fun j x hj => ?_, ?_, below_put (show Below b w (Sort.ahead w q) from ⟨rfl, rfl, rfl, Nat.le_refl _, fun _ _ => rfl⟩) encG (Nat.le_refl _) 0 _⟩
  · have hjl := (List.getElem?_eq_some_iff.1 hj).1
    have hl : (bigs gs n ++ List.replicate (m - (bigs gs n).length) zeroG).toArray.size = gs.toArray.size := by simp; omega
    refine (Sort.cell?_putRow encG (Sort.ahead w q) b 0 gs.toArray _ (Sort.holds_ahead encG w q b 0 _ hH) hl j (by rw [hl]; simp; omega)).trans ?_
    have e : (bigs gs n ++ List.replicate (m - (bigs gs n).length) zeroG)[j]? = some x := by rw [List.getElem?_append_left hjl]; exact hj
    exact congrArg (fun z => some (encG z)) (get_bang e)
  · rw [Sort.cell?_putRow_other _ _ b 0 _ _ (Or.inl hne)]
    exact hB

set_option maxRecDepth 100000 in
set_option maxHeartbeats 1600000 in
theorem one_any (g : Nat) (cf : Gp → Gp → Int) (hc : Cmps g cf) (eg : ∀ args w, (callFunc g args).run Try.prog w = .ok (.enter g args) w) (sel : List (Nat × Nat) → Nat → Option (Nat × Nat)) (hsel : Picks sel cf)
    (ao : Option Addr) (len cap : Nat) (zs : List Int) (n p q : Int) (w : World) (hA : Arg w ao len cap zs) (hp : -9223372036854775808 ≤ p ∧ p ≤ 9223372036854775807) (hq : -9223372036854775808 ≤ q ∧ q ≤ 9223372036854775807) :
    Calls Try.prog 21 #[.slice ao len cap, .int .i64 n, .int .i64 p, .int .i64 q, .func (.func g) #[] #[]] w
      (HandedRun w.heap.size w (pickOut (gapErr len n p q) (sel (downOut zs p q) n.toNat) n.toNat) (pickErr (gapErr len n p q) (sel (downOut zs p q) n.toNat))) := by
  have HB0 : Hid (Below w.heap.size w (w.alloc (.cells #[.int .i64 n] 3))) := Lib.hid ((Below.refl _ _).alloc (Nat.le_refl _) _)
  have c := cgaps_any ao len cap zs n p q _ (hA.later HB0.out) hp hq
  have HR := Lib.hid (Rise.pairs (down_rise zs p q))
  have HM := Lib.hid (down_bound (zs := zs) (lo := p) (hi := q))
  have hlen := down_length zs p q
  have hok := gap_ok (len := len) (n := n) (lo := p) (hi := q)
  have hcell : (w.alloc (.cells #[.int .i64 n] 3)).cell? ⟨w.heap.size, 0, none⟩ = some (.int .i64 n) := by simp
  have hsize : (w.alloc (.cells #[.int .i64 n] 3)).heap.size = w.heap.size + 1 := by simp
  have HC := Lib.hid hc
  have HS := Lib.hid hsel
  clear hA hc hsel
  generalize downOut zs p q = l at *
  generalize gapErr len n p q = E at *
  by_cases hE : E = 0
  · obtain ⟨hn1, hn2⟩ := hok hE
    obtain ⟨k, hk⟩ : ∃ k : Nat, n = k := ⟨n.toNat, by omega⟩
    subst hk
    rw [if_pos hE, hE] at c
    rw [hE]
    rw [show Int.toNat (k : Int) = k by omega]
    have hk1 : 1 ≤ k := by omega
    clear hE hok hp hq
    go_enter Try.func21, Try.ntmps21
    go_wp2_with fail
    refine c.mono ?_
    rintro e w2 ⟨v1, xs, rfl, hf1, hs1, hb1⟩
    obtain ⟨gs, g1, g2⟩ := gps_of hs1 (fun x hx => ⟨(HM.out x hx).1, (HM.out x hx).2.1⟩)
    have HG2 := Lib.hid g2
    have hB2 := (hb1.cell (p := ⟨w.heap.size, 0, none⟩) (by rw [hsize]; show w.heap.size < _; omega)).trans hcell
    have HB2 : Hid (Below w.heap.size w w2) := Lib.hid (HB0.out.trans (hb1.mono (by rw [hsize]; omega)))
    have hsel := HS.out gs k (by rw [g2]; exact HR.out)
    rw [g2] at hsel
    have HSL := Lib.hid hsel
    clear hsel
    have hgl : gs.length ≤ 481 := by
      have : (gs.map numG).length = l.length := by rw [g2]
      rw [List.length_map] at this
      omega
    rw [hsize] at hf1
    clear hs1 hb1 c hcell g2 hlen
    by_cases h0 : gs = []
    · subst h0
      have HP : Hid (pickOut 0 (sel l k) k = (0, 0) ∧ pickErr 0 (sel l k) = 6) := Lib.hid (by rw [show sel l k = none from HSL.out]; exact ⟨rfl, rfl⟩)
      rw [← g1] at hf1
      obtain ⟨ao1, c1, hv1, _, _, _⟩ := hf1
      rw [hv1]
      have cD := Del_none ao1 c1 (.func (.func 40) #[] #[.pointer (some ⟨w.heap.size, 0, none⟩)]) w2
      clear hv1 g1 hgl
      simp only [List.map_nil, List.length_nil]
      go_wp2_with fail
      refine cD.mono ?_
      rintro e w3 ⟨rfl, rfl⟩
      go_wp2_with fail
      go_ret2
      rw [HP.out.1, HP.out.2]
      exact ⟨0, 0, rfl, fi_zero, fi_zero, HB2.out⟩
    · obtain ⟨b, c2, hv1, hcap, hO⟩ := ownV_of_fresh (w0 := w2) hf1 (Below.refl _ _) (by rw [← g1]; simpa using h0)
      have hbge := hO.2.2.1
      rw [← g1, List.length_map] at hv1 hcap
      have cD := Del_any k w.heap.size b c2 gs.length gs w2 rfl hgl hcap (by rw [g1]; exact hO.1) hO.2.1 hB2 (by omega)
      rw [hv1]
      have HGE : Hid (w.heap.size ≤ b) := Lib.hid (by omega)
      have HBG := Lib.hid (fun x hx => (HM.out (numG x) (by rw [← HG2.out]; exact List.mem_map_of_mem (f := numG) hx)).1 : ∀ x ∈ gs, (numG x).1 + (numG x).2 ≤ 480)
      have hbl : (bigs gs k).length ≤ 481 := Nat.le_trans (List.length_filter_le _ _) hgl
      generalize gs.length = m at cD ⊢
      clear hv1 hcap hO hf1 g1 hbge hgl hB2 hsize
      go_wp2_with fail
      refine cD.mono ?_
      rintro e w3 ⟨rfl, hc3, hB3, hb3⟩
      have HB3 : Hid (Below w.heap.size w w3) := Lib.hid (HB2.out.trans (hb3.mono HGE.out))
      clear hb3 cD
      have hsel := HSL.out
      clear HSL
      cases hbs : bigs gs k with
      | nil =>
        rw [hbs] at hsel
        have HP : Hid (pickOut 0 (sel l k) k = (0, 0) ∧ pickErr 0 (sel l k) = 6) := Lib.hid (by rw [show sel l k = none from hsel]; exact ⟨rfl, rfl⟩)
        clear hsel hc3 hB3 hbs hbl
        simp only [List.length_nil]
        go_wp2_with fail
        go_ret2
        rw [HP.out.1, HP.out.2]
        exact ⟨0, 0, rfl, fi_zero, fi_zero, HB3.out⟩
      | cons x r =>
        rw [hbs] at hsel hc3
        obtain ⟨z, hz⟩ : ∃ z, z = r.foldl (stepG cf) x := ⟨_, rfl⟩
        have hsel : sel l k = some (numG (r.foldl (stepG cf) x)) := hsel
        rw [← hz] at hsel
        have HP : Hid (pickOut 0 (sel l k) k = ((numG z).1, k) ∧ pickErr 0 (sel l k) = 0) := Lib.hid (by rw [hsel]; exact ⟨rfl, rfl⟩)
        have hzm : z ∈ bigs gs k := by rw [hbs, hz]; exact fold_mem cf r x
        have hzk : k ≤ (numG z).2 := by
          have := (List.mem_filter.1 hzm).2
          simp at this
          omega
        have hzb := HBG.out z (List.mem_filter.1 hzm).1
        have hlen3 : (x :: r).length ≤ 481 := by
          rw [← hbs]
          exact hbl
        obtain ⟨u, v, cC⟩ := Cut_any _ _ _ _ k (gp_fst z) (gp_snd z) hk1 hzk hzb
        have cM : ∀ q, Calls Try.prog 42 #[.slice (some ⟨b, 0, none⟩) (x :: r).length c2, .func (.func g) #[] #[]] (w3.drewN q) fun e w' => e = .returned (encG z) ∧ w' = w3.drewN q := fun q =>
          (Min_any g cf HC.out eg b 0 c2 _ x r (w3.drewN q) rfl hlen3 hc3).mono (by rintro e w' ⟨rfl, rfl⟩; exact ⟨by rw [hz], rfl⟩)
        have hl0 : (((x :: r).length : Int) == 0) = false := by simp; omega
        have hzf : FI (floatOfInt .f64 ((numG z).1 : Int)) ((numG z).1 : Int) := fi_ofInt _ (by omega)
        have hkf : FI (floatOfInt .f64 (k : Int)) (k : Int) := fi_ofInt _ (by omega)
        have HZF := Lib.hid hzf
        have HKF := Lib.hid hkf
        generalize (x :: r).length = m3 at *
        unfold encG at cM
        clear hsel hc3 hbs hbl hz hzm hzk hzb hlen3 hzf hkf
        go_wp2_with fail
        go_quiet (first | (go_at_call 42; refine Calls.quiet_of_same (cM _)) | (go_at_call 41; refine Calls.quiet_of_same (cC _)))
        go_wp2_with fail
        go_ret2
        rw [HP.out.1, HP.out.2]
        exact ⟨_, _, rfl, HZF.out, HKF.out, below_drewN HB3.out _⟩
  · have hE' := hE
    rw [if_neg hE] at c
    have HP : Hid (pickOut E (sel l n.toNat) n.toNat = (0, 0) ∧ pickErr E (sel l n.toNat) = E) := Lib.hid ⟨by unfold pickOut; rw [if_neg hE], by unfold pickErr; rw [if_neg hE]⟩
    rw [HP.out.1, HP.out.2]
    have hne : (E == 0) = false := by simp; exact hE
    clear hE hE' hok hp hq hlen
    go_enter Try.func21, Try.ntmps21
    go_wp2_with fail
    refine c.mono ?_
    rintro e w2 ⟨v1, xs, rfl, hf1, hs1, hb1⟩
    have HB2 : Hid (Below w.heap.size w w2) := Lib.hid (HB0.out.trans (hb1.mono (by rw [hsize]; omega)))
    clear hf1 hs1 hb1 c hcell hsize
    go_wp2_with fail
    go_ret2
    exact ⟨0, 0, rfl, fi_zero, fi_zero, HB2.out⟩

theorem cFirst_any (ao : Option Addr) (len cap : Nat) (zs : List Int) (n p q : Int) (w : World) (hA : Arg w ao len cap zs) (_hn : -9223372036854775808 ≤ n ∧ n ≤ 9223372036854775807) (hp : -9223372036854775808 ≤ p ∧ p ≤ 9223372036854775807) (hq : -9223372036854775808 ≤ q ∧ q ≤ 9223372036854775807) :
    Calls Try.prog 9 #[.slice ao len cap, .int .i64 n, .int .i64 p, .int .i64 q] w
      (HandedRun w.heap.size w (pickOut (gapErr len n p q) (firstGap (downOut zs p q) n.toNat) n.toNat) (pickErr (gapErr len n p q) (firstGap (downOut zs p q) n.toNat))) := by
  have c := one_any 22 byFirst first_cmp (enters_of Try.func22 (by kernel_rfl) rfl) firstGap first_picks ao len cap zs n p q w hA hp hq
  generalize pickOut (gapErr len n p q) (firstGap (downOut zs p q) n.toNat) n.toNat = X at *
  generalize pickErr (gapErr len n p q) (firstGap (downOut zs p q) n.toNat) = E at *
  clear hA hp hq
  go_enter Try.func9, Try.ntmps9
  go_wp2_with fail
  refine c.mono ?_
  rintro e w2 ⟨x, y, rfl, fx, fy, hb⟩
  have HX := Lib.hid (And.intro fx (And.intro fy hb))
  clear fx fy hb c
  go_wp2_with fail
  go_ret2
  exact ⟨_, _, rfl, HX.out.1, HX.out.2.1, HX.out.2.2⟩

theorem cTight_any (ao : Option Addr) (len cap : Nat) (zs : List Int) (n p q : Int) (w : World) (hA : Arg w ao len cap zs) (_hn : -9223372036854775808 ≤ n ∧ n ≤ 9223372036854775807) (hp : -9223372036854775808 ≤ p ∧ p ≤ 9223372036854775807) (hq : -9223372036854775808 ≤ q ∧ q ≤ 9223372036854775807) :
    Calls Try.prog 12 #[.slice ao len cap, .int .i64 n, .int .i64 p, .int .i64 q] w
      (HandedRun w.heap.size w (pickOut (gapErr len n p q) (tightGap (downOut zs p q) n.toNat) n.toNat) (pickErr (gapErr len n p q) (tightGap (downOut zs p q) n.toNat))) := by
  have c := one_any 27 byCount tight_cmp (enters_of Try.func27 (by kernel_rfl) rfl) tightGap tight_picks ao len cap zs n p q w hA hp hq
  generalize pickOut (gapErr len n p q) (tightGap (downOut zs p q) n.toNat) n.toNat = X at *
  generalize pickErr (gapErr len n p q) (tightGap (downOut zs p q) n.toNat) = E at *
  clear hA hp hq
  go_enter Try.func12, Try.ntmps12
  go_wp2_with fail
  refine c.mono ?_
  rintro e w2 ⟨x, y, rfl, fx, fy, hb⟩
  have HX := Lib.hid (And.intro fx (And.intro fy hb))
  clear fx fy hb c
  go_wp2_with fail
  go_ret2
  exact ⟨_, _, rfl, HX.out.1, HX.out.2.1, HX.out.2.2⟩

end Go.Proofs.Ytfhfjnfejcggcaa
