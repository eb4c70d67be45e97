/-
  Proved here: what the landed choose.take answers of gaps and a number: the first of them until there are so many blocks, and how many are lacking.
  The conditions stand at the theorem.
-/
import Derived.Test.YtfhfjnfejcggcaaPickOne
import Derived.Test.YtfhfjnfejcggcaaSel
namespace Go.Proofs.Ytfhfjnfejcggcaa
open Go.RowKit

theorem cut_zero : ∀ l : List (Nat × Nat), cutAt l 0 = []
  | [] => rfl
  | _ :: _ => rfl

theorem cut_more (p : Nat × Nat) (t : List (Nat × Nat)) {r : Nat} (h : 0 < r) : cutAt (p :: t) r = (p.1, min r p.2) :: cutAt t (r - min r p.2) := by
  show (if r = 0 then [] else if r ≤ p.2 then [(p.1, r)] else p :: cutAt t (r - p.2)) = _
  rw [if_neg (by omega)]
  by_cases h1 : r ≤ p.2
  · rw [if_pos h1, Nat.min_eq_left h1, Nat.sub_self, cut_zero]
  · rw [if_neg h1, Nat.min_eq_right (by omega)]

theorem count_cV (a n : Nat) (w : World) (hn : 1 ≤ n) (h : a + n ≤ 480) :
    Calls Try.prog 29 #[.complex .f64 (floatOfInt .f64 (a : Int)) (floatOfInt .f64 (n : Int))] w fun e w' => e = .returned (.int .i64 n) ∧ w = w' :=
  count_gp (mkG _ _ (a, n) (fi_ofInt _ (by omega)) (fi_ofInt _ (by omega)) h hn) w

set_option maxRecDepth 100000 in
set_option maxHeartbeats 1600000 in
theorem take_any (ao : Option Addr) (cap m k : Nat) (gs : List Gp) (w : World) (hV : Vals w ao m (gs.map encG)) (hm : m ≤ 481) (h1 : ∀ z ∈ gs, 1 ≤ (numG z).2) (hk : k ≤ 480) :
    Calls Try.prog 33 #[.slice ao m cap, .int .i64 k] w fun e w' => ∃ v, e = .returned (.tuple #[v, .int .i64 ((k - sumG (gs.map numG) : Nat) : Int)]) ∧ FreshV w' w.heap.size v ((cutAt (gs.map numG) k).map cV) ∧ Below w.heap.size w w' := by
  have hgl : gs.length = m := by have := hV.1; rwa [List.length_map] at this
  have HV := Lib.hid hV
  have HL := Lib.hid hgl
  have H1 := Lib.hid h1
  obtain ⟨l, HLL⟩ : ∃ l, Hid (l = gs.map numG) := ⟨_, Lib.hid rfl⟩
  have HG0 : Hid (([] : List (Nat × Nat)) ++ cutAt (l.drop 0) k = cutAt l k) := Lib.hid (by rw [List.nil_append, List.drop_zero])
  have HQ0 : Hid (k = k - sumG (l.take 0)) := Lib.hid (by rw [List.take_zero]; rfl)
  have HO0 := Lib.hid (World.ownsRow_nil w w.heap.size 23 1)
  have HB0 : Hid (Below w.heap.size w w) := Lib.hid (Below.refl _ _)
  have HEND : Hid (∀ (i r : Nat) (acc : List (Nat × Nat)), i ≤ m → (r = 0 ∨ i = m) → acc ++ cutAt (l.drop i) r = cutAt l k → r = k - sumG (l.take i) → acc = cutAt (gs.map numG) k ∧ r = k - sumG (gs.map numG)) := Lib.hid (fun i r acc hi he ha hr => by
    rw [← HLL.out]
    have hll : l.length = m := by rw [HLL.out, List.length_map]; exact hgl
    rcases he with he | he
    · rw [he, cut_zero, List.append_nil] at ha
      exact ⟨ha, by have := sumG_take_le l i; omega⟩
    · rw [he, List.drop_of_length_le (by omega)] at ha
      rw [he, List.take_of_length_le (by omega)] at hr
      exact ⟨by rw [← ha]; show acc = acc ++ []; rw [List.append_nil], hr⟩)
  clear hV h1 hgl
  go_enter Try.func33, Try.ntmps33
  go_wp2_with fail
  go_loopw [1, 4, 13] (fun nv vv iv wr => ∃ (i r : Nat) (acc : List (Nat × Nat)), i ≤ m ∧ r ≤ k ∧ acc.length ≤ i ∧ nv = .int .i64 r ∧ iv = .int .i64 i ∧ Hid (acc ++ cutAt (l.drop i) r = cutAt l k) ∧ Hid (r = k - sumG (l.take i)) ∧ Hid (wr.ownsRow w.heap.size 23 1 vv acc.length (acc.map cV)) ∧ Hid (Below w.heap.size w wr)) (fun _ _ iv _ => m - (intOf iv).toNat)
  case atStart => exact ⟨0, k, [], Nat.zero_le _, Nat.le_refl _, Nat.le_refl _, rfl, rfl, HG0, HQ0, HO0, HB0⟩
  case round =>
    clear HG0 HQ0 HO0 HB0
    obtain ⟨i, r, acc, hi, hr, hacc, rfl, rfl, HG, HQ, HR, HW⟩ := hrel
    by_cases hlt : i < m
    · have hVw := HV.out.later HW.out
      obtain ⟨b, off, rfl, hc⟩ := hVw.2.2.resolve_left (by omega)
      obtain ⟨z, hz⟩ : ∃ z, gs[i]? = some z := ⟨_, List.getElem?_eq_getElem (by rw [HL.out]; exact hlt)⟩
      have hcell := hc i (encG z) (by rw [List.getElem?_map, hz]; rfl)
      have hltz : (i : Int) < (m : Int) := by omega
      by_cases hr0 : r = 0
      · subst hr0
        have HF := Lib.hid (HEND.out i 0 acc hi (Or.inl rfl) HG.out HQ.out)
        unfold encG at hcell
        clear hVw hc hz HEND
        go_wp2_with fail
        go_ret2
        rw [HF.out.2.symm, HF.out.1.symm]
        exact ⟨_, rfl, owns_vals HR.out (by omega), HW.out⟩
      · have hzm := List.mem_of_getElem? hz
        have hz1 := H1.out z hzm
        have hz2 := gp_bound z
        have hlp : l[i]? = some (numG z) := by rw [HLL.out, List.getElem?_map, hz]; rfl
        have hdrop : l.drop i = numG z :: l.drop (i + 1) := by
          obtain ⟨h, e⟩ := List.getElem?_eq_some_iff.1 hlp
          rw [List.drop_eq_getElem_cons h, e]
        obtain ⟨c, hcm⟩ : ∃ c, c = min r (numG z).2 := ⟨_, rfl⟩
        have hc1 : 1 ≤ c ∧ c ≤ (numG z).2 ∧ c ≤ r := by omega
        obtain ⟨hc1, hc2, hc3⟩ := hc1
        have HG2 : Hid (acc ++ [((numG z).1, c)] ++ cutAt (l.drop (i + 1)) (r - c) = cutAt l k) := Lib.hid (by
          have h := HG.out
          rw [hdrop, cut_more _ _ (by omega), ← hcm] at h
          rw [List.append_assoc]
          exact h)
        have HQ2 : Hid (r - c = k - sumG (l.take (i + 1))) := Lib.hid (by
          rw [sumG_take hlp]
          have := HQ.out
          omega)
        have hmin : min (r : Int) ((numG z).2 : Int) = (c : Int) := by omega
        have HMIN := Lib.hid hmin
        have cz := count_gp z wr
        obtain ⟨u, v, hcut⟩ := Cut_any _ _ _ _ c (gp_fst z) (gp_snd z) hc1 hc2 hz2
        have cC := hcut wr
        have HCC := Lib.hid (fun w => count_cV (numG z).1 c w hc1 (by omega))
        have HS : Hid (w.heap.size ≤ wr.heap.size + 1) := Lib.hid (by have := HW.out.size; omega)
        have hrz : ((r : Int) == 0) = false := by simp; omega
        have HCV : Hid (cV ((numG z).1, c) = .complex .f64 (floatOfInt .f64 ((numG z).1 : Int)) (floatOfInt .f64 (c : Int))) := Lib.hid rfl
        have hbz : (c : Int) ≤ ((numG z).2 : Int) := by omega
        unfold encG at hcell cz
        generalize floatOfInt .f64 ((numG z).1 : Int) = X at *
        generalize floatOfInt .f64 (c : Int) = Y at *
        generalize ((numG z).2 : Int) = q at *
        clear hVw hc hz hzm hz1 hz2 hlp hdrop hcm hcut HEND HG HQ hr0
        go_wp2_with (go_at_call 29; refine cz.mono ?_; rintro e w' ⟨rfl, rfl⟩)
        refine cC.mono ?_
        rintro e w' ⟨rfl, rfl⟩
        clear cC cz hcell hmin
        go_wp2_with (first | (at_builtin; refine wp_append_one elemComplex rfl (.tmp 29) (.tmp 31) rfl w.heap.size acc.length _ _ rfl (HR.out.alloc _) ⟨w'.heap.size, 0, none⟩ 1 _ rfl (one_cell_new _ _ _) rfl rfl (by omega) (by simpa using HS.out) ?_; intro v1 w1 hown1 hb1; have HO1 := Lib.hid hown1; have HB1 := Lib.hid hb1; clear hown1 hb1))
        refine (HCC.out _).mono ?_
        rintro e w2 ⟨rfl, rfl⟩
        go_wp2_with fail
        go_roundw
        case rel =>
          refine ⟨i + 1, r - c, acc ++ [((numG z).1, c)], by omega, by omega, by rw [List.length_append]; simp; omega, by go_num, by go_num, HG2, HQ2, Lib.hid ?_, Lib.hid ((HW.out.alloc (by have := HW.out.size; exact this) _).trans HB1.out)⟩
          rw [List.length_append, List.map_append]
          have h := HO1.out
          rw [← HCV.out] at h
          exact h
        case measure => simp [intOf]; omega
    · have him : i = m := by omega
      subst him
      have HF := Lib.hid (HEND.out i r acc hi (Or.inr rfl) HG.out HQ.out)
      clear HEND
      go_wp2_with fail
      go_ret2
      rw [HF.out.2.symm, HF.out.1.symm]
      exact ⟨_, rfl, owns_vals HR.out (by omega), HW.out⟩

end Go.Proofs.Ytfhfjnfejcggcaa
