/-
  Proved here: what the document's own answer says: whether a call may go on (check), and where a name is (Find).
  The conditions stand at each theorem.
-/
import Derived.Test.YtkpgefjbhimmgaaEntRefS
namespace Go.Proofs.Ytkpgefjbhimmgaa
open Go.RowKit
set_option linter.unusedVariables false
set_option linter.unusedSimpArgs false

set_option maxHeartbeats 1600000 in
theorem rCheck_any (ao : Option Addr) (len cap : Nat) (bs : List (List PEnt)) (nd : Int) (nm : ByteArray) (w : World) (hA : BlkArg w ao len cap bs) (hs : nm.size ≤ 140737488351232) :
    Calls Try.prog 33 #[.slice ao len cap, .agg #[.int .i64 nd, .string nm]] w fun e w' => e = .returned (.int .i64 (checkE bs ⟨nd, nm⟩)) ∧ Below w.heap.size w w' := by
  have HK : Hid (checkE bs ⟨nd, nm⟩ = if PEnt.right ⟨nd, nm⟩ = false then 1 else if 96 < bs.length ∨ soundE bs = false then 2 else 0) := Lib.hid rfl
  obtain ⟨K, HKK⟩ : ∃ K, Hid (checkE bs ⟨nd, nm⟩ = K) := ⟨_, Lib.hid rfl⟩
  rw [HKK.out] at HK
  rw [HKK.out]
  have cR := fun W => rRight_any nd nm W hs
  have hl : bs.length = len := hA.1.1
  rw [hl] at HK
  have HB1 : Hid (Below w.heap.size w (w.alloc (.cells #[.int .i64 nd, .string nm] 40))) := Lib.hid ((Below.refl _ _).alloc (Nat.le_refl _) _)
  by_cases h1 : PEnt.right ⟨nd, nm⟩ = true
  · rw [h1] at cR
    by_cases h2 : 96 < len
    · have HE : Hid (K = 2) := Lib.hid (by rw [HK.out, h1, if_neg (by decide), if_pos (Or.inl h2)])
      have i2 : (96 : Int) < (len : Int) := by omega
      clear hA h1 hl
      go_enter Try.func33, Try.ntmps33
      go_wp2_with (go_at_call 42; refine (cR _).mono ?_; rintro e w4 ⟨rfl, hb4⟩; have B4 := Lib.hid hb4; clear hb4)
      go_ret
      exact ⟨by rw [HE.out]; rfl, HB1.out.trans (B4.out.mono HB1.out.size)⟩
    · have CS : Hid (∀ W, Below w.heap.size w W → Calls Try.prog 28 #[.slice ao len cap] W fun e w' => e = .returned (.bool (soundE bs)) ∧ Below W.heap.size W w') := Lib.hid (fun W hW => rSound_any ao len cap bs W (hA.later hW) (by omega))
      have i2 : ¬ (96 : Int) < (len : Int) := by omega
      by_cases h3 : soundE bs = true
      · have HE : Hid (K = 0) := Lib.hid (by rw [HK.out, h1, if_neg (by decide), if_neg (by rw [h3]; simp; omega)])
        rw [h3] at CS
        clear hA h1 hl h3
        go_enter Try.func33, Try.ntmps33
        go_wp2_with (first | (go_at_call 42; refine (cR _).mono ?_; rintro e w4 ⟨rfl, hb4⟩; have B4 := Lib.hid (HB1.out.trans (hb4.mono HB1.out.size)); clear hb4) | (go_at_call 28; refine (CS.out _ B4.out).mono ?_; rintro e w5 ⟨rfl, hb5⟩; have B5 := Lib.hid (B4.out.trans (hb5.mono B4.out.size)); clear hb5))
        go_ret
        exact ⟨by rw [HE.out]; rfl, B5.out⟩
      · have h3 : soundE bs = false := by simpa using h3
        have HE : Hid (K = 2) := Lib.hid (by rw [HK.out, h1, if_neg (by decide), if_pos (Or.inr h3)])
        rw [h3] at CS
        clear hA h1 hl h3
        go_enter Try.func33, Try.ntmps33
        go_wp2_with (first | (go_at_call 42; refine (cR _).mono ?_; rintro e w4 ⟨rfl, hb4⟩; have B4 := Lib.hid (HB1.out.trans (hb4.mono HB1.out.size)); clear hb4) | (go_at_call 28; refine (CS.out _ B4.out).mono ?_; rintro e w5 ⟨rfl, hb5⟩; have B5 := Lib.hid (B4.out.trans (hb5.mono B4.out.size)); clear hb5))
        go_ret
        exact ⟨by rw [HE.out]; rfl, B5.out⟩
  · have h1 : PEnt.right ⟨nd, nm⟩ = false := by simpa using h1
    have HE : Hid (K = 1) := Lib.hid (by rw [HK.out, if_pos h1])
    rw [h1] at cR
    clear hA h1 hl
    go_enter Try.func33, Try.ntmps33
    go_wp2_with (go_at_call 42; refine (cR _).mono ?_; rintro e w4 ⟨rfl, hb4⟩; have B4 := Lib.hid hb4; clear hb4)
    go_ret
    exact ⟨by rw [HE.out]; rfl, HB1.out.trans (B4.out.mono HB1.out.size)⟩

/-- So far the name is not there. -/
def NotYet (bs : List (List PEnt)) (n : ByteArray) (i k : Nat) : Prop := findIn (pre bs i k) n = none

theorem notyet_hit {bs : List (List PEnt)} {n : ByteArray} {i k : Nat} {es : List PEnt} {x : PEnt} (h : bs[i]? = some es) (hx : es[k]? = some x) (hn : NotYet bs n i k) (e : x.name = n) : findIn bs n = some (i, k) := by
  have hil := (getD_of h).2
  have hkl := (List.getElem?_eq_some_iff.1 hx).1
  unfold NotYet at hn
  rw [pre_at h, findIn_append] at hn
  have hb : bs = bs.take i ++ es :: bs.drop (i + 1) := by
    have h2 := (List.getElem?_eq_some_iff.1 h).2
    rw [← h2]
    simp
  rw [hb, findIn_append]
  cases h1 : findIn (bs.take i) n with
  | some p => rw [h1] at hn; cases hn
  | none =>
    rw [h1] at hn
    simp only [Option.map_eq_none_iff] at hn
    have ht : es = es.take k ++ x :: es.drop (k + 1) := by
      have h2 := (List.getElem?_eq_some_iff.1 hx).2
      rw [← h2]
      simp
    simp only
    rw [findIn_cons]
    have hf : es.findIdx? (fun y => decide (y.name = n)) = some k := by
      rw [ht, List.findIdx?_append]
      rw [findIn_cons] at hn
      cases h3 : (es.take k).findIdx? (fun y => decide (y.name = n)) with
      | some j => rw [h3] at hn; cases hn
      | none =>
        rw [List.findIdx?_cons, if_pos (decide_eq_true e)]
        simp [List.length_take, Nat.min_eq_left (Nat.le_of_lt hkl)]
    rw [hf]
    simp [List.length_take, Nat.min_eq_left (Nat.le_of_lt hil)]

theorem notyet_step {bs : List (List PEnt)} {n : ByteArray} {i k : Nat} {es : List PEnt} {x : PEnt} (h : bs[i]? = some es) (hx : es[k]? = some x) (hn : NotYet bs n i k) (e : ¬ x.name = n) : NotYet bs n i (k + 1) := by
  unfold NotYet at *
  rw [findIn_none, names_step h hx]
  rw [findIn_none] at hn
  intro hm
  rcases List.mem_append.1 hm with hm | hm
  · exact hn hm
  · simp at hm; exact e hm.symm

set_option maxHeartbeats 1600000 in
theorem rFind_any (ao : Option Addr) (len cap : Nat) (bs : List (List PEnt)) (n : ByteArray) (w : World) (hA : BlkArg w ao len cap bs) (hs : n.size ≤ 140737488351232) : Calls Try.prog 21 #[.slice ao len cap, .string n] w (FindDone w bs n) := by
  have HA := Lib.hid hA
  have HL : Hid (bs.length = len) := Lib.hid hA.1.1
  have hlen : len ≤ 140737488351232 := hA.1.2.1
  have cC := rCheck_any ao len cap bs 0 n w hA hs
  have HFR : Hid (findRes bs n = if checkE bs ⟨0, n⟩ ≠ 0 then (0, 0, checkE bs ⟨0, n⟩) else match findIn bs n with
    | some p => ((p.1 : Int), (p.2 : Int), (0 : Int))
    | none => ((0 : Int), (0 : Int), (4 : Int))) := Lib.hid rfl
  obtain ⟨K, HKK⟩ : ∃ K, Hid (checkE bs ⟨0, n⟩ = K) := ⟨_, Lib.hid rfl⟩
  rw [HKK.out] at cC HFR
  clear hA
  by_cases hK : K = 0
  · subst hK
    go_enter Try.func21, Try.ntmps21
    go_wp2_with (go_at_call 33; refine cC.mono ?_; rintro e w2 ⟨rfl, hb2⟩; have B2 := Lib.hid hb2; clear hb2)
    go_loop [8] (fun iv => ∃ i : Nat, iv = .int .i64 (i : Int) ∧ i ≤ len ∧ Hid (NotYet bs n i 0)) (fun iv => len - (intOf iv).toNat)
    case atStart => exact ⟨0, rfl, Nat.zero_le _, Lib.hid (pre_zero bs n)⟩
    case round =>
      obtain ⟨i, rfl, hi, HS⟩ := hrel
      by_cases hlt : i < len
      · obtain ⟨b, off, es, ad, l, c, hao, hes, hc, hE⟩ := blk_at (HA.out.later B2.out) hlt
        have HE := Lib.hid hE
        have HI := Lib.hid hes
        have i1 : (i : Int) < (len : Int) := by omega
        have hlm : l ≤ 140737488351232 := hE.1.2.1
        have HLL : Hid (es.length = l) := Lib.hid hE.1.1
        subst hao
        clear hes hE
        go_wp2
        go_loop [9] (fun kv => ∃ k : Nat, kv = .int .i64 (k : Int) ∧ k ≤ l ∧ Hid (NotYet bs n i k)) (fun kv => l - (intOf kv).toNat)
        case atStart => exact ⟨0, rfl, Nat.zero_le _, HS⟩
        case round =>
          obtain ⟨k, rfl, hk, HT⟩ := hrel
          by_cases hkl : k < l
          · obtain ⟨eb, eo, x, hao2, hx, d1, d2, d3, d4⟩ := ent_at HE.out hkl
            subst hao2
            have HX := Lib.hid hx
            have k1 : (k : Int) < (l : Int) := by omega
            obtain ⟨nd, nm⟩ := x
            dsimp only at d1 d3
            have he := str_is nm n
            clear hx d2 d4
            by_cases e : nm = n
            · have HF : Hid (findRes bs n = ((i : Int), (k : Int), 0)) := Lib.hid (by
                rw [HFR.out, if_neg (by decide), notyet_hit HI.out HX.out HT.out e])
              have b1 : (nm.toList == n.toList) = true := by rw [he, decide_eq_true e]
              clear he e
              go_wp2
              go_ret3
              unfold FindDone
              rw [HF.out]
              exact ⟨rfl, B2.out⟩
            · have b1 : (nm.toList == n.toList) = false := by rw [he, decide_eq_false e]
              have HN := Lib.hid (notyet_step HI.out HX.out HT.out e)
              clear he e
              go_wp2
              go_round
              case rel => exact ⟨k + 1, by go_num, by omega, HN⟩
              case measure => simp [intOf]; omega
          · obtain rfl : k = l := by omega
            have HNX : Hid (NotYet bs n (i + 1) 0) := Lib.hid (by
              obtain ⟨n1, n2⟩ := pre_next (bs := bs) (i := i) (by rw [HL.out]; exact hlt)
              have hes2 := getD_of HI.out
              unfold NotYet
              rw [n1, hes2.1, HLL.out]
              exact HT.out)
            go_wp2
            go_round
            case rel => exact ⟨i + 1, by go_num, by omega, HNX⟩
            case measure => simp [intOf]; omega
      · obtain rfl : i = len := by omega
        have HF : Hid (findRes bs n = (0, 0, 4)) := Lib.hid (by
          have h1 : findIn bs n = none := by
            rw [← (pre_end HL.out).1]
            exact HS.out
          rw [HFR.out, if_neg (by decide), h1])
        go_wp2
        go_ret3
        unfold FindDone
        rw [HF.out]
        exact ⟨rfl, B2.out⟩
  · have HF : Hid (findRes bs n = (0, 0, K)) := Lib.hid (by rw [HFR.out, if_pos hK])
    have hK2 : (K == 0) = false := by simpa using hK
    have hK3 : (K != 0) = true := by simpa using hK
    clear hK
    go_enter Try.func21, Try.ntmps21
    go_wp2_with (go_at_call 33; refine cC.mono ?_; rintro e w2 ⟨rfl, hb2⟩; have B2 := Lib.hid hb2; clear hb2)
    go_ret3
    unfold FindDone
    rw [HF.out]
    exact ⟨rfl, B2.out⟩

end Go.Proofs.Ytkpgefjbhimmgaa
