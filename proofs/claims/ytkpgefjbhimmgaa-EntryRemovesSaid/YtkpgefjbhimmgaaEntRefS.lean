/-
  Proved here: what the document's own answer says of blocks of entries: sound ones (Sound), whether a call may go on (check), where a name is (Find).
  The conditions stand at each theorem.
-/
import Derived.Test.YtkpgefjbhimmgaaEntRefA
import Derived.Test.YtkpgefjbhimmgaaEntPre
import Derived.Test.YtkpgefjbhimmgaaEntDec
namespace Go.Proofs.Ytkpgefjbhimmgaa
open Go.RowKit
set_option linter.unusedVariables false
set_option linter.unusedSimpArgs false

theorem elemString : Elem 67 9 (.string ByteArray.empty) 16 := ⟨Try.underlying67, by kernel_rfl, rfl, by decide⟩

/-- What stands behind i blocks, and k entries of the next one. -/
def SndAt (base : Nat) (w0 : World) (bs : List (List PEnt)) (i k : Nat) (v : Value) (w : World) : Prop :=
  soundE (pre bs i k) = true ∧ OwnS base w v (namesOf (pre bs i k)) ∧ (namesOf (pre bs i k)).length ≤ 3 * i + k ∧ Below base w0 w

theorem names_step {bs : List (List PEnt)} {i k : Nat} {es : List PEnt} {x : PEnt} (h : bs[i]? = some es) (hx : es[k]? = some x) : namesOf (pre bs i (k + 1)) = namesOf (pre bs i k) ++ [x.name] := by
  rw [pre_succ h hx, pre_at h]
  unfold namesOf
  simp

theorem names_next {bs : List (List PEnt)} {i : Nat} (hi : i < bs.length) : namesOf (pre bs (i + 1) 0) = namesOf (pre bs i (bs.getD i []).length) := by
  rw [pre_take hi, pre_begin]
  unfold namesOf
  simp

theorem has_find {bs : List (List PEnt)} {n : ByteArray} : hasN (namesOf bs) n = (findIn bs n).isSome := by
  cases h : findIn bs n with
  | none => exact hasN_false (findIn_none.1 h)
  | some p =>
    refine hasN_true (Classical.byContradiction fun hn => ?_)
    rw [findIn_none.2 hn] at h
    cases h

set_option maxHeartbeats 1600000 in
theorem rSound_any (ao : Option Addr) (len cap : Nat) (bs : List (List PEnt)) (w : World) (hA : BlkArg w ao len cap bs) (h96 : len ≤ 20000) : Calls Try.prog 28 #[.slice ao len cap] w fun e w' => e = .returned (.bool (soundE bs)) ∧ Below w.heap.size w w' := by
  have HA := Lib.hid hA
  have HL : Hid (bs.length = len) := Lib.hid hA.1.1
  obtain ⟨S, HS0⟩ : ∃ S, Hid (soundE bs = S) := ⟨_, Lib.hid rfl⟩
  rw [HS0.out]
  have H0 : Hid (SndAt w.heap.size w bs 0 0 (.slice (some ⟨w.heap.size, 0, none⟩) 0 0) (w.alloc (.cells #[] 9))) := Lib.hid ⟨sound_begin bs, World.ownsRow_made (base := w.heap.size) (e := 9) (size := 1) w #[] 0 (Nat.le_refl _) (by decide) rfl, by show 0 ≤ 0; omega, (Below.refl _ _).alloc (Nat.le_refl _) _⟩
  clear hA
  go_enter Try.func28, Try.ntmps28
  go_wp2
  go_loopw [3, 4] (fun v iv wr => ∃ i : Nat, iv = .int .i64 (i : Int) ∧ i ≤ len ∧ Hid (SndAt w.heap.size w bs i 0 v wr)) (fun _ iv _ => len - (intOf iv).toNat)
  case atStart => exact ⟨0, rfl, Nat.zero_le _, H0⟩
  case round =>
    obtain ⟨wo, hwo⟩ : ∃ wo : World, wo = wr := ⟨_, rfl⟩
    subst hwo
    obtain ⟨i, rfl, hi, HS⟩ := hrel
    by_cases hlt : i < len
    · obtain ⟨b, off, es, ad, l, c, hao, hes, hc, hE⟩ := blk_at HA.out hlt
      have HCW := Lib.hid hc
      have hc := cell_later HS.out.2.2.2 hc
      have HE := Lib.hid hE
      have HI := Lib.hid hes
      have hes2 := (getD_of hes).1
      have i1 : (i : Int) < (len : Int) := by omega
      have hl : es.length = l := hE.1.1
      have HLL := Lib.hid hl
      by_cases h3 : 3 < l
      · have HF : Hid (S = false) := Lib.hid (by rw [← HS0.out]; exact sound_long (i := i) (by rw [HL.out]; exact hlt) (by rw [hes2, hl]; exact h3))
        have i3 : (3 : Int) < (l : Int) := by omega
        subst hao
        clear hes hE hes2 hl
        go_wp2
        go_ret
        exact ⟨by rw [HF.out]; rfl, HS.out.2.2.2⟩
      · have i3 : ¬ (3 : Int) < (l : Int) := by omega
        subst hao
        have HC := Lib.hid hc
        clear hes hE hes2 hl
        have HB : Hid (Below w.heap.size w wo) := Lib.hid HS.out.2.2.2
        go_wp2
        go_loopw [3, 5] (fun v kv wr => ∃ k : Nat, kv = .int .i64 (k : Int) ∧ k ≤ l ∧ Hid (SndAt w.heap.size w bs i k v wr)) (fun _ kv _ => l - (intOf kv).toNat)
        case atStart => exact ⟨0, rfl, Nat.zero_le _, HS⟩
        case round =>
          obtain ⟨k, rfl, hk, HT⟩ := hrel
          have c1 : wr.cell? ⟨b, off + i, none⟩ = some (.slice ad l c) := cell_later HT.out.2.2.2 HCW.out
          by_cases hkl : k < l
          · obtain ⟨eb, eo, x, hao2, hx, d1, d2, d3, d4⟩ := ent_at HE.out hkl
            subst hao2
            have d1 := cell_later HT.out.2.2.2 d1
            have d3 := cell_later HT.out.2.2.2 d3
            have HG := Lib.hid (sound_step (k := k) HI.out hx (by rw [HLL.out]; omega) HT.out.1)
            have HNS := Lib.hid (names_step (k := k) HI.out hx)
            obtain ⟨nd, nm⟩ := x
            dsimp only at d1 d2 d3 d4
            have k1 : (k : Int) < (l : Int) := by omega
            have cR := fun W => rRight_any nd nm W d4
            have HBad : Hid (PEnt.right ⟨nd, nm⟩ = false ∨ hasN (namesOf (pre bs i k)) nm = true → S = false) := Lib.hid (fun hbad => by
              rw [← HS0.out]
              refine sound_pre_false (i := i) (k := k + 1) (by rw [HL.out]; exact hlt) ?_
              rw [← Bool.not_eq_true]
              intro hs
              obtain ⟨g1, g2⟩ := HG.out.1 hs
              dsimp only at g2
              rw [has_find, g1, g2] at hbad
              simp at hbad)
            have HGood : Hid (PEnt.right ⟨nd, nm⟩ = true → hasN (namesOf (pre bs i k)) nm = false → soundE (pre bs i (k + 1)) = true) := Lib.hid (fun g1 g2 => by
              rw [has_find] at g2
              exact HG.out.2 ⟨g1, by simpa using g2⟩)
            have HOW := Lib.hid HT.out.2.1
            have HNL := Lib.hid HT.out.2.2.1
            have HND := Lib.hid d2
            have HBB := Lib.hid HT.out.2.2.2
            clear d2 hx
            by_cases hR : PEnt.right ⟨nd, nm⟩ = true
            · rw [hR] at cR
              have HRR := Lib.hid hR
              have HHas : Hid (∀ W, Below wr.heap.size wr W → Calls Try.prog 43 #[u3, .string nm] W fun e w' => e = .returned (.bool (hasN (namesOf (pre bs i k)) nm)) ∧ W = w') := Lib.hid (fun W hW => rHas_any u3 _ nm w.heap.size W (owns_later HOW.out hW) (by have := HNL.out; omega))
              by_cases hN : hasN (namesOf (pre bs i k)) nm = true
              · have HF := Lib.hid (HBad.out (Or.inr hN))
                rw [hN] at HHas
                clear hR hN
                go_wp2_with (first | (go_at_call 42; refine (cR _).mono ?_; rintro e w4 ⟨rfl, hb4⟩; have e1 := cell_later hb4 c1; have e3 := cell_later hb4 d3; have B4 := Lib.hid hb4; clear hb4) | (go_at_call 43; refine (HHas.out _ B4.out).mono ?_; rintro e w' ⟨rfl, rfl⟩))
                go_ret
                exact ⟨by rw [HF.out]; rfl, HBB.out.trans (B4.out.mono HBB.out.size)⟩
              · have hN : hasN (namesOf (pre bs i k)) nm = false := by simpa using hN
                have HGD := Lib.hid (HGood.out hR hN)
                rw [hN] at HHas
                clear hR hN
                go_wp2_with (first | (go_at_call 42; refine (cR _).mono ?_; rintro e w4 ⟨rfl, hb4⟩; have e1 := cell_later hb4 c1; have e3 := cell_later hb4 d3; have B4 := Lib.hid hb4; clear hb4) | (go_at_call 43; refine (HHas.out _ B4.out).mono ?_; rintro e w' ⟨rfl, rfl⟩) | (refine wp_append_one elemString rfl (.tmp 49) (.tmp 58) rfl w.heap.size _ _ _ rfl ((owns_later HOW.out B4.out).alloc _) ⟨w4.heap.size, 0, none⟩ 1 (.string nm) rfl (one_cell_new _ _ _) rfl rfl (by have := HNL.out; omega) (by have h1 := HBB.out.size; have h2 := B4.out.size; simp; omega) ?_; intro v5 w5 h5 b5; have H5 := Lib.hid h5; have B5 := Lib.hid b5; clear h5 b5))
                go_roundw
                case rel => exact ⟨k + 1, by go_num, by omega, Lib.hid ⟨HGD.out, by rw [HNS.out]; unfold OwnS; rw [List.length_append, List.map_append]; exact H5.out, by rw [HNS.out, List.length_append]; have := HNL.out; simp; omega, (HBB.out.trans ((B4.out.alloc B4.out.size _).mono HBB.out.size)).trans B5.out⟩⟩
                case measure => simp [intOf]; omega
            · have hR : PEnt.right ⟨nd, nm⟩ = false := by simpa using hR
              have HF := Lib.hid (HBad.out (Or.inl hR))
              rw [hR] at cR
              clear hR
              go_wp2_with (go_at_call 42; refine (cR _).mono ?_; rintro e w4 ⟨rfl, hb4⟩; have e1 := cell_later hb4 c1; have e3 := cell_later hb4 d3; have B4 := Lib.hid hb4; clear hb4)
              go_ret
              exact ⟨by rw [HF.out]; rfl, HBB.out.trans (B4.out.mono HBB.out.size)⟩
          · obtain rfl : k = l := by omega
            have hes2 := getD_of HI.out
            have HNX : Hid (SndAt w.heap.size w bs (i + 1) 0 u3 wr) := Lib.hid (by
              obtain ⟨t1, t2, t3, t4⟩ := HT.out
              obtain ⟨n1, n2⟩ := pre_next (bs := bs) (i := i) (by rw [HL.out]; exact hlt)
              have n3 := names_next (bs := bs) (i := i) (by rw [HL.out]; exact hlt)
              rw [hes2.1, HLL.out] at n2 n3
              exact ⟨by rw [n2]; exact t1, by rw [n3]; exact t2, by rw [n3]; omega, t4⟩)
            clear hes2
            go_wp2
            go_roundw
            case rel => exact ⟨i + 1, by go_num, by omega, HNX⟩
            case measure => simp [intOf]; omega
    · obtain rfl : i = len := by omega
      have HF : Hid (S = true) := Lib.hid (by
        obtain ⟨t1, t2, t3, t4⟩ := HS.out
        rw [← HS0.out, ← (pre_end HL.out).2]
        exact t1)
      go_wp2
      go_ret
      exact ⟨by rw [HF.out]; rfl, HS.out.2.2.2⟩

end Go.Proofs.Ytkpgefjbhimmgaa
