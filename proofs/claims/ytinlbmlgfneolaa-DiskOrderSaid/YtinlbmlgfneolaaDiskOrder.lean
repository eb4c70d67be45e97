/-
  Proved here: each block's writes lie in their order, and a restart keeps the one that it is told to. No conditions.
-/
import Derived.Test.YtinlbmlgfneolaaAwake07
import Derived.Test.YtinlbmlgfneolaaStk
import Derived.BigRegion
import Derived.Deep.Cut
import Derived.Deep.QuietTactic
import Derived.BigQuiet
namespace Go.Proofs.Ytinlbmlgfneolaa.diskOrder
open Go.ChangeShapes Go.WideShapes Go.ChangeAt Go.RowKit
open Go.ChangeMaps (open_string shut_string)
set_option linter.unusedVariables false

set_option maxRecDepth 100000 in
set_option maxHeartbeats 25600000 in
theorem walk (a0 : Option Addr) (len0 cap0 : Nat) (z0 : List (List Int)) (a1 : Option Addr) (len1 cap1 : Nat) (z1 : List Int) (a2 : Option Addr) (len2 cap2 : Nat) (z2 : List Int) (w : World) (w0 : RowsIn w a0 len0 cap0 z0) (w1 : IsRow .u8 w a1 len1 cap1 z1) (rch1 : cap1 ≤ 140737488351232) (w2 : IsRow .i64 w a2 len2 cap2 z2) :
    Calls Try.prog 4 #[.slice a0 len0 cap0, .slice a1 len1 cap1, .slice a2 len2 cap2] w fun e w' => e = .returned (.bool true) ∧ Below w.heap.size w w' := by
  have hA := w1.arg rch1
  obtain ⟨at_, HZ⟩ : ∃ zs, Hid (zs = z1.take len1) := ⟨_, Lib.hid rfl⟩
  rw [← HZ.out] at hA
  have HT := Lib.hid w0
  have HA := Lib.hid hA
  have HK : Hid (∃ ks, NumsAre w (fun k => k < w.heap.size) a2 len2 ks) := Lib.hid (nums_of_row w2)
  clear hA w0 w1 w2 HZ
  have c := diskOk.new_ok 6 w (by decide) (by decide)
  rw [show ((6 : Nat) : Int) = 6 from rfl] at c
  go_enter Try.func4, Try.ntmps4
  go_wp2_with fail
  refine c.mono ?_
  rintro e wd ⟨a, F, rfl, hD, hF, hbd⟩
  have HBD := Lib.hid hbd
  have HDD := Lib.hid hD
  have HF := Lib.hid hF
  clear c hD hF hbd
  go_wp2_with fail
  refine (awake07_any _).mono ?_
  rintro e we ⟨rfl, hbe⟩
  have HDE := Lib.hid (diskOk.later HDD.out hbe)
  have HBE := Lib.hid (HBD.out.trans (hbe.mono HBD.out.size))
  have HFE : Hid (∀ k, F k → w.heap.size ≤ k ∧ k < we.heap.size) := Lib.hid (fun k hk => ⟨HF.out k hk, diskOk.lt HDE.out k hk⟩)
  clear hbe HDD HBD HF
  have hmk := run_make_stk we
  have HS0 : Hid (Stk w.heap.size w F we.heap.size 0 (fun _ => 0) (fun _ => 0) (fun _ => []) (we.alloc (.cells (madeCells #[.slice none 0 0] 6) 43))) := Lib.hid (stk_made HBE.out HBE.out.size HFE.out _ _ _)
  have HD0 : Hid (DI (we.alloc (.cells (madeCells #[.slice none 0 0] 6) 43)) a F (freshD 6)) := Lib.hid (diskOk.later HDE.out ((Below.refl _ _).alloc (Nat.le_refl _) _))
  obtain ⟨gl, hgl⟩ : ∃ gl, gl = we.heap.size := ⟨_, rfl⟩
  rw [← hgl] at HS0 hmk
  clear hgl
  generalize hwf : we.alloc (.cells (madeCells #[.slice none 0 0] 6) 43) = wf at *
  clear hwf
  go_wp2_with fail
  clear hmk
  go_loopw [10] (fun nv wr => ∃ (n : Nat) (bs cp : Nat → Nat) (H : Nat → List (List Int)), nv = .int .i64 (n : Int) ∧ n ≤ 6 ∧ Hid (∀ i, i < n → H i = [zeros64]) ∧ Hid (Stk w.heap.size w F gl n bs cp H wr) ∧ Hid (DI wr a F (freshD 6))) (fun nv _ => 6 - (intOf nv).toNat)
  case atStart => exact ⟨0, _, _, _, rfl, by decide, Lib.hid (fun i h => by omega), HS0, HD0⟩
  case round =>
    clear HS0 HD0
    obtain ⟨n, bs, cp, H, rfl, hn, HH, HS, HD⟩ := hrel
    by_cases hlt : n < 6
    · have z1 : (n : Int) < 6 := by omega
      have HSA := Lib.hid (HS.out.alloc zeroObj)
      have HDA := Lib.hid (diskOk.later HD.out ((Below.refl _ _).alloc (Nat.le_refl _) zeroObj))
      have hmk := run_make_bytes wr 64 (by decide)
      rw [show ((64 : Nat) : Int) = 64 from rfl] at hmk
      have hcv : (convert 36 9 (.slice (some ⟨wr.heap.size, 0, none⟩) 64 64)).run Try.prog (wr.alloc zeroObj) = .ok (.string (str zeros64)) (wr.alloc zeroObj) := str_bytes (made_arg wr 64 (by decide)).1
      generalize hw2 : wr.alloc zeroObj = wa at *
      have hw3 : wr.alloc (.cells (madeCells #[.int .u8 0] 64) 5) = wa := hw2
      rw [hw3] at hmk
      clear hw2 hw3
      have HSB := Lib.hid (HSA.out.alloc (.cells #[.string (str zeros64)] 9))
      have hcell := HSB.out.outer.1 n _ (by rw [rowsOf_get, if_pos hlt])
      have hfr := HSB.out.outer.2.1 n
      have HS2 := Lib.hid (HSA.out.first hlt zeros64 (fun k hk => diskOk.lt HDA.out k hk))
      have HD2 : Hid (DI ((wa.alloc (.cells #[.string (str zeros64)] 9)).setCell ⟨gl, n, none⟩ (.slice (some ⟨wa.heap.size, 0, none⟩) 1 1)) a F (freshD 6)) := Lib.hid (diskOk.store (diskOk.later HDA.out ((Below.refl _ _).alloc (Nat.le_refl _) _)) (fun hf => (HSA.out.away.1 gl hf).2 rfl) _)
      obtain ⟨gn, hgn⟩ : ∃ gn, gn = wa.heap.size := ⟨_, rfl⟩
      go_wp2_with fail
      go_roundw
      case rel =>
        refine ⟨n + 1, _, _, _, by go_num, by omega, Lib.hid (fun i hi => ?_), HS2, HD2⟩
        by_cases e : i = n
        · simp only [if_pos e]
        · simp only [if_neg e]; exact HH.out i (by omega)
      case measure => simp [intOf]; omega
    · have hn6 : n = 6 := by omega
      subst hn6
      have HL0 : Hid (∀ i, i < 6 → (H i).length ≤ 1) := Lib.hid (fun i hi => by rw [HH.out i hi]; decide)
      have HX0 : Hid (Six (freshD 6) H) := Lib.hid ⟨rfl, rfl, rfl, fun i hi => by rw [HH.out i hi]; rfl⟩
      clear HH
      go_wp2_with fail
      have HP0 : Hid (Playing DI w a gl 0 wr) := Lib.hid ⟨F, freshD 6, bs, cp, H, HD.out, HX0.out, HS.out, HL0.out⟩
      go_loopw [11] (fun iv wq => ∃ i : Nat, iv = .int .i64 (i : Int) ∧ i ≤ 50 ∧ Hid (Playing DI w a gl i wq)) (fun iv _ => 50 - (intOf iv).toNat)
      case atStart => exact ⟨0, rfl, by decide, HP0⟩
      case round =>
        clear HX0 HL0 HS HD HFE HDE
        clear bs cp H
        clear HP0
        obtain ⟨i, rfl, hi, HP⟩ := hrel
        obtain ⟨F, s, bs, cp, H, hD, hX, hS, hL⟩ := HP.out
        have HD := Lib.hid hD
        have HX := Lib.hid hX
        have HS := Lib.hid hS
        have HL := Lib.hid hL
        clear hD hX hS hL HP
        have HW : Hid (Below w.heap.size w wr) := Lib.hid HS.out.outer.2.2.2
        by_cases hlt : i < len0 ∧ i < len1 ∧ i < 50
        · obtain ⟨hlt0, hlt1, hlt50⟩ := hlt
          have z1 : (i : Int) < (len0 : Int) := by omega
          have z2 : (i : Int) < (len1 : Int) := by omega
          have z3 : (i : Int) < 50 := by omega
          have hT := HT.out.later HW.out
          obtain ⟨b0, o0, rfl, hrows⟩ := hT.2.2.resolve_left (by omega)
          obtain ⟨ad, l, cc, hrc, hrb⟩ := hrows i hlt0
          obtain ⟨tx, htx⟩ : ∃ tx, tx = z0.getD i [] := ⟨_, rfl⟩
          rw [← htx] at hrb
          have hmk := run_make_bytes wr 64 (by decide)
          rw [show ((64 : Nat) : Int) = 64 from rfl] at hmk
          have hcell : (wr.alloc zeroObj).cell? ⟨b0, o0 + i, none⟩ = some (.slice ad l cc) := cell_later ((Below.refl _ _).alloc (Nat.le_refl _) _) hrc
          have HRB := Lib.hid (hrb.later ((Below.refl _ _).alloc (Nat.le_refl _) zeroObj))
          have HO : Hid (Own wr.heap.size wr wr.heap.size zeros64 (wr.alloc zeroObj)) := Lib.hid (made_own wr 64)
          have HTY : Hid (∃ cs fr, (wr.alloc zeroObj).heap[wr.heap.size]? = some (Obj.cells cs 5 fr)) := Lib.hid ⟨_, _, heap_alloc_new wr zeroObj⟩
          have hmk' : (Instr.makeSlice 36 (.int .i64 64) (.int .i64 64)).run Try.prog wr = .ok (.slice (some ⟨wr.heap.size, 0, none⟩) 64 64) (wr.alloc zeroObj) := hmk
          obtain ⟨g, hg⟩ : ∃ g, g = wr.heap.size := ⟨_, rfl⟩
          generalize hwa : wr.alloc zeroObj = wa at *
          rw [← hg] at hmk'
          have HG := Lib.hid hg
          clear hT hrows hrc hrb htx hmk hwa hg
          have HCP : Hid (∃ v' w', (Builtin.copy_ #[36, 36] 3 #[.slice (some ⟨g, 0, none⟩) 64 64, .slice ad l cc]).run Try.prog wa = .ok v' w' ∧ (fun (_ : Value) (w' : World) => Own g wr g (pad64 tx) w' ∧ ∃ cs fr, w'.heap[g]? = some (Obj.cells cs 5 fr)) v' w') := Lib.hid (by
            have h := own_copy_min HO.out HTY.out ad l cc tx HRB.out 3
            rw [← HG.out] at h
            exact h)
          go_upto_region 14 with (first | (refine wp_copy rfl (.tmp 60) (.tmp 64) 36 36 rfl _ _ rfl rfl _ HCP.out ?_; intro v1 w1 hR; have HR := Lib.hid hR; clear hR))
          have HB1 : Hid (Below wr.heap.size wr w1) := Lib.hid (by have h := HR.out.1.2.2.2.2; rwa [HG.out] at h)
          have HBB1 : Hid (ByteBlock w1 g (pad64 tx)) := Lib.hid (byte_block HR.out.1 (pad_length tx) HR.out.2)
          have HS1 : Hid (Stk w.heap.size w F gl 6 bs cp H w1) := Lib.hid (HS.out.later HB1.out)
          have HD1 : Hid (DI w1 a F s) := Lib.hid (diskOk.later HD.out HB1.out)
          have HFG : Hid (∀ k, F k → k < g) := Lib.hid (fun k hk => by rw [HG.out]; exact diskOk.lt HD.out k hk)
          have HGB : Hid (w.heap.size ≤ g) := Lib.hid (by rw [HG.out]; exact HW.out.size)
          have hA1 := HA.out.later (HW.out.trans (HB1.out.mono HW.out.size))
          obtain ⟨b1, o1, rfl, hc1⟩ := hA1.1.2.2.2.resolve_left (by omega)
          have hx := hA1.1.2.2.1 _ (getD_mem (l := at_) (k := i) (by rw [hA1.1.1]; exact hlt1))
          have hcx := hc1 i hlt1
          obtain ⟨x, hxe⟩ : ∃ x, at_.getD i 0 = x := ⟨_, rfl⟩
          rw [hxe] at hx hcx
          obtain ⟨hx0, hx1⟩ := hx
          obtain ⟨r, hr⟩ : ∃ r : Nat, x % 6 = (r : Int) := ⟨(x % 6).toNat, by omega⟩
          have d1 : Int.tmod x 6 = (r : Int) := by rw [Int.tmod_eq_emod_of_nonneg hx0]; exact hr
          have hr6 : r < 6 := by omega
          clear hA1 hc1 hcell hmk' hr hxe
          obtain ⟨W2, hW2⟩ : ∃ W2, W2 = w1.alloc (.cells #[.int .i64 (r : Int), .slice (some ⟨g, 0, none⟩) 64 64] 54) := ⟨_, rfl⟩
          have hB2 : Below w1.heap.size w1 (w1.alloc (.cells #[.int .i64 (r : Int), .slice (some ⟨g, 0, none⟩) 64 64] 54)) := (Below.refl _ _).alloc (Nat.le_refl _) _
          have hL2 : ListIs (w1.alloc (.cells #[.int .i64 (r : Int), .slice (some ⟨g, 0, none⟩) 64 64] 54)) (fun k => g ≤ k) (some ⟨w1.heap.size, 0, none⟩) 1 [((r : Int), pad64 tx)] := list_one HBB1.out.2 (by omega) (fun b' o s e => by cases e; exact Nat.le_refl _) (by have := HBB1.out.lt; exact Nat.le_of_lt this)
          have c4 := diskOk.put (fun k => g ≤ k) (some ⟨w1.heap.size, 0, none⟩) 1 1 [((r : Int), pad64 tx)] (diskOk.later HD1.out hB2) hL2 (fun k hk => by have := HFG.out k hk; omega) (fun q hq => by have h6 : q < 6 := (by rw [HX.out.1] at hq; exact hq); rw [HX.out.2.2.2 q h6]; have := HL.out q h6; show _ + 1 ≤ _; omega)
          rw [put_one HX.out.2.2.1 HX.out.2.1 (by rw [HX.out.1]; exact hr6) (pad_length tx)] at c4
          have HS2 := Lib.hid (HS1.out.later hB2)
          have HBB2 : Hid (ByteBlock (w1.alloc (.cells #[.int .i64 (r : Int), .slice (some ⟨g, 0, none⟩) 64 64] 54)) g (pad64 tx)) := Lib.hid (HBB1.out.kept (Below.heap_alloc _ _ _ HBB1.out.lt))
          clear hL2 hB2 hW2
          go_wp2_with fail
          refine c4.mono ?_
          rintro e w4 ⟨F4, rfl, hD4, hG4⟩
          have HD4 : Hid (DI w4 a F4 (addW s r (pad64 tx))) := Lib.hid hD4
          have HS4 : Hid (Stk w.heap.size w F4 gl 6 bs cp H w4) := Lib.hid (HS2.out.grew hG4)
          have HBB4 : Hid (ByteBlock w4 g (pad64 tx)) := Lib.hid (HBB2.out.kept (hG4.2.2.2.2.1 g HBB2.out.lt (fun hf => by have := HFG.out g hf; omega)))
          clear c4 hD4 hG4
          obtain ⟨L, hL⟩ : ∃ L, L = (H r).length := ⟨_, rfl⟩
          have hL50 : L ≤ 51 := by rw [hL]; have := HL.out r hr6; omega
          have HLE := Lib.hid hL
          have hrw : (rowVal bs cp H r) = .slice (some ⟨bs r, 0, none⟩) L (cp r) := by unfold rowVal; rw [hL]
          have hcv4 : (convert 36 9 (.slice (some ⟨g, 0, none⟩) 64 64)).run Try.prog w4.drew = .ok (.string (str (pad64 tx))) w4.drew := str_bytes (w := w4.drew) (show Bts w4.drew (some ⟨g, 0, none⟩) 64 (pad64 tx) from HBB4.out.2.1)
          have HW5 := Lib.hid (HS4.out.drew.alloc (.cells #[.string (str (pad64 tx))] 9))
          have HD5 : Hid (DI (w4.drew.alloc (.cells #[.string (str (pad64 tx))] 9)) a F4 (addW s r (pad64 tx))) := Lib.hid (diskOk.later (diskOk.kept HD4.out (w' := w4.drew) (fun _ _ => rfl) (Nat.le_refl _)) ((Below.refl _ _).alloc (Nat.le_refl _) _))
          have hsc := HS4.out.cell hr6 hr6
          have hsc5 := (HS4.out.alloc (.cells #[.string (str (pad64 tx))] 9)).cell hr6 hr6
          rw [hrw] at hsc hsc5
          have HNEW := Lib.hid (one_cell_new w4.drew (.string (str (pad64 tx))) 9)
          have HOWN : Hid ((w4.drew.alloc (.cells #[.string (str (pad64 tx))] 9)).ownsRow w.heap.size 9 1 (.slice (some ⟨bs r, 0, none⟩) L (cp r)) L (txts (H r))) := Lib.hid (by have h := (HW5.out.rows r hr6).2; rw [hrw, ← hL] at h; exact h)
          have hrz : (r : Int) < 6 := by omega
          have hrz0 : (0 : Int) ≤ (r : Int) := by omega
          obtain ⟨i0, hi0, hz0, hz1, hz2⟩ := info_parts elemStr
          have HI := Lib.hid (And.intro hi0 (And.intro hz0 (And.intro hz1 hz2)))
          clear hcx d1 hrw hi0 hz0 hz1 hz2 hL
          go_wp2_with fail
          go_region_law ((refine step_append_lies _ rfl (.tmp 84) (.tmp 87) 43 (by rfl) w.heap.size 9 i0 (.string ByteArray.empty) 1 16 Try.underlying43 HI.out.1 HI.out.2.1 HI.out.2.2.1 HI.out.2.2.2 rfl (by decide) (.slice (some ⟨bs r, 0, none⟩) L (cp r)) L (txts (H r)) (by rfl) HOWN.out ⟨w4.drew.heap.size, 0, none⟩ 1 1 [.string (str (pad64 tx))] (by rfl) rfl (World.news_of_block (cs := #[.string (str (pad64 tx))]) (heap_alloc_new _ _)) (by simp [Value.oneCell']) (by decide) (by unfold maxLen; omega) (by omega) HW5.out.base_le _ rfl ?_; intro g5 cap5 w5 hown5 hgrow5 hat5 hlt5; have HG5 := Lib.hid (And.intro hown5 (And.intro hgrow5 hat5)); have hsc6 := (hgrow5.cell_far ⟨gl, r, none⟩ HW5.out.gl_lt (by intro e; simp [Value.ownBlock] at e; exact HW5.out.row_ne hr6 e.symm)).trans hsc5; have hfr6 := (hgrow5.frozen_far ⟨gl, r, none⟩ HW5.out.gl_lt (by intro e; simp [Value.ownBlock] at e; exact HW5.out.row_ne hr6 e.symm)).trans (HW5.out.outer.2.1 r); clear hown5 hgrow5 hat5 hlt5))
          all_goals
            have HD6 : Hid (DI w5 a F4 (addW s r (pad64 tx))) := Lib.hid (diskOk.grown HD5.out (HW5.out.away.2 r hr6) HG5.out.2.1)
            have HS6 : Hid (Stk w.heap.size w F4 gl 6 (fun i => if i = r then g5 else bs i) (fun i => if i = r then cap5 else cp i) (fun i => if i = r then H i ++ [pad64 tx] else H i) (w5.setCell ⟨gl, r, none⟩ (.slice (some ⟨g5, 0, none⟩) (L + 1) cap5))) := Lib.hid (by
              have h := HW5.out.push (fun k hk => diskOk.lt HD5.out k hk) hr6 (by rw [← HLE.out]; exact HG5.out.1) HG5.out.2.1 (at_or HG5.out.2.2)
              rw [← HLE.out] at h
              exact h)
            have HD7 : Hid (DI (w5.setCell ⟨gl, r, none⟩ (.slice (some ⟨g5, 0, none⟩) (L + 1) cap5)) a F4 (addW s r (pad64 tx))) := Lib.hid (diskOk.store HD6.out (fun hf => (HS4.out.away.1 gl hf).2 rfl) _)
            have HX7 := Lib.hid (HX.out.add r (pad64 tx))
            have HL7 := Lib.hid (Stk.length_push (r := r) (d := pad64 tx) HL.out)
            clear hsc hsc5 hsc6 hfr6 hcv4
            go_wp2_with fail
            go_roundw
            case rel => exact ⟨i + 1, by go_num, by omega, Lib.hid ⟨F4, _, _, _, _, HD7.out, HX7.out, HS6.out, HL7.out⟩⟩
            case measure => simp [intOf]; omega
        · by_cases e0 : i < len0
          · have z1 : (i : Int) < (len0 : Int) := by omega
            by_cases e1 : i < len1
            · have z2 : (i : Int) < (len1 : Int) := by omega
              have z3 : ¬ (i : Int) < 50 := by omega
              obtain ⟨ks, hks⟩ := HK.out
              have c6 := diskOk.restart (fun k => k < w.heap.size) a2 len2 cap2 ks HD.out (hks.later HW.out) (fun k hk => by have := (HS.out.away.1 k hk).1; omega)
              have HKS := Lib.hid hks
              clear hks
              go_wp2_with fail
              refine c6.mono ?_
              rintro e w6 ⟨F6, rfl, hD6, hG6⟩
              have HD6 : Hid (DI w6 a F6 (restarted s ks)) := Lib.hid hD6
              have HS6 := Lib.hid (HS.out.grew hG6)
              clear c6 hD6 hG6 HD HS HW
              go_wp2_with fail
              go_loopw [14] (fun nv wq => ∃ n : Nat, nv = .int .i64 (n : Int) ∧ n ≤ 6 ∧ Hid (Below w6.heap.size w6 wq)) (fun nv _ => 6 - (intOf nv).toNat)
              case atStart => exact ⟨0, rfl, by decide, Lib.hid (Below.refl _ _)⟩
              case round =>
                obtain ⟨n, rfl, hn, HQ⟩ := hrel
                by_cases hlt : n < 6
                · have z9 : (n : Int) < 6 := by omega
                  have HSQ := Lib.hid (HS6.out.later HQ.out)
                  obtain ⟨L, hL⟩ : ∃ L, L = (H n).length := ⟨_, rfl⟩
                  have hL1 : 1 ≤ L := by rw [hL]; exact List.length_pos_iff.2 (HSQ.out.rows n hlt).1
                  have hL51 : L ≤ 51 := by rw [hL]; have := HL.out n hlt; omega
                  have HLE := Lib.hid hL
                  have hcell := HSQ.out.cell hlt hlt
                  rw [show rowVal bs cp H n = .slice (some ⟨bs n, 0, none⟩) L (cp n) by unfold rowVal; rw [hL]] at hcell
                  have c7 := diskOk.get (n : Int) (diskOk.later HD6.out HQ.out) (by omega)
                  rw [(six_restart HX.out ks hlt).1, (six_restart HX.out ks hlt).2.1] at c7
                  have HOP : Hid (∀ wx, Below w6.heap.size w6 wx → Calls Try.prog 20 #[.pointer (some a), .int .i64 (n : Int)] wx fun e w' => e = .returned (.int .i64 0) ∧ Below wx.heap.size wx w') := Lib.hid (fun wx hb => by
                    have h := diskOk.opens (n : Int) (diskOk.later HD6.out hb) (by omega)
                    rw [(six_restart HX.out ks hlt).2.2] at h
                    exact h)
                  have HKE : Hid (kept ks H n = min (ks.getD n 0).toNat (L - 1)) := Lib.hid (by unfold kept; rw [← hL])
                  clear hL
                  by_cases hkl : n < len2
                  · have z10 : (n : Int) < (len2 : Int) := by omega
                    obtain ⟨b2, o2, rfl, _, hkc⟩ := HKS.out.2.resolve_left (by omega)
                    obtain ⟨x, hx⟩ : ∃ x, ks.getD n 0 = x := ⟨_, rfl⟩
                    have hkx : ks[n]? = some x := by
                      have hl : n < ks.length := by rw [HKS.out.1]; exact hkl
                      rw [← hx, List.getD_eq_getElem?_getD, List.getElem?_eq_getElem hl]
                      rfl
                    have hkb := (hkc n x hkx).2
                    have hkcell := HSQ.out.outer.2.2.2.cell (p := ⟨b2, o2 + n, none⟩) (World.block_lt_of_cell? _ _ (hkc n x hkx).1) |>.trans (hkc n x hkx).1
                    rw [hx] at HKE
                    clear hkc hkx hx
                    by_cases hx0 : 0 < x
                    · by_cases hxl : (L : Int) ≤ x
                      · obtain ⟨K, hK⟩ : ∃ K, L = K + 1 := ⟨L - 1, by omega⟩
                        have HKK : Hid (kept ks H n = K ∧ K < L) := Lib.hid ⟨by rw [HKE.out]; omega, by omega⟩
                        have hKL : (K : Int) < (L : Int) := by omega
                        go_wp2_with fail
                        try clear hK
                        rw [HKK.out.1] at c7
                        refine c7.mono ?_
                        rintro e w7 ⟨v7, rfl, hf7, hb7⟩
                        have HQ7 := Lib.hid (HQ.out.trans (hb7.mono HQ.out.size))
                        obtain ⟨a7, c7', hv7, hA7, _⟩ := hf7
                        have HS7 := Lib.hid (HS6.out.later HQ7.out)
                        have hcs := HS7.out.cell hlt hlt
                        rw [show rowVal bs cp H n = .slice (some ⟨bs n, 0, none⟩) L (cp n) by unfold rowVal; rw [HLE.out]] at hcs
                        have htx := HS7.out.text (k := K) hlt (by rw [← HLE.out]; exact HKK.out.2)
                        generalize (H n).getD K [] = T7 at *
                        have hcv7 : (convert 36 9 (.slice a7 T7.length c7')).run Try.prog w7.drew = .ok (.string (str T7)) w7.drew := str_bytes (w := w7.drew) (show Bts w7.drew a7 T7.length T7 from hA7.1)
                        rw [hv7]
                        generalize str T7 = S7 at *
                        generalize T7.length = L7 at *
                        clear c7 hb7 hv7 hA7 hcell
                        go_wp2_with fail
                        refine wp_region_any (by kernel_rfl) ?_
                        try (change wpAny _ _ _ _ _ _ _ (World.drew _))
                        refine wpAny_take (i := 0) (oi := ⟨some 131, _, _, _, _, _⟩) (v := ?_) rfl (by kernel_rfl) (by kernel_rfl) (by kernel_rfl) (fun _ _ _ h => h) (Or.inl ⟨by kernel_rfl, ?_⟩) ?_
                        rotate_left 1
                        · (intro w; go_simp); try (with_reducible rfl)
                        refine wpAny_take (i := 1) (oi := ⟨some 132, _, _, _, _, _⟩) (v := ?_) rfl (by kernel_rfl) (by kernel_rfl) (by kernel_rfl) (fun _ _ _ h => h) (Or.inl ⟨by kernel_rfl, ?_⟩) ?_
                        rotate_left 1
                        · (intro w; go_simp); try (with_reducible rfl)
                        refine wpAny_take (i := 2) (oi := ⟨some 133, _, _, _, _, _⟩) (v := ?_) rfl (by kernel_rfl) (by kernel_rfl) (by kernel_rfl) (fun _ _ _ h => h) (Or.inl ⟨by kernel_rfl, ?_⟩) ?_
                        rotate_left 1
                        · (intro w; go_simp); try (with_reducible rfl)
                        refine wpAny_take (i := 3) (oi := ⟨some 134, _, _, _, _, _⟩) (v := ?_) rfl (by kernel_rfl) (by kernel_rfl) (by kernel_rfl) (fun _ _ _ h => h) (Or.inl ⟨by kernel_rfl, ?_⟩) ?_
                        rotate_left 1
                        · (intro w; go_simp); try (with_reducible rfl)
                        refine wpAny_take (i := 5) (oi := ⟨some 136, _, _, _, _, _⟩) (v := ?_) rfl (by kernel_rfl) (by kernel_rfl) (by kernel_rfl) (fun _ _ _ h => h) (Or.inl ⟨by kernel_rfl, ?_⟩) ?_
                        rotate_left 1
                        · (intro w; go_simp); try (with_reducible rfl)
                        refine wpAny_take (i := 6) (oi := ⟨some 137, _, _, _, _, _⟩) (v := ?_) rfl (by kernel_rfl) (by kernel_rfl) (by kernel_rfl) (fun _ _ _ h => h) (Or.inl ⟨by kernel_rfl, ?_⟩) ?_
                        rotate_left 1
                        · (intro w; go_simp); try (with_reducible rfl)
                        refine wpAny_take (i := 7) (oi := ⟨some 138, _, _, _, _, _⟩) (v := ?_) rfl (by kernel_rfl) (by kernel_rfl) (by kernel_rfl) (fun _ _ _ h => h) (Or.inl ⟨by kernel_rfl, ?_⟩) ?_
                        rotate_left 1
                        · (intro w; go_simp); try (with_reducible rfl)
                        refine wpAny_take (i := 9) (oi := ⟨some 140, _, _, _, _, _⟩) (v := ?_) rfl (by kernel_rfl) (by kernel_rfl) (by kernel_rfl) (fun _ _ _ h => h) (Or.inl ⟨by kernel_rfl, ?_⟩) ?_
                        rotate_left 1
                        · (intro w; go_simp); try (with_reducible rfl)
                        refine wpAny_ready (rs := [4, 8]) (by kernel_rfl) (by simp) ?_
                        refine AllReady.cons (o := ⟨some 135, _, _, _, _, _⟩) rfl (fun K hK => ?_) ?_
                        · go_simp
                          refine hK _ _ ?_
                          clear hK K
                          refine wpAny_ready (rs := [8]) (by kernel_rfl) (by simp) ?_
                          refine AllReady.cons (o := ⟨some 139, _, _, _, _, _⟩) rfl (fun K hK => ?_) AllReady.nil
                          go_simp
                          refine hK _ _ ?_
                          clear hK K
                          refine wpAny_take (i := 10) (oi := ⟨some 141, _, _, _, _, _⟩) (v := ?_) rfl (by kernel_rfl) (by kernel_rfl) (by kernel_rfl) (fun _ _ _ h => h) (Or.inl ⟨by kernel_rfl, ?_⟩) ?_
                          rotate_left 1
                          · (intro w; go_simp); try (with_reducible rfl)
                          refine wpAny_ready (rs := [11]) (by kernel_rfl) (by simp) ?_
                          refine AllReady.cons (o := ⟨some 142, _, _, _, _, _⟩) rfl (fun K hK => ?_) AllReady.nil
                          go_simp
                          refine hK _ _ ?_
                          clear hK K
                          refine wpAny_take (i := 12) (oi := ⟨some 143, _, _, _, _, _⟩) (v := ?_) rfl (by kernel_rfl) (by kernel_rfl) (by kernel_rfl) (fun _ _ _ h => h) (Or.inl ⟨by kernel_rfl, ?_⟩) ?_
                          rotate_left 1
                          · (intro w; go_simp); try (with_reducible rfl)
                          refine wpAny_take (i := 13) (oi := ⟨some 144, _, _, _, _, _⟩) (v := ?_) rfl (by kernel_rfl) (by kernel_rfl) (by kernel_rfl) (fun _ _ _ h => h) (Or.inl ⟨by kernel_rfl, ?_⟩) ?_
                          rotate_left 1
                          · (intro w; go_simp); try (with_reducible rfl)
                          refine wpAny_take (i := 14) (oi := ⟨some 145, _, _, _, _, _⟩) (v := ?_) rfl (by kernel_rfl) (by kernel_rfl) (by kernel_rfl) (fun _ _ _ h => h) (Or.inl ⟨by kernel_rfl, ?_⟩) ?_
                          rotate_left 1
                          · (intro w; go_simp); try (with_reducible rfl)
                          refine wpAny_take (i := 15) (oi := ⟨some 146, _, _, _, _, _⟩) (v := ?_) rfl (by kernel_rfl) (by kernel_rfl) (by kernel_rfl) (fun _ _ _ h => h) (Or.inl ⟨by kernel_rfl, ?_⟩) ?_
                          rotate_left 1
                          · (intro w; go_simp); try (with_reducible rfl)
                          refine wpAny_take (i := 16) (oi := ⟨some 147, _, _, _, _, _⟩) (v := ?_) rfl (by kernel_rfl) (by kernel_rfl) (by kernel_rfl) (fun _ _ _ h => h) (Or.inl ⟨by kernel_rfl, ?_⟩) ?_
                          rotate_left 1
                          · (intro w; go_simp); try (with_reducible rfl)
                          refine wpAny_ready (rs := [17]) (by kernel_rfl) (by simp) ?_
                          refine AllReady.cons (o := ⟨some 148, _, _, _, _, _⟩) rfl (fun K hK => ?_) AllReady.nil
                          go_simp
                          go_wp2_with (go_at_call 20; refine (HOP.out _ (by first | exact HQ7.out.drew | exact HQ7.out)).mono ?_; rintro e w8 ⟨rfl, hb8⟩; have HQ8 := Lib.hid (HQ7.out.drew.trans (hb8.mono HQ7.out.size)); clear hb8)
                          refine wpAny_take (i := 18) (oi := ⟨some 149, _, _, _, _, _⟩) (v := ?_) rfl (by kernel_rfl) (by kernel_rfl) (by kernel_rfl) (fun _ _ _ h => h) (Or.inl ⟨by kernel_rfl, ?_⟩) ?_
                          rotate_left 1
                          · (intro w; go_simp); try (with_reducible rfl)
                          refine wpAny_take (i := 19) (oi := ⟨some 150, _, _, _, _, _⟩) (v := ?_) rfl (by kernel_rfl) (by kernel_rfl) (by kernel_rfl) (fun _ _ _ h => h) (Or.inl ⟨by kernel_rfl, ?_⟩) ?_
                          rotate_left 1
                          · (intro w; go_simp); try (with_reducible rfl)
                          refine wpAny_done (by kernel_rfl) ?_ _
                          go_simp
                          clear hcs htx hcv7
                          go_wp2_with fail
                          go_roundw
                          case rel => exact ⟨n + 1, by go_num, by omega, HQ8⟩
                          case measure => simp [intOf]; omega
                        refine AllReady.cons (o := ⟨some 139, _, _, _, _, _⟩) rfl (fun K hK => ?_) AllReady.nil
                        go_simp
                        refine hK _ _ ?_
                        clear hK K
                        refine wpAny_take (i := 10) (oi := ⟨some 141, _, _, _, _, _⟩) (v := ?_) rfl (by kernel_rfl) (by kernel_rfl) (by kernel_rfl) (fun _ _ _ h => h) (Or.inl ⟨by kernel_rfl, ?_⟩) ?_
                        rotate_left 1
                        · (intro w; go_simp); try (with_reducible rfl)
                        refine wpAny_ready (rs := [4, 11]) (by kernel_rfl) (by simp) ?_
                        refine AllReady.cons (o := ⟨some 135, _, _, _, _, _⟩) rfl (fun K hK => ?_) ?_
                        · go_simp
                          refine hK _ _ ?_
                          clear hK K
                          refine wpAny_ready (rs := [11]) (by kernel_rfl) (by simp) ?_
                          refine AllReady.cons (o := ⟨some 142, _, _, _, _, _⟩) rfl (fun K hK => ?_) AllReady.nil
                          go_simp
                          refine hK _ _ ?_
                          clear hK K
                          refine wpAny_take (i := 12) (oi := ⟨some 143, _, _, _, _, _⟩) (v := ?_) rfl (by kernel_rfl) (by kernel_rfl) (by kernel_rfl) (fun _ _ _ h => h) (Or.inl ⟨by kernel_rfl, ?_⟩) ?_
                          rotate_left 1
                          · (intro w; go_simp); try (with_reducible rfl)
                          refine wpAny_take (i := 13) (oi := ⟨some 144, _, _, _, _, _⟩) (v := ?_) rfl (by kernel_rfl) (by kernel_rfl) (by kernel_rfl) (fun _ _ _ h => h) (Or.inl ⟨by kernel_rfl, ?_⟩) ?_
                          rotate_left 1
                          · (intro w; go_simp); try (with_reducible rfl)
                          refine wpAny_take (i := 14) (oi := ⟨some 145, _, _, _, _, _⟩) (v := ?_) rfl (by kernel_rfl) (by kernel_rfl) (by kernel_rfl) (fun _ _ _ h => h) (Or.inl ⟨by kernel_rfl, ?_⟩) ?_
                          rotate_left 1
                          · (intro w; go_simp); try (with_reducible rfl)
                          refine wpAny_take (i := 15) (oi := ⟨some 146, _, _, _, _, _⟩) (v := ?_) rfl (by kernel_rfl) (by kernel_rfl) (by kernel_rfl) (fun _ _ _ h => h) (Or.inl ⟨by kernel_rfl, ?_⟩) ?_
                          rotate_left 1
                          · (intro w; go_simp); try (with_reducible rfl)
                          refine wpAny_take (i := 16) (oi := ⟨some 147, _, _, _, _, _⟩) (v := ?_) rfl (by kernel_rfl) (by kernel_rfl) (by kernel_rfl) (fun _ _ _ h => h) (Or.inl ⟨by kernel_rfl, ?_⟩) ?_
                          rotate_left 1
                          · (intro w; go_simp); try (with_reducible rfl)
                          refine wpAny_ready (rs := [17]) (by kernel_rfl) (by simp) ?_
                          refine AllReady.cons (o := ⟨some 148, _, _, _, _, _⟩) rfl (fun K hK => ?_) AllReady.nil
                          go_simp
                          go_wp2_with (go_at_call 20; refine (HOP.out _ (by first | exact HQ7.out.drew | exact HQ7.out)).mono ?_; rintro e w8 ⟨rfl, hb8⟩; have HQ8 := Lib.hid (HQ7.out.drew.trans (hb8.mono HQ7.out.size)); clear hb8)
                          refine wpAny_take (i := 18) (oi := ⟨some 149, _, _, _, _, _⟩) (v := ?_) rfl (by kernel_rfl) (by kernel_rfl) (by kernel_rfl) (fun _ _ _ h => h) (Or.inl ⟨by kernel_rfl, ?_⟩) ?_
                          rotate_left 1
                          · (intro w; go_simp); try (with_reducible rfl)
                          refine wpAny_take (i := 19) (oi := ⟨some 150, _, _, _, _, _⟩) (v := ?_) rfl (by kernel_rfl) (by kernel_rfl) (by kernel_rfl) (fun _ _ _ h => h) (Or.inl ⟨by kernel_rfl, ?_⟩) ?_
                          rotate_left 1
                          · (intro w; go_simp); try (with_reducible rfl)
                          refine wpAny_done (by kernel_rfl) ?_ _
                          go_simp
                          clear hcs htx hcv7
                          go_wp2_with fail
                          go_roundw
                          case rel => exact ⟨n + 1, by go_num, by omega, HQ8⟩
                          case measure => simp [intOf]; omega
                        refine AllReady.cons (o := ⟨some 142, _, _, _, _, _⟩) rfl (fun K hK => ?_) AllReady.nil
                        go_simp
                        refine hK _ _ ?_
                        clear hK K
                        refine wpAny_ready (rs := [4]) (by kernel_rfl) (by simp) ?_
                        refine AllReady.cons (o := ⟨some 135, _, _, _, _, _⟩) rfl (fun K hK => ?_) AllReady.nil
                        go_simp
                        refine hK _ _ ?_
                        clear hK K
                        refine wpAny_take (i := 12) (oi := ⟨some 143, _, _, _, _, _⟩) (v := ?_) rfl (by kernel_rfl) (by kernel_rfl) (by kernel_rfl) (fun _ _ _ h => h) (Or.inl ⟨by kernel_rfl, ?_⟩) ?_
                        rotate_left 1
                        · (intro w; go_simp); try (with_reducible rfl)
                        refine wpAny_take (i := 13) (oi := ⟨some 144, _, _, _, _, _⟩) (v := ?_) rfl (by kernel_rfl) (by kernel_rfl) (by kernel_rfl) (fun _ _ _ h => h) (Or.inl ⟨by kernel_rfl, ?_⟩) ?_
                        rotate_left 1
                        · (intro w; go_simp); try (with_reducible rfl)
                        refine wpAny_take (i := 14) (oi := ⟨some 145, _, _, _, _, _⟩) (v := ?_) rfl (by kernel_rfl) (by kernel_rfl) (by kernel_rfl) (fun _ _ _ h => h) (Or.inl ⟨by kernel_rfl, ?_⟩) ?_
                        rotate_left 1
                        · (intro w; go_simp); try (with_reducible rfl)
                        refine wpAny_take (i := 15) (oi := ⟨some 146, _, _, _, _, _⟩) (v := ?_) rfl (by kernel_rfl) (by kernel_rfl) (by kernel_rfl) (fun _ _ _ h => h) (Or.inl ⟨by kernel_rfl, ?_⟩) ?_
                        rotate_left 1
                        · (intro w; go_simp); try (with_reducible rfl)
                        refine wpAny_take (i := 16) (oi := ⟨some 147, _, _, _, _, _⟩) (v := ?_) rfl (by kernel_rfl) (by kernel_rfl) (by kernel_rfl) (fun _ _ _ h => h) (Or.inl ⟨by kernel_rfl, ?_⟩) ?_
                        rotate_left 1
                        · (intro w; go_simp); try (with_reducible rfl)
                        refine wpAny_ready (rs := [17]) (by kernel_rfl) (by simp) ?_
                        refine AllReady.cons (o := ⟨some 148, _, _, _, _, _⟩) rfl (fun K hK => ?_) AllReady.nil
                        go_simp
                        go_wp2_with (go_at_call 20; refine (HOP.out _ (by first | exact HQ7.out.drew | exact HQ7.out)).mono ?_; rintro e w8 ⟨rfl, hb8⟩; have HQ8 := Lib.hid (HQ7.out.drew.trans (hb8.mono HQ7.out.size)); clear hb8)
                        refine wpAny_take (i := 18) (oi := ⟨some 149, _, _, _, _, _⟩) (v := ?_) rfl (by kernel_rfl) (by kernel_rfl) (by kernel_rfl) (fun _ _ _ h => h) (Or.inl ⟨by kernel_rfl, ?_⟩) ?_
                        rotate_left 1
                        · (intro w; go_simp); try (with_reducible rfl)
                        refine wpAny_take (i := 19) (oi := ⟨some 150, _, _, _, _, _⟩) (v := ?_) rfl (by kernel_rfl) (by kernel_rfl) (by kernel_rfl) (fun _ _ _ h => h) (Or.inl ⟨by kernel_rfl, ?_⟩) ?_
                        rotate_left 1
                        · (intro w; go_simp); try (with_reducible rfl)
                        refine wpAny_done (by kernel_rfl) ?_ _
                        go_simp
                        clear hcs htx hcv7
                        go_wp2_with fail
                        go_roundw
                        case rel => exact ⟨n + 1, by go_num, by omega, HQ8⟩
                        case measure => simp [intOf]; omega
                      · obtain ⟨K, rfl⟩ := Int.eq_ofNat_of_zero_le (show 0 ≤ x by omega)
                        have hxz : ¬ (K : Int) ≥ (L : Int) := by omega
                        have HKK : Hid (kept ks H n = K ∧ K < L) := Lib.hid ⟨by rw [HKE.out, Int.toNat_natCast]; omega, by omega⟩
                        have hKL : (K : Int) < (L : Int) := by omega
                        go_wp2_with fail
                        try clear hK
                        rw [HKK.out.1] at c7
                        refine c7.mono ?_
                        rintro e w7 ⟨v7, rfl, hf7, hb7⟩
                        have HQ7 := Lib.hid (HQ.out.trans (hb7.mono HQ.out.size))
                        obtain ⟨a7, c7', hv7, hA7, _⟩ := hf7
                        have HS7 := Lib.hid (HS6.out.later HQ7.out)
                        have hcs := HS7.out.cell hlt hlt
                        rw [show rowVal bs cp H n = .slice (some ⟨bs n, 0, none⟩) L (cp n) by unfold rowVal; rw [HLE.out]] at hcs
                        have htx := HS7.out.text (k := K) hlt (by rw [← HLE.out]; exact HKK.out.2)
                        generalize (H n).getD K [] = T7 at *
                        have hcv7 : (convert 36 9 (.slice a7 T7.length c7')).run Try.prog w7.drew = .ok (.string (str T7)) w7.drew := str_bytes (w := w7.drew) (show Bts w7.drew a7 T7.length T7 from hA7.1)
                        rw [hv7]
                        generalize str T7 = S7 at *
                        generalize T7.length = L7 at *
                        clear c7 hb7 hv7 hA7 hcell
                        go_wp2_with fail
                        refine wp_region_any (by kernel_rfl) ?_
                        try (change wpAny _ _ _ _ _ _ _ (World.drew _))
                        refine wpAny_take (i := 0) (oi := ⟨some 131, _, _, _, _, _⟩) (v := ?_) rfl (by kernel_rfl) (by kernel_rfl) (by kernel_rfl) (fun _ _ _ h => h) (Or.inl ⟨by kernel_rfl, ?_⟩) ?_
                        rotate_left 1
                        · (intro w; go_simp); try (with_reducible rfl)
                        refine wpAny_take (i := 1) (oi := ⟨some 132, _, _, _, _, _⟩) (v := ?_) rfl (by kernel_rfl) (by kernel_rfl) (by kernel_rfl) (fun _ _ _ h => h) (Or.inl ⟨by kernel_rfl, ?_⟩) ?_
                        rotate_left 1
                        · (intro w; go_simp); try (with_reducible rfl)
                        refine wpAny_take (i := 2) (oi := ⟨some 133, _, _, _, _, _⟩) (v := ?_) rfl (by kernel_rfl) (by kernel_rfl) (by kernel_rfl) (fun _ _ _ h => h) (Or.inl ⟨by kernel_rfl, ?_⟩) ?_
                        rotate_left 1
                        · (intro w; go_simp); try (with_reducible rfl)
                        refine wpAny_take (i := 3) (oi := ⟨some 134, _, _, _, _, _⟩) (v := ?_) rfl (by kernel_rfl) (by kernel_rfl) (by kernel_rfl) (fun _ _ _ h => h) (Or.inl ⟨by kernel_rfl, ?_⟩) ?_
                        rotate_left 1
                        · (intro w; go_simp); try (with_reducible rfl)
                        refine wpAny_take (i := 5) (oi := ⟨some 136, _, _, _, _, _⟩) (v := ?_) rfl (by kernel_rfl) (by kernel_rfl) (by kernel_rfl) (fun _ _ _ h => h) (Or.inl ⟨by kernel_rfl, ?_⟩) ?_
                        rotate_left 1
                        · (intro w; go_simp); try (with_reducible rfl)
                        refine wpAny_take (i := 6) (oi := ⟨some 137, _, _, _, _, _⟩) (v := ?_) rfl (by kernel_rfl) (by kernel_rfl) (by kernel_rfl) (fun _ _ _ h => h) (Or.inl ⟨by kernel_rfl, ?_⟩) ?_
                        rotate_left 1
                        · (intro w; go_simp); try (with_reducible rfl)
                        refine wpAny_take (i := 7) (oi := ⟨some 138, _, _, _, _, _⟩) (v := ?_) rfl (by kernel_rfl) (by kernel_rfl) (by kernel_rfl) (fun _ _ _ h => h) (Or.inl ⟨by kernel_rfl, ?_⟩) ?_
                        rotate_left 1
                        · (intro w; go_simp); try (with_reducible rfl)
                        refine wpAny_take (i := 9) (oi := ⟨some 140, _, _, _, _, _⟩) (v := ?_) rfl (by kernel_rfl) (by kernel_rfl) (by kernel_rfl) (fun _ _ _ h => h) (Or.inl ⟨by kernel_rfl, ?_⟩) ?_
                        rotate_left 1
                        · (intro w; go_simp); try (with_reducible rfl)
                        refine wpAny_ready (rs := [4, 8]) (by kernel_rfl) (by simp) ?_
                        refine AllReady.cons (o := ⟨some 135, _, _, _, _, _⟩) rfl (fun K hK => ?_) ?_
                        · go_simp
                          refine hK _ _ ?_
                          clear hK K
                          refine wpAny_ready (rs := [8]) (by kernel_rfl) (by simp) ?_
                          refine AllReady.cons (o := ⟨some 139, _, _, _, _, _⟩) rfl (fun K hK => ?_) AllReady.nil
                          go_simp
                          refine hK _ _ ?_
                          clear hK K
                          refine wpAny_take (i := 10) (oi := ⟨some 141, _, _, _, _, _⟩) (v := ?_) rfl (by kernel_rfl) (by kernel_rfl) (by kernel_rfl) (fun _ _ _ h => h) (Or.inl ⟨by kernel_rfl, ?_⟩) ?_
                          rotate_left 1
                          · (intro w; go_simp); try (with_reducible rfl)
                          refine wpAny_ready (rs := [11]) (by kernel_rfl) (by simp) ?_
                          refine AllReady.cons (o := ⟨some 142, _, _, _, _, _⟩) rfl (fun K hK => ?_) AllReady.nil
                          go_simp
                          refine hK _ _ ?_
                          clear hK K
                          refine wpAny_take (i := 12) (oi := ⟨some 143, _, _, _, _, _⟩) (v := ?_) rfl (by kernel_rfl) (by kernel_rfl) (by kernel_rfl) (fun _ _ _ h => h) (Or.inl ⟨by kernel_rfl, ?_⟩) ?_
                          rotate_left 1
                          · (intro w; go_simp); try (with_reducible rfl)
                          refine wpAny_take (i := 13) (oi := ⟨some 144, _, _, _, _, _⟩) (v := ?_) rfl (by kernel_rfl) (by kernel_rfl) (by kernel_rfl) (fun _ _ _ h => h) (Or.inl ⟨by kernel_rfl, ?_⟩) ?_
                          rotate_left 1
                          · (intro w; go_simp); try (with_reducible rfl)
                          refine wpAny_take (i := 14) (oi := ⟨some 145, _, _, _, _, _⟩) (v := ?_) rfl (by kernel_rfl) (by kernel_rfl) (by kernel_rfl) (fun _ _ _ h => h) (Or.inl ⟨by kernel_rfl, ?_⟩) ?_
                          rotate_left 1
                          · (intro w; go_simp); try (with_reducible rfl)
                          refine wpAny_take (i := 15) (oi := ⟨some 146, _, _, _, _, _⟩) (v := ?_) rfl (by kernel_rfl) (by kernel_rfl) (by kernel_rfl) (fun _ _ _ h => h) (Or.inl ⟨by kernel_rfl, ?_⟩) ?_
                          rotate_left 1
                          · (intro w; go_simp); try (with_reducible rfl)
                          refine wpAny_take (i := 16) (oi := ⟨some 147, _, _, _, _, _⟩) (v := ?_) rfl (by kernel_rfl) (by kernel_rfl) (by kernel_rfl) (fun _ _ _ h => h) (Or.inl ⟨by kernel_rfl, ?_⟩) ?_
                          rotate_left 1
                          · (intro w; go_simp); try (with_reducible rfl)
                          refine wpAny_ready (rs := [17]) (by kernel_rfl) (by simp) ?_
                          refine AllReady.cons (o := ⟨some 148, _, _, _, _, _⟩) rfl (fun K hK => ?_) AllReady.nil
                          go_simp
                          go_wp2_with (go_at_call 20; refine (HOP.out _ (by first | exact HQ7.out.drew | exact HQ7.out)).mono ?_; rintro e w8 ⟨rfl, hb8⟩; have HQ8 := Lib.hid (HQ7.out.drew.trans (hb8.mono HQ7.out.size)); clear hb8)
                          refine wpAny_take (i := 18) (oi := ⟨some 149, _, _, _, _, _⟩) (v := ?_) rfl (by kernel_rfl) (by kernel_rfl) (by kernel_rfl) (fun _ _ _ h => h) (Or.inl ⟨by kernel_rfl, ?_⟩) ?_
                          rotate_left 1
                          · (intro w; go_simp); try (with_reducible rfl)
                          refine wpAny_take (i := 19) (oi := ⟨some 150, _, _, _, _, _⟩) (v := ?_) rfl (by kernel_rfl) (by kernel_rfl) (by kernel_rfl) (fun _ _ _ h => h) (Or.inl ⟨by kernel_rfl, ?_⟩) ?_
                          rotate_left 1
                          · (intro w; go_simp); try (with_reducible rfl)
                          refine wpAny_done (by kernel_rfl) ?_ _
                          go_simp
                          clear hcs htx hcv7
                          go_wp2_with fail
                          go_roundw
                          case rel => exact ⟨n + 1, by go_num, by omega, HQ8⟩
                          case measure => simp [intOf]; omega
                        refine AllReady.cons (o := ⟨some 139, _, _, _, _, _⟩) rfl (fun K hK => ?_) AllReady.nil
                        go_simp
                        refine hK _ _ ?_
                        clear hK K
                        refine wpAny_take (i := 10) (oi := ⟨some 141, _, _, _, _, _⟩) (v := ?_) rfl (by kernel_rfl) (by kernel_rfl) (by kernel_rfl) (fun _ _ _ h => h) (Or.inl ⟨by kernel_rfl, ?_⟩) ?_
                        rotate_left 1
                        · (intro w; go_simp); try (with_reducible rfl)
                        refine wpAny_ready (rs := [4, 11]) (by kernel_rfl) (by simp) ?_
                        refine AllReady.cons (o := ⟨some 135, _, _, _, _, _⟩) rfl (fun K hK => ?_) ?_
                        · go_simp
                          refine hK _ _ ?_
                          clear hK K
                          refine wpAny_ready (rs := [11]) (by kernel_rfl) (by simp) ?_
                          refine AllReady.cons (o := ⟨some 142, _, _, _, _, _⟩) rfl (fun K hK => ?_) AllReady.nil
                          go_simp
                          refine hK _ _ ?_
                          clear hK K
                          refine wpAny_take (i := 12) (oi := ⟨some 143, _, _, _, _, _⟩) (v := ?_) rfl (by kernel_rfl) (by kernel_rfl) (by kernel_rfl) (fun _ _ _ h => h) (Or.inl ⟨by kernel_rfl, ?_⟩) ?_
                          rotate_left 1
                          · (intro w; go_simp); try (with_reducible rfl)
                          refine wpAny_take (i := 13) (oi := ⟨some 144, _, _, _, _, _⟩) (v := ?_) rfl (by kernel_rfl) (by kernel_rfl) (by kernel_rfl) (fun _ _ _ h => h) (Or.inl ⟨by kernel_rfl, ?_⟩) ?_
                          rotate_left 1
                          · (intro w; go_simp); try (with_reducible rfl)
                          refine wpAny_take (i := 14) (oi := ⟨some 145, _, _, _, _, _⟩) (v := ?_) rfl (by kernel_rfl) (by kernel_rfl) (by kernel_rfl) (fun _ _ _ h => h) (Or.inl ⟨by kernel_rfl, ?_⟩) ?_
                          rotate_left 1
                          · (intro w; go_simp); try (with_reducible rfl)
                          refine wpAny_take (i := 15) (oi := ⟨some 146, _, _, _, _, _⟩) (v := ?_) rfl (by kernel_rfl) (by kernel_rfl) (by kernel_rfl) (fun _ _ _ h => h) (Or.inl ⟨by kernel_rfl, ?_⟩) ?_
                          rotate_left 1
                          · (intro w; go_simp); try (with_reducible rfl)
                          refine wpAny_take (i := 16) (oi := ⟨some 147, _, _, _, _, _⟩) (v := ?_) rfl (by kernel_rfl) (by kernel_rfl) (by kernel_rfl) (fun _ _ _ h => h) (Or.inl ⟨by kernel_rfl, ?_⟩) ?_
                          rotate_left 1
                          · (intro w; go_simp); try (with_reducible rfl)
                          refine wpAny_ready (rs := [17]) (by kernel_rfl) (by simp) ?_
                          refine AllReady.cons (o := ⟨some 148, _, _, _, _, _⟩) rfl (fun K hK => ?_) AllReady.nil
                          go_simp
                          go_wp2_with (go_at_call 20; refine (HOP.out _ (by first | exact HQ7.out.drew | exact HQ7.out)).mono ?_; rintro e w8 ⟨rfl, hb8⟩; have HQ8 := Lib.hid (HQ7.out.drew.trans (hb8.mono HQ7.out.size)); clear hb8)
                          refine wpAny_take (i := 18) (oi := ⟨some 149, _, _, _, _, _⟩) (v := ?_) rfl (by kernel_rfl) (by kernel_rfl) (by kernel_rfl) (fun _ _ _ h => h) (Or.inl ⟨by kernel_rfl, ?_⟩) ?_
                          rotate_left 1
                          · (intro w; go_simp); try (with_reducible rfl)
                          refine wpAny_take (i := 19) (oi := ⟨some 150, _, _, _, _, _⟩) (v := ?_) rfl (by kernel_rfl) (by kernel_rfl) (by kernel_rfl) (fun _ _ _ h => h) (Or.inl ⟨by kernel_rfl, ?_⟩) ?_
                          rotate_left 1
                          · (intro w; go_simp); try (with_reducible rfl)
                          refine wpAny_done (by kernel_rfl) ?_ _
                          go_simp
                          clear hcs htx hcv7
                          go_wp2_with fail
                          go_roundw
                          case rel => exact ⟨n + 1, by go_num, by omega, HQ8⟩
                          case measure => simp [intOf]; omega
                        refine AllReady.cons (o := ⟨some 142, _, _, _, _, _⟩) rfl (fun K hK => ?_) AllReady.nil
                        go_simp
                        refine hK _ _ ?_
                        clear hK K
                        refine wpAny_ready (rs := [4]) (by kernel_rfl) (by simp) ?_
                        refine AllReady.cons (o := ⟨some 135, _, _, _, _, _⟩) rfl (fun K hK => ?_) AllReady.nil
                        go_simp
                        refine hK _ _ ?_
                        clear hK K
                        refine wpAny_take (i := 12) (oi := ⟨some 143, _, _, _, _, _⟩) (v := ?_) rfl (by kernel_rfl) (by kernel_rfl) (by kernel_rfl) (fun _ _ _ h => h) (Or.inl ⟨by kernel_rfl, ?_⟩) ?_
                        rotate_left 1
                        · (intro w; go_simp); try (with_reducible rfl)
                        refine wpAny_take (i := 13) (oi := ⟨some 144, _, _, _, _, _⟩) (v := ?_) rfl (by kernel_rfl) (by kernel_rfl) (by kernel_rfl) (fun _ _ _ h => h) (Or.inl ⟨by kernel_rfl, ?_⟩) ?_
                        rotate_left 1
                        · (intro w; go_simp); try (with_reducible rfl)
                        refine wpAny_take (i := 14) (oi := ⟨some 145, _, _, _, _, _⟩) (v := ?_) rfl (by kernel_rfl) (by kernel_rfl) (by kernel_rfl) (fun _ _ _ h => h) (Or.inl ⟨by kernel_rfl, ?_⟩) ?_
                        rotate_left 1
                        · (intro w; go_simp); try (with_reducible rfl)
                        refine wpAny_take (i := 15) (oi := ⟨some 146, _, _, _, _, _⟩) (v := ?_) rfl (by kernel_rfl) (by kernel_rfl) (by kernel_rfl) (fun _ _ _ h => h) (Or.inl ⟨by kernel_rfl, ?_⟩) ?_
                        rotate_left 1
                        · (intro w; go_simp); try (with_reducible rfl)
                        refine wpAny_take (i := 16) (oi := ⟨some 147, _, _, _, _, _⟩) (v := ?_) rfl (by kernel_rfl) (by kernel_rfl) (by kernel_rfl) (fun _ _ _ h => h) (Or.inl ⟨by kernel_rfl, ?_⟩) ?_
                        rotate_left 1
                        · (intro w; go_simp); try (with_reducible rfl)
                        refine wpAny_ready (rs := [17]) (by kernel_rfl) (by simp) ?_
                        refine AllReady.cons (o := ⟨some 148, _, _, _, _, _⟩) rfl (fun K hK => ?_) AllReady.nil
                        go_simp
                        go_wp2_with (go_at_call 20; refine (HOP.out _ (by first | exact HQ7.out.drew | exact HQ7.out)).mono ?_; rintro e w8 ⟨rfl, hb8⟩; have HQ8 := Lib.hid (HQ7.out.drew.trans (hb8.mono HQ7.out.size)); clear hb8)
                        refine wpAny_take (i := 18) (oi := ⟨some 149, _, _, _, _, _⟩) (v := ?_) rfl (by kernel_rfl) (by kernel_rfl) (by kernel_rfl) (fun _ _ _ h => h) (Or.inl ⟨by kernel_rfl, ?_⟩) ?_
                        rotate_left 1
                        · (intro w; go_simp); try (with_reducible rfl)
                        refine wpAny_take (i := 19) (oi := ⟨some 150, _, _, _, _, _⟩) (v := ?_) rfl (by kernel_rfl) (by kernel_rfl) (by kernel_rfl) (fun _ _ _ h => h) (Or.inl ⟨by kernel_rfl, ?_⟩) ?_
                        rotate_left 1
                        · (intro w; go_simp); try (with_reducible rfl)
                        refine wpAny_done (by kernel_rfl) ?_ _
                        go_simp
                        clear hcs htx hcv7
                        go_wp2_with fail
                        go_roundw
                        case rel => exact ⟨n + 1, by go_num, by omega, HQ8⟩
                        case measure => simp [intOf]; omega
                    · have HKK : Hid (kept ks H n = 0 ∧ 0 < L) := Lib.hid ⟨by rw [HKE.out]; omega, by omega⟩
                      have hxz : ¬ (0 : Int) ≥ (L : Int) := by omega
                      have hKL : (0 : Int) < (L : Int) := by omega
                      have hKN : 0 < L := by omega
                      go_wp2_with fail
                      try clear hK
                      rw [HKK.out.1] at c7
                      refine c7.mono ?_
                      rintro e w7 ⟨v7, rfl, hf7, hb7⟩
                      have HQ7 := Lib.hid (HQ.out.trans (hb7.mono HQ.out.size))
                      obtain ⟨a7, c7', hv7, hA7, _⟩ := hf7
                      have HS7 := Lib.hid (HS6.out.later HQ7.out)
                      have hcs := HS7.out.cell hlt hlt
                      rw [show rowVal bs cp H n = .slice (some ⟨bs n, 0, none⟩) L (cp n) by unfold rowVal; rw [HLE.out]] at hcs
                      have htx := HS7.out.text (k := 0) hlt (by rw [← HLE.out]; exact HKK.out.2)
                      generalize (H n).getD 0 [] = T7 at *
                      have hcv7 : (convert 36 9 (.slice a7 T7.length c7')).run Try.prog w7.drew = .ok (.string (str T7)) w7.drew := str_bytes (w := w7.drew) (show Bts w7.drew a7 T7.length T7 from hA7.1)
                      rw [hv7]
                      generalize str T7 = S7 at *
                      generalize T7.length = L7 at *
                      clear c7 hb7 hv7 hA7 hcell
                      go_wp2_with fail
                      refine wp_region_any (by kernel_rfl) ?_
                      try (change wpAny _ _ _ _ _ _ _ (World.drew _))
                      refine wpAny_take (i := 0) (oi := ⟨some 131, _, _, _, _, _⟩) (v := ?_) rfl (by kernel_rfl) (by kernel_rfl) (by kernel_rfl) (fun _ _ _ h => h) (Or.inl ⟨by kernel_rfl, ?_⟩) ?_
                      rotate_left 1
                      · (intro w; go_simp); try (with_reducible rfl)
                      refine wpAny_take (i := 1) (oi := ⟨some 132, _, _, _, _, _⟩) (v := ?_) rfl (by kernel_rfl) (by kernel_rfl) (by kernel_rfl) (fun _ _ _ h => h) (Or.inl ⟨by kernel_rfl, ?_⟩) ?_
                      rotate_left 1
                      · (intro w; go_simp); try (with_reducible rfl)
                      refine wpAny_take (i := 2) (oi := ⟨some 133, _, _, _, _, _⟩) (v := ?_) rfl (by kernel_rfl) (by kernel_rfl) (by kernel_rfl) (fun _ _ _ h => h) (Or.inl ⟨by kernel_rfl, ?_⟩) ?_
                      rotate_left 1
                      · (intro w; go_simp); try (with_reducible rfl)
                      refine wpAny_take (i := 3) (oi := ⟨some 134, _, _, _, _, _⟩) (v := ?_) rfl (by kernel_rfl) (by kernel_rfl) (by kernel_rfl) (fun _ _ _ h => h) (Or.inl ⟨by kernel_rfl, ?_⟩) ?_
                      rotate_left 1
                      · (intro w; go_simp); try (with_reducible rfl)
                      refine wpAny_take (i := 5) (oi := ⟨some 136, _, _, _, _, _⟩) (v := ?_) rfl (by kernel_rfl) (by kernel_rfl) (by kernel_rfl) (fun _ _ _ h => h) (Or.inl ⟨by kernel_rfl, ?_⟩) ?_
                      rotate_left 1
                      · (intro w; go_simp); try (with_reducible rfl)
                      refine wpAny_take (i := 6) (oi := ⟨some 137, _, _, _, _, _⟩) (v := ?_) rfl (by kernel_rfl) (by kernel_rfl) (by kernel_rfl) (fun _ _ _ h => h) (Or.inl ⟨by kernel_rfl, ?_⟩) ?_
                      rotate_left 1
                      · (intro w; go_simp); try (with_reducible rfl)
                      refine wpAny_take (i := 7) (oi := ⟨some 138, _, _, _, _, _⟩) (v := ?_) rfl (by kernel_rfl) (by kernel_rfl) (by kernel_rfl) (fun _ _ _ h => h) (Or.inl ⟨by kernel_rfl, ?_⟩) ?_
                      rotate_left 1
                      · (intro w; go_simp); try (with_reducible rfl)
                      refine wpAny_take (i := 9) (oi := ⟨some 140, _, _, _, _, _⟩) (v := ?_) rfl (by kernel_rfl) (by kernel_rfl) (by kernel_rfl) (fun _ _ _ h => h) (Or.inl ⟨by kernel_rfl, ?_⟩) ?_
                      rotate_left 1
                      · (intro w; go_simp); try (with_reducible rfl)
                      refine wpAny_ready (rs := [4, 8]) (by kernel_rfl) (by simp) ?_
                      refine AllReady.cons (o := ⟨some 135, _, _, _, _, _⟩) rfl (fun K hK => ?_) ?_
                      · go_simp
                        refine hK _ _ ?_
                        clear hK K
                        refine wpAny_ready (rs := [8]) (by kernel_rfl) (by simp) ?_
                        refine AllReady.cons (o := ⟨some 139, _, _, _, _, _⟩) rfl (fun K hK => ?_) AllReady.nil
                        go_simp
                        refine hK _ _ ?_
                        clear hK K
                        refine wpAny_take (i := 10) (oi := ⟨some 141, _, _, _, _, _⟩) (v := ?_) rfl (by kernel_rfl) (by kernel_rfl) (by kernel_rfl) (fun _ _ _ h => h) (Or.inl ⟨by kernel_rfl, ?_⟩) ?_
                        rotate_left 1
                        · (intro w; go_simp); try (with_reducible rfl)
                        refine wpAny_ready (rs := [11]) (by kernel_rfl) (by simp) ?_
                        refine AllReady.cons (o := ⟨some 142, _, _, _, _, _⟩) rfl (fun K hK => ?_) AllReady.nil
                        go_simp
                        refine hK _ _ ?_
                        clear hK K
                        refine wpAny_take (i := 12) (oi := ⟨some 143, _, _, _, _, _⟩) (v := ?_) rfl (by kernel_rfl) (by kernel_rfl) (by kernel_rfl) (fun _ _ _ h => h) (Or.inl ⟨by kernel_rfl, ?_⟩) ?_
                        rotate_left 1
                        · (intro w; go_simp); try (with_reducible rfl)
                        refine wpAny_take (i := 13) (oi := ⟨some 144, _, _, _, _, _⟩) (v := ?_) rfl (by kernel_rfl) (by kernel_rfl) (by kernel_rfl) (fun _ _ _ h => h) (Or.inl ⟨by kernel_rfl, ?_⟩) ?_
                        rotate_left 1
                        · (intro w; go_simp); try (with_reducible rfl)
                        refine wpAny_take (i := 14) (oi := ⟨some 145, _, _, _, _, _⟩) (v := ?_) rfl (by kernel_rfl) (by kernel_rfl) (by kernel_rfl) (fun _ _ _ h => h) (Or.inl ⟨by kernel_rfl, ?_⟩) ?_
                        rotate_left 1
                        · (intro w; go_simp); try (with_reducible rfl)
                        refine wpAny_take (i := 15) (oi := ⟨some 146, _, _, _, _, _⟩) (v := ?_) rfl (by kernel_rfl) (by kernel_rfl) (by kernel_rfl) (fun _ _ _ h => h) (Or.inl ⟨by kernel_rfl, ?_⟩) ?_
                        rotate_left 1
                        · (intro w; go_simp); try (with_reducible rfl)
                        refine wpAny_take (i := 16) (oi := ⟨some 147, _, _, _, _, _⟩) (v := ?_) rfl (by kernel_rfl) (by kernel_rfl) (by kernel_rfl) (fun _ _ _ h => h) (Or.inl ⟨by kernel_rfl, ?_⟩) ?_
                        rotate_left 1
                        · (intro w; go_simp); try (with_reducible rfl)
                        refine wpAny_ready (rs := [17]) (by kernel_rfl) (by simp) ?_
                        refine AllReady.cons (o := ⟨some 148, _, _, _, _, _⟩) rfl (fun K hK => ?_) AllReady.nil
                        go_simp
                        go_wp2_with (go_at_call 20; refine (HOP.out _ (by first | exact HQ7.out.drew | exact HQ7.out)).mono ?_; rintro e w8 ⟨rfl, hb8⟩; have HQ8 := Lib.hid (HQ7.out.drew.trans (hb8.mono HQ7.out.size)); clear hb8)
                        refine wpAny_take (i := 18) (oi := ⟨some 149, _, _, _, _, _⟩) (v := ?_) rfl (by kernel_rfl) (by kernel_rfl) (by kernel_rfl) (fun _ _ _ h => h) (Or.inl ⟨by kernel_rfl, ?_⟩) ?_
                        rotate_left 1
                        · (intro w; go_simp); try (with_reducible rfl)
                        refine wpAny_take (i := 19) (oi := ⟨some 150, _, _, _, _, _⟩) (v := ?_) rfl (by kernel_rfl) (by kernel_rfl) (by kernel_rfl) (fun _ _ _ h => h) (Or.inl ⟨by kernel_rfl, ?_⟩) ?_
                        rotate_left 1
                        · (intro w; go_simp); try (with_reducible rfl)
                        refine wpAny_done (by kernel_rfl) ?_ _
                        go_simp
                        clear hcs htx hcv7
                        go_wp2_with fail
                        go_roundw
                        case rel => exact ⟨n + 1, by go_num, by omega, HQ8⟩
                        case measure => simp [intOf]; omega
                      refine AllReady.cons (o := ⟨some 139, _, _, _, _, _⟩) rfl (fun K hK => ?_) AllReady.nil
                      go_simp
                      refine hK _ _ ?_
                      clear hK K
                      refine wpAny_take (i := 10) (oi := ⟨some 141, _, _, _, _, _⟩) (v := ?_) rfl (by kernel_rfl) (by kernel_rfl) (by kernel_rfl) (fun _ _ _ h => h) (Or.inl ⟨by kernel_rfl, ?_⟩) ?_
                      rotate_left 1
                      · (intro w; go_simp); try (with_reducible rfl)
                      refine wpAny_ready (rs := [4, 11]) (by kernel_rfl) (by simp) ?_
                      refine AllReady.cons (o := ⟨some 135, _, _, _, _, _⟩) rfl (fun K hK => ?_) ?_
                      · go_simp
                        refine hK _ _ ?_
                        clear hK K
                        refine wpAny_ready (rs := [11]) (by kernel_rfl) (by simp) ?_
                        refine AllReady.cons (o := ⟨some 142, _, _, _, _, _⟩) rfl (fun K hK => ?_) AllReady.nil
                        go_simp
                        refine hK _ _ ?_
                        clear hK K
                        refine wpAny_take (i := 12) (oi := ⟨some 143, _, _, _, _, _⟩) (v := ?_) rfl (by kernel_rfl) (by kernel_rfl) (by kernel_rfl) (fun _ _ _ h => h) (Or.inl ⟨by kernel_rfl, ?_⟩) ?_
                        rotate_left 1
                        · (intro w; go_simp); try (with_reducible rfl)
                        refine wpAny_take (i := 13) (oi := ⟨some 144, _, _, _, _, _⟩) (v := ?_) rfl (by kernel_rfl) (by kernel_rfl) (by kernel_rfl) (fun _ _ _ h => h) (Or.inl ⟨by kernel_rfl, ?_⟩) ?_
                        rotate_left 1
                        · (intro w; go_simp); try (with_reducible rfl)
                        refine wpAny_take (i := 14) (oi := ⟨some 145, _, _, _, _, _⟩) (v := ?_) rfl (by kernel_rfl) (by kernel_rfl) (by kernel_rfl) (fun _ _ _ h => h) (Or.inl ⟨by kernel_rfl, ?_⟩) ?_
                        rotate_left 1
                        · (intro w; go_simp); try (with_reducible rfl)
                        refine wpAny_take (i := 15) (oi := ⟨some 146, _, _, _, _, _⟩) (v := ?_) rfl (by kernel_rfl) (by kernel_rfl) (by kernel_rfl) (fun _ _ _ h => h) (Or.inl ⟨by kernel_rfl, ?_⟩) ?_
                        rotate_left 1
                        · (intro w; go_simp); try (with_reducible rfl)
                        refine wpAny_take (i := 16) (oi := ⟨some 147, _, _, _, _, _⟩) (v := ?_) rfl (by kernel_rfl) (by kernel_rfl) (by kernel_rfl) (fun _ _ _ h => h) (Or.inl ⟨by kernel_rfl, ?_⟩) ?_
                        rotate_left 1
                        · (intro w; go_simp); try (with_reducible rfl)
                        refine wpAny_ready (rs := [17]) (by kernel_rfl) (by simp) ?_
                        refine AllReady.cons (o := ⟨some 148, _, _, _, _, _⟩) rfl (fun K hK => ?_) AllReady.nil
                        go_simp
                        go_wp2_with (go_at_call 20; refine (HOP.out _ (by first | exact HQ7.out.drew | exact HQ7.out)).mono ?_; rintro e w8 ⟨rfl, hb8⟩; have HQ8 := Lib.hid (HQ7.out.drew.trans (hb8.mono HQ7.out.size)); clear hb8)
                        refine wpAny_take (i := 18) (oi := ⟨some 149, _, _, _, _, _⟩) (v := ?_) rfl (by kernel_rfl) (by kernel_rfl) (by kernel_rfl) (fun _ _ _ h => h) (Or.inl ⟨by kernel_rfl, ?_⟩) ?_
                        rotate_left 1
                        · (intro w; go_simp); try (with_reducible rfl)
                        refine wpAny_take (i := 19) (oi := ⟨some 150, _, _, _, _, _⟩) (v := ?_) rfl (by kernel_rfl) (by kernel_rfl) (by kernel_rfl) (fun _ _ _ h => h) (Or.inl ⟨by kernel_rfl, ?_⟩) ?_
                        rotate_left 1
                        · (intro w; go_simp); try (with_reducible rfl)
                        refine wpAny_done (by kernel_rfl) ?_ _
                        go_simp
                        clear hcs htx hcv7
                        go_wp2_with fail
                        go_roundw
                        case rel => exact ⟨n + 1, by go_num, by omega, HQ8⟩
                        case measure => simp [intOf]; omega
                      refine AllReady.cons (o := ⟨some 142, _, _, _, _, _⟩) rfl (fun K hK => ?_) AllReady.nil
                      go_simp
                      refine hK _ _ ?_
                      clear hK K
                      refine wpAny_ready (rs := [4]) (by kernel_rfl) (by simp) ?_
                      refine AllReady.cons (o := ⟨some 135, _, _, _, _, _⟩) rfl (fun K hK => ?_) AllReady.nil
                      go_simp
                      refine hK _ _ ?_
                      clear hK K
                      refine wpAny_take (i := 12) (oi := ⟨some 143, _, _, _, _, _⟩) (v := ?_) rfl (by kernel_rfl) (by kernel_rfl) (by kernel_rfl) (fun _ _ _ h => h) (Or.inl ⟨by kernel_rfl, ?_⟩) ?_
                      rotate_left 1
                      · (intro w; go_simp); try (with_reducible rfl)
                      refine wpAny_take (i := 13) (oi := ⟨some 144, _, _, _, _, _⟩) (v := ?_) rfl (by kernel_rfl) (by kernel_rfl) (by kernel_rfl) (fun _ _ _ h => h) (Or.inl ⟨by kernel_rfl, ?_⟩) ?_
                      rotate_left 1
                      · (intro w; go_simp); try (with_reducible rfl)
                      refine wpAny_take (i := 14) (oi := ⟨some 145, _, _, _, _, _⟩) (v := ?_) rfl (by kernel_rfl) (by kernel_rfl) (by kernel_rfl) (fun _ _ _ h => h) (Or.inl ⟨by kernel_rfl, ?_⟩) ?_
                      rotate_left 1
                      · (intro w; go_simp); try (with_reducible rfl)
                      refine wpAny_take (i := 15) (oi := ⟨some 146, _, _, _, _, _⟩) (v := ?_) rfl (by kernel_rfl) (by kernel_rfl) (by kernel_rfl) (fun _ _ _ h => h) (Or.inl ⟨by kernel_rfl, ?_⟩) ?_
                      rotate_left 1
                      · (intro w; go_simp); try (with_reducible rfl)
                      refine wpAny_take (i := 16) (oi := ⟨some 147, _, _, _, _, _⟩) (v := ?_) rfl (by kernel_rfl) (by kernel_rfl) (by kernel_rfl) (fun _ _ _ h => h) (Or.inl ⟨by kernel_rfl, ?_⟩) ?_
                      rotate_left 1
                      · (intro w; go_simp); try (with_reducible rfl)
                      refine wpAny_ready (rs := [17]) (by kernel_rfl) (by simp) ?_
                      refine AllReady.cons (o := ⟨some 148, _, _, _, _, _⟩) rfl (fun K hK => ?_) AllReady.nil
                      go_simp
                      go_wp2_with (go_at_call 20; refine (HOP.out _ (by first | exact HQ7.out.drew | exact HQ7.out)).mono ?_; rintro e w8 ⟨rfl, hb8⟩; have HQ8 := Lib.hid (HQ7.out.drew.trans (hb8.mono HQ7.out.size)); clear hb8)
                      refine wpAny_take (i := 18) (oi := ⟨some 149, _, _, _, _, _⟩) (v := ?_) rfl (by kernel_rfl) (by kernel_rfl) (by kernel_rfl) (fun _ _ _ h => h) (Or.inl ⟨by kernel_rfl, ?_⟩) ?_
                      rotate_left 1
                      · (intro w; go_simp); try (with_reducible rfl)
                      refine wpAny_take (i := 19) (oi := ⟨some 150, _, _, _, _, _⟩) (v := ?_) rfl (by kernel_rfl) (by kernel_rfl) (by kernel_rfl) (fun _ _ _ h => h) (Or.inl ⟨by kernel_rfl, ?_⟩) ?_
                      rotate_left 1
                      · (intro w; go_simp); try (with_reducible rfl)
                      refine wpAny_done (by kernel_rfl) ?_ _
                      go_simp
                      clear hcs htx hcv7
                      go_wp2_with fail
                      go_roundw
                      case rel => exact ⟨n + 1, by go_num, by omega, HQ8⟩
                      case measure => simp [intOf]; omega
                  · have z10 : ¬ (n : Int) < (len2 : Int) := by omega
                    have HKK : Hid (kept ks H n = 0 ∧ 0 < L) := Lib.hid ⟨by rw [HKE.out, List.getD_eq_getElem?_getD, List.getElem?_eq_none (by rw [HKS.out.1]; omega)]; simp, by omega⟩
                    have hxz : ¬ (0 : Int) ≥ (L : Int) := by omega
                    have hKL : (0 : Int) < (L : Int) := by omega
                    have hKN : 0 < L := by omega
                    go_wp2_with fail
                    try clear hK
                    rw [HKK.out.1] at c7
                    refine c7.mono ?_
                    rintro e w7 ⟨v7, rfl, hf7, hb7⟩
                    have HQ7 := Lib.hid (HQ.out.trans (hb7.mono HQ.out.size))
                    obtain ⟨a7, c7', hv7, hA7, _⟩ := hf7
                    have HS7 := Lib.hid (HS6.out.later HQ7.out)
                    have hcs := HS7.out.cell hlt hlt
                    rw [show rowVal bs cp H n = .slice (some ⟨bs n, 0, none⟩) L (cp n) by unfold rowVal; rw [HLE.out]] at hcs
                    have htx := HS7.out.text (k := 0) hlt (by rw [← HLE.out]; exact HKK.out.2)
                    generalize (H n).getD 0 [] = T7 at *
                    have hcv7 : (convert 36 9 (.slice a7 T7.length c7')).run Try.prog w7.drew = .ok (.string (str T7)) w7.drew := str_bytes (w := w7.drew) (show Bts w7.drew a7 T7.length T7 from hA7.1)
                    rw [hv7]
                    generalize str T7 = S7 at *
                    generalize T7.length = L7 at *
                    clear c7 hb7 hv7 hA7 hcell
                    go_wp2_with fail
                    refine wp_region_any (by kernel_rfl) ?_
                    try (change wpAny _ _ _ _ _ _ _ (World.drew _))
                    refine wpAny_take (i := 0) (oi := ⟨some 131, _, _, _, _, _⟩) (v := ?_) rfl (by kernel_rfl) (by kernel_rfl) (by kernel_rfl) (fun _ _ _ h => h) (Or.inl ⟨by kernel_rfl, ?_⟩) ?_
                    rotate_left 1
                    · (intro w; go_simp); try (with_reducible rfl)
                    refine wpAny_take (i := 1) (oi := ⟨some 132, _, _, _, _, _⟩) (v := ?_) rfl (by kernel_rfl) (by kernel_rfl) (by kernel_rfl) (fun _ _ _ h => h) (Or.inl ⟨by kernel_rfl, ?_⟩) ?_
                    rotate_left 1
                    · (intro w; go_simp); try (with_reducible rfl)
                    refine wpAny_take (i := 2) (oi := ⟨some 133, _, _, _, _, _⟩) (v := ?_) rfl (by kernel_rfl) (by kernel_rfl) (by kernel_rfl) (fun _ _ _ h => h) (Or.inl ⟨by kernel_rfl, ?_⟩) ?_
                    rotate_left 1
                    · (intro w; go_simp); try (with_reducible rfl)
                    refine wpAny_take (i := 3) (oi := ⟨some 134, _, _, _, _, _⟩) (v := ?_) rfl (by kernel_rfl) (by kernel_rfl) (by kernel_rfl) (fun _ _ _ h => h) (Or.inl ⟨by kernel_rfl, ?_⟩) ?_
                    rotate_left 1
                    · (intro w; go_simp); try (with_reducible rfl)
                    refine wpAny_take (i := 5) (oi := ⟨some 136, _, _, _, _, _⟩) (v := ?_) rfl (by kernel_rfl) (by kernel_rfl) (by kernel_rfl) (fun _ _ _ h => h) (Or.inl ⟨by kernel_rfl, ?_⟩) ?_
                    rotate_left 1
                    · (intro w; go_simp); try (with_reducible rfl)
                    refine wpAny_take (i := 6) (oi := ⟨some 137, _, _, _, _, _⟩) (v := ?_) rfl (by kernel_rfl) (by kernel_rfl) (by kernel_rfl) (fun _ _ _ h => h) (Or.inl ⟨by kernel_rfl, ?_⟩) ?_
                    rotate_left 1
                    · (intro w; go_simp); try (with_reducible rfl)
                    refine wpAny_take (i := 7) (oi := ⟨some 138, _, _, _, _, _⟩) (v := ?_) rfl (by kernel_rfl) (by kernel_rfl) (by kernel_rfl) (fun _ _ _ h => h) (Or.inl ⟨by kernel_rfl, ?_⟩) ?_
                    rotate_left 1
                    · (intro w; go_simp); try (with_reducible rfl)
                    refine wpAny_take (i := 9) (oi := ⟨some 140, _, _, _, _, _⟩) (v := ?_) rfl (by kernel_rfl) (by kernel_rfl) (by kernel_rfl) (fun _ _ _ h => h) (Or.inl ⟨by kernel_rfl, ?_⟩) ?_
                    rotate_left 1
                    · (intro w; go_simp); try (with_reducible rfl)
                    refine wpAny_ready (rs := [4, 8]) (by kernel_rfl) (by simp) ?_
                    refine AllReady.cons (o := ⟨some 135, _, _, _, _, _⟩) rfl (fun K hK => ?_) ?_
                    · go_simp
                      refine hK _ _ ?_
                      clear hK K
                      refine wpAny_ready (rs := [8]) (by kernel_rfl) (by simp) ?_
                      refine AllReady.cons (o := ⟨some 139, _, _, _, _, _⟩) rfl (fun K hK => ?_) AllReady.nil
                      go_simp
                      refine hK _ _ ?_
                      clear hK K
                      refine wpAny_take (i := 10) (oi := ⟨some 141, _, _, _, _, _⟩) (v := ?_) rfl (by kernel_rfl) (by kernel_rfl) (by kernel_rfl) (fun _ _ _ h => h) (Or.inl ⟨by kernel_rfl, ?_⟩) ?_
                      rotate_left 1
                      · (intro w; go_simp); try (with_reducible rfl)
                      refine wpAny_ready (rs := [11]) (by kernel_rfl) (by simp) ?_
                      refine AllReady.cons (o := ⟨some 142, _, _, _, _, _⟩) rfl (fun K hK => ?_) AllReady.nil
                      go_simp
                      refine hK _ _ ?_
                      clear hK K
                      refine wpAny_take (i := 12) (oi := ⟨some 143, _, _, _, _, _⟩) (v := ?_) rfl (by kernel_rfl) (by kernel_rfl) (by kernel_rfl) (fun _ _ _ h => h) (Or.inl ⟨by kernel_rfl, ?_⟩) ?_
                      rotate_left 1
                      · (intro w; go_simp); try (with_reducible rfl)
                      refine wpAny_take (i := 13) (oi := ⟨some 144, _, _, _, _, _⟩) (v := ?_) rfl (by kernel_rfl) (by kernel_rfl) (by kernel_rfl) (fun _ _ _ h => h) (Or.inl ⟨by kernel_rfl, ?_⟩) ?_
                      rotate_left 1
                      · (intro w; go_simp); try (with_reducible rfl)
                      refine wpAny_take (i := 14) (oi := ⟨some 145, _, _, _, _, _⟩) (v := ?_) rfl (by kernel_rfl) (by kernel_rfl) (by kernel_rfl) (fun _ _ _ h => h) (Or.inl ⟨by kernel_rfl, ?_⟩) ?_
                      rotate_left 1
                      · (intro w; go_simp); try (with_reducible rfl)
                      refine wpAny_take (i := 15) (oi := ⟨some 146, _, _, _, _, _⟩) (v := ?_) rfl (by kernel_rfl) (by kernel_rfl) (by kernel_rfl) (fun _ _ _ h => h) (Or.inl ⟨by kernel_rfl, ?_⟩) ?_
                      rotate_left 1
                      · (intro w; go_simp); try (with_reducible rfl)
                      refine wpAny_take (i := 16) (oi := ⟨some 147, _, _, _, _, _⟩) (v := ?_) rfl (by kernel_rfl) (by kernel_rfl) (by kernel_rfl) (fun _ _ _ h => h) (Or.inl ⟨by kernel_rfl, ?_⟩) ?_
                      rotate_left 1
                      · (intro w; go_simp); try (with_reducible rfl)
                      refine wpAny_ready (rs := [17]) (by kernel_rfl) (by simp) ?_
                      refine AllReady.cons (o := ⟨some 148, _, _, _, _, _⟩) rfl (fun K hK => ?_) AllReady.nil
                      go_simp
                      go_wp2_with (go_at_call 20; refine (HOP.out _ (by first | exact HQ7.out.drew | exact HQ7.out)).mono ?_; rintro e w8 ⟨rfl, hb8⟩; have HQ8 := Lib.hid (HQ7.out.drew.trans (hb8.mono HQ7.out.size)); clear hb8)
                      refine wpAny_take (i := 18) (oi := ⟨some 149, _, _, _, _, _⟩) (v := ?_) rfl (by kernel_rfl) (by kernel_rfl) (by kernel_rfl) (fun _ _ _ h => h) (Or.inl ⟨by kernel_rfl, ?_⟩) ?_
                      rotate_left 1
                      · (intro w; go_simp); try (with_reducible rfl)
                      refine wpAny_take (i := 19) (oi := ⟨some 150, _, _, _, _, _⟩) (v := ?_) rfl (by kernel_rfl) (by kernel_rfl) (by kernel_rfl) (fun _ _ _ h => h) (Or.inl ⟨by kernel_rfl, ?_⟩) ?_
                      rotate_left 1
                      · (intro w; go_simp); try (with_reducible rfl)
                      refine wpAny_done (by kernel_rfl) ?_ _
                      go_simp
                      clear hcs htx hcv7
                      go_wp2_with fail
                      go_roundw
                      case rel => exact ⟨n + 1, by go_num, by omega, HQ8⟩
                      case measure => simp [intOf]; omega
                    refine AllReady.cons (o := ⟨some 139, _, _, _, _, _⟩) rfl (fun K hK => ?_) AllReady.nil
                    go_simp
                    refine hK _ _ ?_
                    clear hK K
                    refine wpAny_take (i := 10) (oi := ⟨some 141, _, _, _, _, _⟩) (v := ?_) rfl (by kernel_rfl) (by kernel_rfl) (by kernel_rfl) (fun _ _ _ h => h) (Or.inl ⟨by kernel_rfl, ?_⟩) ?_
                    rotate_left 1
                    · (intro w; go_simp); try (with_reducible rfl)
                    refine wpAny_ready (rs := [4, 11]) (by kernel_rfl) (by simp) ?_
                    refine AllReady.cons (o := ⟨some 135, _, _, _, _, _⟩) rfl (fun K hK => ?_) ?_
                    · go_simp
                      refine hK _ _ ?_
                      clear hK K
                      refine wpAny_ready (rs := [11]) (by kernel_rfl) (by simp) ?_
                      refine AllReady.cons (o := ⟨some 142, _, _, _, _, _⟩) rfl (fun K hK => ?_) AllReady.nil
                      go_simp
                      refine hK _ _ ?_
                      clear hK K
                      refine wpAny_take (i := 12) (oi := ⟨some 143, _, _, _, _, _⟩) (v := ?_) rfl (by kernel_rfl) (by kernel_rfl) (by kernel_rfl) (fun _ _ _ h => h) (Or.inl ⟨by kernel_rfl, ?_⟩) ?_
                      rotate_left 1
                      · (intro w; go_simp); try (with_reducible rfl)
                      refine wpAny_take (i := 13) (oi := ⟨some 144, _, _, _, _, _⟩) (v := ?_) rfl (by kernel_rfl) (by kernel_rfl) (by kernel_rfl) (fun _ _ _ h => h) (Or.inl ⟨by kernel_rfl, ?_⟩) ?_
                      rotate_left 1
                      · (intro w; go_simp); try (with_reducible rfl)
                      refine wpAny_take (i := 14) (oi := ⟨some 145, _, _, _, _, _⟩) (v := ?_) rfl (by kernel_rfl) (by kernel_rfl) (by kernel_rfl) (fun _ _ _ h => h) (Or.inl ⟨by kernel_rfl, ?_⟩) ?_
                      rotate_left 1
                      · (intro w; go_simp); try (with_reducible rfl)
                      refine wpAny_take (i := 15) (oi := ⟨some 146, _, _, _, _, _⟩) (v := ?_) rfl (by kernel_rfl) (by kernel_rfl) (by kernel_rfl) (fun _ _ _ h => h) (Or.inl ⟨by kernel_rfl, ?_⟩) ?_
                      rotate_left 1
                      · (intro w; go_simp); try (with_reducible rfl)
                      refine wpAny_take (i := 16) (oi := ⟨some 147, _, _, _, _, _⟩) (v := ?_) rfl (by kernel_rfl) (by kernel_rfl) (by kernel_rfl) (fun _ _ _ h => h) (Or.inl ⟨by kernel_rfl, ?_⟩) ?_
                      rotate_left 1
                      · (intro w; go_simp); try (with_reducible rfl)
                      refine wpAny_ready (rs := [17]) (by kernel_rfl) (by simp) ?_
                      refine AllReady.cons (o := ⟨some 148, _, _, _, _, _⟩) rfl (fun K hK => ?_) AllReady.nil
                      go_simp
                      go_wp2_with (go_at_call 20; refine (HOP.out _ (by first | exact HQ7.out.drew | exact HQ7.out)).mono ?_; rintro e w8 ⟨rfl, hb8⟩; have HQ8 := Lib.hid (HQ7.out.drew.trans (hb8.mono HQ7.out.size)); clear hb8)
                      refine wpAny_take (i := 18) (oi := ⟨some 149, _, _, _, _, _⟩) (v := ?_) rfl (by kernel_rfl) (by kernel_rfl) (by kernel_rfl) (fun _ _ _ h => h) (Or.inl ⟨by kernel_rfl, ?_⟩) ?_
                      rotate_left 1
                      · (intro w; go_simp); try (with_reducible rfl)
                      refine wpAny_take (i := 19) (oi := ⟨some 150, _, _, _, _, _⟩) (v := ?_) rfl (by kernel_rfl) (by kernel_rfl) (by kernel_rfl) (fun _ _ _ h => h) (Or.inl ⟨by kernel_rfl, ?_⟩) ?_
                      rotate_left 1
                      · (intro w; go_simp); try (with_reducible rfl)
                      refine wpAny_done (by kernel_rfl) ?_ _
                      go_simp
                      clear hcs htx hcv7
                      go_wp2_with fail
                      go_roundw
                      case rel => exact ⟨n + 1, by go_num, by omega, HQ8⟩
                      case measure => simp [intOf]; omega
                    refine AllReady.cons (o := ⟨some 142, _, _, _, _, _⟩) rfl (fun K hK => ?_) AllReady.nil
                    go_simp
                    refine hK _ _ ?_
                    clear hK K
                    refine wpAny_ready (rs := [4]) (by kernel_rfl) (by simp) ?_
                    refine AllReady.cons (o := ⟨some 135, _, _, _, _, _⟩) rfl (fun K hK => ?_) AllReady.nil
                    go_simp
                    refine hK _ _ ?_
                    clear hK K
                    refine wpAny_take (i := 12) (oi := ⟨some 143, _, _, _, _, _⟩) (v := ?_) rfl (by kernel_rfl) (by kernel_rfl) (by kernel_rfl) (fun _ _ _ h => h) (Or.inl ⟨by kernel_rfl, ?_⟩) ?_
                    rotate_left 1
                    · (intro w; go_simp); try (with_reducible rfl)
                    refine wpAny_take (i := 13) (oi := ⟨some 144, _, _, _, _, _⟩) (v := ?_) rfl (by kernel_rfl) (by kernel_rfl) (by kernel_rfl) (fun _ _ _ h => h) (Or.inl ⟨by kernel_rfl, ?_⟩) ?_
                    rotate_left 1
                    · (intro w; go_simp); try (with_reducible rfl)
                    refine wpAny_take (i := 14) (oi := ⟨some 145, _, _, _, _, _⟩) (v := ?_) rfl (by kernel_rfl) (by kernel_rfl) (by kernel_rfl) (fun _ _ _ h => h) (Or.inl ⟨by kernel_rfl, ?_⟩) ?_
                    rotate_left 1
                    · (intro w; go_simp); try (with_reducible rfl)
                    refine wpAny_take (i := 15) (oi := ⟨some 146, _, _, _, _, _⟩) (v := ?_) rfl (by kernel_rfl) (by kernel_rfl) (by kernel_rfl) (fun _ _ _ h => h) (Or.inl ⟨by kernel_rfl, ?_⟩) ?_
                    rotate_left 1
                    · (intro w; go_simp); try (with_reducible rfl)
                    refine wpAny_take (i := 16) (oi := ⟨some 147, _, _, _, _, _⟩) (v := ?_) rfl (by kernel_rfl) (by kernel_rfl) (by kernel_rfl) (fun _ _ _ h => h) (Or.inl ⟨by kernel_rfl, ?_⟩) ?_
                    rotate_left 1
                    · (intro w; go_simp); try (with_reducible rfl)
                    refine wpAny_ready (rs := [17]) (by kernel_rfl) (by simp) ?_
                    refine AllReady.cons (o := ⟨some 148, _, _, _, _, _⟩) rfl (fun K hK => ?_) AllReady.nil
                    go_simp
                    go_wp2_with (go_at_call 20; refine (HOP.out _ (by first | exact HQ7.out.drew | exact HQ7.out)).mono ?_; rintro e w8 ⟨rfl, hb8⟩; have HQ8 := Lib.hid (HQ7.out.drew.trans (hb8.mono HQ7.out.size)); clear hb8)
                    refine wpAny_take (i := 18) (oi := ⟨some 149, _, _, _, _, _⟩) (v := ?_) rfl (by kernel_rfl) (by kernel_rfl) (by kernel_rfl) (fun _ _ _ h => h) (Or.inl ⟨by kernel_rfl, ?_⟩) ?_
                    rotate_left 1
                    · (intro w; go_simp); try (with_reducible rfl)
                    refine wpAny_take (i := 19) (oi := ⟨some 150, _, _, _, _, _⟩) (v := ?_) rfl (by kernel_rfl) (by kernel_rfl) (by kernel_rfl) (fun _ _ _ h => h) (Or.inl ⟨by kernel_rfl, ?_⟩) ?_
                    rotate_left 1
                    · (intro w; go_simp); try (with_reducible rfl)
                    refine wpAny_done (by kernel_rfl) ?_ _
                    go_simp
                    clear hcs htx hcv7
                    go_wp2_with fail
                    go_roundw
                    case rel => exact ⟨n + 1, by go_num, by omega, HQ8⟩
                    case measure => simp [intOf]; omega
                · have z9 : ¬ (n : Int) < 6 := by omega
                  go_wp2_with fail
                  go_ret
                  exact ⟨rfl, HS6.out.outer.2.2.2.trans (HQ.out.mono HS6.out.base_le)⟩
            · have z2 : ¬ (i : Int) < (len1 : Int) := by omega
              obtain ⟨ks, hks⟩ := HK.out
              have c6 := diskOk.restart (fun k => k < w.heap.size) a2 len2 cap2 ks HD.out (hks.later HW.out) (fun k hk => by have := (HS.out.away.1 k hk).1; omega)
              have HKS := Lib.hid hks
              clear hks
              go_wp2_with fail
              refine c6.mono ?_
              rintro e w6 ⟨F6, rfl, hD6, hG6⟩
              have HD6 : Hid (DI w6 a F6 (restarted s ks)) := Lib.hid hD6
              have HS6 := Lib.hid (HS.out.grew hG6)
              clear c6 hD6 hG6 HD HS HW
              go_wp2_with fail
              go_loopw [14] (fun nv wq => ∃ n : Nat, nv = .int .i64 (n : Int) ∧ n ≤ 6 ∧ Hid (Below w6.heap.size w6 wq)) (fun nv _ => 6 - (intOf nv).toNat)
              case atStart => exact ⟨0, rfl, by decide, Lib.hid (Below.refl _ _)⟩
              case round =>
                obtain ⟨n, rfl, hn, HQ⟩ := hrel
                by_cases hlt : n < 6
                · have z9 : (n : Int) < 6 := by omega
                  have HSQ := Lib.hid (HS6.out.later HQ.out)
                  obtain ⟨L, hL⟩ : ∃ L, L = (H n).length := ⟨_, rfl⟩
                  have hL1 : 1 ≤ L := by rw [hL]; exact List.length_pos_iff.2 (HSQ.out.rows n hlt).1
                  have hL51 : L ≤ 51 := by rw [hL]; have := HL.out n hlt; omega
                  have HLE := Lib.hid hL
                  have hcell := HSQ.out.cell hlt hlt
                  rw [show rowVal bs cp H n = .slice (some ⟨bs n, 0, none⟩) L (cp n) by unfold rowVal; rw [hL]] at hcell
                  have c7 := diskOk.get (n : Int) (diskOk.later HD6.out HQ.out) (by omega)
                  rw [(six_restart HX.out ks hlt).1, (six_restart HX.out ks hlt).2.1] at c7
                  have HOP : Hid (∀ wx, Below w6.heap.size w6 wx → Calls Try.prog 20 #[.pointer (some a), .int .i64 (n : Int)] wx fun e w' => e = .returned (.int .i64 0) ∧ Below wx.heap.size wx w') := Lib.hid (fun wx hb => by
                    have h := diskOk.opens (n : Int) (diskOk.later HD6.out hb) (by omega)
                    rw [(six_restart HX.out ks hlt).2.2] at h
                    exact h)
                  have HKE : Hid (kept ks H n = min (ks.getD n 0).toNat (L - 1)) := Lib.hid (by unfold kept; rw [← hL])
                  clear hL
                  by_cases hkl : n < len2
                  · have z10 : (n : Int) < (len2 : Int) := by omega
                    obtain ⟨b2, o2, rfl, _, hkc⟩ := HKS.out.2.resolve_left (by omega)
                    obtain ⟨x, hx⟩ : ∃ x, ks.getD n 0 = x := ⟨_, rfl⟩
                    have hkx : ks[n]? = some x := by
                      have hl : n < ks.length := by rw [HKS.out.1]; exact hkl
                      rw [← hx, List.getD_eq_getElem?_getD, List.getElem?_eq_getElem hl]
                      rfl
                    have hkb := (hkc n x hkx).2
                    have hkcell := HSQ.out.outer.2.2.2.cell (p := ⟨b2, o2 + n, none⟩) (World.block_lt_of_cell? _ _ (hkc n x hkx).1) |>.trans (hkc n x hkx).1
                    rw [hx] at HKE
                    clear hkc hkx hx
                    by_cases hx0 : 0 < x
                    · by_cases hxl : (L : Int) ≤ x
                      · obtain ⟨K, hK⟩ : ∃ K, L = K + 1 := ⟨L - 1, by omega⟩
                        have HKK : Hid (kept ks H n = K ∧ K < L) := Lib.hid ⟨by rw [HKE.out]; omega, by omega⟩
                        have hKL : (K : Int) < (L : Int) := by omega
                        go_wp2_with fail
                        try clear hK
                        rw [HKK.out.1] at c7
                        refine c7.mono ?_
                        rintro e w7 ⟨v7, rfl, hf7, hb7⟩
                        have HQ7 := Lib.hid (HQ.out.trans (hb7.mono HQ.out.size))
                        obtain ⟨a7, c7', hv7, hA7, _⟩ := hf7
                        have HS7 := Lib.hid (HS6.out.later HQ7.out)
                        have hcs := HS7.out.cell hlt hlt
                        rw [show rowVal bs cp H n = .slice (some ⟨bs n, 0, none⟩) L (cp n) by unfold rowVal; rw [HLE.out]] at hcs
                        have htx := HS7.out.text (k := K) hlt (by rw [← HLE.out]; exact HKK.out.2)
                        generalize (H n).getD K [] = T7 at *
                        have hcv7 : (convert 36 9 (.slice a7 T7.length c7')).run Try.prog w7.drew = .ok (.string (str T7)) w7.drew := str_bytes (w := w7.drew) (show Bts w7.drew a7 T7.length T7 from hA7.1)
                        rw [hv7]
                        generalize str T7 = S7 at *
                        generalize T7.length = L7 at *
                        clear c7 hb7 hv7 hA7 hcell
                        go_wp2_with fail
                        refine wp_region_any (by kernel_rfl) ?_
                        try (change wpAny _ _ _ _ _ _ _ (World.drew _))
                        refine wpAny_take (i := 0) (oi := ⟨some 131, _, _, _, _, _⟩) (v := ?_) rfl (by kernel_rfl) (by kernel_rfl) (by kernel_rfl) (fun _ _ _ h => h) (Or.inl ⟨by kernel_rfl, ?_⟩) ?_
                        rotate_left 1
                        · (intro w; go_simp); try (with_reducible rfl)
                        refine wpAny_take (i := 1) (oi := ⟨some 132, _, _, _, _, _⟩) (v := ?_) rfl (by kernel_rfl) (by kernel_rfl) (by kernel_rfl) (fun _ _ _ h => h) (Or.inl ⟨by kernel_rfl, ?_⟩) ?_
                        rotate_left 1
                        · (intro w; go_simp); try (with_reducible rfl)
                        refine wpAny_take (i := 2) (oi := ⟨some 133, _, _, _, _, _⟩) (v := ?_) rfl (by kernel_rfl) (by kernel_rfl) (by kernel_rfl) (fun _ _ _ h => h) (Or.inl ⟨by kernel_rfl, ?_⟩) ?_
                        rotate_left 1
                        · (intro w; go_simp); try (with_reducible rfl)
                        refine wpAny_take (i := 3) (oi := ⟨some 134, _, _, _, _, _⟩) (v := ?_) rfl (by kernel_rfl) (by kernel_rfl) (by kernel_rfl) (fun _ _ _ h => h) (Or.inl ⟨by kernel_rfl, ?_⟩) ?_
                        rotate_left 1
                        · (intro w; go_simp); try (with_reducible rfl)
                        refine wpAny_take (i := 5) (oi := ⟨some 136, _, _, _, _, _⟩) (v := ?_) rfl (by kernel_rfl) (by kernel_rfl) (by kernel_rfl) (fun _ _ _ h => h) (Or.inl ⟨by kernel_rfl, ?_⟩) ?_
                        rotate_left 1
                        · (intro w; go_simp); try (with_reducible rfl)
                        refine wpAny_take (i := 6) (oi := ⟨some 137, _, _, _, _, _⟩) (v := ?_) rfl (by kernel_rfl) (by kernel_rfl) (by kernel_rfl) (fun _ _ _ h => h) (Or.inl ⟨by kernel_rfl, ?_⟩) ?_
                        rotate_left 1
                        · (intro w; go_simp); try (with_reducible rfl)
                        refine wpAny_take (i := 7) (oi := ⟨some 138, _, _, _, _, _⟩) (v := ?_) rfl (by kernel_rfl) (by kernel_rfl) (by kernel_rfl) (fun _ _ _ h => h) (Or.inl ⟨by kernel_rfl, ?_⟩) ?_
                        rotate_left 1
                        · (intro w; go_simp); try (with_reducible rfl)
                        refine wpAny_take (i := 9) (oi := ⟨some 140, _, _, _, _, _⟩) (v := ?_) rfl (by kernel_rfl) (by kernel_rfl) (by kernel_rfl) (fun _ _ _ h => h) (Or.inl ⟨by kernel_rfl, ?_⟩) ?_
                        rotate_left 1
                        · (intro w; go_simp); try (with_reducible rfl)
                        refine wpAny_ready (rs := [4, 8]) (by kernel_rfl) (by simp) ?_
                        refine AllReady.cons (o := ⟨some 135, _, _, _, _, _⟩) rfl (fun K hK => ?_) ?_
                        · go_simp
                          refine hK _ _ ?_
                          clear hK K
                          refine wpAny_ready (rs := [8]) (by kernel_rfl) (by simp) ?_
                          refine AllReady.cons (o := ⟨some 139, _, _, _, _, _⟩) rfl (fun K hK => ?_) AllReady.nil
                          go_simp
                          refine hK _ _ ?_
                          clear hK K
                          refine wpAny_take (i := 10) (oi := ⟨some 141, _, _, _, _, _⟩) (v := ?_) rfl (by kernel_rfl) (by kernel_rfl) (by kernel_rfl) (fun _ _ _ h => h) (Or.inl ⟨by kernel_rfl, ?_⟩) ?_
                          rotate_left 1
                          · (intro w; go_simp); try (with_reducible rfl)
                          refine wpAny_ready (rs := [11]) (by kernel_rfl) (by simp) ?_
                          refine AllReady.cons (o := ⟨some 142, _, _, _, _, _⟩) rfl (fun K hK => ?_) AllReady.nil
                          go_simp
                          refine hK _ _ ?_
                          clear hK K
                          refine wpAny_take (i := 12) (oi := ⟨some 143, _, _, _, _, _⟩) (v := ?_) rfl (by kernel_rfl) (by kernel_rfl) (by kernel_rfl) (fun _ _ _ h => h) (Or.inl ⟨by kernel_rfl, ?_⟩) ?_
                          rotate_left 1
                          · (intro w; go_simp); try (with_reducible rfl)
                          refine wpAny_take (i := 13) (oi := ⟨some 144, _, _, _, _, _⟩) (v := ?_) rfl (by kernel_rfl) (by kernel_rfl) (by kernel_rfl) (fun _ _ _ h => h) (Or.inl ⟨by kernel_rfl, ?_⟩) ?_
                          rotate_left 1
                          · (intro w; go_simp); try (with_reducible rfl)
                          refine wpAny_take (i := 14) (oi := ⟨some 145, _, _, _, _, _⟩) (v := ?_) rfl (by kernel_rfl) (by kernel_rfl) (by kernel_rfl) (fun _ _ _ h => h) (Or.inl ⟨by kernel_rfl, ?_⟩) ?_
                          rotate_left 1
                          · (intro w; go_simp); try (with_reducible rfl)
                          refine wpAny_take (i := 15) (oi := ⟨some 146, _, _, _, _, _⟩) (v := ?_) rfl (by kernel_rfl) (by kernel_rfl) (by kernel_rfl) (fun _ _ _ h => h) (Or.inl ⟨by kernel_rfl, ?_⟩) ?_
                          rotate_left 1
                          · (intro w; go_simp); try (with_reducible rfl)
                          refine wpAny_take (i := 16) (oi := ⟨some 147, _, _, _, _, _⟩) (v := ?_) rfl (by kernel_rfl) (by kernel_rfl) (by kernel_rfl) (fun _ _ _ h => h) (Or.inl ⟨by kernel_rfl, ?_⟩) ?_
                          rotate_left 1
                          · (intro w; go_simp); try (with_reducible rfl)
                          refine wpAny_ready (rs := [17]) (by kernel_rfl) (by simp) ?_
                          refine AllReady.cons (o := ⟨some 148, _, _, _, _, _⟩) rfl (fun K hK => ?_) AllReady.nil
                          go_simp
                          go_wp2_with (go_at_call 20; refine (HOP.out _ (by first | exact HQ7.out.drew | exact HQ7.out)).mono ?_; rintro e w8 ⟨rfl, hb8⟩; have HQ8 := Lib.hid (HQ7.out.drew.trans (hb8.mono HQ7.out.size)); clear hb8)
                          refine wpAny_take (i := 18) (oi := ⟨some 149, _, _, _, _, _⟩) (v := ?_) rfl (by kernel_rfl) (by kernel_rfl) (by kernel_rfl) (fun _ _ _ h => h) (Or.inl ⟨by kernel_rfl, ?_⟩) ?_
                          rotate_left 1
                          · (intro w; go_simp); try (with_reducible rfl)
                          refine wpAny_take (i := 19) (oi := ⟨some 150, _, _, _, _, _⟩) (v := ?_) rfl (by kernel_rfl) (by kernel_rfl) (by kernel_rfl) (fun _ _ _ h => h) (Or.inl ⟨by kernel_rfl, ?_⟩) ?_
                          rotate_left 1
                          · (intro w; go_simp); try (with_reducible rfl)
                          refine wpAny_done (by kernel_rfl) ?_ _
                          go_simp
                          clear hcs htx hcv7
                          go_wp2_with fail
                          go_roundw
                          case rel => exact ⟨n + 1, by go_num, by omega, HQ8⟩
                          case measure => simp [intOf]; omega
                        refine AllReady.cons (o := ⟨some 139, _, _, _, _, _⟩) rfl (fun K hK => ?_) AllReady.nil
                        go_simp
                        refine hK _ _ ?_
                        clear hK K
                        refine wpAny_take (i := 10) (oi := ⟨some 141, _, _, _, _, _⟩) (v := ?_) rfl (by kernel_rfl) (by kernel_rfl) (by kernel_rfl) (fun _ _ _ h => h) (Or.inl ⟨by kernel_rfl, ?_⟩) ?_
                        rotate_left 1
                        · (intro w; go_simp); try (with_reducible rfl)
                        refine wpAny_ready (rs := [4, 11]) (by kernel_rfl) (by simp) ?_
                        refine AllReady.cons (o := ⟨some 135, _, _, _, _, _⟩) rfl (fun K hK => ?_) ?_
                        · go_simp
                          refine hK _ _ ?_
                          clear hK K
                          refine wpAny_ready (rs := [11]) (by kernel_rfl) (by simp) ?_
                          refine AllReady.cons (o := ⟨some 142, _, _, _, _, _⟩) rfl (fun K hK => ?_) AllReady.nil
                          go_simp
                          refine hK _ _ ?_
                          clear hK K
                          refine wpAny_take (i := 12) (oi := ⟨some 143, _, _, _, _, _⟩) (v := ?_) rfl (by kernel_rfl) (by kernel_rfl) (by kernel_rfl) (fun _ _ _ h => h) (Or.inl ⟨by kernel_rfl, ?_⟩) ?_
                          rotate_left 1
                          · (intro w; go_simp); try (with_reducible rfl)
                          refine wpAny_take (i := 13) (oi := ⟨some 144, _, _, _, _, _⟩) (v := ?_) rfl (by kernel_rfl) (by kernel_rfl) (by kernel_rfl) (fun _ _ _ h => h) (Or.inl ⟨by kernel_rfl, ?_⟩) ?_
                          rotate_left 1
                          · (intro w; go_simp); try (with_reducible rfl)
                          refine wpAny_take (i := 14) (oi := ⟨some 145, _, _, _, _, _⟩) (v := ?_) rfl (by kernel_rfl) (by kernel_rfl) (by kernel_rfl) (fun _ _ _ h => h) (Or.inl ⟨by kernel_rfl, ?_⟩) ?_
                          rotate_left 1
                          · (intro w; go_simp); try (with_reducible rfl)
                          refine wpAny_take (i := 15) (oi := ⟨some 146, _, _, _, _, _⟩) (v := ?_) rfl (by kernel_rfl) (by kernel_rfl) (by kernel_rfl) (fun _ _ _ h => h) (Or.inl ⟨by kernel_rfl, ?_⟩) ?_
                          rotate_left 1
                          · (intro w; go_simp); try (with_reducible rfl)
                          refine wpAny_take (i := 16) (oi := ⟨some 147, _, _, _, _, _⟩) (v := ?_) rfl (by kernel_rfl) (by kernel_rfl) (by kernel_rfl) (fun _ _ _ h => h) (Or.inl ⟨by kernel_rfl, ?_⟩) ?_
                          rotate_left 1
                          · (intro w; go_simp); try (with_reducible rfl)
                          refine wpAny_ready (rs := [17]) (by kernel_rfl) (by simp) ?_
                          refine AllReady.cons (o := ⟨some 148, _, _, _, _, _⟩) rfl (fun K hK => ?_) AllReady.nil
                          go_simp
                          go_wp2_with (go_at_call 20; refine (HOP.out _ (by first | exact HQ7.out.drew | exact HQ7.out)).mono ?_; rintro e w8 ⟨rfl, hb8⟩; have HQ8 := Lib.hid (HQ7.out.drew.trans (hb8.mono HQ7.out.size)); clear hb8)
                          refine wpAny_take (i := 18) (oi := ⟨some 149, _, _, _, _, _⟩) (v := ?_) rfl (by kernel_rfl) (by kernel_rfl) (by kernel_rfl) (fun _ _ _ h => h) (Or.inl ⟨by kernel_rfl, ?_⟩) ?_
                          rotate_left 1
                          · (intro w; go_simp); try (with_reducible rfl)
                          refine wpAny_take (i := 19) (oi := ⟨some 150, _, _, _, _, _⟩) (v := ?_) rfl (by kernel_rfl) (by kernel_rfl) (by kernel_rfl) (fun _ _ _ h => h) (Or.inl ⟨by kernel_rfl, ?_⟩) ?_
                          rotate_left 1
                          · (intro w; go_simp); try (with_reducible rfl)
                          refine wpAny_done (by kernel_rfl) ?_ _
                          go_simp
                          clear hcs htx hcv7
                          go_wp2_with fail
                          go_roundw
                          case rel => exact ⟨n + 1, by go_num, by omega, HQ8⟩
                          case measure => simp [intOf]; omega
                        refine AllReady.cons (o := ⟨some 142, _, _, _, _, _⟩) rfl (fun K hK => ?_) AllReady.nil
                        go_simp
                        refine hK _ _ ?_
                        clear hK K
                        refine wpAny_ready (rs := [4]) (by kernel_rfl) (by simp) ?_
                        refine AllReady.cons (o := ⟨some 135, _, _, _, _, _⟩) rfl (fun K hK => ?_) AllReady.nil
                        go_simp
                        refine hK _ _ ?_
                        clear hK K
                        refine wpAny_take (i := 12) (oi := ⟨some 143, _, _, _, _, _⟩) (v := ?_) rfl (by kernel_rfl) (by kernel_rfl) (by kernel_rfl) (fun _ _ _ h => h) (Or.inl ⟨by kernel_rfl, ?_⟩) ?_
                        rotate_left 1
                        · (intro w; go_simp); try (with_reducible rfl)
                        refine wpAny_take (i := 13) (oi := ⟨some 144, _, _, _, _, _⟩) (v := ?_) rfl (by kernel_rfl) (by kernel_rfl) (by kernel_rfl) (fun _ _ _ h => h) (Or.inl ⟨by kernel_rfl, ?_⟩) ?_
                        rotate_left 1
                        · (intro w; go_simp); try (with_reducible rfl)
                        refine wpAny_take (i := 14) (oi := ⟨some 145, _, _, _, _, _⟩) (v := ?_) rfl (by kernel_rfl) (by kernel_rfl) (by kernel_rfl) (fun _ _ _ h => h) (Or.inl ⟨by kernel_rfl, ?_⟩) ?_
                        rotate_left 1
                        · (intro w; go_simp); try (with_reducible rfl)
                        refine wpAny_take (i := 15) (oi := ⟨some 146, _, _, _, _, _⟩) (v := ?_) rfl (by kernel_rfl) (by kernel_rfl) (by kernel_rfl) (fun _ _ _ h => h) (Or.inl ⟨by kernel_rfl, ?_⟩) ?_
                        rotate_left 1
                        · (intro w; go_simp); try (with_reducible rfl)
                        refine wpAny_take (i := 16) (oi := ⟨some 147, _, _, _, _, _⟩) (v := ?_) rfl (by kernel_rfl) (by kernel_rfl) (by kernel_rfl) (fun _ _ _ h => h) (Or.inl ⟨by kernel_rfl, ?_⟩) ?_
                        rotate_left 1
                        · (intro w; go_simp); try (with_reducible rfl)
                        refine wpAny_ready (rs := [17]) (by kernel_rfl) (by simp) ?_
                        refine AllReady.cons (o := ⟨some 148, _, _, _, _, _⟩) rfl (fun K hK => ?_) AllReady.nil
                        go_simp
                        go_wp2_with (go_at_call 20; refine (HOP.out _ (by first | exact HQ7.out.drew | exact HQ7.out)).mono ?_; rintro e w8 ⟨rfl, hb8⟩; have HQ8 := Lib.hid (HQ7.out.drew.trans (hb8.mono HQ7.out.size)); clear hb8)
                        refine wpAny_take (i := 18) (oi := ⟨some 149, _, _, _, _, _⟩) (v := ?_) rfl (by kernel_rfl) (by kernel_rfl) (by kernel_rfl) (fun _ _ _ h => h) (Or.inl ⟨by kernel_rfl, ?_⟩) ?_
                        rotate_left 1
                        · (intro w; go_simp); try (with_reducible rfl)
                        refine wpAny_take (i := 19) (oi := ⟨some 150, _, _, _, _, _⟩) (v := ?_) rfl (by kernel_rfl) (by kernel_rfl) (by kernel_rfl) (fun _ _ _ h => h) (Or.inl ⟨by kernel_rfl, ?_⟩) ?_
                        rotate_left 1
                        · (intro w; go_simp); try (with_reducible rfl)
                        refine wpAny_done (by kernel_rfl) ?_ _
                        go_simp
                        clear hcs htx hcv7
                        go_wp2_with fail
                        go_roundw
                        case rel => exact ⟨n + 1, by go_num, by omega, HQ8⟩
                        case measure => simp [intOf]; omega
                      · obtain ⟨K, rfl⟩ := Int.eq_ofNat_of_zero_le (show 0 ≤ x by omega)
                        have hxz : ¬ (K : Int) ≥ (L : Int) := by omega
                        have HKK : Hid (kept ks H n = K ∧ K < L) := Lib.hid ⟨by rw [HKE.out, Int.toNat_natCast]; omega, by omega⟩
                        have hKL : (K : Int) < (L : Int) := by omega
                        go_wp2_with fail
                        try clear hK
                        rw [HKK.out.1] at c7
                        refine c7.mono ?_
                        rintro e w7 ⟨v7, rfl, hf7, hb7⟩
                        have HQ7 := Lib.hid (HQ.out.trans (hb7.mono HQ.out.size))
                        obtain ⟨a7, c7', hv7, hA7, _⟩ := hf7
                        have HS7 := Lib.hid (HS6.out.later HQ7.out)
                        have hcs := HS7.out.cell hlt hlt
                        rw [show rowVal bs cp H n = .slice (some ⟨bs n, 0, none⟩) L (cp n) by unfold rowVal; rw [HLE.out]] at hcs
                        have htx := HS7.out.text (k := K) hlt (by rw [← HLE.out]; exact HKK.out.2)
                        generalize (H n).getD K [] = T7 at *
                        have hcv7 : (convert 36 9 (.slice a7 T7.length c7')).run Try.prog w7.drew = .ok (.string (str T7)) w7.drew := str_bytes (w := w7.drew) (show Bts w7.drew a7 T7.length T7 from hA7.1)
                        rw [hv7]
                        generalize str T7 = S7 at *
                        generalize T7.length = L7 at *
                        clear c7 hb7 hv7 hA7 hcell
                        go_wp2_with fail
                        refine wp_region_any (by kernel_rfl) ?_
                        try (change wpAny _ _ _ _ _ _ _ (World.drew _))
                        refine wpAny_take (i := 0) (oi := ⟨some 131, _, _, _, _, _⟩) (v := ?_) rfl (by kernel_rfl) (by kernel_rfl) (by kernel_rfl) (fun _ _ _ h => h) (Or.inl ⟨by kernel_rfl, ?_⟩) ?_
                        rotate_left 1
                        · (intro w; go_simp); try (with_reducible rfl)
                        refine wpAny_take (i := 1) (oi := ⟨some 132, _, _, _, _, _⟩) (v := ?_) rfl (by kernel_rfl) (by kernel_rfl) (by kernel_rfl) (fun _ _ _ h => h) (Or.inl ⟨by kernel_rfl, ?_⟩) ?_
                        rotate_left 1
                        · (intro w; go_simp); try (with_reducible rfl)
                        refine wpAny_take (i := 2) (oi := ⟨some 133, _, _, _, _, _⟩) (v := ?_) rfl (by kernel_rfl) (by kernel_rfl) (by kernel_rfl) (fun _ _ _ h => h) (Or.inl ⟨by kernel_rfl, ?_⟩) ?_
                        rotate_left 1
                        · (intro w; go_simp); try (with_reducible rfl)
                        refine wpAny_take (i := 3) (oi := ⟨some 134, _, _, _, _, _⟩) (v := ?_) rfl (by kernel_rfl) (by kernel_rfl) (by kernel_rfl) (fun _ _ _ h => h) (Or.inl ⟨by kernel_rfl, ?_⟩) ?_
                        rotate_left 1
                        · (intro w; go_simp); try (with_reducible rfl)
                        refine wpAny_take (i := 5) (oi := ⟨some 136, _, _, _, _, _⟩) (v := ?_) rfl (by kernel_rfl) (by kernel_rfl) (by kernel_rfl) (fun _ _ _ h => h) (Or.inl ⟨by kernel_rfl, ?_⟩) ?_
                        rotate_left 1
                        · (intro w; go_simp); try (with_reducible rfl)
                        refine wpAny_take (i := 6) (oi := ⟨some 137, _, _, _, _, _⟩) (v := ?_) rfl (by kernel_rfl) (by kernel_rfl) (by kernel_rfl) (fun _ _ _ h => h) (Or.inl ⟨by kernel_rfl, ?_⟩) ?_
                        rotate_left 1
                        · (intro w; go_simp); try (with_reducible rfl)
                        refine wpAny_take (i := 7) (oi := ⟨some 138, _, _, _, _, _⟩) (v := ?_) rfl (by kernel_rfl) (by kernel_rfl) (by kernel_rfl) (fun _ _ _ h => h) (Or.inl ⟨by kernel_rfl, ?_⟩) ?_
                        rotate_left 1
                        · (intro w; go_simp); try (with_reducible rfl)
                        refine wpAny_take (i := 9) (oi := ⟨some 140, _, _, _, _, _⟩) (v := ?_) rfl (by kernel_rfl) (by kernel_rfl) (by kernel_rfl) (fun _ _ _ h => h) (Or.inl ⟨by kernel_rfl, ?_⟩) ?_
                        rotate_left 1
                        · (intro w; go_simp); try (with_reducible rfl)
                        refine wpAny_ready (rs := [4, 8]) (by kernel_rfl) (by simp) ?_
                        refine AllReady.cons (o := ⟨some 135, _, _, _, _, _⟩) rfl (fun K hK => ?_) ?_
                        · go_simp
                          refine hK _ _ ?_
                          clear hK K
                          refine wpAny_ready (rs := [8]) (by kernel_rfl) (by simp) ?_
                          refine AllReady.cons (o := ⟨some 139, _, _, _, _, _⟩) rfl (fun K hK => ?_) AllReady.nil
                          go_simp
                          refine hK _ _ ?_
                          clear hK K
                          refine wpAny_take (i := 10) (oi := ⟨some 141, _, _, _, _, _⟩) (v := ?_) rfl (by kernel_rfl) (by kernel_rfl) (by kernel_rfl) (fun _ _ _ h => h) (Or.inl ⟨by kernel_rfl, ?_⟩) ?_
                          rotate_left 1
                          · (intro w; go_simp); try (with_reducible rfl)
                          refine wpAny_ready (rs := [11]) (by kernel_rfl) (by simp) ?_
                          refine AllReady.cons (o := ⟨some 142, _, _, _, _, _⟩) rfl (fun K hK => ?_) AllReady.nil
                          go_simp
                          refine hK _ _ ?_
                          clear hK K
                          refine wpAny_take (i := 12) (oi := ⟨some 143, _, _, _, _, _⟩) (v := ?_) rfl (by kernel_rfl) (by kernel_rfl) (by kernel_rfl) (fun _ _ _ h => h) (Or.inl ⟨by kernel_rfl, ?_⟩) ?_
                          rotate_left 1
                          · (intro w; go_simp); try (with_reducible rfl)
                          refine wpAny_take (i := 13) (oi := ⟨some 144, _, _, _, _, _⟩) (v := ?_) rfl (by kernel_rfl) (by kernel_rfl) (by kernel_rfl) (fun _ _ _ h => h) (Or.inl ⟨by kernel_rfl, ?_⟩) ?_
                          rotate_left 1
                          · (intro w; go_simp); try (with_reducible rfl)
                          refine wpAny_take (i := 14) (oi := ⟨some 145, _, _, _, _, _⟩) (v := ?_) rfl (by kernel_rfl) (by kernel_rfl) (by kernel_rfl) (fun _ _ _ h => h) (Or.inl ⟨by kernel_rfl, ?_⟩) ?_
                          rotate_left 1
                          · (intro w; go_simp); try (with_reducible rfl)
                          refine wpAny_take (i := 15) (oi := ⟨some 146, _, _, _, _, _⟩) (v := ?_) rfl (by kernel_rfl) (by kernel_rfl) (by kernel_rfl) (fun _ _ _ h => h) (Or.inl ⟨by kernel_rfl, ?_⟩) ?_
                          rotate_left 1
                          · (intro w; go_simp); try (with_reducible rfl)
                          refine wpAny_take (i := 16) (oi := ⟨some 147, _, _, _, _, _⟩) (v := ?_) rfl (by kernel_rfl) (by kernel_rfl) (by kernel_rfl) (fun _ _ _ h => h) (Or.inl ⟨by kernel_rfl, ?_⟩) ?_
                          rotate_left 1
                          · (intro w; go_simp); try (with_reducible rfl)
                          refine wpAny_ready (rs := [17]) (by kernel_rfl) (by simp) ?_
                          refine AllReady.cons (o := ⟨some 148, _, _, _, _, _⟩) rfl (fun K hK => ?_) AllReady.nil
                          go_simp
                          go_wp2_with (go_at_call 20; refine (HOP.out _ (by first | exact HQ7.out.drew | exact HQ7.out)).mono ?_; rintro e w8 ⟨rfl, hb8⟩; have HQ8 := Lib.hid (HQ7.out.drew.trans (hb8.mono HQ7.out.size)); clear hb8)
                          refine wpAny_take (i := 18) (oi := ⟨some 149, _, _, _, _, _⟩) (v := ?_) rfl (by kernel_rfl) (by kernel_rfl) (by kernel_rfl) (fun _ _ _ h => h) (Or.inl ⟨by kernel_rfl, ?_⟩) ?_
                          rotate_left 1
                          · (intro w; go_simp); try (with_reducible rfl)
                          refine wpAny_take (i := 19) (oi := ⟨some 150, _, _, _, _, _⟩) (v := ?_) rfl (by kernel_rfl) (by kernel_rfl) (by kernel_rfl) (fun _ _ _ h => h) (Or.inl ⟨by kernel_rfl, ?_⟩) ?_
                          rotate_left 1
                          · (intro w; go_simp); try (with_reducible rfl)
                          refine wpAny_done (by kernel_rfl) ?_ _
                          go_simp
                          clear hcs htx hcv7
                          go_wp2_with fail
                          go_roundw
                          case rel => exact ⟨n + 1, by go_num, by omega, HQ8⟩
                          case measure => simp [intOf]; omega
                        refine AllReady.cons (o := ⟨some 139, _, _, _, _, _⟩) rfl (fun K hK => ?_) AllReady.nil
                        go_simp
                        refine hK _ _ ?_
                        clear hK K
                        refine wpAny_take (i := 10) (oi := ⟨some 141, _, _, _, _, _⟩) (v := ?_) rfl (by kernel_rfl) (by kernel_rfl) (by kernel_rfl) (fun _ _ _ h => h) (Or.inl ⟨by kernel_rfl, ?_⟩) ?_
                        rotate_left 1
                        · (intro w; go_simp); try (with_reducible rfl)
                        refine wpAny_ready (rs := [4, 11]) (by kernel_rfl) (by simp) ?_
                        refine AllReady.cons (o := ⟨some 135, _, _, _, _, _⟩) rfl (fun K hK => ?_) ?_
                        · go_simp
                          refine hK _ _ ?_
                          clear hK K
                          refine wpAny_ready (rs := [11]) (by kernel_rfl) (by simp) ?_
                          refine AllReady.cons (o := ⟨some 142, _, _, _, _, _⟩) rfl (fun K hK => ?_) AllReady.nil
                          go_simp
                          refine hK _ _ ?_
                          clear hK K
                          refine wpAny_take (i := 12) (oi := ⟨some 143, _, _, _, _, _⟩) (v := ?_) rfl (by kernel_rfl) (by kernel_rfl) (by kernel_rfl) (fun _ _ _ h => h) (Or.inl ⟨by kernel_rfl, ?_⟩) ?_
                          rotate_left 1
                          · (intro w; go_simp); try (with_reducible rfl)
                          refine wpAny_take (i := 13) (oi := ⟨some 144, _, _, _, _, _⟩) (v := ?_) rfl (by kernel_rfl) (by kernel_rfl) (by kernel_rfl) (fun _ _ _ h => h) (Or.inl ⟨by kernel_rfl, ?_⟩) ?_
                          rotate_left 1
                          · (intro w; go_simp); try (with_reducible rfl)
                          refine wpAny_take (i := 14) (oi := ⟨some 145, _, _, _, _, _⟩) (v := ?_) rfl (by kernel_rfl) (by kernel_rfl) (by kernel_rfl) (fun _ _ _ h => h) (Or.inl ⟨by kernel_rfl, ?_⟩) ?_
                          rotate_left 1
                          · (intro w; go_simp); try (with_reducible rfl)
                          refine wpAny_take (i := 15) (oi := ⟨some 146, _, _, _, _, _⟩) (v := ?_) rfl (by kernel_rfl) (by kernel_rfl) (by kernel_rfl) (fun _ _ _ h => h) (Or.inl ⟨by kernel_rfl, ?_⟩) ?_
                          rotate_left 1
                          · (intro w; go_simp); try (with_reducible rfl)
                          refine wpAny_take (i := 16) (oi := ⟨some 147, _, _, _, _, _⟩) (v := ?_) rfl (by kernel_rfl) (by kernel_rfl) (by kernel_rfl) (fun _ _ _ h => h) (Or.inl ⟨by kernel_rfl, ?_⟩) ?_
                          rotate_left 1
                          · (intro w; go_simp); try (with_reducible rfl)
                          refine wpAny_ready (rs := [17]) (by kernel_rfl) (by simp) ?_
                          refine AllReady.cons (o := ⟨some 148, _, _, _, _, _⟩) rfl (fun K hK => ?_) AllReady.nil
                          go_simp
                          go_wp2_with (go_at_call 20; refine (HOP.out _ (by first | exact HQ7.out.drew | exact HQ7.out)).mono ?_; rintro e w8 ⟨rfl, hb8⟩; have HQ8 := Lib.hid (HQ7.out.drew.trans (hb8.mono HQ7.out.size)); clear hb8)
                          refine wpAny_take (i := 18) (oi := ⟨some 149, _, _, _, _, _⟩) (v := ?_) rfl (by kernel_rfl) (by kernel_rfl) (by kernel_rfl) (fun _ _ _ h => h) (Or.inl ⟨by kernel_rfl, ?_⟩) ?_
                          rotate_left 1
                          · (intro w; go_simp); try (with_reducible rfl)
                          refine wpAny_take (i := 19) (oi := ⟨some 150, _, _, _, _, _⟩) (v := ?_) rfl (by kernel_rfl) (by kernel_rfl) (by kernel_rfl) (fun _ _ _ h => h) (Or.inl ⟨by kernel_rfl, ?_⟩) ?_
                          rotate_left 1
                          · (intro w; go_simp); try (with_reducible rfl)
                          refine wpAny_done (by kernel_rfl) ?_ _
                          go_simp
                          clear hcs htx hcv7
                          go_wp2_with fail
                          go_roundw
                          case rel => exact ⟨n + 1, by go_num, by omega, HQ8⟩
                          case measure => simp [intOf]; omega
                        refine AllReady.cons (o := ⟨some 142, _, _, _, _, _⟩) rfl (fun K hK => ?_) AllReady.nil
                        go_simp
                        refine hK _ _ ?_
                        clear hK K
                        refine wpAny_ready (rs := [4]) (by kernel_rfl) (by simp) ?_
                        refine AllReady.cons (o := ⟨some 135, _, _, _, _, _⟩) rfl (fun K hK => ?_) AllReady.nil
                        go_simp
                        refine hK _ _ ?_
                        clear hK K
                        refine wpAny_take (i := 12) (oi := ⟨some 143, _, _, _, _, _⟩) (v := ?_) rfl (by kernel_rfl) (by kernel_rfl) (by kernel_rfl) (fun _ _ _ h => h) (Or.inl ⟨by kernel_rfl, ?_⟩) ?_
                        rotate_left 1
                        · (intro w; go_simp); try (with_reducible rfl)
                        refine wpAny_take (i := 13) (oi := ⟨some 144, _, _, _, _, _⟩) (v := ?_) rfl (by kernel_rfl) (by kernel_rfl) (by kernel_rfl) (fun _ _ _ h => h) (Or.inl ⟨by kernel_rfl, ?_⟩) ?_
                        rotate_left 1
                        · (intro w; go_simp); try (with_reducible rfl)
                        refine wpAny_take (i := 14) (oi := ⟨some 145, _, _, _, _, _⟩) (v := ?_) rfl (by kernel_rfl) (by kernel_rfl) (by kernel_rfl) (fun _ _ _ h => h) (Or.inl ⟨by kernel_rfl, ?_⟩) ?_
                        rotate_left 1
                        · (intro w; go_simp); try (with_reducible rfl)
                        refine wpAny_take (i := 15) (oi := ⟨some 146, _, _, _, _, _⟩) (v := ?_) rfl (by kernel_rfl) (by kernel_rfl) (by kernel_rfl) (fun _ _ _ h => h) (Or.inl ⟨by kernel_rfl, ?_⟩) ?_
                        rotate_left 1
                        · (intro w; go_simp); try (with_reducible rfl)
                        refine wpAny_take (i := 16) (oi := ⟨some 147, _, _, _, _, _⟩) (v := ?_) rfl (by kernel_rfl) (by kernel_rfl) (by kernel_rfl) (fun _ _ _ h => h) (Or.inl ⟨by kernel_rfl, ?_⟩) ?_
                        rotate_left 1
                        · (intro w; go_simp); try (with_reducible rfl)
                        refine wpAny_ready (rs := [17]) (by kernel_rfl) (by simp) ?_
                        refine AllReady.cons (o := ⟨some 148, _, _, _, _, _⟩) rfl (fun K hK => ?_) AllReady.nil
                        go_simp
                        go_wp2_with (go_at_call 20; refine (HOP.out _ (by first | exact HQ7.out.drew | exact HQ7.out)).mono ?_; rintro e w8 ⟨rfl, hb8⟩; have HQ8 := Lib.hid (HQ7.out.drew.trans (hb8.mono HQ7.out.size)); clear hb8)
                        refine wpAny_take (i := 18) (oi := ⟨some 149, _, _, _, _, _⟩) (v := ?_) rfl (by kernel_rfl) (by kernel_rfl) (by kernel_rfl) (fun _ _ _ h => h) (Or.inl ⟨by kernel_rfl, ?_⟩) ?_
                        rotate_left 1
                        · (intro w; go_simp); try (with_reducible rfl)
                        refine wpAny_take (i := 19) (oi := ⟨some 150, _, _, _, _, _⟩) (v := ?_) rfl (by kernel_rfl) (by kernel_rfl) (by kernel_rfl) (fun _ _ _ h => h) (Or.inl ⟨by kernel_rfl, ?_⟩) ?_
                        rotate_left 1
                        · (intro w; go_simp); try (with_reducible rfl)
                        refine wpAny_done (by kernel_rfl) ?_ _
                        go_simp
                        clear hcs htx hcv7
                        go_wp2_with fail
                        go_roundw
                        case rel => exact ⟨n + 1, by go_num, by omega, HQ8⟩
                        case measure => simp [intOf]; omega
                    · have HKK : Hid (kept ks H n = 0 ∧ 0 < L) := Lib.hid ⟨by rw [HKE.out]; omega, by omega⟩
                      have hxz : ¬ (0 : Int) ≥ (L : Int) := by omega
                      have hKL : (0 : Int) < (L : Int) := by omega
                      have hKN : 0 < L := by omega
                      go_wp2_with fail
                      try clear hK
                      rw [HKK.out.1] at c7
                      refine c7.mono ?_
                      rintro e w7 ⟨v7, rfl, hf7, hb7⟩
                      have HQ7 := Lib.hid (HQ.out.trans (hb7.mono HQ.out.size))
                      obtain ⟨a7, c7', hv7, hA7, _⟩ := hf7
                      have HS7 := Lib.hid (HS6.out.later HQ7.out)
                      have hcs := HS7.out.cell hlt hlt
                      rw [show rowVal bs cp H n = .slice (some ⟨bs n, 0, none⟩) L (cp n) by unfold rowVal; rw [HLE.out]] at hcs
                      have htx := HS7.out.text (k := 0) hlt (by rw [← HLE.out]; exact HKK.out.2)
                      generalize (H n).getD 0 [] = T7 at *
                      have hcv7 : (convert 36 9 (.slice a7 T7.length c7')).run Try.prog w7.drew = .ok (.string (str T7)) w7.drew := str_bytes (w := w7.drew) (show Bts w7.drew a7 T7.length T7 from hA7.1)
                      rw [hv7]
                      generalize str T7 = S7 at *
                      generalize T7.length = L7 at *
                      clear c7 hb7 hv7 hA7 hcell
                      go_wp2_with fail
                      refine wp_region_any (by kernel_rfl) ?_
                      try (change wpAny _ _ _ _ _ _ _ (World.drew _))
                      refine wpAny_take (i := 0) (oi := ⟨some 131, _, _, _, _, _⟩) (v := ?_) rfl (by kernel_rfl) (by kernel_rfl) (by kernel_rfl) (fun _ _ _ h => h) (Or.inl ⟨by kernel_rfl, ?_⟩) ?_
                      rotate_left 1
                      · (intro w; go_simp); try (with_reducible rfl)
                      refine wpAny_take (i := 1) (oi := ⟨some 132, _, _, _, _, _⟩) (v := ?_) rfl (by kernel_rfl) (by kernel_rfl) (by kernel_rfl) (fun _ _ _ h => h) (Or.inl ⟨by kernel_rfl, ?_⟩) ?_
                      rotate_left 1
                      · (intro w; go_simp); try (with_reducible rfl)
                      refine wpAny_take (i := 2) (oi := ⟨some 133, _, _, _, _, _⟩) (v := ?_) rfl (by kernel_rfl) (by kernel_rfl) (by kernel_rfl) (fun _ _ _ h => h) (Or.inl ⟨by kernel_rfl, ?_⟩) ?_
                      rotate_left 1
                      · (intro w; go_simp); try (with_reducible rfl)
                      refine wpAny_take (i := 3) (oi := ⟨some 134, _, _, _, _, _⟩) (v := ?_) rfl (by kernel_rfl) (by kernel_rfl) (by kernel_rfl) (fun _ _ _ h => h) (Or.inl ⟨by kernel_rfl, ?_⟩) ?_
                      rotate_left 1
                      · (intro w; go_simp); try (with_reducible rfl)
                      refine wpAny_take (i := 5) (oi := ⟨some 136, _, _, _, _, _⟩) (v := ?_) rfl (by kernel_rfl) (by kernel_rfl) (by kernel_rfl) (fun _ _ _ h => h) (Or.inl ⟨by kernel_rfl, ?_⟩) ?_
                      rotate_left 1
                      · (intro w; go_simp); try (with_reducible rfl)
                      refine wpAny_take (i := 6) (oi := ⟨some 137, _, _, _, _, _⟩) (v := ?_) rfl (by kernel_rfl) (by kernel_rfl) (by kernel_rfl) (fun _ _ _ h => h) (Or.inl ⟨by kernel_rfl, ?_⟩) ?_
                      rotate_left 1
                      · (intro w; go_simp); try (with_reducible rfl)
                      refine wpAny_take (i := 7) (oi := ⟨some 138, _, _, _, _, _⟩) (v := ?_) rfl (by kernel_rfl) (by kernel_rfl) (by kernel_rfl) (fun _ _ _ h => h) (Or.inl ⟨by kernel_rfl, ?_⟩) ?_
                      rotate_left 1
                      · (intro w; go_simp); try (with_reducible rfl)
                      refine wpAny_take (i := 9) (oi := ⟨some 140, _, _, _, _, _⟩) (v := ?_) rfl (by kernel_rfl) (by kernel_rfl) (by kernel_rfl) (fun _ _ _ h => h) (Or.inl ⟨by kernel_rfl, ?_⟩) ?_
                      rotate_left 1
                      · (intro w; go_simp); try (with_reducible rfl)
                      refine wpAny_ready (rs := [4, 8]) (by kernel_rfl) (by simp) ?_
                      refine AllReady.cons (o := ⟨some 135, _, _, _, _, _⟩) rfl (fun K hK => ?_) ?_
                      · go_simp
                        refine hK _ _ ?_
                        clear hK K
                        refine wpAny_ready (rs := [8]) (by kernel_rfl) (by simp) ?_
                        refine AllReady.cons (o := ⟨some 139, _, _, _, _, _⟩) rfl (fun K hK => ?_) AllReady.nil
                        go_simp
                        refine hK _ _ ?_
                        clear hK K
                        refine wpAny_take (i := 10) (oi := ⟨some 141, _, _, _, _, _⟩) (v := ?_) rfl (by kernel_rfl) (by kernel_rfl) (by kernel_rfl) (fun _ _ _ h => h) (Or.inl ⟨by kernel_rfl, ?_⟩) ?_
                        rotate_left 1
                        · (intro w; go_simp); try (with_reducible rfl)
                        refine wpAny_ready (rs := [11]) (by kernel_rfl) (by simp) ?_
                        refine AllReady.cons (o := ⟨some 142, _, _, _, _, _⟩) rfl (fun K hK => ?_) AllReady.nil
                        go_simp
                        refine hK _ _ ?_
                        clear hK K
                        refine wpAny_take (i := 12) (oi := ⟨some 143, _, _, _, _, _⟩) (v := ?_) rfl (by kernel_rfl) (by kernel_rfl) (by kernel_rfl) (fun _ _ _ h => h) (Or.inl ⟨by kernel_rfl, ?_⟩) ?_
                        rotate_left 1
                        · (intro w; go_simp); try (with_reducible rfl)
                        refine wpAny_take (i := 13) (oi := ⟨some 144, _, _, _, _, _⟩) (v := ?_) rfl (by kernel_rfl) (by kernel_rfl) (by kernel_rfl) (fun _ _ _ h => h) (Or.inl ⟨by kernel_rfl, ?_⟩) ?_
                        rotate_left 1
                        · (intro w; go_simp); try (with_reducible rfl)
                        refine wpAny_take (i := 14) (oi := ⟨some 145, _, _, _, _, _⟩) (v := ?_) rfl (by kernel_rfl) (by kernel_rfl) (by kernel_rfl) (fun _ _ _ h => h) (Or.inl ⟨by kernel_rfl, ?_⟩) ?_
                        rotate_left 1
                        · (intro w; go_simp); try (with_reducible rfl)
                        refine wpAny_take (i := 15) (oi := ⟨some 146, _, _, _, _, _⟩) (v := ?_) rfl (by kernel_rfl) (by kernel_rfl) (by kernel_rfl) (fun _ _ _ h => h) (Or.inl ⟨by kernel_rfl, ?_⟩) ?_
                        rotate_left 1
                        · (intro w; go_simp); try (with_reducible rfl)
                        refine wpAny_take (i := 16) (oi := ⟨some 147, _, _, _, _, _⟩) (v := ?_) rfl (by kernel_rfl) (by kernel_rfl) (by kernel_rfl) (fun _ _ _ h => h) (Or.inl ⟨by kernel_rfl, ?_⟩) ?_
                        rotate_left 1
                        · (intro w; go_simp); try (with_reducible rfl)
                        refine wpAny_ready (rs := [17]) (by kernel_rfl) (by simp) ?_
                        refine AllReady.cons (o := ⟨some 148, _, _, _, _, _⟩) rfl (fun K hK => ?_) AllReady.nil
                        go_simp
                        go_wp2_with (go_at_call 20; refine (HOP.out _ (by first | exact HQ7.out.drew | exact HQ7.out)).mono ?_; rintro e w8 ⟨rfl, hb8⟩; have HQ8 := Lib.hid (HQ7.out.drew.trans (hb8.mono HQ7.out.size)); clear hb8)
                        refine wpAny_take (i := 18) (oi := ⟨some 149, _, _, _, _, _⟩) (v := ?_) rfl (by kernel_rfl) (by kernel_rfl) (by kernel_rfl) (fun _ _ _ h => h) (Or.inl ⟨by kernel_rfl, ?_⟩) ?_
                        rotate_left 1
                        · (intro w; go_simp); try (with_reducible rfl)
                        refine wpAny_take (i := 19) (oi := ⟨some 150, _, _, _, _, _⟩) (v := ?_) rfl (by kernel_rfl) (by kernel_rfl) (by kernel_rfl) (fun _ _ _ h => h) (Or.inl ⟨by kernel_rfl, ?_⟩) ?_
                        rotate_left 1
                        · (intro w; go_simp); try (with_reducible rfl)
                        refine wpAny_done (by kernel_rfl) ?_ _
                        go_simp
                        clear hcs htx hcv7
                        go_wp2_with fail
                        go_roundw
                        case rel => exact ⟨n + 1, by go_num, by omega, HQ8⟩
                        case measure => simp [intOf]; omega
                      refine AllReady.cons (o := ⟨some 139, _, _, _, _, _⟩) rfl (fun K hK => ?_) AllReady.nil
                      go_simp
                      refine hK _ _ ?_
                      clear hK K
                      refine wpAny_take (i := 10) (oi := ⟨some 141, _, _, _, _, _⟩) (v := ?_) rfl (by kernel_rfl) (by kernel_rfl) (by kernel_rfl) (fun _ _ _ h => h) (Or.inl ⟨by kernel_rfl, ?_⟩) ?_
                      rotate_left 1
                      · (intro w; go_simp); try (with_reducible rfl)
                      refine wpAny_ready (rs := [4, 11]) (by kernel_rfl) (by simp) ?_
                      refine AllReady.cons (o := ⟨some 135, _, _, _, _, _⟩) rfl (fun K hK => ?_) ?_
                      · go_simp
                        refine hK _ _ ?_
                        clear hK K
                        refine wpAny_ready (rs := [11]) (by kernel_rfl) (by simp) ?_
                        refine AllReady.cons (o := ⟨some 142, _, _, _, _, _⟩) rfl (fun K hK => ?_) AllReady.nil
                        go_simp
                        refine hK _ _ ?_
                        clear hK K
                        refine wpAny_take (i := 12) (oi := ⟨some 143, _, _, _, _, _⟩) (v := ?_) rfl (by kernel_rfl) (by kernel_rfl) (by kernel_rfl) (fun _ _ _ h => h) (Or.inl ⟨by kernel_rfl, ?_⟩) ?_
                        rotate_left 1
                        · (intro w; go_simp); try (with_reducible rfl)
                        refine wpAny_take (i := 13) (oi := ⟨some 144, _, _, _, _, _⟩) (v := ?_) rfl (by kernel_rfl) (by kernel_rfl) (by kernel_rfl) (fun _ _ _ h => h) (Or.inl ⟨by kernel_rfl, ?_⟩) ?_
                        rotate_left 1
                        · (intro w; go_simp); try (with_reducible rfl)
                        refine wpAny_take (i := 14) (oi := ⟨some 145, _, _, _, _, _⟩) (v := ?_) rfl (by kernel_rfl) (by kernel_rfl) (by kernel_rfl) (fun _ _ _ h => h) (Or.inl ⟨by kernel_rfl, ?_⟩) ?_
                        rotate_left 1
                        · (intro w; go_simp); try (with_reducible rfl)
                        refine wpAny_take (i := 15) (oi := ⟨some 146, _, _, _, _, _⟩) (v := ?_) rfl (by kernel_rfl) (by kernel_rfl) (by kernel_rfl) (fun _ _ _ h => h) (Or.inl ⟨by kernel_rfl, ?_⟩) ?_
                        rotate_left 1
                        · (intro w; go_simp); try (with_reducible rfl)
                        refine wpAny_take (i := 16) (oi := ⟨some 147, _, _, _, _, _⟩) (v := ?_) rfl (by kernel_rfl) (by kernel_rfl) (by kernel_rfl) (fun _ _ _ h => h) (Or.inl ⟨by kernel_rfl, ?_⟩) ?_
                        rotate_left 1
                        · (intro w; go_simp); try (with_reducible rfl)
                        refine wpAny_ready (rs := [17]) (by kernel_rfl) (by simp) ?_
                        refine AllReady.cons (o := ⟨some 148, _, _, _, _, _⟩) rfl (fun K hK => ?_) AllReady.nil
                        go_simp
                        go_wp2_with (go_at_call 20; refine (HOP.out _ (by first | exact HQ7.out.drew | exact HQ7.out)).mono ?_; rintro e w8 ⟨rfl, hb8⟩; have HQ8 := Lib.hid (HQ7.out.drew.trans (hb8.mono HQ7.out.size)); clear hb8)
                        refine wpAny_take (i := 18) (oi := ⟨some 149, _, _, _, _, _⟩) (v := ?_) rfl (by kernel_rfl) (by kernel_rfl) (by kernel_rfl) (fun _ _ _ h => h) (Or.inl ⟨by kernel_rfl, ?_⟩) ?_
                        rotate_left 1
                        · (intro w; go_simp); try (with_reducible rfl)
                        refine wpAny_take (i := 19) (oi := ⟨some 150, _, _, _, _, _⟩) (v := ?_) rfl (by kernel_rfl) (by kernel_rfl) (by kernel_rfl) (fun _ _ _ h => h) (Or.inl ⟨by kernel_rfl, ?_⟩) ?_
                        rotate_left 1
                        · (intro w; go_simp); try (with_reducible rfl)
                        refine wpAny_done (by kernel_rfl) ?_ _
                        go_simp
                        clear hcs htx hcv7
                        go_wp2_with fail
                        go_roundw
                        case rel => exact ⟨n + 1, by go_num, by omega, HQ8⟩
                        case measure => simp [intOf]; omega
                      refine AllReady.cons (o := ⟨some 142, _, _, _, _, _⟩) rfl (fun K hK => ?_) AllReady.nil
                      go_simp
                      refine hK _ _ ?_
                      clear hK K
                      refine wpAny_ready (rs := [4]) (by kernel_rfl) (by simp) ?_
                      refine AllReady.cons (o := ⟨some 135, _, _, _, _, _⟩) rfl (fun K hK => ?_) AllReady.nil
                      go_simp
                      refine hK _ _ ?_
                      clear hK K
                      refine wpAny_take (i := 12) (oi := ⟨some 143, _, _, _, _, _⟩) (v := ?_) rfl (by kernel_rfl) (by kernel_rfl) (by kernel_rfl) (fun _ _ _ h => h) (Or.inl ⟨by kernel_rfl, ?_⟩) ?_
                      rotate_left 1
                      · (intro w; go_simp); try (with_reducible rfl)
                      refine wpAny_take (i := 13) (oi := ⟨some 144, _, _, _, _, _⟩) (v := ?_) rfl (by kernel_rfl) (by kernel_rfl) (by kernel_rfl) (fun _ _ _ h => h) (Or.inl ⟨by kernel_rfl, ?_⟩) ?_
                      rotate_left 1
                      · (intro w; go_simp); try (with_reducible rfl)
                      refine wpAny_take (i := 14) (oi := ⟨some 145, _, _, _, _, _⟩) (v := ?_) rfl (by kernel_rfl) (by kernel_rfl) (by kernel_rfl) (fun _ _ _ h => h) (Or.inl ⟨by kernel_rfl, ?_⟩) ?_
                      rotate_left 1
                      · (intro w; go_simp); try (with_reducible rfl)
                      refine wpAny_take (i := 15) (oi := ⟨some 146, _, _, _, _, _⟩) (v := ?_) rfl (by kernel_rfl) (by kernel_rfl) (by kernel_rfl) (fun _ _ _ h => h) (Or.inl ⟨by kernel_rfl, ?_⟩) ?_
                      rotate_left 1
                      · (intro w; go_simp); try (with_reducible rfl)
                      refine wpAny_take (i := 16) (oi := ⟨some 147, _, _, _, _, _⟩) (v := ?_) rfl (by kernel_rfl) (by kernel_rfl) (by kernel_rfl) (fun _ _ _ h => h) (Or.inl ⟨by kernel_rfl, ?_⟩) ?_
                      rotate_left 1
                      · (intro w; go_simp); try (with_reducible rfl)
                      refine wpAny_ready (rs := [17]) (by kernel_rfl) (by simp) ?_
                      refine AllReady.cons (o := ⟨some 148, _, _, _, _, _⟩) rfl (fun K hK => ?_) AllReady.nil
                      go_simp
                      go_wp2_with (go_at_call 20; refine (HOP.out _ (by first | exact HQ7.out.drew | exact HQ7.out)).mono ?_; rintro e w8 ⟨rfl, hb8⟩; have HQ8 := Lib.hid (HQ7.out.drew.trans (hb8.mono HQ7.out.size)); clear hb8)
                      refine wpAny_take (i := 18) (oi := ⟨some 149, _, _, _, _, _⟩) (v := ?_) rfl (by kernel_rfl) (by kernel_rfl) (by kernel_rfl) (fun _ _ _ h => h) (Or.inl ⟨by kernel_rfl, ?_⟩) ?_
                      rotate_left 1
                      · (intro w; go_simp); try (with_reducible rfl)
                      refine wpAny_take (i := 19) (oi := ⟨some 150, _, _, _, _, _⟩) (v := ?_) rfl (by kernel_rfl) (by kernel_rfl) (by kernel_rfl) (fun _ _ _ h => h) (Or.inl ⟨by kernel_rfl, ?_⟩) ?_
                      rotate_left 1
                      · (intro w; go_simp); try (with_reducible rfl)
                      refine wpAny_done (by kernel_rfl) ?_ _
                      go_simp
                      clear hcs htx hcv7
                      go_wp2_with fail
                      go_roundw
                      case rel => exact ⟨n + 1, by go_num, by omega, HQ8⟩
                      case measure => simp [intOf]; omega
                  · have z10 : ¬ (n : Int) < (len2 : Int) := by omega
                    have HKK : Hid (kept ks H n = 0 ∧ 0 < L) := Lib.hid ⟨by rw [HKE.out, List.getD_eq_getElem?_getD, List.getElem?_eq_none (by rw [HKS.out.1]; omega)]; simp, by omega⟩
                    have hxz : ¬ (0 : Int) ≥ (L : Int) := by omega
                    have hKL : (0 : Int) < (L : Int) := by omega
                    have hKN : 0 < L := by omega
                    go_wp2_with fail
                    try clear hK
                    rw [HKK.out.1] at c7
                    refine c7.mono ?_
                    rintro e w7 ⟨v7, rfl, hf7, hb7⟩
                    have HQ7 := Lib.hid (HQ.out.trans (hb7.mono HQ.out.size))
                    obtain ⟨a7, c7', hv7, hA7, _⟩ := hf7
                    have HS7 := Lib.hid (HS6.out.later HQ7.out)
                    have hcs := HS7.out.cell hlt hlt
                    rw [show rowVal bs cp H n = .slice (some ⟨bs n, 0, none⟩) L (cp n) by unfold rowVal; rw [HLE.out]] at hcs
                    have htx := HS7.out.text (k := 0) hlt (by rw [← HLE.out]; exact HKK.out.2)
                    generalize (H n).getD 0 [] = T7 at *
                    have hcv7 : (convert 36 9 (.slice a7 T7.length c7')).run Try.prog w7.drew = .ok (.string (str T7)) w7.drew := str_bytes (w := w7.drew) (show Bts w7.drew a7 T7.length T7 from hA7.1)
                    rw [hv7]
                    generalize str T7 = S7 at *
                    generalize T7.length = L7 at *
                    clear c7 hb7 hv7 hA7 hcell
                    go_wp2_with fail
                    refine wp_region_any (by kernel_rfl) ?_
                    try (change wpAny _ _ _ _ _ _ _ (World.drew _))
                    refine wpAny_take (i := 0) (oi := ⟨some 131, _, _, _, _, _⟩) (v := ?_) rfl (by kernel_rfl) (by kernel_rfl) (by kernel_rfl) (fun _ _ _ h => h) (Or.inl ⟨by kernel_rfl, ?_⟩) ?_
                    rotate_left 1
                    · (intro w; go_simp); try (with_reducible rfl)
                    refine wpAny_take (i := 1) (oi := ⟨some 132, _, _, _, _, _⟩) (v := ?_) rfl (by kernel_rfl) (by kernel_rfl) (by kernel_rfl) (fun _ _ _ h => h) (Or.inl ⟨by kernel_rfl, ?_⟩) ?_
                    rotate_left 1
                    · (intro w; go_simp); try (with_reducible rfl)
                    refine wpAny_take (i := 2) (oi := ⟨some 133, _, _, _, _, _⟩) (v := ?_) rfl (by kernel_rfl) (by kernel_rfl) (by kernel_rfl) (fun _ _ _ h => h) (Or.inl ⟨by kernel_rfl, ?_⟩) ?_
                    rotate_left 1
                    · (intro w; go_simp); try (with_reducible rfl)
                    refine wpAny_take (i := 3) (oi := ⟨some 134, _, _, _, _, _⟩) (v := ?_) rfl (by kernel_rfl) (by kernel_rfl) (by kernel_rfl) (fun _ _ _ h => h) (Or.inl ⟨by kernel_rfl, ?_⟩) ?_
                    rotate_left 1
                    · (intro w; go_simp); try (with_reducible rfl)
                    refine wpAny_take (i := 5) (oi := ⟨some 136, _, _, _, _, _⟩) (v := ?_) rfl (by kernel_rfl) (by kernel_rfl) (by kernel_rfl) (fun _ _ _ h => h) (Or.inl ⟨by kernel_rfl, ?_⟩) ?_
                    rotate_left 1
                    · (intro w; go_simp); try (with_reducible rfl)
                    refine wpAny_take (i := 6) (oi := ⟨some 137, _, _, _, _, _⟩) (v := ?_) rfl (by kernel_rfl) (by kernel_rfl) (by kernel_rfl) (fun _ _ _ h => h) (Or.inl ⟨by kernel_rfl, ?_⟩) ?_
                    rotate_left 1
                    · (intro w; go_simp); try (with_reducible rfl)
                    refine wpAny_take (i := 7) (oi := ⟨some 138, _, _, _, _, _⟩) (v := ?_) rfl (by kernel_rfl) (by kernel_rfl) (by kernel_rfl) (fun _ _ _ h => h) (Or.inl ⟨by kernel_rfl, ?_⟩) ?_
                    rotate_left 1
                    · (intro w; go_simp); try (with_reducible rfl)
                    refine wpAny_take (i := 9) (oi := ⟨some 140, _, _, _, _, _⟩) (v := ?_) rfl (by kernel_rfl) (by kernel_rfl) (by kernel_rfl) (fun _ _ _ h => h) (Or.inl ⟨by kernel_rfl, ?_⟩) ?_
                    rotate_left 1
                    · (intro w; go_simp); try (with_reducible rfl)
                    refine wpAny_ready (rs := [4, 8]) (by kernel_rfl) (by simp) ?_
                    refine AllReady.cons (o := ⟨some 135, _, _, _, _, _⟩) rfl (fun K hK => ?_) ?_
                    · go_simp
                      refine hK _ _ ?_
                      clear hK K
                      refine wpAny_ready (rs := [8]) (by kernel_rfl) (by simp) ?_
                      refine AllReady.cons (o := ⟨some 139, _, _, _, _, _⟩) rfl (fun K hK => ?_) AllReady.nil
                      go_simp
                      refine hK _ _ ?_
                      clear hK K
                      refine wpAny_take (i := 10) (oi := ⟨some 141, _, _, _, _, _⟩) (v := ?_) rfl (by kernel_rfl) (by kernel_rfl) (by kernel_rfl) (fun _ _ _ h => h) (Or.inl ⟨by kernel_rfl, ?_⟩) ?_
                      rotate_left 1
                      · (intro w; go_simp); try (with_reducible rfl)
                      refine wpAny_ready (rs := [11]) (by kernel_rfl) (by simp) ?_
                      refine AllReady.cons (o := ⟨some 142, _, _, _, _, _⟩) rfl (fun K hK => ?_) AllReady.nil
                      go_simp
                      refine hK _ _ ?_
                      clear hK K
                      refine wpAny_take (i := 12) (oi := ⟨some 143, _, _, _, _, _⟩) (v := ?_) rfl (by kernel_rfl) (by kernel_rfl) (by kernel_rfl) (fun _ _ _ h => h) (Or.inl ⟨by kernel_rfl, ?_⟩) ?_
                      rotate_left 1
                      · (intro w; go_simp); try (with_reducible rfl)
                      refine wpAny_take (i := 13) (oi := ⟨some 144, _, _, _, _, _⟩) (v := ?_) rfl (by kernel_rfl) (by kernel_rfl) (by kernel_rfl) (fun _ _ _ h => h) (Or.inl ⟨by kernel_rfl, ?_⟩) ?_
                      rotate_left 1
                      · (intro w; go_simp); try (with_reducible rfl)
                      refine wpAny_take (i := 14) (oi := ⟨some 145, _, _, _, _, _⟩) (v := ?_) rfl (by kernel_rfl) (by kernel_rfl) (by kernel_rfl) (fun _ _ _ h => h) (Or.inl ⟨by kernel_rfl, ?_⟩) ?_
                      rotate_left 1
                      · (intro w; go_simp); try (with_reducible rfl)
                      refine wpAny_take (i := 15) (oi := ⟨some 146, _, _, _, _, _⟩) (v := ?_) rfl (by kernel_rfl) (by kernel_rfl) (by kernel_rfl) (fun _ _ _ h => h) (Or.inl ⟨by kernel_rfl, ?_⟩) ?_
                      rotate_left 1
                      · (intro w; go_simp); try (with_reducible rfl)
                      refine wpAny_take (i := 16) (oi := ⟨some 147, _, _, _, _, _⟩) (v := ?_) rfl (by kernel_rfl) (by kernel_rfl) (by kernel_rfl) (fun _ _ _ h => h) (Or.inl ⟨by kernel_rfl, ?_⟩) ?_
                      rotate_left 1
                      · (intro w; go_simp); try (with_reducible rfl)
                      refine wpAny_ready (rs := [17]) (by kernel_rfl) (by simp) ?_
                      refine AllReady.cons (o := ⟨some 148, _, _, _, _, _⟩) rfl (fun K hK => ?_) AllReady.nil
                      go_simp
                      go_wp2_with (go_at_call 20; refine (HOP.out _ (by first | exact HQ7.out.drew | exact HQ7.out)).mono ?_; rintro e w8 ⟨rfl, hb8⟩; have HQ8 := Lib.hid (HQ7.out.drew.trans (hb8.mono HQ7.out.size)); clear hb8)
                      refine wpAny_take (i := 18) (oi := ⟨some 149, _, _, _, _, _⟩) (v := ?_) rfl (by kernel_rfl) (by kernel_rfl) (by kernel_rfl) (fun _ _ _ h => h) (Or.inl ⟨by kernel_rfl, ?_⟩) ?_
                      rotate_left 1
                      · (intro w; go_simp); try (with_reducible rfl)
                      refine wpAny_take (i := 19) (oi := ⟨some 150, _, _, _, _, _⟩) (v := ?_) rfl (by kernel_rfl) (by kernel_rfl) (by kernel_rfl) (fun _ _ _ h => h) (Or.inl ⟨by kernel_rfl, ?_⟩) ?_
                      rotate_left 1
                      · (intro w; go_simp); try (with_reducible rfl)
                      refine wpAny_done (by kernel_rfl) ?_ _
                      go_simp
                      clear hcs htx hcv7
                      go_wp2_with fail
                      go_roundw
                      case rel => exact ⟨n + 1, by go_num, by omega, HQ8⟩
                      case measure => simp [intOf]; omega
                    refine AllReady.cons (o := ⟨some 139, _, _, _, _, _⟩) rfl (fun K hK => ?_) AllReady.nil
                    go_simp
                    refine hK _ _ ?_
                    clear hK K
                    refine wpAny_take (i := 10) (oi := ⟨some 141, _, _, _, _, _⟩) (v := ?_) rfl (by kernel_rfl) (by kernel_rfl) (by kernel_rfl) (fun _ _ _ h => h) (Or.inl ⟨by kernel_rfl, ?_⟩) ?_
                    rotate_left 1
                    · (intro w; go_simp); try (with_reducible rfl)
                    refine wpAny_ready (rs := [4, 11]) (by kernel_rfl) (by simp) ?_
                    refine AllReady.cons (o := ⟨some 135, _, _, _, _, _⟩) rfl (fun K hK => ?_) ?_
                    · go_simp
                      refine hK _ _ ?_
                      clear hK K
                      refine wpAny_ready (rs := [11]) (by kernel_rfl) (by simp) ?_
                      refine AllReady.cons (o := ⟨some 142, _, _, _, _, _⟩) rfl (fun K hK => ?_) AllReady.nil
                      go_simp
                      refine hK _ _ ?_
                      clear hK K
                      refine wpAny_take (i := 12) (oi := ⟨some 143, _, _, _, _, _⟩) (v := ?_) rfl (by kernel_rfl) (by kernel_rfl) (by kernel_rfl) (fun _ _ _ h => h) (Or.inl ⟨by kernel_rfl, ?_⟩) ?_
                      rotate_left 1
                      · (intro w; go_simp); try (with_reducible rfl)
                      refine wpAny_take (i := 13) (oi := ⟨some 144, _, _, _, _, _⟩) (v := ?_) rfl (by kernel_rfl) (by kernel_rfl) (by kernel_rfl) (fun _ _ _ h => h) (Or.inl ⟨by kernel_rfl, ?_⟩) ?_
                      rotate_left 1
                      · (intro w; go_simp); try (with_reducible rfl)
                      refine wpAny_take (i := 14) (oi := ⟨some 145, _, _, _, _, _⟩) (v := ?_) rfl (by kernel_rfl) (by kernel_rfl) (by kernel_rfl) (fun _ _ _ h => h) (Or.inl ⟨by kernel_rfl, ?_⟩) ?_
                      rotate_left 1
                      · (intro w; go_simp); try (with_reducible rfl)
                      refine wpAny_take (i := 15) (oi := ⟨some 146, _, _, _, _, _⟩) (v := ?_) rfl (by kernel_rfl) (by kernel_rfl) (by kernel_rfl) (fun _ _ _ h => h) (Or.inl ⟨by kernel_rfl, ?_⟩) ?_
                      rotate_left 1
                      · (intro w; go_simp); try (with_reducible rfl)
                      refine wpAny_take (i := 16) (oi := ⟨some 147, _, _, _, _, _⟩) (v := ?_) rfl (by kernel_rfl) (by kernel_rfl) (by kernel_rfl) (fun _ _ _ h => h) (Or.inl ⟨by kernel_rfl, ?_⟩) ?_
                      rotate_left 1
                      · (intro w; go_simp); try (with_reducible rfl)
                      refine wpAny_ready (rs := [17]) (by kernel_rfl) (by simp) ?_
                      refine AllReady.cons (o := ⟨some 148, _, _, _, _, _⟩) rfl (fun K hK => ?_) AllReady.nil
                      go_simp
                      go_wp2_with (go_at_call 20; refine (HOP.out _ (by first | exact HQ7.out.drew | exact HQ7.out)).mono ?_; rintro e w8 ⟨rfl, hb8⟩; have HQ8 := Lib.hid (HQ7.out.drew.trans (hb8.mono HQ7.out.size)); clear hb8)
                      refine wpAny_take (i := 18) (oi := ⟨some 149, _, _, _, _, _⟩) (v := ?_) rfl (by kernel_rfl) (by kernel_rfl) (by kernel_rfl) (fun _ _ _ h => h) (Or.inl ⟨by kernel_rfl, ?_⟩) ?_
                      rotate_left 1
                      · (intro w; go_simp); try (with_reducible rfl)
                      refine wpAny_take (i := 19) (oi := ⟨some 150, _, _, _, _, _⟩) (v := ?_) rfl (by kernel_rfl) (by kernel_rfl) (by kernel_rfl) (fun _ _ _ h => h) (Or.inl ⟨by kernel_rfl, ?_⟩) ?_
                      rotate_left 1
                      · (intro w; go_simp); try (with_reducible rfl)
                      refine wpAny_done (by kernel_rfl) ?_ _
                      go_simp
                      clear hcs htx hcv7
                      go_wp2_with fail
                      go_roundw
                      case rel => exact ⟨n + 1, by go_num, by omega, HQ8⟩
                      case measure => simp [intOf]; omega
                    refine AllReady.cons (o := ⟨some 142, _, _, _, _, _⟩) rfl (fun K hK => ?_) AllReady.nil
                    go_simp
                    refine hK _ _ ?_
                    clear hK K
                    refine wpAny_ready (rs := [4]) (by kernel_rfl) (by simp) ?_
                    refine AllReady.cons (o := ⟨some 135, _, _, _, _, _⟩) rfl (fun K hK => ?_) AllReady.nil
                    go_simp
                    refine hK _ _ ?_
                    clear hK K
                    refine wpAny_take (i := 12) (oi := ⟨some 143, _, _, _, _, _⟩) (v := ?_) rfl (by kernel_rfl) (by kernel_rfl) (by kernel_rfl) (fun _ _ _ h => h) (Or.inl ⟨by kernel_rfl, ?_⟩) ?_
                    rotate_left 1
                    · (intro w; go_simp); try (with_reducible rfl)
                    refine wpAny_take (i := 13) (oi := ⟨some 144, _, _, _, _, _⟩) (v := ?_) rfl (by kernel_rfl) (by kernel_rfl) (by kernel_rfl) (fun _ _ _ h => h) (Or.inl ⟨by kernel_rfl, ?_⟩) ?_
                    rotate_left 1
                    · (intro w; go_simp); try (with_reducible rfl)
                    refine wpAny_take (i := 14) (oi := ⟨some 145, _, _, _, _, _⟩) (v := ?_) rfl (by kernel_rfl) (by kernel_rfl) (by kernel_rfl) (fun _ _ _ h => h) (Or.inl ⟨by kernel_rfl, ?_⟩) ?_
                    rotate_left 1
                    · (intro w; go_simp); try (with_reducible rfl)
                    refine wpAny_take (i := 15) (oi := ⟨some 146, _, _, _, _, _⟩) (v := ?_) rfl (by kernel_rfl) (by kernel_rfl) (by kernel_rfl) (fun _ _ _ h => h) (Or.inl ⟨by kernel_rfl, ?_⟩) ?_
                    rotate_left 1
                    · (intro w; go_simp); try (with_reducible rfl)
                    refine wpAny_take (i := 16) (oi := ⟨some 147, _, _, _, _, _⟩) (v := ?_) rfl (by kernel_rfl) (by kernel_rfl) (by kernel_rfl) (fun _ _ _ h => h) (Or.inl ⟨by kernel_rfl, ?_⟩) ?_
                    rotate_left 1
                    · (intro w; go_simp); try (with_reducible rfl)
                    refine wpAny_ready (rs := [17]) (by kernel_rfl) (by simp) ?_
                    refine AllReady.cons (o := ⟨some 148, _, _, _, _, _⟩) rfl (fun K hK => ?_) AllReady.nil
                    go_simp
                    go_wp2_with (go_at_call 20; refine (HOP.out _ (by first | exact HQ7.out.drew | exact HQ7.out)).mono ?_; rintro e w8 ⟨rfl, hb8⟩; have HQ8 := Lib.hid (HQ7.out.drew.trans (hb8.mono HQ7.out.size)); clear hb8)
                    refine wpAny_take (i := 18) (oi := ⟨some 149, _, _, _, _, _⟩) (v := ?_) rfl (by kernel_rfl) (by kernel_rfl) (by kernel_rfl) (fun _ _ _ h => h) (Or.inl ⟨by kernel_rfl, ?_⟩) ?_
                    rotate_left 1
                    · (intro w; go_simp); try (with_reducible rfl)
                    refine wpAny_take (i := 19) (oi := ⟨some 150, _, _, _, _, _⟩) (v := ?_) rfl (by kernel_rfl) (by kernel_rfl) (by kernel_rfl) (fun _ _ _ h => h) (Or.inl ⟨by kernel_rfl, ?_⟩) ?_
                    rotate_left 1
                    · (intro w; go_simp); try (with_reducible rfl)
                    refine wpAny_done (by kernel_rfl) ?_ _
                    go_simp
                    clear hcs htx hcv7
                    go_wp2_with fail
                    go_roundw
                    case rel => exact ⟨n + 1, by go_num, by omega, HQ8⟩
                    case measure => simp [intOf]; omega
                · have z9 : ¬ (n : Int) < 6 := by omega
                  go_wp2_with fail
                  go_ret
                  exact ⟨rfl, HS6.out.outer.2.2.2.trans (HQ.out.mono HS6.out.base_le)⟩
          · have z1 : ¬ (i : Int) < (len0 : Int) := by omega
            obtain ⟨ks, hks⟩ := HK.out
            have c6 := diskOk.restart (fun k => k < w.heap.size) a2 len2 cap2 ks HD.out (hks.later HW.out) (fun k hk => by have := (HS.out.away.1 k hk).1; omega)
            have HKS := Lib.hid hks
            clear hks
            go_wp2_with fail
            refine c6.mono ?_
            rintro e w6 ⟨F6, rfl, hD6, hG6⟩
            have HD6 : Hid (DI w6 a F6 (restarted s ks)) := Lib.hid hD6
            have HS6 := Lib.hid (HS.out.grew hG6)
            clear c6 hD6 hG6 HD HS HW
            go_wp2_with fail
            go_loopw [14] (fun nv wq => ∃ n : Nat, nv = .int .i64 (n : Int) ∧ n ≤ 6 ∧ Hid (Below w6.heap.size w6 wq)) (fun nv _ => 6 - (intOf nv).toNat)
            case atStart => exact ⟨0, rfl, by decide, Lib.hid (Below.refl _ _)⟩
            case round =>
              obtain ⟨n, rfl, hn, HQ⟩ := hrel
              by_cases hlt : n < 6
              · have z9 : (n : Int) < 6 := by omega
                have HSQ := Lib.hid (HS6.out.later HQ.out)
                obtain ⟨L, hL⟩ : ∃ L, L = (H n).length := ⟨_, rfl⟩
                have hL1 : 1 ≤ L := by rw [hL]; exact List.length_pos_iff.2 (HSQ.out.rows n hlt).1
                have hL51 : L ≤ 51 := by rw [hL]; have := HL.out n hlt; omega
                have HLE := Lib.hid hL
                have hcell := HSQ.out.cell hlt hlt
                rw [show rowVal bs cp H n = .slice (some ⟨bs n, 0, none⟩) L (cp n) by unfold rowVal; rw [hL]] at hcell
                have c7 := diskOk.get (n : Int) (diskOk.later HD6.out HQ.out) (by omega)
                rw [(six_restart HX.out ks hlt).1, (six_restart HX.out ks hlt).2.1] at c7
                have HOP : Hid (∀ wx, Below w6.heap.size w6 wx → Calls Try.prog 20 #[.pointer (some a), .int .i64 (n : Int)] wx fun e w' => e = .returned (.int .i64 0) ∧ Below wx.heap.size wx w') := Lib.hid (fun wx hb => by
                  have h := diskOk.opens (n : Int) (diskOk.later HD6.out hb) (by omega)
                  rw [(six_restart HX.out ks hlt).2.2] at h
                  exact h)
                have HKE : Hid (kept ks H n = min (ks.getD n 0).toNat (L - 1)) := Lib.hid (by unfold kept; rw [← hL])
                clear hL
                by_cases hkl : n < len2
                · have z10 : (n : Int) < (len2 : Int) := by omega
                  obtain ⟨b2, o2, rfl, _, hkc⟩ := HKS.out.2.resolve_left (by omega)
                  obtain ⟨x, hx⟩ : ∃ x, ks.getD n 0 = x := ⟨_, rfl⟩
                  have hkx : ks[n]? = some x := by
                    have hl : n < ks.length := by rw [HKS.out.1]; exact hkl
                    rw [← hx, List.getD_eq_getElem?_getD, List.getElem?_eq_getElem hl]
                    rfl
                  have hkb := (hkc n x hkx).2
                  have hkcell := HSQ.out.outer.2.2.2.cell (p := ⟨b2, o2 + n, none⟩) (World.block_lt_of_cell? _ _ (hkc n x hkx).1) |>.trans (hkc n x hkx).1
                  rw [hx] at HKE
                  clear hkc hkx hx
                  by_cases hx0 : 0 < x
                  · by_cases hxl : (L : Int) ≤ x
                    · obtain ⟨K, hK⟩ : ∃ K, L = K + 1 := ⟨L - 1, by omega⟩
                      have HKK : Hid (kept ks H n = K ∧ K < L) := Lib.hid ⟨by rw [HKE.out]; omega, by omega⟩
                      have hKL : (K : Int) < (L : Int) := by omega
                      go_wp2_with fail
                      try clear hK
                      rw [HKK.out.1] at c7
                      refine c7.mono ?_
                      rintro e w7 ⟨v7, rfl, hf7, hb7⟩
                      have HQ7 := Lib.hid (HQ.out.trans (hb7.mono HQ.out.size))
                      obtain ⟨a7, c7', hv7, hA7, _⟩ := hf7
                      have HS7 := Lib.hid (HS6.out.later HQ7.out)
                      have hcs := HS7.out.cell hlt hlt
                      rw [show rowVal bs cp H n = .slice (some ⟨bs n, 0, none⟩) L (cp n) by unfold rowVal; rw [HLE.out]] at hcs
                      have htx := HS7.out.text (k := K) hlt (by rw [← HLE.out]; exact HKK.out.2)
                      generalize (H n).getD K [] = T7 at *
                      have hcv7 : (convert 36 9 (.slice a7 T7.length c7')).run Try.prog w7.drew = .ok (.string (str T7)) w7.drew := str_bytes (w := w7.drew) (show Bts w7.drew a7 T7.length T7 from hA7.1)
                      rw [hv7]
                      generalize str T7 = S7 at *
                      generalize T7.length = L7 at *
                      clear c7 hb7 hv7 hA7 hcell
                      go_wp2_with fail
                      refine wp_region_any (by kernel_rfl) ?_
                      try (change wpAny _ _ _ _ _ _ _ (World.drew _))
                      refine wpAny_take (i := 0) (oi := ⟨some 131, _, _, _, _, _⟩) (v := ?_) rfl (by kernel_rfl) (by kernel_rfl) (by kernel_rfl) (fun _ _ _ h => h) (Or.inl ⟨by kernel_rfl, ?_⟩) ?_
                      rotate_left 1
                      · (intro w; go_simp); try (with_reducible rfl)
                      refine wpAny_take (i := 1) (oi := ⟨some 132, _, _, _, _, _⟩) (v := ?_) rfl (by kernel_rfl) (by kernel_rfl) (by kernel_rfl) (fun _ _ _ h => h) (Or.inl ⟨by kernel_rfl, ?_⟩) ?_
                      rotate_left 1
                      · (intro w; go_simp); try (with_reducible rfl)
                      refine wpAny_take (i := 2) (oi := ⟨some 133, _, _, _, _, _⟩) (v := ?_) rfl (by kernel_rfl) (by kernel_rfl) (by kernel_rfl) (fun _ _ _ h => h) (Or.inl ⟨by kernel_rfl, ?_⟩) ?_
                      rotate_left 1
                      · (intro w; go_simp); try (with_reducible rfl)
                      refine wpAny_take (i := 3) (oi := ⟨some 134, _, _, _, _, _⟩) (v := ?_) rfl (by kernel_rfl) (by kernel_rfl) (by kernel_rfl) (fun _ _ _ h => h) (Or.inl ⟨by kernel_rfl, ?_⟩) ?_
                      rotate_left 1
                      · (intro w; go_simp); try (with_reducible rfl)
                      refine wpAny_take (i := 5) (oi := ⟨some 136, _, _, _, _, _⟩) (v := ?_) rfl (by kernel_rfl) (by kernel_rfl) (by kernel_rfl) (fun _ _ _ h => h) (Or.inl ⟨by kernel_rfl, ?_⟩) ?_
                      rotate_left 1
                      · (intro w; go_simp); try (with_reducible rfl)
                      refine wpAny_take (i := 6) (oi := ⟨some 137, _, _, _, _, _⟩) (v := ?_) rfl (by kernel_rfl) (by kernel_rfl) (by kernel_rfl) (fun _ _ _ h => h) (Or.inl ⟨by kernel_rfl, ?_⟩) ?_
                      rotate_left 1
                      · (intro w; go_simp); try (with_reducible rfl)
                      refine wpAny_take (i := 7) (oi := ⟨some 138, _, _, _, _, _⟩) (v := ?_) rfl (by kernel_rfl) (by kernel_rfl) (by kernel_rfl) (fun _ _ _ h => h) (Or.inl ⟨by kernel_rfl, ?_⟩) ?_
                      rotate_left 1
                      · (intro w; go_simp); try (with_reducible rfl)
                      refine wpAny_take (i := 9) (oi := ⟨some 140, _, _, _, _, _⟩) (v := ?_) rfl (by kernel_rfl) (by kernel_rfl) (by kernel_rfl) (fun _ _ _ h => h) (Or.inl ⟨by kernel_rfl, ?_⟩) ?_
                      rotate_left 1
                      · (intro w; go_simp); try (with_reducible rfl)
                      refine wpAny_ready (rs := [4, 8]) (by kernel_rfl) (by simp) ?_
                      refine AllReady.cons (o := ⟨some 135, _, _, _, _, _⟩) rfl (fun K hK => ?_) ?_
                      · go_simp
                        refine hK _ _ ?_
                        clear hK K
                        refine wpAny_ready (rs := [8]) (by kernel_rfl) (by simp) ?_
                        refine AllReady.cons (o := ⟨some 139, _, _, _, _, _⟩) rfl (fun K hK => ?_) AllReady.nil
                        go_simp
                        refine hK _ _ ?_
                        clear hK K
                        refine wpAny_take (i := 10) (oi := ⟨some 141, _, _, _, _, _⟩) (v := ?_) rfl (by kernel_rfl) (by kernel_rfl) (by kernel_rfl) (fun _ _ _ h => h) (Or.inl ⟨by kernel_rfl, ?_⟩) ?_
                        rotate_left 1
                        · (intro w; go_simp); try (with_reducible rfl)
                        refine wpAny_ready (rs := [11]) (by kernel_rfl) (by simp) ?_
                        refine AllReady.cons (o := ⟨some 142, _, _, _, _, _⟩) rfl (fun K hK => ?_) AllReady.nil
                        go_simp
                        refine hK _ _ ?_
                        clear hK K
                        refine wpAny_take (i := 12) (oi := ⟨some 143, _, _, _, _, _⟩) (v := ?_) rfl (by kernel_rfl) (by kernel_rfl) (by kernel_rfl) (fun _ _ _ h => h) (Or.inl ⟨by kernel_rfl, ?_⟩) ?_
                        rotate_left 1
                        · (intro w; go_simp); try (with_reducible rfl)
                        refine wpAny_take (i := 13) (oi := ⟨some 144, _, _, _, _, _⟩) (v := ?_) rfl (by kernel_rfl) (by kernel_rfl) (by kernel_rfl) (fun _ _ _ h => h) (Or.inl ⟨by kernel_rfl, ?_⟩) ?_
                        rotate_left 1
                        · (intro w; go_simp); try (with_reducible rfl)
                        refine wpAny_take (i := 14) (oi := ⟨some 145, _, _, _, _, _⟩) (v := ?_) rfl (by kernel_rfl) (by kernel_rfl) (by kernel_rfl) (fun _ _ _ h => h) (Or.inl ⟨by kernel_rfl, ?_⟩) ?_
                        rotate_left 1
                        · (intro w; go_simp); try (with_reducible rfl)
                        refine wpAny_take (i := 15) (oi := ⟨some 146, _, _, _, _, _⟩) (v := ?_) rfl (by kernel_rfl) (by kernel_rfl) (by kernel_rfl) (fun _ _ _ h => h) (Or.inl ⟨by kernel_rfl, ?_⟩) ?_
                        rotate_left 1
                        · (intro w; go_simp); try (with_reducible rfl)
                        refine wpAny_take (i := 16) (oi := ⟨some 147, _, _, _, _, _⟩) (v := ?_) rfl (by kernel_rfl) (by kernel_rfl) (by kernel_rfl) (fun _ _ _ h => h) (Or.inl ⟨by kernel_rfl, ?_⟩) ?_
                        rotate_left 1
                        · (intro w; go_simp); try (with_reducible rfl)
                        refine wpAny_ready (rs := [17]) (by kernel_rfl) (by simp) ?_
                        refine AllReady.cons (o := ⟨some 148, _, _, _, _, _⟩) rfl (fun K hK => ?_) AllReady.nil
                        go_simp
                        go_wp2_with (go_at_call 20; refine (HOP.out _ (by first | exact HQ7.out.drew | exact HQ7.out)).mono ?_; rintro e w8 ⟨rfl, hb8⟩; have HQ8 := Lib.hid (HQ7.out.drew.trans (hb8.mono HQ7.out.size)); clear hb8)
                        refine wpAny_take (i := 18) (oi := ⟨some 149, _, _, _, _, _⟩) (v := ?_) rfl (by kernel_rfl) (by kernel_rfl) (by kernel_rfl) (fun _ _ _ h => h) (Or.inl ⟨by kernel_rfl, ?_⟩) ?_
                        rotate_left 1
                        · (intro w; go_simp); try (with_reducible rfl)
                        refine wpAny_take (i := 19) (oi := ⟨some 150, _, _, _, _, _⟩) (v := ?_) rfl (by kernel_rfl) (by kernel_rfl) (by kernel_rfl) (fun _ _ _ h => h) (Or.inl ⟨by kernel_rfl, ?_⟩) ?_
                        rotate_left 1
                        · (intro w; go_simp); try (with_reducible rfl)
                        refine wpAny_done (by kernel_rfl) ?_ _
                        go_simp
                        clear hcs htx hcv7
                        go_wp2_with fail
                        go_roundw
                        case rel => exact ⟨n + 1, by go_num, by omega, HQ8⟩
                        case measure => simp [intOf]; omega
                      refine AllReady.cons (o := ⟨some 139, _, _, _, _, _⟩) rfl (fun K hK => ?_) AllReady.nil
                      go_simp
                      refine hK _ _ ?_
                      clear hK K
                      refine wpAny_take (i := 10) (oi := ⟨some 141, _, _, _, _, _⟩) (v := ?_) rfl (by kernel_rfl) (by kernel_rfl) (by kernel_rfl) (fun _ _ _ h => h) (Or.inl ⟨by kernel_rfl, ?_⟩) ?_
                      rotate_left 1
                      · (intro w; go_simp); try (with_reducible rfl)
                      refine wpAny_ready (rs := [4, 11]) (by kernel_rfl) (by simp) ?_
                      refine AllReady.cons (o := ⟨some 135, _, _, _, _, _⟩) rfl (fun K hK => ?_) ?_
                      · go_simp
                        refine hK _ _ ?_
                        clear hK K
                        refine wpAny_ready (rs := [11]) (by kernel_rfl) (by simp) ?_
                        refine AllReady.cons (o := ⟨some 142, _, _, _, _, _⟩) rfl (fun K hK => ?_) AllReady.nil
                        go_simp
                        refine hK _ _ ?_
                        clear hK K
                        refine wpAny_take (i := 12) (oi := ⟨some 143, _, _, _, _, _⟩) (v := ?_) rfl (by kernel_rfl) (by kernel_rfl) (by kernel_rfl) (fun _ _ _ h => h) (Or.inl ⟨by kernel_rfl, ?_⟩) ?_
                        rotate_left 1
                        · (intro w; go_simp); try (with_reducible rfl)
                        refine wpAny_take (i := 13) (oi := ⟨some 144, _, _, _, _, _⟩) (v := ?_) rfl (by kernel_rfl) (by kernel_rfl) (by kernel_rfl) (fun _ _ _ h => h) (Or.inl ⟨by kernel_rfl, ?_⟩) ?_
                        rotate_left 1
                        · (intro w; go_simp); try (with_reducible rfl)
                        refine wpAny_take (i := 14) (oi := ⟨some 145, _, _, _, _, _⟩) (v := ?_) rfl (by kernel_rfl) (by kernel_rfl) (by kernel_rfl) (fun _ _ _ h => h) (Or.inl ⟨by kernel_rfl, ?_⟩) ?_
                        rotate_left 1
                        · (intro w; go_simp); try (with_reducible rfl)
                        refine wpAny_take (i := 15) (oi := ⟨some 146, _, _, _, _, _⟩) (v := ?_) rfl (by kernel_rfl) (by kernel_rfl) (by kernel_rfl) (fun _ _ _ h => h) (Or.inl ⟨by kernel_rfl, ?_⟩) ?_
                        rotate_left 1
                        · (intro w; go_simp); try (with_reducible rfl)
                        refine wpAny_take (i := 16) (oi := ⟨some 147, _, _, _, _, _⟩) (v := ?_) rfl (by kernel_rfl) (by kernel_rfl) (by kernel_rfl) (fun _ _ _ h => h) (Or.inl ⟨by kernel_rfl, ?_⟩) ?_
                        rotate_left 1
                        · (intro w; go_simp); try (with_reducible rfl)
                        refine wpAny_ready (rs := [17]) (by kernel_rfl) (by simp) ?_
                        refine AllReady.cons (o := ⟨some 148, _, _, _, _, _⟩) rfl (fun K hK => ?_) AllReady.nil
                        go_simp
                        go_wp2_with (go_at_call 20; refine (HOP.out _ (by first | exact HQ7.out.drew | exact HQ7.out)).mono ?_; rintro e w8 ⟨rfl, hb8⟩; have HQ8 := Lib.hid (HQ7.out.drew.trans (hb8.mono HQ7.out.size)); clear hb8)
                        refine wpAny_take (i := 18) (oi := ⟨some 149, _, _, _, _, _⟩) (v := ?_) rfl (by kernel_rfl) (by kernel_rfl) (by kernel_rfl) (fun _ _ _ h => h) (Or.inl ⟨by kernel_rfl, ?_⟩) ?_
                        rotate_left 1
                        · (intro w; go_simp); try (with_reducible rfl)
                        refine wpAny_take (i := 19) (oi := ⟨some 150, _, _, _, _, _⟩) (v := ?_) rfl (by kernel_rfl) (by kernel_rfl) (by kernel_rfl) (fun _ _ _ h => h) (Or.inl ⟨by kernel_rfl, ?_⟩) ?_
                        rotate_left 1
                        · (intro w; go_simp); try (with_reducible rfl)
                        refine wpAny_done (by kernel_rfl) ?_ _
                        go_simp
                        clear hcs htx hcv7
                        go_wp2_with fail
                        go_roundw
                        case rel => exact ⟨n + 1, by go_num, by omega, HQ8⟩
                        case measure => simp [intOf]; omega
                      refine AllReady.cons (o := ⟨some 142, _, _, _, _, _⟩) rfl (fun K hK => ?_) AllReady.nil
                      go_simp
                      refine hK _ _ ?_
                      clear hK K
                      refine wpAny_ready (rs := [4]) (by kernel_rfl) (by simp) ?_
                      refine AllReady.cons (o := ⟨some 135, _, _, _, _, _⟩) rfl (fun K hK => ?_) AllReady.nil
                      go_simp
                      refine hK _ _ ?_
                      clear hK K
                      refine wpAny_take (i := 12) (oi := ⟨some 143, _, _, _, _, _⟩) (v := ?_) rfl (by kernel_rfl) (by kernel_rfl) (by kernel_rfl) (fun _ _ _ h => h) (Or.inl ⟨by kernel_rfl, ?_⟩) ?_
                      rotate_left 1
                      · (intro w; go_simp); try (with_reducible rfl)
                      refine wpAny_take (i := 13) (oi := ⟨some 144, _, _, _, _, _⟩) (v := ?_) rfl (by kernel_rfl) (by kernel_rfl) (by kernel_rfl) (fun _ _ _ h => h) (Or.inl ⟨by kernel_rfl, ?_⟩) ?_
                      rotate_left 1
                      · (intro w; go_simp); try (with_reducible rfl)
                      refine wpAny_take (i := 14) (oi := ⟨some 145, _, _, _, _, _⟩) (v := ?_) rfl (by kernel_rfl) (by kernel_rfl) (by kernel_rfl) (fun _ _ _ h => h) (Or.inl ⟨by kernel_rfl, ?_⟩) ?_
                      rotate_left 1
                      · (intro w; go_simp); try (with_reducible rfl)
                      refine wpAny_take (i := 15) (oi := ⟨some 146, _, _, _, _, _⟩) (v := ?_) rfl (by kernel_rfl) (by kernel_rfl) (by kernel_rfl) (fun _ _ _ h => h) (Or.inl ⟨by kernel_rfl, ?_⟩) ?_
                      rotate_left 1
                      · (intro w; go_simp); try (with_reducible rfl)
                      refine wpAny_take (i := 16) (oi := ⟨some 147, _, _, _, _, _⟩) (v := ?_) rfl (by kernel_rfl) (by kernel_rfl) (by kernel_rfl) (fun _ _ _ h => h) (Or.inl ⟨by kernel_rfl, ?_⟩) ?_
                      rotate_left 1
                      · (intro w; go_simp); try (with_reducible rfl)
                      refine wpAny_ready (rs := [17]) (by kernel_rfl) (by simp) ?_
                      refine AllReady.cons (o := ⟨some 148, _, _, _, _, _⟩) rfl (fun K hK => ?_) AllReady.nil
                      go_simp
                      go_wp2_with (go_at_call 20; refine (HOP.out _ (by first | exact HQ7.out.drew | exact HQ7.out)).mono ?_; rintro e w8 ⟨rfl, hb8⟩; have HQ8 := Lib.hid (HQ7.out.drew.trans (hb8.mono HQ7.out.size)); clear hb8)
                      refine wpAny_take (i := 18) (oi := ⟨some 149, _, _, _, _, _⟩) (v := ?_) rfl (by kernel_rfl) (by kernel_rfl) (by kernel_rfl) (fun _ _ _ h => h) (Or.inl ⟨by kernel_rfl, ?_⟩) ?_
                      rotate_left 1
                      · (intro w; go_simp); try (with_reducible rfl)
                      refine wpAny_take (i := 19) (oi := ⟨some 150, _, _, _, _, _⟩) (v := ?_) rfl (by kernel_rfl) (by kernel_rfl) (by kernel_rfl) (fun _ _ _ h => h) (Or.inl ⟨by kernel_rfl, ?_⟩) ?_
                      rotate_left 1
                      · (intro w; go_simp); try (with_reducible rfl)
                      refine wpAny_done (by kernel_rfl) ?_ _
                      go_simp
                      clear hcs htx hcv7
                      go_wp2_with fail
                      go_roundw
                      case rel => exact ⟨n + 1, by go_num, by omega, HQ8⟩
                      case measure => simp [intOf]; omega
                    · obtain ⟨K, rfl⟩ := Int.eq_ofNat_of_zero_le (show 0 ≤ x by omega)
                      have hxz : ¬ (K : Int) ≥ (L : Int) := by omega
                      have HKK : Hid (kept ks H n = K ∧ K < L) := Lib.hid ⟨by rw [HKE.out, Int.toNat_natCast]; omega, by omega⟩
                      have hKL : (K : Int) < (L : Int) := by omega
                      go_wp2_with fail
                      try clear hK
                      rw [HKK.out.1] at c7
                      refine c7.mono ?_
                      rintro e w7 ⟨v7, rfl, hf7, hb7⟩
                      have HQ7 := Lib.hid (HQ.out.trans (hb7.mono HQ.out.size))
                      obtain ⟨a7, c7', hv7, hA7, _⟩ := hf7
                      have HS7 := Lib.hid (HS6.out.later HQ7.out)
                      have hcs := HS7.out.cell hlt hlt
                      rw [show rowVal bs cp H n = .slice (some ⟨bs n, 0, none⟩) L (cp n) by unfold rowVal; rw [HLE.out]] at hcs
                      have htx := HS7.out.text (k := K) hlt (by rw [← HLE.out]; exact HKK.out.2)
                      generalize (H n).getD K [] = T7 at *
                      have hcv7 : (convert 36 9 (.slice a7 T7.length c7')).run Try.prog w7.drew = .ok (.string (str T7)) w7.drew := str_bytes (w := w7.drew) (show Bts w7.drew a7 T7.length T7 from hA7.1)
                      rw [hv7]
                      generalize str T7 = S7 at *
                      generalize T7.length = L7 at *
                      clear c7 hb7 hv7 hA7 hcell
                      go_wp2_with fail
                      refine wp_region_any (by kernel_rfl) ?_
                      try (change wpAny _ _ _ _ _ _ _ (World.drew _))
                      refine wpAny_take (i := 0) (oi := ⟨some 131, _, _, _, _, _⟩) (v := ?_) rfl (by kernel_rfl) (by kernel_rfl) (by kernel_rfl) (fun _ _ _ h => h) (Or.inl ⟨by kernel_rfl, ?_⟩) ?_
                      rotate_left 1
                      · (intro w; go_simp); try (with_reducible rfl)
                      refine wpAny_take (i := 1) (oi := ⟨some 132, _, _, _, _, _⟩) (v := ?_) rfl (by kernel_rfl) (by kernel_rfl) (by kernel_rfl) (fun _ _ _ h => h) (Or.inl ⟨by kernel_rfl, ?_⟩) ?_
                      rotate_left 1
                      · (intro w; go_simp); try (with_reducible rfl)
                      refine wpAny_take (i := 2) (oi := ⟨some 133, _, _, _, _, _⟩) (v := ?_) rfl (by kernel_rfl) (by kernel_rfl) (by kernel_rfl) (fun _ _ _ h => h) (Or.inl ⟨by kernel_rfl, ?_⟩) ?_
                      rotate_left 1
                      · (intro w; go_simp); try (with_reducible rfl)
                      refine wpAny_take (i := 3) (oi := ⟨some 134, _, _, _, _, _⟩) (v := ?_) rfl (by kernel_rfl) (by kernel_rfl) (by kernel_rfl) (fun _ _ _ h => h) (Or.inl ⟨by kernel_rfl, ?_⟩) ?_
                      rotate_left 1
                      · (intro w; go_simp); try (with_reducible rfl)
                      refine wpAny_take (i := 5) (oi := ⟨some 136, _, _, _, _, _⟩) (v := ?_) rfl (by kernel_rfl) (by kernel_rfl) (by kernel_rfl) (fun _ _ _ h => h) (Or.inl ⟨by kernel_rfl, ?_⟩) ?_
                      rotate_left 1
                      · (intro w; go_simp); try (with_reducible rfl)
                      refine wpAny_take (i := 6) (oi := ⟨some 137, _, _, _, _, _⟩) (v := ?_) rfl (by kernel_rfl) (by kernel_rfl) (by kernel_rfl) (fun _ _ _ h => h) (Or.inl ⟨by kernel_rfl, ?_⟩) ?_
                      rotate_left 1
                      · (intro w; go_simp); try (with_reducible rfl)
                      refine wpAny_take (i := 7) (oi := ⟨some 138, _, _, _, _, _⟩) (v := ?_) rfl (by kernel_rfl) (by kernel_rfl) (by kernel_rfl) (fun _ _ _ h => h) (Or.inl ⟨by kernel_rfl, ?_⟩) ?_
                      rotate_left 1
                      · (intro w; go_simp); try (with_reducible rfl)
                      refine wpAny_take (i := 9) (oi := ⟨some 140, _, _, _, _, _⟩) (v := ?_) rfl (by kernel_rfl) (by kernel_rfl) (by kernel_rfl) (fun _ _ _ h => h) (Or.inl ⟨by kernel_rfl, ?_⟩) ?_
                      rotate_left 1
                      · (intro w; go_simp); try (with_reducible rfl)
                      refine wpAny_ready (rs := [4, 8]) (by kernel_rfl) (by simp) ?_
                      refine AllReady.cons (o := ⟨some 135, _, _, _, _, _⟩) rfl (fun K hK => ?_) ?_
                      · go_simp
                        refine hK _ _ ?_
                        clear hK K
                        refine wpAny_ready (rs := [8]) (by kernel_rfl) (by simp) ?_
                        refine AllReady.cons (o := ⟨some 139, _, _, _, _, _⟩) rfl (fun K hK => ?_) AllReady.nil
                        go_simp
                        refine hK _ _ ?_
                        clear hK K
                        refine wpAny_take (i := 10) (oi := ⟨some 141, _, _, _, _, _⟩) (v := ?_) rfl (by kernel_rfl) (by kernel_rfl) (by kernel_rfl) (fun _ _ _ h => h) (Or.inl ⟨by kernel_rfl, ?_⟩) ?_
                        rotate_left 1
                        · (intro w; go_simp); try (with_reducible rfl)
                        refine wpAny_ready (rs := [11]) (by kernel_rfl) (by simp) ?_
                        refine AllReady.cons (o := ⟨some 142, _, _, _, _, _⟩) rfl (fun K hK => ?_) AllReady.nil
                        go_simp
                        refine hK _ _ ?_
                        clear hK K
                        refine wpAny_take (i := 12) (oi := ⟨some 143, _, _, _, _, _⟩) (v := ?_) rfl (by kernel_rfl) (by kernel_rfl) (by kernel_rfl) (fun _ _ _ h => h) (Or.inl ⟨by kernel_rfl, ?_⟩) ?_
                        rotate_left 1
                        · (intro w; go_simp); try (with_reducible rfl)
                        refine wpAny_take (i := 13) (oi := ⟨some 144, _, _, _, _, _⟩) (v := ?_) rfl (by kernel_rfl) (by kernel_rfl) (by kernel_rfl) (fun _ _ _ h => h) (Or.inl ⟨by kernel_rfl, ?_⟩) ?_
                        rotate_left 1
                        · (intro w; go_simp); try (with_reducible rfl)
                        refine wpAny_take (i := 14) (oi := ⟨some 145, _, _, _, _, _⟩) (v := ?_) rfl (by kernel_rfl) (by kernel_rfl) (by kernel_rfl) (fun _ _ _ h => h) (Or.inl ⟨by kernel_rfl, ?_⟩) ?_
                        rotate_left 1
                        · (intro w; go_simp); try (with_reducible rfl)
                        refine wpAny_take (i := 15) (oi := ⟨some 146, _, _, _, _, _⟩) (v := ?_) rfl (by kernel_rfl) (by kernel_rfl) (by kernel_rfl) (fun _ _ _ h => h) (Or.inl ⟨by kernel_rfl, ?_⟩) ?_
                        rotate_left 1
                        · (intro w; go_simp); try (with_reducible rfl)
                        refine wpAny_take (i := 16) (oi := ⟨some 147, _, _, _, _, _⟩) (v := ?_) rfl (by kernel_rfl) (by kernel_rfl) (by kernel_rfl) (fun _ _ _ h => h) (Or.inl ⟨by kernel_rfl, ?_⟩) ?_
                        rotate_left 1
                        · (intro w; go_simp); try (with_reducible rfl)
                        refine wpAny_ready (rs := [17]) (by kernel_rfl) (by simp) ?_
                        refine AllReady.cons (o := ⟨some 148, _, _, _, _, _⟩) rfl (fun K hK => ?_) AllReady.nil
                        go_simp
                        go_wp2_with (go_at_call 20; refine (HOP.out _ (by first | exact HQ7.out.drew | exact HQ7.out)).mono ?_; rintro e w8 ⟨rfl, hb8⟩; have HQ8 := Lib.hid (HQ7.out.drew.trans (hb8.mono HQ7.out.size)); clear hb8)
                        refine wpAny_take (i := 18) (oi := ⟨some 149, _, _, _, _, _⟩) (v := ?_) rfl (by kernel_rfl) (by kernel_rfl) (by kernel_rfl) (fun _ _ _ h => h) (Or.inl ⟨by kernel_rfl, ?_⟩) ?_
                        rotate_left 1
                        · (intro w; go_simp); try (with_reducible rfl)
                        refine wpAny_take (i := 19) (oi := ⟨some 150, _, _, _, _, _⟩) (v := ?_) rfl (by kernel_rfl) (by kernel_rfl) (by kernel_rfl) (fun _ _ _ h => h) (Or.inl ⟨by kernel_rfl, ?_⟩) ?_
                        rotate_left 1
                        · (intro w; go_simp); try (with_reducible rfl)
                        refine wpAny_done (by kernel_rfl) ?_ _
                        go_simp
                        clear hcs htx hcv7
                        go_wp2_with fail
                        go_roundw
                        case rel => exact ⟨n + 1, by go_num, by omega, HQ8⟩
                        case measure => simp [intOf]; omega
                      refine AllReady.cons (o := ⟨some 139, _, _, _, _, _⟩) rfl (fun K hK => ?_) AllReady.nil
                      go_simp
                      refine hK _ _ ?_
                      clear hK K
                      refine wpAny_take (i := 10) (oi := ⟨some 141, _, _, _, _, _⟩) (v := ?_) rfl (by kernel_rfl) (by kernel_rfl) (by kernel_rfl) (fun _ _ _ h => h) (Or.inl ⟨by kernel_rfl, ?_⟩) ?_
                      rotate_left 1
                      · (intro w; go_simp); try (with_reducible rfl)
                      refine wpAny_ready (rs := [4, 11]) (by kernel_rfl) (by simp) ?_
                      refine AllReady.cons (o := ⟨some 135, _, _, _, _, _⟩) rfl (fun K hK => ?_) ?_
                      · go_simp
                        refine hK _ _ ?_
                        clear hK K
                        refine wpAny_ready (rs := [11]) (by kernel_rfl) (by simp) ?_
                        refine AllReady.cons (o := ⟨some 142, _, _, _, _, _⟩) rfl (fun K hK => ?_) AllReady.nil
                        go_simp
                        refine hK _ _ ?_
                        clear hK K
                        refine wpAny_take (i := 12) (oi := ⟨some 143, _, _, _, _, _⟩) (v := ?_) rfl (by kernel_rfl) (by kernel_rfl) (by kernel_rfl) (fun _ _ _ h => h) (Or.inl ⟨by kernel_rfl, ?_⟩) ?_
                        rotate_left 1
                        · (intro w; go_simp); try (with_reducible rfl)
                        refine wpAny_take (i := 13) (oi := ⟨some 144, _, _, _, _, _⟩) (v := ?_) rfl (by kernel_rfl) (by kernel_rfl) (by kernel_rfl) (fun _ _ _ h => h) (Or.inl ⟨by kernel_rfl, ?_⟩) ?_
                        rotate_left 1
                        · (intro w; go_simp); try (with_reducible rfl)
                        refine wpAny_take (i := 14) (oi := ⟨some 145, _, _, _, _, _⟩) (v := ?_) rfl (by kernel_rfl) (by kernel_rfl) (by kernel_rfl) (fun _ _ _ h => h) (Or.inl ⟨by kernel_rfl, ?_⟩) ?_
                        rotate_left 1
                        · (intro w; go_simp); try (with_reducible rfl)
                        refine wpAny_take (i := 15) (oi := ⟨some 146, _, _, _, _, _⟩) (v := ?_) rfl (by kernel_rfl) (by kernel_rfl) (by kernel_rfl) (fun _ _ _ h => h) (Or.inl ⟨by kernel_rfl, ?_⟩) ?_
                        rotate_left 1
                        · (intro w; go_simp); try (with_reducible rfl)
                        refine wpAny_take (i := 16) (oi := ⟨some 147, _, _, _, _, _⟩) (v := ?_) rfl (by kernel_rfl) (by kernel_rfl) (by kernel_rfl) (fun _ _ _ h => h) (Or.inl ⟨by kernel_rfl, ?_⟩) ?_
                        rotate_left 1
                        · (intro w; go_simp); try (with_reducible rfl)
                        refine wpAny_ready (rs := [17]) (by kernel_rfl) (by simp) ?_
                        refine AllReady.cons (o := ⟨some 148, _, _, _, _, _⟩) rfl (fun K hK => ?_) AllReady.nil
                        go_simp
                        go_wp2_with (go_at_call 20; refine (HOP.out _ (by first | exact HQ7.out.drew | exact HQ7.out)).mono ?_; rintro e w8 ⟨rfl, hb8⟩; have HQ8 := Lib.hid (HQ7.out.drew.trans (hb8.mono HQ7.out.size)); clear hb8)
                        refine wpAny_take (i := 18) (oi := ⟨some 149, _, _, _, _, _⟩) (v := ?_) rfl (by kernel_rfl) (by kernel_rfl) (by kernel_rfl) (fun _ _ _ h => h) (Or.inl ⟨by kernel_rfl, ?_⟩) ?_
                        rotate_left 1
                        · (intro w; go_simp); try (with_reducible rfl)
                        refine wpAny_take (i := 19) (oi := ⟨some 150, _, _, _, _, _⟩) (v := ?_) rfl (by kernel_rfl) (by kernel_rfl) (by kernel_rfl) (fun _ _ _ h => h) (Or.inl ⟨by kernel_rfl, ?_⟩) ?_
                        rotate_left 1
                        · (intro w; go_simp); try (with_reducible rfl)
                        refine wpAny_done (by kernel_rfl) ?_ _
                        go_simp
                        clear hcs htx hcv7
                        go_wp2_with fail
                        go_roundw
                        case rel => exact ⟨n + 1, by go_num, by omega, HQ8⟩
                        case measure => simp [intOf]; omega
                      refine AllReady.cons (o := ⟨some 142, _, _, _, _, _⟩) rfl (fun K hK => ?_) AllReady.nil
                      go_simp
                      refine hK _ _ ?_
                      clear hK K
                      refine wpAny_ready (rs := [4]) (by kernel_rfl) (by simp) ?_
                      refine AllReady.cons (o := ⟨some 135, _, _, _, _, _⟩) rfl (fun K hK => ?_) AllReady.nil
                      go_simp
                      refine hK _ _ ?_
                      clear hK K
                      refine wpAny_take (i := 12) (oi := ⟨some 143, _, _, _, _, _⟩) (v := ?_) rfl (by kernel_rfl) (by kernel_rfl) (by kernel_rfl) (fun _ _ _ h => h) (Or.inl ⟨by kernel_rfl, ?_⟩) ?_
                      rotate_left 1
                      · (intro w; go_simp); try (with_reducible rfl)
                      refine wpAny_take (i := 13) (oi := ⟨some 144, _, _, _, _, _⟩) (v := ?_) rfl (by kernel_rfl) (by kernel_rfl) (by kernel_rfl) (fun _ _ _ h => h) (Or.inl ⟨by kernel_rfl, ?_⟩) ?_
                      rotate_left 1
                      · (intro w; go_simp); try (with_reducible rfl)
                      refine wpAny_take (i := 14) (oi := ⟨some 145, _, _, _, _, _⟩) (v := ?_) rfl (by kernel_rfl) (by kernel_rfl) (by kernel_rfl) (fun _ _ _ h => h) (Or.inl ⟨by kernel_rfl, ?_⟩) ?_
                      rotate_left 1
                      · (intro w; go_simp); try (with_reducible rfl)
                      refine wpAny_take (i := 15) (oi := ⟨some 146, _, _, _, _, _⟩) (v := ?_) rfl (by kernel_rfl) (by kernel_rfl) (by kernel_rfl) (fun _ _ _ h => h) (Or.inl ⟨by kernel_rfl, ?_⟩) ?_
                      rotate_left 1
                      · (intro w; go_simp); try (with_reducible rfl)
                      refine wpAny_take (i := 16) (oi := ⟨some 147, _, _, _, _, _⟩) (v := ?_) rfl (by kernel_rfl) (by kernel_rfl) (by kernel_rfl) (fun _ _ _ h => h) (Or.inl ⟨by kernel_rfl, ?_⟩) ?_
                      rotate_left 1
                      · (intro w; go_simp); try (with_reducible rfl)
                      refine wpAny_ready (rs := [17]) (by kernel_rfl) (by simp) ?_
                      refine AllReady.cons (o := ⟨some 148, _, _, _, _, _⟩) rfl (fun K hK => ?_) AllReady.nil
                      go_simp
                      go_wp2_with (go_at_call 20; refine (HOP.out _ (by first | exact HQ7.out.drew | exact HQ7.out)).mono ?_; rintro e w8 ⟨rfl, hb8⟩; have HQ8 := Lib.hid (HQ7.out.drew.trans (hb8.mono HQ7.out.size)); clear hb8)
                      refine wpAny_take (i := 18) (oi := ⟨some 149, _, _, _, _, _⟩) (v := ?_) rfl (by kernel_rfl) (by kernel_rfl) (by kernel_rfl) (fun _ _ _ h => h) (Or.inl ⟨by kernel_rfl, ?_⟩) ?_
                      rotate_left 1
                      · (intro w; go_simp); try (with_reducible rfl)
                      refine wpAny_take (i := 19) (oi := ⟨some 150, _, _, _, _, _⟩) (v := ?_) rfl (by kernel_rfl) (by kernel_rfl) (by kernel_rfl) (fun _ _ _ h => h) (Or.inl ⟨by kernel_rfl, ?_⟩) ?_
                      rotate_left 1
                      · (intro w; go_simp); try (with_reducible rfl)
                      refine wpAny_done (by kernel_rfl) ?_ _
                      go_simp
                      clear hcs htx hcv7
                      go_wp2_with fail
                      go_roundw
                      case rel => exact ⟨n + 1, by go_num, by omega, HQ8⟩
                      case measure => simp [intOf]; omega
                  · have HKK : Hid (kept ks H n = 0 ∧ 0 < L) := Lib.hid ⟨by rw [HKE.out]; omega, by omega⟩
                    have hxz : ¬ (0 : Int) ≥ (L : Int) := by omega
                    have hKL : (0 : Int) < (L : Int) := by omega
                    have hKN : 0 < L := by omega
                    go_wp2_with fail
                    try clear hK
                    rw [HKK.out.1] at c7
                    refine c7.mono ?_
                    rintro e w7 ⟨v7, rfl, hf7, hb7⟩
                    have HQ7 := Lib.hid (HQ.out.trans (hb7.mono HQ.out.size))
                    obtain ⟨a7, c7', hv7, hA7, _⟩ := hf7
                    have HS7 := Lib.hid (HS6.out.later HQ7.out)
                    have hcs := HS7.out.cell hlt hlt
                    rw [show rowVal bs cp H n = .slice (some ⟨bs n, 0, none⟩) L (cp n) by unfold rowVal; rw [HLE.out]] at hcs
                    have htx := HS7.out.text (k := 0) hlt (by rw [← HLE.out]; exact HKK.out.2)
                    generalize (H n).getD 0 [] = T7 at *
                    have hcv7 : (convert 36 9 (.slice a7 T7.length c7')).run Try.prog w7.drew = .ok (.string (str T7)) w7.drew := str_bytes (w := w7.drew) (show Bts w7.drew a7 T7.length T7 from hA7.1)
                    rw [hv7]
                    generalize str T7 = S7 at *
                    generalize T7.length = L7 at *
                    clear c7 hb7 hv7 hA7 hcell
                    go_wp2_with fail
                    refine wp_region_any (by kernel_rfl) ?_
                    try (change wpAny _ _ _ _ _ _ _ (World.drew _))
                    refine wpAny_take (i := 0) (oi := ⟨some 131, _, _, _, _, _⟩) (v := ?_) rfl (by kernel_rfl) (by kernel_rfl) (by kernel_rfl) (fun _ _ _ h => h) (Or.inl ⟨by kernel_rfl, ?_⟩) ?_
                    rotate_left 1
                    · (intro w; go_simp); try (with_reducible rfl)
                    refine wpAny_take (i := 1) (oi := ⟨some 132, _, _, _, _, _⟩) (v := ?_) rfl (by kernel_rfl) (by kernel_rfl) (by kernel_rfl) (fun _ _ _ h => h) (Or.inl ⟨by kernel_rfl, ?_⟩) ?_
                    rotate_left 1
                    · (intro w; go_simp); try (with_reducible rfl)
                    refine wpAny_take (i := 2) (oi := ⟨some 133, _, _, _, _, _⟩) (v := ?_) rfl (by kernel_rfl) (by kernel_rfl) (by kernel_rfl) (fun _ _ _ h => h) (Or.inl ⟨by kernel_rfl, ?_⟩) ?_
                    rotate_left 1
                    · (intro w; go_simp); try (with_reducible rfl)
                    refine wpAny_take (i := 3) (oi := ⟨some 134, _, _, _, _, _⟩) (v := ?_) rfl (by kernel_rfl) (by kernel_rfl) (by kernel_rfl) (fun _ _ _ h => h) (Or.inl ⟨by kernel_rfl, ?_⟩) ?_
                    rotate_left 1
                    · (intro w; go_simp); try (with_reducible rfl)
                    refine wpAny_take (i := 5) (oi := ⟨some 136, _, _, _, _, _⟩) (v := ?_) rfl (by kernel_rfl) (by kernel_rfl) (by kernel_rfl) (fun _ _ _ h => h) (Or.inl ⟨by kernel_rfl, ?_⟩) ?_
                    rotate_left 1
                    · (intro w; go_simp); try (with_reducible rfl)
                    refine wpAny_take (i := 6) (oi := ⟨some 137, _, _, _, _, _⟩) (v := ?_) rfl (by kernel_rfl) (by kernel_rfl) (by kernel_rfl) (fun _ _ _ h => h) (Or.inl ⟨by kernel_rfl, ?_⟩) ?_
                    rotate_left 1
                    · (intro w; go_simp); try (with_reducible rfl)
                    refine wpAny_take (i := 7) (oi := ⟨some 138, _, _, _, _, _⟩) (v := ?_) rfl (by kernel_rfl) (by kernel_rfl) (by kernel_rfl) (fun _ _ _ h => h) (Or.inl ⟨by kernel_rfl, ?_⟩) ?_
                    rotate_left 1
                    · (intro w; go_simp); try (with_reducible rfl)
                    refine wpAny_take (i := 9) (oi := ⟨some 140, _, _, _, _, _⟩) (v := ?_) rfl (by kernel_rfl) (by kernel_rfl) (by kernel_rfl) (fun _ _ _ h => h) (Or.inl ⟨by kernel_rfl, ?_⟩) ?_
                    rotate_left 1
                    · (intro w; go_simp); try (with_reducible rfl)
                    refine wpAny_ready (rs := [4, 8]) (by kernel_rfl) (by simp) ?_
                    refine AllReady.cons (o := ⟨some 135, _, _, _, _, _⟩) rfl (fun K hK => ?_) ?_
                    · go_simp
                      refine hK _ _ ?_
                      clear hK K
                      refine wpAny_ready (rs := [8]) (by kernel_rfl) (by simp) ?_
                      refine AllReady.cons (o := ⟨some 139, _, _, _, _, _⟩) rfl (fun K hK => ?_) AllReady.nil
                      go_simp
                      refine hK _ _ ?_
                      clear hK K
                      refine wpAny_take (i := 10) (oi := ⟨some 141, _, _, _, _, _⟩) (v := ?_) rfl (by kernel_rfl) (by kernel_rfl) (by kernel_rfl) (fun _ _ _ h => h) (Or.inl ⟨by kernel_rfl, ?_⟩) ?_
                      rotate_left 1
                      · (intro w; go_simp); try (with_reducible rfl)
                      refine wpAny_ready (rs := [11]) (by kernel_rfl) (by simp) ?_
                      refine AllReady.cons (o := ⟨some 142, _, _, _, _, _⟩) rfl (fun K hK => ?_) AllReady.nil
                      go_simp
                      refine hK _ _ ?_
                      clear hK K
                      refine wpAny_take (i := 12) (oi := ⟨some 143, _, _, _, _, _⟩) (v := ?_) rfl (by kernel_rfl) (by kernel_rfl) (by kernel_rfl) (fun _ _ _ h => h) (Or.inl ⟨by kernel_rfl, ?_⟩) ?_
                      rotate_left 1
                      · (intro w; go_simp); try (with_reducible rfl)
                      refine wpAny_take (i := 13) (oi := ⟨some 144, _, _, _, _, _⟩) (v := ?_) rfl (by kernel_rfl) (by kernel_rfl) (by kernel_rfl) (fun _ _ _ h => h) (Or.inl ⟨by kernel_rfl, ?_⟩) ?_
                      rotate_left 1
                      · (intro w; go_simp); try (with_reducible rfl)
                      refine wpAny_take (i := 14) (oi := ⟨some 145, _, _, _, _, _⟩) (v := ?_) rfl (by kernel_rfl) (by kernel_rfl) (by kernel_rfl) (fun _ _ _ h => h) (Or.inl ⟨by kernel_rfl, ?_⟩) ?_
                      rotate_left 1
                      · (intro w; go_simp); try (with_reducible rfl)
                      refine wpAny_take (i := 15) (oi := ⟨some 146, _, _, _, _, _⟩) (v := ?_) rfl (by kernel_rfl) (by kernel_rfl) (by kernel_rfl) (fun _ _ _ h => h) (Or.inl ⟨by kernel_rfl, ?_⟩) ?_
                      rotate_left 1
                      · (intro w; go_simp); try (with_reducible rfl)
                      refine wpAny_take (i := 16) (oi := ⟨some 147, _, _, _, _, _⟩) (v := ?_) rfl (by kernel_rfl) (by kernel_rfl) (by kernel_rfl) (fun _ _ _ h => h) (Or.inl ⟨by kernel_rfl, ?_⟩) ?_
                      rotate_left 1
                      · (intro w; go_simp); try (with_reducible rfl)
                      refine wpAny_ready (rs := [17]) (by kernel_rfl) (by simp) ?_
                      refine AllReady.cons (o := ⟨some 148, _, _, _, _, _⟩) rfl (fun K hK => ?_) AllReady.nil
                      go_simp
                      go_wp2_with (go_at_call 20; refine (HOP.out _ (by first | exact HQ7.out.drew | exact HQ7.out)).mono ?_; rintro e w8 ⟨rfl, hb8⟩; have HQ8 := Lib.hid (HQ7.out.drew.trans (hb8.mono HQ7.out.size)); clear hb8)
                      refine wpAny_take (i := 18) (oi := ⟨some 149, _, _, _, _, _⟩) (v := ?_) rfl (by kernel_rfl) (by kernel_rfl) (by kernel_rfl) (fun _ _ _ h => h) (Or.inl ⟨by kernel_rfl, ?_⟩) ?_
                      rotate_left 1
                      · (intro w; go_simp); try (with_reducible rfl)
                      refine wpAny_take (i := 19) (oi := ⟨some 150, _, _, _, _, _⟩) (v := ?_) rfl (by kernel_rfl) (by kernel_rfl) (by kernel_rfl) (fun _ _ _ h => h) (Or.inl ⟨by kernel_rfl, ?_⟩) ?_
                      rotate_left 1
                      · (intro w; go_simp); try (with_reducible rfl)
                      refine wpAny_done (by kernel_rfl) ?_ _
                      go_simp
                      clear hcs htx hcv7
                      go_wp2_with fail
                      go_roundw
                      case rel => exact ⟨n + 1, by go_num, by omega, HQ8⟩
                      case measure => simp [intOf]; omega
                    refine AllReady.cons (o := ⟨some 139, _, _, _, _, _⟩) rfl (fun K hK => ?_) AllReady.nil
                    go_simp
                    refine hK _ _ ?_
                    clear hK K
                    refine wpAny_take (i := 10) (oi := ⟨some 141, _, _, _, _, _⟩) (v := ?_) rfl (by kernel_rfl) (by kernel_rfl) (by kernel_rfl) (fun _ _ _ h => h) (Or.inl ⟨by kernel_rfl, ?_⟩) ?_
                    rotate_left 1
                    · (intro w; go_simp); try (with_reducible rfl)
                    refine wpAny_ready (rs := [4, 11]) (by kernel_rfl) (by simp) ?_
                    refine AllReady.cons (o := ⟨some 135, _, _, _, _, _⟩) rfl (fun K hK => ?_) ?_
                    · go_simp
                      refine hK _ _ ?_
                      clear hK K
                      refine wpAny_ready (rs := [11]) (by kernel_rfl) (by simp) ?_
                      refine AllReady.cons (o := ⟨some 142, _, _, _, _, _⟩) rfl (fun K hK => ?_) AllReady.nil
                      go_simp
                      refine hK _ _ ?_
                      clear hK K
                      refine wpAny_take (i := 12) (oi := ⟨some 143, _, _, _, _, _⟩) (v := ?_) rfl (by kernel_rfl) (by kernel_rfl) (by kernel_rfl) (fun _ _ _ h => h) (Or.inl ⟨by kernel_rfl, ?_⟩) ?_
                      rotate_left 1
                      · (intro w; go_simp); try (with_reducible rfl)
                      refine wpAny_take (i := 13) (oi := ⟨some 144, _, _, _, _, _⟩) (v := ?_) rfl (by kernel_rfl) (by kernel_rfl) (by kernel_rfl) (fun _ _ _ h => h) (Or.inl ⟨by kernel_rfl, ?_⟩) ?_
                      rotate_left 1
                      · (intro w; go_simp); try (with_reducible rfl)
                      refine wpAny_take (i := 14) (oi := ⟨some 145, _, _, _, _, _⟩) (v := ?_) rfl (by kernel_rfl) (by kernel_rfl) (by kernel_rfl) (fun _ _ _ h => h) (Or.inl ⟨by kernel_rfl, ?_⟩) ?_
                      rotate_left 1
                      · (intro w; go_simp); try (with_reducible rfl)
                      refine wpAny_take (i := 15) (oi := ⟨some 146, _, _, _, _, _⟩) (v := ?_) rfl (by kernel_rfl) (by kernel_rfl) (by kernel_rfl) (fun _ _ _ h => h) (Or.inl ⟨by kernel_rfl, ?_⟩) ?_
                      rotate_left 1
                      · (intro w; go_simp); try (with_reducible rfl)
                      refine wpAny_take (i := 16) (oi := ⟨some 147, _, _, _, _, _⟩) (v := ?_) rfl (by kernel_rfl) (by kernel_rfl) (by kernel_rfl) (fun _ _ _ h => h) (Or.inl ⟨by kernel_rfl, ?_⟩) ?_
                      rotate_left 1
                      · (intro w; go_simp); try (with_reducible rfl)
                      refine wpAny_ready (rs := [17]) (by kernel_rfl) (by simp) ?_
                      refine AllReady.cons (o := ⟨some 148, _, _, _, _, _⟩) rfl (fun K hK => ?_) AllReady.nil
                      go_simp
                      go_wp2_with (go_at_call 20; refine (HOP.out _ (by first | exact HQ7.out.drew | exact HQ7.out)).mono ?_; rintro e w8 ⟨rfl, hb8⟩; have HQ8 := Lib.hid (HQ7.out.drew.trans (hb8.mono HQ7.out.size)); clear hb8)
                      refine wpAny_take (i := 18) (oi := ⟨some 149, _, _, _, _, _⟩) (v := ?_) rfl (by kernel_rfl) (by kernel_rfl) (by kernel_rfl) (fun _ _ _ h => h) (Or.inl ⟨by kernel_rfl, ?_⟩) ?_
                      rotate_left 1
                      · (intro w; go_simp); try (with_reducible rfl)
                      refine wpAny_take (i := 19) (oi := ⟨some 150, _, _, _, _, _⟩) (v := ?_) rfl (by kernel_rfl) (by kernel_rfl) (by kernel_rfl) (fun _ _ _ h => h) (Or.inl ⟨by kernel_rfl, ?_⟩) ?_
                      rotate_left 1
                      · (intro w; go_simp); try (with_reducible rfl)
                      refine wpAny_done (by kernel_rfl) ?_ _
                      go_simp
                      clear hcs htx hcv7
                      go_wp2_with fail
                      go_roundw
                      case rel => exact ⟨n + 1, by go_num, by omega, HQ8⟩
                      case measure => simp [intOf]; omega
                    refine AllReady.cons (o := ⟨some 142, _, _, _, _, _⟩) rfl (fun K hK => ?_) AllReady.nil
                    go_simp
                    refine hK _ _ ?_
                    clear hK K
                    refine wpAny_ready (rs := [4]) (by kernel_rfl) (by simp) ?_
                    refine AllReady.cons (o := ⟨some 135, _, _, _, _, _⟩) rfl (fun K hK => ?_) AllReady.nil
                    go_simp
                    refine hK _ _ ?_
                    clear hK K
                    refine wpAny_take (i := 12) (oi := ⟨some 143, _, _, _, _, _⟩) (v := ?_) rfl (by kernel_rfl) (by kernel_rfl) (by kernel_rfl) (fun _ _ _ h => h) (Or.inl ⟨by kernel_rfl, ?_⟩) ?_
                    rotate_left 1
                    · (intro w; go_simp); try (with_reducible rfl)
                    refine wpAny_take (i := 13) (oi := ⟨some 144, _, _, _, _, _⟩) (v := ?_) rfl (by kernel_rfl) (by kernel_rfl) (by kernel_rfl) (fun _ _ _ h => h) (Or.inl ⟨by kernel_rfl, ?_⟩) ?_
                    rotate_left 1
                    · (intro w; go_simp); try (with_reducible rfl)
                    refine wpAny_take (i := 14) (oi := ⟨some 145, _, _, _, _, _⟩) (v := ?_) rfl (by kernel_rfl) (by kernel_rfl) (by kernel_rfl) (fun _ _ _ h => h) (Or.inl ⟨by kernel_rfl, ?_⟩) ?_
                    rotate_left 1
                    · (intro w; go_simp); try (with_reducible rfl)
                    refine wpAny_take (i := 15) (oi := ⟨some 146, _, _, _, _, _⟩) (v := ?_) rfl (by kernel_rfl) (by kernel_rfl) (by kernel_rfl) (fun _ _ _ h => h) (Or.inl ⟨by kernel_rfl, ?_⟩) ?_
                    rotate_left 1
                    · (intro w; go_simp); try (with_reducible rfl)
                    refine wpAny_take (i := 16) (oi := ⟨some 147, _, _, _, _, _⟩) (v := ?_) rfl (by kernel_rfl) (by kernel_rfl) (by kernel_rfl) (fun _ _ _ h => h) (Or.inl ⟨by kernel_rfl, ?_⟩) ?_
                    rotate_left 1
                    · (intro w; go_simp); try (with_reducible rfl)
                    refine wpAny_ready (rs := [17]) (by kernel_rfl) (by simp) ?_
                    refine AllReady.cons (o := ⟨some 148, _, _, _, _, _⟩) rfl (fun K hK => ?_) AllReady.nil
                    go_simp
                    go_wp2_with (go_at_call 20; refine (HOP.out _ (by first | exact HQ7.out.drew | exact HQ7.out)).mono ?_; rintro e w8 ⟨rfl, hb8⟩; have HQ8 := Lib.hid (HQ7.out.drew.trans (hb8.mono HQ7.out.size)); clear hb8)
                    refine wpAny_take (i := 18) (oi := ⟨some 149, _, _, _, _, _⟩) (v := ?_) rfl (by kernel_rfl) (by kernel_rfl) (by kernel_rfl) (fun _ _ _ h => h) (Or.inl ⟨by kernel_rfl, ?_⟩) ?_
                    rotate_left 1
                    · (intro w; go_simp); try (with_reducible rfl)
                    refine wpAny_take (i := 19) (oi := ⟨some 150, _, _, _, _, _⟩) (v := ?_) rfl (by kernel_rfl) (by kernel_rfl) (by kernel_rfl) (fun _ _ _ h => h) (Or.inl ⟨by kernel_rfl, ?_⟩) ?_
                    rotate_left 1
                    · (intro w; go_simp); try (with_reducible rfl)
                    refine wpAny_done (by kernel_rfl) ?_ _
                    go_simp
                    clear hcs htx hcv7
                    go_wp2_with fail
                    go_roundw
                    case rel => exact ⟨n + 1, by go_num, by omega, HQ8⟩
                    case measure => simp [intOf]; omega
                · have z10 : ¬ (n : Int) < (len2 : Int) := by omega
                  have HKK : Hid (kept ks H n = 0 ∧ 0 < L) := Lib.hid ⟨by rw [HKE.out, List.getD_eq_getElem?_getD, List.getElem?_eq_none (by rw [HKS.out.1]; omega)]; simp, by omega⟩
                  have hxz : ¬ (0 : Int) ≥ (L : Int) := by omega
                  have hKL : (0 : Int) < (L : Int) := by omega
                  have hKN : 0 < L := by omega
                  go_wp2_with fail
                  try clear hK
                  rw [HKK.out.1] at c7
                  refine c7.mono ?_
                  rintro e w7 ⟨v7, rfl, hf7, hb7⟩
                  have HQ7 := Lib.hid (HQ.out.trans (hb7.mono HQ.out.size))
                  obtain ⟨a7, c7', hv7, hA7, _⟩ := hf7
                  have HS7 := Lib.hid (HS6.out.later HQ7.out)
                  have hcs := HS7.out.cell hlt hlt
                  rw [show rowVal bs cp H n = .slice (some ⟨bs n, 0, none⟩) L (cp n) by unfold rowVal; rw [HLE.out]] at hcs
                  have htx := HS7.out.text (k := 0) hlt (by rw [← HLE.out]; exact HKK.out.2)
                  generalize (H n).getD 0 [] = T7 at *
                  have hcv7 : (convert 36 9 (.slice a7 T7.length c7')).run Try.prog w7.drew = .ok (.string (str T7)) w7.drew := str_bytes (w := w7.drew) (show Bts w7.drew a7 T7.length T7 from hA7.1)
                  rw [hv7]
                  generalize str T7 = S7 at *
                  generalize T7.length = L7 at *
                  clear c7 hb7 hv7 hA7 hcell
                  go_wp2_with fail
                  refine wp_region_any (by kernel_rfl) ?_
                  try (change wpAny _ _ _ _ _ _ _ (World.drew _))
                  refine wpAny_take (i := 0) (oi := ⟨some 131, _, _, _, _, _⟩) (v := ?_) rfl (by kernel_rfl) (by kernel_rfl) (by kernel_rfl) (fun _ _ _ h => h) (Or.inl ⟨by kernel_rfl, ?_⟩) ?_
                  rotate_left 1
                  · (intro w; go_simp); try (with_reducible rfl)
                  refine wpAny_take (i := 1) (oi := ⟨some 132, _, _, _, _, _⟩) (v := ?_) rfl (by kernel_rfl) (by kernel_rfl) (by kernel_rfl) (fun _ _ _ h => h) (Or.inl ⟨by kernel_rfl, ?_⟩) ?_
                  rotate_left 1
                  · (intro w; go_simp); try (with_reducible rfl)
                  refine wpAny_take (i := 2) (oi := ⟨some 133, _, _, _, _, _⟩) (v := ?_) rfl (by kernel_rfl) (by kernel_rfl) (by kernel_rfl) (fun _ _ _ h => h) (Or.inl ⟨by kernel_rfl, ?_⟩) ?_
                  rotate_left 1
                  · (intro w; go_simp); try (with_reducible rfl)
                  refine wpAny_take (i := 3) (oi := ⟨some 134, _, _, _, _, _⟩) (v := ?_) rfl (by kernel_rfl) (by kernel_rfl) (by kernel_rfl) (fun _ _ _ h => h) (Or.inl ⟨by kernel_rfl, ?_⟩) ?_
                  rotate_left 1
                  · (intro w; go_simp); try (with_reducible rfl)
                  refine wpAny_take (i := 5) (oi := ⟨some 136, _, _, _, _, _⟩) (v := ?_) rfl (by kernel_rfl) (by kernel_rfl) (by kernel_rfl) (fun _ _ _ h => h) (Or.inl ⟨by kernel_rfl, ?_⟩) ?_
                  rotate_left 1
                  · (intro w; go_simp); try (with_reducible rfl)
                  refine wpAny_take (i := 6) (oi := ⟨some 137, _, _, _, _, _⟩) (v := ?_) rfl (by kernel_rfl) (by kernel_rfl) (by kernel_rfl) (fun _ _ _ h => h) (Or.inl ⟨by kernel_rfl, ?_⟩) ?_
                  rotate_left 1
                  · (intro w; go_simp); try (with_reducible rfl)
                  refine wpAny_take (i := 7) (oi := ⟨some 138, _, _, _, _, _⟩) (v := ?_) rfl (by kernel_rfl) (by kernel_rfl) (by kernel_rfl) (fun _ _ _ h => h) (Or.inl ⟨by kernel_rfl, ?_⟩) ?_
                  rotate_left 1
                  · (intro w; go_simp); try (with_reducible rfl)
                  refine wpAny_take (i := 9) (oi := ⟨some 140, _, _, _, _, _⟩) (v := ?_) rfl (by kernel_rfl) (by kernel_rfl) (by kernel_rfl) (fun _ _ _ h => h) (Or.inl ⟨by kernel_rfl, ?_⟩) ?_
                  rotate_left 1
                  · (intro w; go_simp); try (with_reducible rfl)
                  refine wpAny_ready (rs := [4, 8]) (by kernel_rfl) (by simp) ?_
                  refine AllReady.cons (o := ⟨some 135, _, _, _, _, _⟩) rfl (fun K hK => ?_) ?_
                  · go_simp
                    refine hK _ _ ?_
                    clear hK K
                    refine wpAny_ready (rs := [8]) (by kernel_rfl) (by simp) ?_
                    refine AllReady.cons (o := ⟨some 139, _, _, _, _, _⟩) rfl (fun K hK => ?_) AllReady.nil
                    go_simp
                    refine hK _ _ ?_
                    clear hK K
                    refine wpAny_take (i := 10) (oi := ⟨some 141, _, _, _, _, _⟩) (v := ?_) rfl (by kernel_rfl) (by kernel_rfl) (by kernel_rfl) (fun _ _ _ h => h) (Or.inl ⟨by kernel_rfl, ?_⟩) ?_
                    rotate_left 1
                    · (intro w; go_simp); try (with_reducible rfl)
                    refine wpAny_ready (rs := [11]) (by kernel_rfl) (by simp) ?_
                    refine AllReady.cons (o := ⟨some 142, _, _, _, _, _⟩) rfl (fun K hK => ?_) AllReady.nil
                    go_simp
                    refine hK _ _ ?_
                    clear hK K
                    refine wpAny_take (i := 12) (oi := ⟨some 143, _, _, _, _, _⟩) (v := ?_) rfl (by kernel_rfl) (by kernel_rfl) (by kernel_rfl) (fun _ _ _ h => h) (Or.inl ⟨by kernel_rfl, ?_⟩) ?_
                    rotate_left 1
                    · (intro w; go_simp); try (with_reducible rfl)
                    refine wpAny_take (i := 13) (oi := ⟨some 144, _, _, _, _, _⟩) (v := ?_) rfl (by kernel_rfl) (by kernel_rfl) (by kernel_rfl) (fun _ _ _ h => h) (Or.inl ⟨by kernel_rfl, ?_⟩) ?_
                    rotate_left 1
                    · (intro w; go_simp); try (with_reducible rfl)
                    refine wpAny_take (i := 14) (oi := ⟨some 145, _, _, _, _, _⟩) (v := ?_) rfl (by kernel_rfl) (by kernel_rfl) (by kernel_rfl) (fun _ _ _ h => h) (Or.inl ⟨by kernel_rfl, ?_⟩) ?_
                    rotate_left 1
                    · (intro w; go_simp); try (with_reducible rfl)
                    refine wpAny_take (i := 15) (oi := ⟨some 146, _, _, _, _, _⟩) (v := ?_) rfl (by kernel_rfl) (by kernel_rfl) (by kernel_rfl) (fun _ _ _ h => h) (Or.inl ⟨by kernel_rfl, ?_⟩) ?_
                    rotate_left 1
                    · (intro w; go_simp); try (with_reducible rfl)
                    refine wpAny_take (i := 16) (oi := ⟨some 147, _, _, _, _, _⟩) (v := ?_) rfl (by kernel_rfl) (by kernel_rfl) (by kernel_rfl) (fun _ _ _ h => h) (Or.inl ⟨by kernel_rfl, ?_⟩) ?_
                    rotate_left 1
                    · (intro w; go_simp); try (with_reducible rfl)
                    refine wpAny_ready (rs := [17]) (by kernel_rfl) (by simp) ?_
                    refine AllReady.cons (o := ⟨some 148, _, _, _, _, _⟩) rfl (fun K hK => ?_) AllReady.nil
                    go_simp
                    go_wp2_with (go_at_call 20; refine (HOP.out _ (by first | exact HQ7.out.drew | exact HQ7.out)).mono ?_; rintro e w8 ⟨rfl, hb8⟩; have HQ8 := Lib.hid (HQ7.out.drew.trans (hb8.mono HQ7.out.size)); clear hb8)
                    refine wpAny_take (i := 18) (oi := ⟨some 149, _, _, _, _, _⟩) (v := ?_) rfl (by kernel_rfl) (by kernel_rfl) (by kernel_rfl) (fun _ _ _ h => h) (Or.inl ⟨by kernel_rfl, ?_⟩) ?_
                    rotate_left 1
                    · (intro w; go_simp); try (with_reducible rfl)
                    refine wpAny_take (i := 19) (oi := ⟨some 150, _, _, _, _, _⟩) (v := ?_) rfl (by kernel_rfl) (by kernel_rfl) (by kernel_rfl) (fun _ _ _ h => h) (Or.inl ⟨by kernel_rfl, ?_⟩) ?_
                    rotate_left 1
                    · (intro w; go_simp); try (with_reducible rfl)
                    refine wpAny_done (by kernel_rfl) ?_ _
                    go_simp
                    clear hcs htx hcv7
                    go_wp2_with fail
                    go_roundw
                    case rel => exact ⟨n + 1, by go_num, by omega, HQ8⟩
                    case measure => simp [intOf]; omega
                  refine AllReady.cons (o := ⟨some 139, _, _, _, _, _⟩) rfl (fun K hK => ?_) AllReady.nil
                  go_simp
                  refine hK _ _ ?_
                  clear hK K
                  refine wpAny_take (i := 10) (oi := ⟨some 141, _, _, _, _, _⟩) (v := ?_) rfl (by kernel_rfl) (by kernel_rfl) (by kernel_rfl) (fun _ _ _ h => h) (Or.inl ⟨by kernel_rfl, ?_⟩) ?_
                  rotate_left 1
                  · (intro w; go_simp); try (with_reducible rfl)
                  refine wpAny_ready (rs := [4, 11]) (by kernel_rfl) (by simp) ?_
                  refine AllReady.cons (o := ⟨some 135, _, _, _, _, _⟩) rfl (fun K hK => ?_) ?_
                  · go_simp
                    refine hK _ _ ?_
                    clear hK K
                    refine wpAny_ready (rs := [11]) (by kernel_rfl) (by simp) ?_
                    refine AllReady.cons (o := ⟨some 142, _, _, _, _, _⟩) rfl (fun K hK => ?_) AllReady.nil
                    go_simp
                    refine hK _ _ ?_
                    clear hK K
                    refine wpAny_take (i := 12) (oi := ⟨some 143, _, _, _, _, _⟩) (v := ?_) rfl (by kernel_rfl) (by kernel_rfl) (by kernel_rfl) (fun _ _ _ h => h) (Or.inl ⟨by kernel_rfl, ?_⟩) ?_
                    rotate_left 1
                    · (intro w; go_simp); try (with_reducible rfl)
                    refine wpAny_take (i := 13) (oi := ⟨some 144, _, _, _, _, _⟩) (v := ?_) rfl (by kernel_rfl) (by kernel_rfl) (by kernel_rfl) (fun _ _ _ h => h) (Or.inl ⟨by kernel_rfl, ?_⟩) ?_
                    rotate_left 1
                    · (intro w; go_simp); try (with_reducible rfl)
                    refine wpAny_take (i := 14) (oi := ⟨some 145, _, _, _, _, _⟩) (v := ?_) rfl (by kernel_rfl) (by kernel_rfl) (by kernel_rfl) (fun _ _ _ h => h) (Or.inl ⟨by kernel_rfl, ?_⟩) ?_
                    rotate_left 1
                    · (intro w; go_simp); try (with_reducible rfl)
                    refine wpAny_take (i := 15) (oi := ⟨some 146, _, _, _, _, _⟩) (v := ?_) rfl (by kernel_rfl) (by kernel_rfl) (by kernel_rfl) (fun _ _ _ h => h) (Or.inl ⟨by kernel_rfl, ?_⟩) ?_
                    rotate_left 1
                    · (intro w; go_simp); try (with_reducible rfl)
                    refine wpAny_take (i := 16) (oi := ⟨some 147, _, _, _, _, _⟩) (v := ?_) rfl (by kernel_rfl) (by kernel_rfl) (by kernel_rfl) (fun _ _ _ h => h) (Or.inl ⟨by kernel_rfl, ?_⟩) ?_
                    rotate_left 1
                    · (intro w; go_simp); try (with_reducible rfl)
                    refine wpAny_ready (rs := [17]) (by kernel_rfl) (by simp) ?_
                    refine AllReady.cons (o := ⟨some 148, _, _, _, _, _⟩) rfl (fun K hK => ?_) AllReady.nil
                    go_simp
                    go_wp2_with (go_at_call 20; refine (HOP.out _ (by first | exact HQ7.out.drew | exact HQ7.out)).mono ?_; rintro e w8 ⟨rfl, hb8⟩; have HQ8 := Lib.hid (HQ7.out.drew.trans (hb8.mono HQ7.out.size)); clear hb8)
                    refine wpAny_take (i := 18) (oi := ⟨some 149, _, _, _, _, _⟩) (v := ?_) rfl (by kernel_rfl) (by kernel_rfl) (by kernel_rfl) (fun _ _ _ h => h) (Or.inl ⟨by kernel_rfl, ?_⟩) ?_
                    rotate_left 1
                    · (intro w; go_simp); try (with_reducible rfl)
                    refine wpAny_take (i := 19) (oi := ⟨some 150, _, _, _, _, _⟩) (v := ?_) rfl (by kernel_rfl) (by kernel_rfl) (by kernel_rfl) (fun _ _ _ h => h) (Or.inl ⟨by kernel_rfl, ?_⟩) ?_
                    rotate_left 1
                    · (intro w; go_simp); try (with_reducible rfl)
                    refine wpAny_done (by kernel_rfl) ?_ _
                    go_simp
                    clear hcs htx hcv7
                    go_wp2_with fail
                    go_roundw
                    case rel => exact ⟨n + 1, by go_num, by omega, HQ8⟩
                    case measure => simp [intOf]; omega
                  refine AllReady.cons (o := ⟨some 142, _, _, _, _, _⟩) rfl (fun K hK => ?_) AllReady.nil
                  go_simp
                  refine hK _ _ ?_
                  clear hK K
                  refine wpAny_ready (rs := [4]) (by kernel_rfl) (by simp) ?_
                  refine AllReady.cons (o := ⟨some 135, _, _, _, _, _⟩) rfl (fun K hK => ?_) AllReady.nil
                  go_simp
                  refine hK _ _ ?_
                  clear hK K
                  refine wpAny_take (i := 12) (oi := ⟨some 143, _, _, _, _, _⟩) (v := ?_) rfl (by kernel_rfl) (by kernel_rfl) (by kernel_rfl) (fun _ _ _ h => h) (Or.inl ⟨by kernel_rfl, ?_⟩) ?_
                  rotate_left 1
                  · (intro w; go_simp); try (with_reducible rfl)
                  refine wpAny_take (i := 13) (oi := ⟨some 144, _, _, _, _, _⟩) (v := ?_) rfl (by kernel_rfl) (by kernel_rfl) (by kernel_rfl) (fun _ _ _ h => h) (Or.inl ⟨by kernel_rfl, ?_⟩) ?_
                  rotate_left 1
                  · (intro w; go_simp); try (with_reducible rfl)
                  refine wpAny_take (i := 14) (oi := ⟨some 145, _, _, _, _, _⟩) (v := ?_) rfl (by kernel_rfl) (by kernel_rfl) (by kernel_rfl) (fun _ _ _ h => h) (Or.inl ⟨by kernel_rfl, ?_⟩) ?_
                  rotate_left 1
                  · (intro w; go_simp); try (with_reducible rfl)
                  refine wpAny_take (i := 15) (oi := ⟨some 146, _, _, _, _, _⟩) (v := ?_) rfl (by kernel_rfl) (by kernel_rfl) (by kernel_rfl) (fun _ _ _ h => h) (Or.inl ⟨by kernel_rfl, ?_⟩) ?_
                  rotate_left 1
                  · (intro w; go_simp); try (with_reducible rfl)
                  refine wpAny_take (i := 16) (oi := ⟨some 147, _, _, _, _, _⟩) (v := ?_) rfl (by kernel_rfl) (by kernel_rfl) (by kernel_rfl) (fun _ _ _ h => h) (Or.inl ⟨by kernel_rfl, ?_⟩) ?_
                  rotate_left 1
                  · (intro w; go_simp); try (with_reducible rfl)
                  refine wpAny_ready (rs := [17]) (by kernel_rfl) (by simp) ?_
                  refine AllReady.cons (o := ⟨some 148, _, _, _, _, _⟩) rfl (fun K hK => ?_) AllReady.nil
                  go_simp
                  go_wp2_with (go_at_call 20; refine (HOP.out _ (by first | exact HQ7.out.drew | exact HQ7.out)).mono ?_; rintro e w8 ⟨rfl, hb8⟩; have HQ8 := Lib.hid (HQ7.out.drew.trans (hb8.mono HQ7.out.size)); clear hb8)
                  refine wpAny_take (i := 18) (oi := ⟨some 149, _, _, _, _, _⟩) (v := ?_) rfl (by kernel_rfl) (by kernel_rfl) (by kernel_rfl) (fun _ _ _ h => h) (Or.inl ⟨by kernel_rfl, ?_⟩) ?_
                  rotate_left 1
                  · (intro w; go_simp); try (with_reducible rfl)
                  refine wpAny_take (i := 19) (oi := ⟨some 150, _, _, _, _, _⟩) (v := ?_) rfl (by kernel_rfl) (by kernel_rfl) (by kernel_rfl) (fun _ _ _ h => h) (Or.inl ⟨by kernel_rfl, ?_⟩) ?_
                  rotate_left 1
                  · (intro w; go_simp); try (with_reducible rfl)
                  refine wpAny_done (by kernel_rfl) ?_ _
                  go_simp
                  clear hcs htx hcv7
                  go_wp2_with fail
                  go_roundw
                  case rel => exact ⟨n + 1, by go_num, by omega, HQ8⟩
                  case measure => simp [intOf]; omega
              · have z9 : ¬ (n : Int) < 6 := by omega
                go_wp2_with fail
                go_ret
                exact ⟨rfl, HS6.out.outer.2.2.2.trans (HQ.out.mono HS6.out.base_le)⟩

/-! ### THE ROW's STEP: WRITTEN OUT: LEAVE IT -/
set_option maxRecDepth 100000 in
theorem lifted (os : Os) (started : os.Started) (H : Type) (enc : TypeId × Value → H) :
    ReturnsInHanded {} Try.checked os 4 .any (Rows.diskOrderSpec.pre6 enc Try.prog Try.f4 Rows.diskOrderRow.domain false) (Rows.diskOrderSpec.post enc Try.prog Try.f4 false true false false) := by
  refine returnsInHanded_of_change_sized (C := Try.checked) own started (by kernel_rfl) Try.func4
    (ChangeSpec.witness6 (enc := enc) (C := Try.checked) false ⟨#[], #[.slice none 0 0, .slice none 0 0, .slice none 0 0], []⟩ 8 (by kernel_rfl) (by kernel_rfl) (by kernel_rfl) (by kernel_rfl)) ?_
  intro W base args ds gs before hval0 hW hcnd hsz0 _
  have hsz : (DataW.weightsEach Try.prog (Try.f4.params.toList ++ Rows.diskOrderSpec.plain.varTypes Try.prog) (ds ++ gs)).all (· ≤ reachBytes) = true := hsz0
  clear hsz0
  have hval : ∀ (j : Nat) t v, Try.f4.params[j]? = some t → args[j]? = some v → Value.okWide Try.prog W .any base t v := hval0
  have hW' := hW
  obtain ⟨p, q, hA0, hV, rfl, hfz, hnd⟩ := hW
  have hA : DataW.TrodAll enc Try.prog W 0 (fun _ => true) true Try.f4.params.toList args.toList ds p := hA0
  rw [Try.params4] at hA hval hsz
  obtain ⟨v0, vs0, d0, ds0, p0, q0, hargs, rfl, rfl, h0, r0⟩ := trodAll_cons hA
  obtain ⟨v1, vs1, d1, ds1, p1, q1, rfl, rfl, rfl, h1, r1⟩ := trodAll_cons r0
  obtain ⟨v2, vs2, d2, ds2, p2, q2, rfl, rfl, rfl, h2, r2⟩ := trodAll_cons r1
  obtain ⟨rfl, rfl, rfl⟩ := trodAll_nil r2
  obtain rfl : args = #[v0, v1, v2] := by cases args; simp_all
  obtain ⟨rfl, rfl⟩ := trodVars_none hV
  obtain ⟨a0, len0, cap0, rfl⟩ := okWide_slice Try.underlying52 (hval 0 52 v0 rfl rfl)
  have k0 := h0
  have lt0 : ∀ x ∈ p0, x.block < W.heap.size := by obtain ⟨m, hm⟩ := k0; exact DataW.trod_lt m _ _ _ hm
  obtain ⟨z0, w0⟩ : ∃ Z, RowsIn W a0 len0 cap0 Z := open_rows k0
  obtain ⟨a1, len1, cap1, rfl⟩ := okWide_slice Try.underlying36 (hval 1 36 v1 rfl rfl)
  have k1 := h1
  have lt1 : ∀ x ∈ p1, x.block < W.heap.size := by obtain ⟨m, hm⟩ := k1; exact DataW.trod_lt m _ _ _ hm
  obtain ⟨z1, w1, rch1⟩ := open_bytes k1 (fun e s hd => sized_slice hsz (j := 1) (t := 36) (e := 5) rfl (by rw [hd]; rfl) Try.underlying36)
  obtain ⟨a2, len2, cap2, rfl⟩ := okWide_slice Try.underlying31 (hval 2 31 v2 rfl rfl)
  have k2 := h2
  have lt2 : ∀ x ∈ p2, x.block < W.heap.size := by obtain ⟨m, hm⟩ := k2; exact DataW.trod_lt m _ _ _ hm
  obtain ⟨z2, w2⟩ : ∃ zs, IsRow .i64 W a2 len2 cap2 zs := by
    obtain ⟨fuel, hf⟩ := h2
    rcases open_ints Try.underlying31 Try.underlying3 (by kernel_rfl) hf with ⟨hcs, _⟩ | ⟨x, l, c, zs, hcs, _, hl, hm, hz, _, hcell, hwz⟩
    · simp [Value.cells] at hcs
      obtain ⟨rfl, rfl, rfl⟩ := hcs
      exact ⟨[], .inl ⟨rfl, rfl, rfl, rfl⟩⟩
    · simp [Value.cells] at hcs
      obtain ⟨rfl, rfl, rfl⟩ := hcs
      exact ⟨zs, .inr ⟨_, rfl, hl, hm, by simpa using hz, hcell, hwz⟩⟩
  clear hA0 hval0
  refine (walk a0 len0 cap0 z0 a1 len1 cap1 z1 a2 len2 cap2 z2 W w0 w1 rch1 w2).mono fun e W' ⟨he, bel⟩ => ?_
  subst he
  exact ⟨_, rfl, _, _, _, [], _, [], hW', trodAll_mk1 (shut_bool Try.underlying4 _), (trodAll_cons_mk (Below.trod laidOut (by kernel_rfl) (of_decide_eq_true (by kernel_rfl)) k0 bel lt0) (trodAll_cons_mk (Below.trod laidOut (by kernel_rfl) (of_decide_eq_true (by kernel_rfl)) k1 bel lt1) (trodAll_cons_mk (Below.trod laidOut (by kernel_rfl) (of_decide_eq_true (by kernel_rfl)) k2 bel lt2) trodAll_mk0))), rfl, bel.frame _, fun h => by cases h⟩

theorem over : Rows.diskOrderRow.holds Try.pinned (OpenSpec.ofChange Rows.diskOrderSpec) :=
  OpenClaim.holds_of_wide 4 Try.f4 rfl rfl rfl rfl rfl rfl rfl ⟨rfl, rfl, rfl, rfl, rfl⟩ rfl rfl rfl rfl rfl (by kernel_rfl) Try.func4 (by kernel_rfl)
    (of_decide_eq_true (by kernel_rfl)) (by unfold Func.isWrapper; first | (rw [if_pos (by decide +kernel)]; kernel_rfl) | (rw [if_neg (by decide +kernel)]; exact ⟨rfl, rfl⟩))
    (fun os started H enc _ => lifted os started H enc)

/-- THE STATEMENT -/
theorem proved : Rows.DiskOrderSaid := over
end Go.Proofs.Ytinlbmlgfneolaa.diskOrder
