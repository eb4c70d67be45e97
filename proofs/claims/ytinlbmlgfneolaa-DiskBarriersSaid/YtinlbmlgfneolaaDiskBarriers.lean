/-
  Proved here: behind a barrier nothing of a disk is open, and a restart changes nothing. No conditions.
-/
import Derived.Test.YtinlbmlgfneolaaAwake07
import Derived.Test.YtinlbmlgfneolaaLastW
import Derived.BigRegion
import Derived.Deep.Cut
import Derived.Deep.QuietTactic
import Derived.BigQuiet
namespace Go.Proofs.Ytinlbmlgfneolaa.diskBarriers
open Go.ChangeShapes Go.WideShapes Go.ChangeAt Go.RowKit
open Go.ChangeMaps (open_string shut_string)
set_option linter.unusedVariables false

set_option maxRecDepth 100000 in
set_option maxHeartbeats 3200000 in
theorem walk (a0 : Option Addr) (len0 cap0 : Nat) (z0 : List (List Int)) (a1 : Option Addr) (len1 cap1 : Nat) (z1 : List Int) (a2 : Option Addr) (len2 cap2 : Nat) (z2 : List Int) (w : World) (w0 : RowsIn w a0 len0 cap0 z0) (w1 : IsRow .u8 w a1 len1 cap1 z1) (rch1 : cap1 ≤ 140737488351232) (w2 : IsRow .i64 w a2 len2 cap2 z2) :
    Calls Try.prog 7 #[.slice a0 len0 cap0, .slice a1 len1 cap1, .slice a2 len2 cap2] w fun e w' => e = .returned (.bool true) ∧ Below w.heap.size w w' := by
  have hA := w1.arg rch1
  obtain ⟨at_, HZ⟩ : ∃ zs, Hid (zs = z1.take len1) := ⟨_, Lib.hid rfl⟩
  rw [← HZ.out] at hA
  have HT := Lib.hid w0
  have HA := Lib.hid hA
  have HK : Hid (∃ ks, NumsAre w (fun k => k < w.heap.size) a2 len2 ks) := Lib.hid (nums_of_row w2)
  clear hA w0 w1 w2 HZ
  have c := diskOk.new_ok 7 w (by decide) (by decide)
  rw [show ((7 : Nat) : Int) = 7 from rfl] at c
  go_enter Try.func7, Try.ntmps7
  go_wp2_with fail
  refine c.mono ?_
  rintro e wd ⟨a, F, rfl, hD, hF, hbd⟩
  have HBD := Lib.hid hbd
  have HDD := Lib.hid hD
  have HF := Lib.hid hF
  clear c hD hF hbd
  go_wp2_with fail
  refine (awake07_any _).mono ?_
  rintro e we ⟨rfl, hbe⟩
  have HDE := Lib.hid (diskOk.later HDD.out hbe)
  have HBE := Lib.hid (HBD.out.trans (hbe.mono HBD.out.size))
  have HFE := Lib.hid (fun k hk => (⟨HF.out k hk, diskOk.lt HDE.out k hk⟩ : w.heap.size ≤ k ∧ k < we.heap.size))
  clear hbe
  have HB0 : Hid (Below we.heap.size we (we.alloc (.cells #[] 54))) := Lib.hid ((Below.refl _ _).alloc (Nat.le_refl _) _)
  have hmk := run_make_strs (we.alloc (.cells #[] 54)) 7 (by decide)
  rw [show ((7 : Nat) : Int) = 7 from rfl] at hmk
  have HST0 : Hid (Strs we.heap.size we (we.heap.size + 1) (strsOf fun _ => []) ((we.alloc (.cells #[] 54)).alloc (.cells (madeCells #[.string ByteArray.empty] 7) 9))) := Lib.hid (by
    have h := made_strs (we.alloc (.cells #[] 54)) 7
    rw [show (we.alloc (.cells #[] 54)).heap.size = we.heap.size + 1 by simp] at h
    exact ⟨⟨h.1.1, h.1.2.1, by omega, HB0.out.trans (h.1.2.2.2.mono (by omega))⟩, h.2⟩)
  have HWL0 : Hid (WL we.heap.size 7 (.slice (some ⟨we.heap.size, 0, none⟩) 0 0) [] ((we.alloc (.cells #[] 54)).alloc (.cells (madeCells #[.string ByteArray.empty] 7) 9))) := Lib.hid ⟨[], (World.ownsRow_made we #[] 0 (Nat.le_refl _) (by decide) rfl).alloc _, fun i a zs h => by simp at h⟩
  obtain ⟨gl, hgl⟩ : ∃ gl, gl = we.heap.size + 1 := ⟨_, rfl⟩
  have hglz : (we.alloc (.cells #[] 54)).heap.size = gl := by rw [hgl]; simp
  have HGL := Lib.hid hgl
  rw [← hgl] at HST0
  rw [hglz] at hmk
  clear hgl hglz
  generalize hw1 : (we.alloc (.cells #[] 54)).alloc (.cells (madeCells #[.string ByteArray.empty] 7) 9) = wf at *
  have HW1 := Lib.hid hw1
  clear hw1
  go_wp2_with fail
  clear hmk
  go_loopw [11] (fun nv wr => ∃ (n : Nat) (f : Nat → List Int), nv = .int .i64 (n : Int) ∧ n ≤ 7 ∧ Hid (∀ i, i < n → f i = zeros64) ∧ Hid (Strs we.heap.size we gl (strsOf f) wr) ∧ Hid (WL we.heap.size 7 (.slice (some ⟨we.heap.size, 0, none⟩) 0 0) [] wr)) (fun nv _ => 7 - (intOf nv).toNat)
  case atStart => exact ⟨0, fun _ => [], rfl, by decide, Lib.hid (fun i h => by omega), HST0, HWL0⟩
  case round =>
    clear HST0 HWL0
    obtain ⟨n, f, rfl, hn, HFZ, HST, HWL⟩ := hrel
    by_cases hlt : n < 7
    · have z1 : (n : Int) < 7 := by omega
      have hsz : we.heap.size ≤ wr.heap.size := HST.out.1.2.2.2.size
      have HSA := Lib.hid (HST.out.alloc (strsOf_ne f) zeroObj)
      have HWA : Hid (WL we.heap.size 7 (.slice (some ⟨we.heap.size, 0, none⟩) 0 0) [] (wr.alloc zeroObj)) := Lib.hid (HWL.out.turn (fun k hk => by
        have hlt : k < wr.heap.size := by
          rcases Nat.lt_or_ge k wr.heap.size with h | h
          · exact h
          · rcases hk with ⟨_, _, h'⟩ | ⟨_, _, h'⟩ <;> (rw [Array.getElem?_eq_none h] at h'; cases h')
        exact Below.heap_alloc wr zeroObj k hlt))
      have hmk := run_make_bytes wr 64 (by decide)
      rw [show ((64 : Nat) : Int) = 64 from rfl] at hmk
      have hcv : (convert 36 9 (.slice (some ⟨wr.heap.size, 0, none⟩) 64 64)).run Try.prog (wr.alloc zeroObj) = .ok (.string (str zeros64)) (wr.alloc zeroObj) := str_bytes (made_arg wr 64 (by decide)).1
      have hcell := HSA.out.1.1 n _ (strsOf_at f hlt)
      have hfr := HSA.out.1.2.1 n
      have HS2 : Hid (Strs we.heap.size we gl (strsOf fun i => if i = n then zeros64 else f i) ((wr.alloc zeroObj).setCell ⟨gl, n, none⟩ (.string (str zeros64)))) := Lib.hid (by
        have h := HSA.out.store (k := n) (y := .string (str zeros64)) (by rw [strsOf_length]; exact hlt)
        rwa [strsOf_set f hlt] at h)
      have HW2 : Hid (WL we.heap.size 7 (.slice (some ⟨we.heap.size, 0, none⟩) 0 0) [] ((wr.alloc zeroObj).setCell ⟨gl, n, none⟩ (.string (str zeros64)))) := Lib.hid (HWA.out.turn (strs_same HSA.out.2))
      generalize hw2 : wr.alloc zeroObj = wa at *
      have HW := Lib.hid hw2
      have hw3 : wr.alloc (.cells (madeCells #[.int .u8 0] 64) 5) = wa := hw2
      rw [hw3] at hmk
      clear hw2 hw3 hsz
      go_wp2_with fail
      go_roundw
      case rel =>
        refine ⟨n + 1, _, by go_num, by omega, Lib.hid (fun i hi => ?_), HS2, HW2⟩
        by_cases e : i = n
        · rw [if_pos e]
        · rw [if_neg e]; exact HFZ.out i (by omega)
      case measure => simp [intOf]; omega
    · have hn7 : n = 7 := by omega
      subst hn7
      have HL0 : Hid (∀ i, i < 7 → f i = lastW 7 [] i) := Lib.hid (fun i hi => by rw [HFZ.out i hi, last_none])
      clear HFZ
      go_wp2_with fail
      go_loopw [9, 12] (fun vv iv wq => ∃ (i : Nat) (ws : List (Int × List Int)) (f : Nat → List Int), iv = .int .i64 (i : Int) ∧ i ≤ 40 ∧ ws.length ≤ i ∧ Hid (∀ n, n < 7 → f n = lastW 7 ws n) ∧ Hid (Strs we.heap.size we gl (strsOf f) wq) ∧ Hid (WL we.heap.size 7 vv ws wq)) (fun _ iv _ => 40 - (intOf iv).toNat)
      case atStart => exact ⟨0, [], f, rfl, by decide, Nat.le_refl _, HL0, HST, HWL⟩
      case round =>
        clear HL0 HST HWL
        obtain ⟨i, ws, f, rfl, hi, hws, HL, HST, HWL⟩ := hrel
        have HW : Hid (Below w.heap.size w wr) := Lib.hid (HBE.out.trans (HST.out.1.2.2.2.mono HBE.out.size))
        by_cases hlt : i < len0 ∧ i < len1 ∧ i < 40
        · obtain ⟨hlt0, hlt1, hlt40⟩ := hlt
          have z1 : (i : Int) < (len0 : Int) := by omega
          have z2 : (i : Int) < (len1 : Int) := by omega
          have z3 : (i : Int) < 40 := by omega
          have hT := HT.out.later HW.out
          obtain ⟨b0, o0, rfl, hrows⟩ := hT.2.2.resolve_left (by omega)
          obtain ⟨ad, l, cc, hrc, hrb⟩ := hrows i hlt0
          obtain ⟨tx, htx⟩ : ∃ tx, tx = z0.getD i [] := ⟨_, rfl⟩
          rw [← htx] at hrb
          have hmk := run_make_bytes wr 64 (by decide)
          rw [show ((64 : Nat) : Int) = 64 from rfl] at hmk
          have hcell : (wr.alloc zeroObj).cell? ⟨b0, o0 + i, none⟩ = some (.slice ad l cc) := cell_later ((Below.refl _ _).alloc (Nat.le_refl _) _) hrc
          have HRB := Lib.hid (hrb.later ((Below.refl _ _).alloc (Nat.le_refl _) zeroObj))
          have HO : Hid (Own wr.heap.size wr wr.heap.size zeros64 (wr.alloc zeroObj)) := Lib.hid (made_own wr 64)
          have HTY : Hid (∃ cs fr, (wr.alloc zeroObj).heap[wr.heap.size]? = some (Obj.cells cs 5 fr)) := Lib.hid ⟨_, _, heap_alloc_new wr zeroObj⟩
          have hmk' : (Instr.makeSlice 36 (.int .i64 64) (.int .i64 64)).run Try.prog wr = .ok (.slice (some ⟨wr.heap.size, 0, none⟩) 64 64) (wr.alloc zeroObj) := hmk
          obtain ⟨g, hg⟩ : ∃ g, g = wr.heap.size := ⟨_, rfl⟩
          generalize hwa : wr.alloc zeroObj = wa at *
          rw [← hg] at hmk'
          have HG := Lib.hid hg
          clear hT hrows hrc hrb htx hmk hwa hg
          have HCP : Hid (∃ v' w', (Builtin.copy_ #[36, 36] 3 #[.slice (some ⟨g, 0, none⟩) 64 64, .slice ad l cc]).run Try.prog wa = .ok v' w' ∧ (fun (_ : Value) (w' : World) => Own g wr g (pad64 tx) w' ∧ ∃ cs fr, w'.heap[g]? = some (Obj.cells cs 5 fr)) v' w') := Lib.hid (by
            have h := own_copy_min HO.out HTY.out ad l cc tx HRB.out 3
            rw [← HG.out] at h
            exact h)
          go_upto_region 15 with (first | (refine wp_copy rfl (.tmp 60) (.tmp 64) 36 36 rfl _ _ rfl rfl _ HCP.out ?_; intro v1 w1 hR; have HR := Lib.hid hR; clear hR))
          have HB1 : Hid (Below wr.heap.size wr w1) := Lib.hid (by have h := HR.out.1.2.2.2.2; rwa [HG.out] at h)
          have HBB1 : Hid (ByteBlock w1 g (pad64 tx)) := Lib.hid (byte_block HR.out.1 (pad_length tx) HR.out.2)
          have HST1 : Hid (Strs we.heap.size we gl (strsOf f) w1) := Lib.hid (HST.out.later HB1.out (strsOf_ne f))
          have HWL1 : Hid (WL we.heap.size 7 u9 ws w1) := Lib.hid (HWL.out.turn (same_of_below HB1.out))
          have HGB : Hid (we.heap.size ≤ g) := Lib.hid (by rw [HG.out]; exact HST.out.1.2.2.2.size)
          have hA1 := HA.out.later (HW.out.trans (HB1.out.mono HW.out.size))
          obtain ⟨b1, o1, rfl, hc1⟩ := hA1.1.2.2.2.resolve_left (by omega)
          have hx := hA1.1.2.2.1 _ (getD_mem (l := at_) (k := i) (by rw [hA1.1.1]; exact hlt1))
          have hcx := hc1 i hlt1
          obtain ⟨x, hxe⟩ : ∃ x, at_.getD i 0 = x := ⟨_, rfl⟩
          rw [hxe] at hx hcx
          obtain ⟨hx0, hx1⟩ := hx
          obtain ⟨r, hr⟩ : ∃ r : Nat, x % 7 = (r : Int) := ⟨(x % 7).toNat, by omega⟩
          have d1 : Int.tmod x 7 = (r : Int) := by rw [Int.tmod_eq_emod_of_nonneg hx0]; exact hr
          have hr7 : r < 7 := by omega
          have hb1w : b1 < w.heap.size := by
            obtain ⟨bb, oo, he, hcc⟩ := HA.out.1.2.2.2.resolve_left (by omega)
            cases he
            exact World.block_lt_of_cell? _ _ (hcc i hlt1)
          have HBW := Lib.hid hb1w
          have HBB2 : Hid (ByteBlock (w1.alloc (.cells #[.int .i64 (r : Int), .slice (some ⟨g, 0, none⟩) 64 64] 54)) g (pad64 tx)) := Lib.hid (HBB1.out.kept (Below.heap_alloc _ _ _ HBB1.out.lt))
          have HCX := Lib.hid hcx
          obtain ⟨xs, hown, hxs⟩ := (HWL1.out.turn (same_of_below ((Below.refl _ _).alloc (Nat.le_refl _) (.cells #[.int .i64 (r : Int), .slice (some ⟨g, 0, none⟩) 64 64] 54))))
          have HOWN := Lib.hid hown
          have HXS := Lib.hid hxs
          have HNEW := Lib.hid (two_cells_new w1 (.int .i64 (r : Int)) (.slice (some ⟨g, 0, none⟩) 64 64) 54)
          have HZ1 : Hid (we.heap.size ≤ w1.heap.size) := Lib.hid HST1.out.1.2.2.2.size
          have HXE := Lib.hid (And.intro hxe hr)
          clear hA1 hc1 hown hxs hcell hmk' hr hxe
          go_wp2_with (first | (at_builtin; refine wp_append_k elemWrite rfl (.tmp 66) (.tmp 75) rfl we.heap.size ws.length u9 xs rfl HOWN.out ⟨w1.heap.size, 0, none⟩ 1 [.int .i64 (r : Int), .slice (some ⟨g, 0, none⟩) 64 64] rfl rfl HNEW.out (by simp [Value.oneCell']) (by omega) (by have := HZ1.out; simp; omega) ?_; intro v3 w3 hown3 hb3; have HO3 := Lib.hid hown3; have HG3 := Lib.hid (show (w1.alloc (.cells #[.int .i64 (r : Int), .slice (some ⟨g, 0, none⟩) 64 64] 54)).grownBy w3 u9.ownBlock from hb3); clear hown3 hb3))
          have HWL3 : Hid (WL we.heap.size 7 v3 (ws ++ [((r : Int), pad64 tx)]) w3) := Lib.hid (WL.more HGB.out ⟨by omega, by omega⟩ (pad_length tx) HOWN.out HXS.out HBB2.out HO3.out HG3.out)
          have HBB3 := Lib.hid (HBB2.out.grown HOWN.out HG3.out)
          have HST3 : Hid (Strs we.heap.size we gl (strsOf f) w3) := Lib.hid ((HST1.out.alloc (strsOf_ne f) _).grown HOWN.out HG3.out (by have := HZ1.out; simp; omega))
          have hcx3 : w3.cell? ⟨b1, o1 + i, none⟩ = some (.int .u8 x) := by
            have h3 := HBE.out.trans (HST3.out.1.2.2.2.mono HBE.out.size)
            have h1 := HW.out.trans (HB1.out.mono HW.out.size)
            exact ((h3.cell (p := ⟨b1, o1 + i, none⟩) HBW.out).trans (h1.cell (p := ⟨b1, o1 + i, none⟩) HBW.out).symm).trans HCX.out
          have hcv3 : (convert 36 9 (.slice (some ⟨g, 0, none⟩) 64 64)).run Try.prog w3.drew = .ok (.string (str (pad64 tx))) w3.drew := str_bytes (w := w3.drew) (show Bts w3.drew (some ⟨g, 0, none⟩) 64 (pad64 tx) from HBB3.out.2.1)
          have hsc := HST3.out.1.1 r _ (strsOf_at f hr7)
          have hsf := HST3.out.1.2.1 r
          have hrz : (r : Int) < 7 := by omega
          have HS4 : Hid (Strs we.heap.size we gl (strsOf fun n => if n = r then pad64 tx else f n) (w3.drew.setCell ⟨gl, r, none⟩ (.string (str (pad64 tx))))) := Lib.hid (by
            have h := HST3.out.drew.store (k := r) (y := .string (str (pad64 tx))) (by rw [strsOf_length]; exact hr7)
            rwa [strsOf_set f hr7] at h)
          have HW4 : Hid (WL we.heap.size 7 v3 (ws ++ [((r : Int), pad64 tx)]) (w3.drew.setCell ⟨gl, r, none⟩ (.string (str (pad64 tx))))) := Lib.hid ((HWL3.out.turn (w' := w3.drew) (fun k _ => rfl)).turn (strs_same HST3.out.drew.2))
          have HL4 : Hid (∀ n, n < 7 → (if n = r then pad64 tx else f n) = lastW 7 (ws ++ [((r : Int), pad64 tx)]) n) := Lib.hid (fun n hn => by
            rw [last_snoc, Int.toNat_natCast]
            by_cases e : n = r
            · rw [if_pos e, if_pos e]
            · rw [if_neg e, if_neg e]; exact HL.out n hn)
          clear hcx
          go_region
          clear hcx3 hcv3 hsc hsf hrz d1
          go_wp2_with fail
          go_roundw
          case rel =>
            (repeat apply Exists.intro)
            exact ⟨⟨i + 1, _, _, by go_num, by omega, by rw [List.length_append]; simp; omega, HL4, HS4, HW4⟩, rfl⟩
          case measure => simp [intOf]; omega
        · by_cases e0 : i < len0
          · have z1 : (i : Int) < (len0 : Int) := by omega
            by_cases e1 : i < len1
            · have z2 : (i : Int) < (len1 : Int) := by omega
              have z3 : ¬ (i : Int) < 40 := by omega
              obtain ⟨ao, cp, hv, hL⟩ := HWL.out.list (by decide) (by omega)
              subst hv
              obtain ⟨s1, s2, hp, hb, ho, hr⟩ := barrier_all HWL.out.sound.1 HWL.out.sound.2
              have HR := Lib.hid (And.intro ho hr)
              have HDW := Lib.hid (diskOk.later HDE.out HST.out.1.2.2.2)
              have HGLT : Hid (we.heap.size < gl ∧ gl < wr.heap.size) := Lib.hid ⟨by have := HGL.out; omega, World.block_lt_of_cell? _ _ (HST.out.1.1 0 _ (strsOf_at f (by decide)))⟩
              have HCS : Hid (∀ n, n < 7 → wr.cell? ⟨gl, n, none⟩ = some (.string (str (lastW 7 ws n)))) := Lib.hid (fun n hn => by rw [← HL.out n hn]; exact HST.out.1.1 n _ (strsOf_at f hn))
              have c4 := diskOk.put (fun k => we.heap.size ≤ k) ao ws.length cp ws HDW.out hL (fun k hk => by have := HFE.out k hk; omega) (fun k _ => by show 1 + ws.length ≤ 1099511627776; omega)
              rw [hp] at c4
              have HBR := Lib.hid hb
              clear hL hp hb ho hr HWL HST
              go_wp2_with fail
              refine c4.mono ?_
              rintro e w4 ⟨F4, rfl, hD4, hG4⟩
              have HD4 : Hid (DI w4 a F4 s1) := Lib.hid hD4
              have HB4 := Lib.hid (hG4.below HW.out HW.out.size (fun k hk => (HFE.out k hk).1))
              have HZ4 : Hid (wr.heap.size ≤ w4.heap.size) := Lib.hid hG4.2.2.2.1
              have HH4 : Hid (w4.heap[gl]? = wr.heap[gl]?) := Lib.hid (hG4.2.2.2.2.1 gl HGLT.out.2 (fun h => by have := (HFE.out gl h).2; have := HGLT.out.1; omega))
              have HF4 : Hid (∀ k, F4 k → w.heap.size ≤ k ∧ k ≠ gl) := Lib.hid (fun k hk => by
                rcases hG4.2.2.2.2.2 k hk with h | h
                · have := HFE.out k h; have := HGLT.out.1; exact ⟨by omega, by omega⟩
                · have := HGLT.out.2; have := HW.out.size; exact ⟨by omega, by omega⟩)
              clear c4 hD4 hG4
              go_wp2_with fail
              have c5 := diskOk.barrier HD4.out
              rw [HBR.out] at c5
              refine c5.mono ?_
              rintro e w5 ⟨F5, rfl, hD5, hG5⟩
              have HD5 : Hid (DI w5 a F5 s2) := Lib.hid hD5
              have HB5 := Lib.hid (hG5.below HB4.out HB4.out.size (fun k hk => (HF4.out k hk).1))
              have HZ5 : Hid (w4.heap.size ≤ w5.heap.size) := Lib.hid hG5.2.2.2.1
              have HH5 : Hid (w5.heap[gl]? = wr.heap[gl]?) := Lib.hid ((hG5.2.2.2.2.1 gl (by have := HGLT.out.2; have := HZ4.out; omega) (fun h => (HF4.out gl h).2 rfl)).trans HH4.out)
              have HF5 : Hid (∀ k, F5 k → w.heap.size ≤ k ∧ k ≠ gl) := Lib.hid (fun k hk => by
                rcases hG5.2.2.2.2.2 k hk with h | h
                · exact HF4.out k h
                · have := HGLT.out.2; have := HZ4.out; have := HW.out.size; exact ⟨by omega, by omega⟩)
              clear c5 hD5 hG5
              obtain ⟨wo, hwo⟩ : ∃ wo, wo = wr := ⟨_, rfl⟩
              subst hwo
              go_wp2_with fail
              go_loopw [14] (fun nv wq => ∃ n : Nat, nv = .int .i64 (n : Int) ∧ n ≤ 7 ∧ Hid (Below w5.heap.size w5 wq)) (fun nv _ => 7 - (intOf nv).toNat)
              case atStart => exact ⟨0, rfl, by decide, Lib.hid (Below.refl _ _)⟩
              case round =>
                obtain ⟨n, rfl, hn, HQ⟩ := hrel
                by_cases hlt : n < 7
                · have z9 : (n : Int) < 7 := by omega
                  have c6 := diskOk.opens (n : Int) (diskOk.later HD5.out HQ.out) (by omega)
                  rw [HR.out.1] at c6
                  go_wp2_with fail
                  refine c6.mono ?_
                  rintro e w6 ⟨rfl, hb6⟩
                  have HQ6 := Lib.hid (HQ.out.trans (hb6.mono HQ.out.size))
                  clear c6 hb6
                  go_wp2_with fail
                  go_roundw
                  case rel => exact ⟨n + 1, by go_num, by omega, HQ6⟩
                  case measure => simp [intOf]; omega
                · have z9 : ¬ (n : Int) < 7 := by omega
                  obtain ⟨ks, hks⟩ := HK.out
                  have HBQ := Lib.hid (HB5.out.trans (HQ.out.mono HB5.out.size))
                  have c6 := diskOk.restart (fun k => k < w.heap.size) a2 len2 cap2 ks (diskOk.later HD5.out HQ.out) (hks.later HBQ.out) (fun k hk => by have := (HF5.out k hk).1; omega)
                  clear hks
                  go_wp2_with fail
                  refine c6.mono ?_
                  rintro e w6 ⟨F6, rfl, hD6, hG6⟩
                  have HD6 : Hid (DI w6 a F6 (restarted s2 ks)) := Lib.hid hD6
                  have HB6 := Lib.hid (hG6.below HBQ.out HBQ.out.size (fun k hk => (HF5.out k hk).1))
                  have HC6 : Hid (∀ n, n < 7 → w6.cell? ⟨gl, n, none⟩ = some (.string (str (lastW 7 ws n)))) := Lib.hid (fun n hn => by
                    have l5 : gl < w5.heap.size := by have := HGLT.out.2; have := HZ4.out; have := HZ5.out; omega
                    have h6 : w6.heap[gl]? = wo.heap[gl]? := ((hG6.2.2.2.2.1 gl (by have := HQ.out.size; omega) (fun h => (HF5.out gl h).2 rfl)).trans (HQ.out.block gl l5)).trans HH5.out
                    rw [cell_of_heap (p := ⟨gl, n, none⟩) h6]
                    exact HCS.out n hn)
                  clear c6 hD6 hG6
                  go_wp2_with fail
                  go_loopw [15] (fun nv wq => ∃ n : Nat, nv = .int .i64 (n : Int) ∧ n ≤ 7 ∧ Hid (Below w6.heap.size w6 wq)) (fun nv _ => 7 - (intOf nv).toNat)
                  case atStart => exact ⟨0, rfl, by decide, Lib.hid (Below.refl _ _)⟩
                  case round =>
                    obtain ⟨n, rfl, hn, HQ⟩ := hrel
                    by_cases hlt : n < 7
                    · have z9 : (n : Int) < 7 := by omega
                      have c7 := diskOk.get (n : Int) (diskOk.later HD6.out HQ.out) (by omega)
                      rw [(HR.out.2 ks n hlt).1, (HR.out.2 ks n hlt).2] at c7
                      go_wp2_with fail
                      refine c7.mono ?_
                      rintro e w7 ⟨v7, rfl, hf7, hb7⟩
                      have HQ7 := Lib.hid (HQ.out.trans (hb7.mono HQ.out.size))
                      obtain ⟨a7, c7', hv7, hA7, _⟩ := hf7
                      have hcs := cell_later HQ7.out (HC6.out n hlt)
                      have hcv7 : ∀ q, (convert 36 9 (.slice a7 (lastW 7 ws n).length c7')).run Try.prog (w7.drewN q) = .ok (.string (str (lastW 7 ws n))) (w7.drewN q) := fun q => str_bytes (w := w7.drewN q) (show Bts (w7.drewN q) a7 (lastW 7 ws n).length (lastW 7 ws n) from hA7.1)
                      rw [hv7]
                      generalize str (lastW 7 ws n) = S7 at *
                      generalize (lastW 7 ws n).length = L7 at *
                      clear c7 hb7 hv7 hA7
                      go_wp2_with fail
                      go_quiet (fail)
                      clear hcs hcv7
                      go_wp2_with fail
                      go_roundw
                      case rel => exact ⟨n + 1, by go_num, by omega, Lib.hid (below_drewN HQ7.out _)⟩
                      case measure => simp [intOf]; omega
                    · have z9 : ¬ (n : Int) < 7 := by omega
                      go_wp2_with fail
                      go_ret
                      exact ⟨rfl, HB6.out.trans (HQ.out.mono HB6.out.size)⟩
            · have z2 : ¬ (i : Int) < (len1 : Int) := by omega
              obtain ⟨ao, cp, hv, hL⟩ := HWL.out.list (by decide) (by omega)
              subst hv
              obtain ⟨s1, s2, hp, hb, ho, hr⟩ := barrier_all HWL.out.sound.1 HWL.out.sound.2
              have HR := Lib.hid (And.intro ho hr)
              have HDW := Lib.hid (diskOk.later HDE.out HST.out.1.2.2.2)
              have HGLT : Hid (we.heap.size < gl ∧ gl < wr.heap.size) := Lib.hid ⟨by have := HGL.out; omega, World.block_lt_of_cell? _ _ (HST.out.1.1 0 _ (strsOf_at f (by decide)))⟩
              have HCS : Hid (∀ n, n < 7 → wr.cell? ⟨gl, n, none⟩ = some (.string (str (lastW 7 ws n)))) := Lib.hid (fun n hn => by rw [← HL.out n hn]; exact HST.out.1.1 n _ (strsOf_at f hn))
              have c4 := diskOk.put (fun k => we.heap.size ≤ k) ao ws.length cp ws HDW.out hL (fun k hk => by have := HFE.out k hk; omega) (fun k _ => by show 1 + ws.length ≤ 1099511627776; omega)
              rw [hp] at c4
              have HBR := Lib.hid hb
              clear hL hp hb ho hr HWL HST
              go_wp2_with fail
              refine c4.mono ?_
              rintro e w4 ⟨F4, rfl, hD4, hG4⟩
              have HD4 : Hid (DI w4 a F4 s1) := Lib.hid hD4
              have HB4 := Lib.hid (hG4.below HW.out HW.out.size (fun k hk => (HFE.out k hk).1))
              have HZ4 : Hid (wr.heap.size ≤ w4.heap.size) := Lib.hid hG4.2.2.2.1
              have HH4 : Hid (w4.heap[gl]? = wr.heap[gl]?) := Lib.hid (hG4.2.2.2.2.1 gl HGLT.out.2 (fun h => by have := (HFE.out gl h).2; have := HGLT.out.1; omega))
              have HF4 : Hid (∀ k, F4 k → w.heap.size ≤ k ∧ k ≠ gl) := Lib.hid (fun k hk => by
                rcases hG4.2.2.2.2.2 k hk with h | h
                · have := HFE.out k h; have := HGLT.out.1; exact ⟨by omega, by omega⟩
                · have := HGLT.out.2; have := HW.out.size; exact ⟨by omega, by omega⟩)
              clear c4 hD4 hG4
              go_wp2_with fail
              have c5 := diskOk.barrier HD4.out
              rw [HBR.out] at c5
              refine c5.mono ?_
              rintro e w5 ⟨F5, rfl, hD5, hG5⟩
              have HD5 : Hid (DI w5 a F5 s2) := Lib.hid hD5
              have HB5 := Lib.hid (hG5.below HB4.out HB4.out.size (fun k hk => (HF4.out k hk).1))
              have HZ5 : Hid (w4.heap.size ≤ w5.heap.size) := Lib.hid hG5.2.2.2.1
              have HH5 : Hid (w5.heap[gl]? = wr.heap[gl]?) := Lib.hid ((hG5.2.2.2.2.1 gl (by have := HGLT.out.2; have := HZ4.out; omega) (fun h => (HF4.out gl h).2 rfl)).trans HH4.out)
              have HF5 : Hid (∀ k, F5 k → w.heap.size ≤ k ∧ k ≠ gl) := Lib.hid (fun k hk => by
                rcases hG5.2.2.2.2.2 k hk with h | h
                · exact HF4.out k h
                · have := HGLT.out.2; have := HZ4.out; have := HW.out.size; exact ⟨by omega, by omega⟩)
              clear c5 hD5 hG5
              obtain ⟨wo, hwo⟩ : ∃ wo, wo = wr := ⟨_, rfl⟩
              subst hwo
              go_wp2_with fail
              go_loopw [14] (fun nv wq => ∃ n : Nat, nv = .int .i64 (n : Int) ∧ n ≤ 7 ∧ Hid (Below w5.heap.size w5 wq)) (fun nv _ => 7 - (intOf nv).toNat)
              case atStart => exact ⟨0, rfl, by decide, Lib.hid (Below.refl _ _)⟩
              case round =>
                obtain ⟨n, rfl, hn, HQ⟩ := hrel
                by_cases hlt : n < 7
                · have z9 : (n : Int) < 7 := by omega
                  have c6 := diskOk.opens (n : Int) (diskOk.later HD5.out HQ.out) (by omega)
                  rw [HR.out.1] at c6
                  go_wp2_with fail
                  refine c6.mono ?_
                  rintro e w6 ⟨rfl, hb6⟩
                  have HQ6 := Lib.hid (HQ.out.trans (hb6.mono HQ.out.size))
                  clear c6 hb6
                  go_wp2_with fail
                  go_roundw
                  case rel => exact ⟨n + 1, by go_num, by omega, HQ6⟩
                  case measure => simp [intOf]; omega
                · have z9 : ¬ (n : Int) < 7 := by omega
                  obtain ⟨ks, hks⟩ := HK.out
                  have HBQ := Lib.hid (HB5.out.trans (HQ.out.mono HB5.out.size))
                  have c6 := diskOk.restart (fun k => k < w.heap.size) a2 len2 cap2 ks (diskOk.later HD5.out HQ.out) (hks.later HBQ.out) (fun k hk => by have := (HF5.out k hk).1; omega)
                  clear hks
                  go_wp2_with fail
                  refine c6.mono ?_
                  rintro e w6 ⟨F6, rfl, hD6, hG6⟩
                  have HD6 : Hid (DI w6 a F6 (restarted s2 ks)) := Lib.hid hD6
                  have HB6 := Lib.hid (hG6.below HBQ.out HBQ.out.size (fun k hk => (HF5.out k hk).1))
                  have HC6 : Hid (∀ n, n < 7 → w6.cell? ⟨gl, n, none⟩ = some (.string (str (lastW 7 ws n)))) := Lib.hid (fun n hn => by
                    have l5 : gl < w5.heap.size := by have := HGLT.out.2; have := HZ4.out; have := HZ5.out; omega
                    have h6 : w6.heap[gl]? = wo.heap[gl]? := ((hG6.2.2.2.2.1 gl (by have := HQ.out.size; omega) (fun h => (HF5.out gl h).2 rfl)).trans (HQ.out.block gl l5)).trans HH5.out
                    rw [cell_of_heap (p := ⟨gl, n, none⟩) h6]
                    exact HCS.out n hn)
                  clear c6 hD6 hG6
                  go_wp2_with fail
                  go_loopw [15] (fun nv wq => ∃ n : Nat, nv = .int .i64 (n : Int) ∧ n ≤ 7 ∧ Hid (Below w6.heap.size w6 wq)) (fun nv _ => 7 - (intOf nv).toNat)
                  case atStart => exact ⟨0, rfl, by decide, Lib.hid (Below.refl _ _)⟩
                  case round =>
                    obtain ⟨n, rfl, hn, HQ⟩ := hrel
                    by_cases hlt : n < 7
                    · have z9 : (n : Int) < 7 := by omega
                      have c7 := diskOk.get (n : Int) (diskOk.later HD6.out HQ.out) (by omega)
                      rw [(HR.out.2 ks n hlt).1, (HR.out.2 ks n hlt).2] at c7
                      go_wp2_with fail
                      refine c7.mono ?_
                      rintro e w7 ⟨v7, rfl, hf7, hb7⟩
                      have HQ7 := Lib.hid (HQ.out.trans (hb7.mono HQ.out.size))
                      obtain ⟨a7, c7', hv7, hA7, _⟩ := hf7
                      have hcs := cell_later HQ7.out (HC6.out n hlt)
                      have hcv7 : ∀ q, (convert 36 9 (.slice a7 (lastW 7 ws n).length c7')).run Try.prog (w7.drewN q) = .ok (.string (str (lastW 7 ws n))) (w7.drewN q) := fun q => str_bytes (w := w7.drewN q) (show Bts (w7.drewN q) a7 (lastW 7 ws n).length (lastW 7 ws n) from hA7.1)
                      rw [hv7]
                      generalize str (lastW 7 ws n) = S7 at *
                      generalize (lastW 7 ws n).length = L7 at *
                      clear c7 hb7 hv7 hA7
                      go_wp2_with fail
                      go_quiet (fail)
                      clear hcs hcv7
                      go_wp2_with fail
                      go_roundw
                      case rel => exact ⟨n + 1, by go_num, by omega, Lib.hid (below_drewN HQ7.out _)⟩
                      case measure => simp [intOf]; omega
                    · have z9 : ¬ (n : Int) < 7 := by omega
                      go_wp2_with fail
                      go_ret
                      exact ⟨rfl, HB6.out.trans (HQ.out.mono HB6.out.size)⟩
          · have z1 : ¬ (i : Int) < (len0 : Int) := by omega
            obtain ⟨ao, cp, hv, hL⟩ := HWL.out.list (by decide) (by omega)
            subst hv
            obtain ⟨s1, s2, hp, hb, ho, hr⟩ := barrier_all HWL.out.sound.1 HWL.out.sound.2
            have HR := Lib.hid (And.intro ho hr)
            have HDW := Lib.hid (diskOk.later HDE.out HST.out.1.2.2.2)
            have HGLT : Hid (we.heap.size < gl ∧ gl < wr.heap.size) := Lib.hid ⟨by have := HGL.out; omega, World.block_lt_of_cell? _ _ (HST.out.1.1 0 _ (strsOf_at f (by decide)))⟩
            have HCS : Hid (∀ n, n < 7 → wr.cell? ⟨gl, n, none⟩ = some (.string (str (lastW 7 ws n)))) := Lib.hid (fun n hn => by rw [← HL.out n hn]; exact HST.out.1.1 n _ (strsOf_at f hn))
            have c4 := diskOk.put (fun k => we.heap.size ≤ k) ao ws.length cp ws HDW.out hL (fun k hk => by have := HFE.out k hk; omega) (fun k _ => by show 1 + ws.length ≤ 1099511627776; omega)
            rw [hp] at c4
            have HBR := Lib.hid hb
            clear hL hp hb ho hr HWL HST
            go_wp2_with fail
            refine c4.mono ?_
            rintro e w4 ⟨F4, rfl, hD4, hG4⟩
            have HD4 : Hid (DI w4 a F4 s1) := Lib.hid hD4
            have HB4 := Lib.hid (hG4.below HW.out HW.out.size (fun k hk => (HFE.out k hk).1))
            have HZ4 : Hid (wr.heap.size ≤ w4.heap.size) := Lib.hid hG4.2.2.2.1
            have HH4 : Hid (w4.heap[gl]? = wr.heap[gl]?) := Lib.hid (hG4.2.2.2.2.1 gl HGLT.out.2 (fun h => by have := (HFE.out gl h).2; have := HGLT.out.1; omega))
            have HF4 : Hid (∀ k, F4 k → w.heap.size ≤ k ∧ k ≠ gl) := Lib.hid (fun k hk => by
              rcases hG4.2.2.2.2.2 k hk with h | h
              · have := HFE.out k h; have := HGLT.out.1; exact ⟨by omega, by omega⟩
              · have := HGLT.out.2; have := HW.out.size; exact ⟨by omega, by omega⟩)
            clear c4 hD4 hG4
            go_wp2_with fail
            have c5 := diskOk.barrier HD4.out
            rw [HBR.out] at c5
            refine c5.mono ?_
            rintro e w5 ⟨F5, rfl, hD5, hG5⟩
            have HD5 : Hid (DI w5 a F5 s2) := Lib.hid hD5
            have HB5 := Lib.hid (hG5.below HB4.out HB4.out.size (fun k hk => (HF4.out k hk).1))
            have HZ5 : Hid (w4.heap.size ≤ w5.heap.size) := Lib.hid hG5.2.2.2.1
            have HH5 : Hid (w5.heap[gl]? = wr.heap[gl]?) := Lib.hid ((hG5.2.2.2.2.1 gl (by have := HGLT.out.2; have := HZ4.out; omega) (fun h => (HF4.out gl h).2 rfl)).trans HH4.out)
            have HF5 : Hid (∀ k, F5 k → w.heap.size ≤ k ∧ k ≠ gl) := Lib.hid (fun k hk => by
              rcases hG5.2.2.2.2.2 k hk with h | h
              · exact HF4.out k h
              · have := HGLT.out.2; have := HZ4.out; have := HW.out.size; exact ⟨by omega, by omega⟩)
            clear c5 hD5 hG5
            obtain ⟨wo, hwo⟩ : ∃ wo, wo = wr := ⟨_, rfl⟩
            subst hwo
            go_wp2_with fail
            go_loopw [14] (fun nv wq => ∃ n : Nat, nv = .int .i64 (n : Int) ∧ n ≤ 7 ∧ Hid (Below w5.heap.size w5 wq)) (fun nv _ => 7 - (intOf nv).toNat)
            case atStart => exact ⟨0, rfl, by decide, Lib.hid (Below.refl _ _)⟩
            case round =>
              obtain ⟨n, rfl, hn, HQ⟩ := hrel
              by_cases hlt : n < 7
              · have z9 : (n : Int) < 7 := by omega
                have c6 := diskOk.opens (n : Int) (diskOk.later HD5.out HQ.out) (by omega)
                rw [HR.out.1] at c6
                go_wp2_with fail
                refine c6.mono ?_
                rintro e w6 ⟨rfl, hb6⟩
                have HQ6 := Lib.hid (HQ.out.trans (hb6.mono HQ.out.size))
                clear c6 hb6
                go_wp2_with fail
                go_roundw
                case rel => exact ⟨n + 1, by go_num, by omega, HQ6⟩
                case measure => simp [intOf]; omega
              · have z9 : ¬ (n : Int) < 7 := by omega
                obtain ⟨ks, hks⟩ := HK.out
                have HBQ := Lib.hid (HB5.out.trans (HQ.out.mono HB5.out.size))
                have c6 := diskOk.restart (fun k => k < w.heap.size) a2 len2 cap2 ks (diskOk.later HD5.out HQ.out) (hks.later HBQ.out) (fun k hk => by have := (HF5.out k hk).1; omega)
                clear hks
                go_wp2_with fail
                refine c6.mono ?_
                rintro e w6 ⟨F6, rfl, hD6, hG6⟩
                have HD6 : Hid (DI w6 a F6 (restarted s2 ks)) := Lib.hid hD6
                have HB6 := Lib.hid (hG6.below HBQ.out HBQ.out.size (fun k hk => (HF5.out k hk).1))
                have HC6 : Hid (∀ n, n < 7 → w6.cell? ⟨gl, n, none⟩ = some (.string (str (lastW 7 ws n)))) := Lib.hid (fun n hn => by
                  have l5 : gl < w5.heap.size := by have := HGLT.out.2; have := HZ4.out; have := HZ5.out; omega
                  have h6 : w6.heap[gl]? = wo.heap[gl]? := ((hG6.2.2.2.2.1 gl (by have := HQ.out.size; omega) (fun h => (HF5.out gl h).2 rfl)).trans (HQ.out.block gl l5)).trans HH5.out
                  rw [cell_of_heap (p := ⟨gl, n, none⟩) h6]
                  exact HCS.out n hn)
                clear c6 hD6 hG6
                go_wp2_with fail
                go_loopw [15] (fun nv wq => ∃ n : Nat, nv = .int .i64 (n : Int) ∧ n ≤ 7 ∧ Hid (Below w6.heap.size w6 wq)) (fun nv _ => 7 - (intOf nv).toNat)
                case atStart => exact ⟨0, rfl, by decide, Lib.hid (Below.refl _ _)⟩
                case round =>
                  obtain ⟨n, rfl, hn, HQ⟩ := hrel
                  by_cases hlt : n < 7
                  · have z9 : (n : Int) < 7 := by omega
                    have c7 := diskOk.get (n : Int) (diskOk.later HD6.out HQ.out) (by omega)
                    rw [(HR.out.2 ks n hlt).1, (HR.out.2 ks n hlt).2] at c7
                    go_wp2_with fail
                    refine c7.mono ?_
                    rintro e w7 ⟨v7, rfl, hf7, hb7⟩
                    have HQ7 := Lib.hid (HQ.out.trans (hb7.mono HQ.out.size))
                    obtain ⟨a7, c7', hv7, hA7, _⟩ := hf7
                    have hcs := cell_later HQ7.out (HC6.out n hlt)
                    have hcv7 : ∀ q, (convert 36 9 (.slice a7 (lastW 7 ws n).length c7')).run Try.prog (w7.drewN q) = .ok (.string (str (lastW 7 ws n))) (w7.drewN q) := fun q => str_bytes (w := w7.drewN q) (show Bts (w7.drewN q) a7 (lastW 7 ws n).length (lastW 7 ws n) from hA7.1)
                    rw [hv7]
                    generalize str (lastW 7 ws n) = S7 at *
                    generalize (lastW 7 ws n).length = L7 at *
                    clear c7 hb7 hv7 hA7
                    go_wp2_with fail
                    go_quiet (fail)
                    clear hcs hcv7
                    go_wp2_with fail
                    go_roundw
                    case rel => exact ⟨n + 1, by go_num, by omega, Lib.hid (below_drewN HQ7.out _)⟩
                    case measure => simp [intOf]; omega
                  · have z9 : ¬ (n : Int) < 7 := by omega
                    go_wp2_with fail
                    go_ret
                    exact ⟨rfl, HB6.out.trans (HQ.out.mono HB6.out.size)⟩

/-! ### THE ROW's STEP: WRITTEN OUT: LEAVE IT -/
set_option maxRecDepth 100000 in
theorem lifted (os : Os) (started : os.Started) (H : Type) (enc : TypeId × Value → H) :
    ReturnsInHanded {} Try.checked os 7 .any (Rows.diskBarriersSpec.pre6 enc Try.prog Try.f7 Rows.diskBarriersRow.domain false) (Rows.diskBarriersSpec.post enc Try.prog Try.f7 false true false false) := by
  refine returnsInHanded_of_change_sized (C := Try.checked) own started (by kernel_rfl) Try.func7
    (ChangeSpec.witness6 (enc := enc) (C := Try.checked) false ⟨#[], #[.slice none 0 0, .slice none 0 0, .slice none 0 0], []⟩ 8 (by kernel_rfl) (by kernel_rfl) (by kernel_rfl) (by kernel_rfl)) ?_
  intro W base args ds gs before hval0 hW hcnd hsz0 _
  have hsz : (DataW.weightsEach Try.prog (Try.f7.params.toList ++ Rows.diskBarriersSpec.plain.varTypes Try.prog) (ds ++ gs)).all (· ≤ reachBytes) = true := hsz0
  clear hsz0
  have hval : ∀ (j : Nat) t v, Try.f7.params[j]? = some t → args[j]? = some v → Value.okWide Try.prog W .any base t v := hval0
  have hW' := hW
  obtain ⟨p, q, hA0, hV, rfl, hfz, hnd⟩ := hW
  have hA : DataW.TrodAll enc Try.prog W 0 (fun _ => true) true Try.f7.params.toList args.toList ds p := hA0
  rw [Try.params7] at hA hval hsz
  obtain ⟨v0, vs0, d0, ds0, p0, q0, hargs, rfl, rfl, h0, r0⟩ := trodAll_cons hA
  obtain ⟨v1, vs1, d1, ds1, p1, q1, rfl, rfl, rfl, h1, r1⟩ := trodAll_cons r0
  obtain ⟨v2, vs2, d2, ds2, p2, q2, rfl, rfl, rfl, h2, r2⟩ := trodAll_cons r1
  obtain ⟨rfl, rfl, rfl⟩ := trodAll_nil r2
  obtain rfl : args = #[v0, v1, v2] := by cases args; simp_all
  obtain ⟨rfl, rfl⟩ := trodVars_none hV
  obtain ⟨a0, len0, cap0, rfl⟩ := okWide_slice Try.underlying52 (hval 0 52 v0 rfl rfl)
  have k0 := h0
  have lt0 : ∀ x ∈ p0, x.block < W.heap.size := by obtain ⟨m, hm⟩ := k0; exact DataW.trod_lt m _ _ _ hm
  obtain ⟨z0, w0⟩ : ∃ Z, RowsIn W a0 len0 cap0 Z := open_rows k0
  obtain ⟨a1, len1, cap1, rfl⟩ := okWide_slice Try.underlying36 (hval 1 36 v1 rfl rfl)
  have k1 := h1
  have lt1 : ∀ x ∈ p1, x.block < W.heap.size := by obtain ⟨m, hm⟩ := k1; exact DataW.trod_lt m _ _ _ hm
  obtain ⟨z1, w1, rch1⟩ := open_bytes k1 (fun e s hd => sized_slice hsz (j := 1) (t := 36) (e := 5) rfl (by rw [hd]; rfl) Try.underlying36)
  obtain ⟨a2, len2, cap2, rfl⟩ := okWide_slice Try.underlying31 (hval 2 31 v2 rfl rfl)
  have k2 := h2
  have lt2 : ∀ x ∈ p2, x.block < W.heap.size := by obtain ⟨m, hm⟩ := k2; exact DataW.trod_lt m _ _ _ hm
  obtain ⟨z2, w2⟩ : ∃ zs, IsRow .i64 W a2 len2 cap2 zs := by
    obtain ⟨fuel, hf⟩ := h2
    rcases open_ints Try.underlying31 Try.underlying3 (by kernel_rfl) hf with ⟨hcs, _⟩ | ⟨x, l, c, zs, hcs, _, hl, hm, hz, _, hcell, hwz⟩
    · simp [Value.cells] at hcs
      obtain ⟨rfl, rfl, rfl⟩ := hcs
      exact ⟨[], .inl ⟨rfl, rfl, rfl, rfl⟩⟩
    · simp [Value.cells] at hcs
      obtain ⟨rfl, rfl, rfl⟩ := hcs
      exact ⟨zs, .inr ⟨_, rfl, hl, hm, by simpa using hz, hcell, hwz⟩⟩
  clear hA0 hval0
  refine (walk a0 len0 cap0 z0 a1 len1 cap1 z1 a2 len2 cap2 z2 W w0 w1 rch1 w2).mono fun e W' ⟨he, bel⟩ => ?_
  subst he
  exact ⟨_, rfl, _, _, _, [], _, [], hW', trodAll_mk1 (shut_bool Try.underlying4 _), (trodAll_cons_mk (Below.trod laidOut (by kernel_rfl) (of_decide_eq_true (by kernel_rfl)) k0 bel lt0) (trodAll_cons_mk (Below.trod laidOut (by kernel_rfl) (of_decide_eq_true (by kernel_rfl)) k1 bel lt1) (trodAll_cons_mk (Below.trod laidOut (by kernel_rfl) (of_decide_eq_true (by kernel_rfl)) k2 bel lt2) trodAll_mk0))), rfl, bel.frame _, fun h => by cases h⟩

theorem over : Rows.diskBarriersRow.holds Try.pinned (OpenSpec.ofChange Rows.diskBarriersSpec) :=
  OpenClaim.holds_of_wide 7 Try.f7 rfl rfl rfl rfl rfl rfl rfl ⟨rfl, rfl, rfl, rfl, rfl⟩ rfl rfl rfl rfl rfl (by kernel_rfl) Try.func7 (by kernel_rfl)
    (of_decide_eq_true (by kernel_rfl)) (by unfold Func.isWrapper; first | (rw [if_pos (by decide +kernel)]; kernel_rfl) | (rw [if_neg (by decide +kernel)]; exact ⟨rfl, rfl⟩))
    (fun os started H enc _ => lifted os started H enc)

/-- THE STATEMENT -/
theorem proved : Rows.DiskBarriersSaid := over
end Go.Proofs.Ytinlbmlgfneolaa.diskBarriers
