/-
  Proved here: what Put of the document's own disk makes of it.
  The conditions stand at each theorem.
-/
import Derived.Test.YtinlbmlgfneolaaRefPush
import Derived.Deep.RegionHeld3
namespace Go.Proofs.Ytinlbmlgfneolaa
open Go.RowKit
set_option linter.unusedVariables false

theorem take_all {α : Type} (p : α → Bool) {l : List α} {m i : Nat} (h : l.length = m) (hi : i = m) (h0 : (l.take i).any p = false) : l.any p = false := by
  rw [hi, ← h, List.take_length] at h0
  exact h0

set_option maxRecDepth 100000 in
set_option maxHeartbeats 6400000 in
theorem ri_put {w : World} {a : Addr} {F : Nat → Prop} {s : DM} (G : Nat → Prop) (po : Option Addr) (m cap : Nat) (ws : List (Int × List Int)) (h : RI w a F s) (hL : ListIs w G po m ws) (hFG : ∀ k, F k → ¬ G k) (hfew : ∀ k, k < s.n → (s.hist k).length + ws.length ≤ 1099511627776) :
    Calls Try.prog 12 #[.pointer (some a), .slice po m cap] w fun e w' => ∃ F', e = .returned (.int .i64 (putRes s ws).2) ∧ RI w' a F' (putRes s ws).1 ∧ Grew F F' w w' := by
  obtain ⟨d, gl, go, cl, co, ao, cp, rfl, h, rfl⟩ := h
  have hof := h.off
  by_cases hoff : s.off = true
  · rw [hoff] at hof
    have HE : Hid (putRes s ws = (s, 8)) := Lib.hid (by unfold putRes; rw [if_pos hoff])
    have H := Lib.hid h
    clear hoff h hL hFG hfew
    go_enter Try.func12, Try.ntmps12
    go_wp2_with fail
    go_ret
    exact ⟨_, by rw [HE.out]; rfl, by rw [HE.out]; exact ⟨d, gl, go, cl, co, ao, cp, rfl, H.out, rfl⟩, Grew.refl _ _⟩
  · have hoff' : s.off = false := by rw [Bool.not_eq_true] at hoff; exact hoff
    rw [hoff'] at hof
    have HOF := Lib.hid hoff
    obtain ⟨n, hnn⟩ : ∃ n, s.n = n := ⟨_, rfl⟩
    have HNN := Lib.hid hnn
    have hn4 := h.n480
    rw [hnn] at hn4
    have HWL := Lib.hid hL.1
    have hm := hL.2.1
    have HL0 := Lib.hid hL
    have HFG := Lib.hid hFG
    have H := Lib.hid h
    have hs0 := h.sl
    rw [hnn] at hs0
    have HFW := Lib.hid hfew
    clear hoff hoff' h hL hFG hfew hnn
    go_enter Try.func12, Try.ntmps12
    go_wp2_with fail
    go_loop [5] (fun iv => ∃ i : Nat, iv = .int .i64 (i : Int) ∧ i ≤ m ∧ Hid ((ws.take i).any (fun p : Int × List Int => decide (p.2.length ≠ 64)) = false)) (fun iv => m - (intOf iv).toNat)
    case atStart => exact ⟨0, rfl, Nat.zero_le _, Lib.hid rfl⟩
    case round =>
      obtain ⟨i, rfl, hi, HP⟩ := hrel
      by_cases hlt : i < m
      · obtain ⟨b, off, x, zs, ad, l, c, rfl, hGb, hbl, hp, e1, e2, hxr, hA, hGd⟩ := list_at HL0.out hlt
        have i1 : (i : Int) < (m : Int) := by omega
        have hzl := hA.1.1
        by_cases h64 : l = 64
        · subst h64
          have HP2 := Lib.hid ((any_take_succ (fun p : Int × List Int => decide (p.2.length ≠ 64)) ws i _ hp HP.out).trans (decide_eq_false (fun h => h hzl)))
          clear hGb hbl hp hxr hA hGd hzl HP
          go_wp2_with fail
          go_round
          case rel => exact ⟨i + 1, by go_num, by omega, HP2⟩
          case measure => simp [intOf]; omega
        · have HP2 := Lib.hid (any_of_take _ ws (i + 1) ((any_take_succ (fun p : Int × List Int => decide (p.2.length ≠ 64)) ws i _ hp HP.out).trans (decide_eq_true (show zs.length ≠ 64 by rw [hzl]; exact h64))))
          have hne : ((l : Int) != 64) = true := by simp; omega
          have HE : Hid (putRes s ws = (s, 1)) := Lib.hid (by
            unfold putRes
            rw [if_neg HOF.out, if_pos (show badLen ws = true from HP2.out)])
          clear hGb hbl hp hxr hA hGd hzl HP
          go_wp2_with fail
          go_ret
          exact ⟨by rw [HE.out]; rfl, _, by rw [HE.out]; exact ⟨d, gl, go, cl, co, ao, cp, rfl, H.out, rfl⟩, Grew.refl _ _⟩
      · have HB1 : Hid (badLen ws = false) := Lib.hid (take_all _ HWL.out (show i = m by omega) HP.out)
        have i1 : ¬ (i : Int) < (m : Int) := by omega
        clear HP
        go_wp2_with fail
        go_loopw [6] (fun iv wr => ∃ i : Nat, iv = .int .i64 (i : Int) ∧ i ≤ m ∧ Hid (Below w.heap.size w wr) ∧ Hid ((ws.take i).any (fun p : Int × List Int => decide (p.1 < 0 ∨ (n : Int) ≤ p.1)) = false)) (fun iv _ => m - (intOf iv).toNat)
        case atStart => exact ⟨0, rfl, Nat.zero_le _, Lib.hid (Below.refl _ _), Lib.hid rfl⟩
        case round =>
          clear hi i1
          obtain ⟨i, rfl, hi, HB, HP⟩ := hrel
          by_cases hlt : i < m
          · obtain ⟨b, off, x, zs, ad, l, c, rfl, hGb, hbl, hp, e1, e2, hxr, hA, hGd⟩ := list_at HL0.out hlt
            have i1 : (i : Int) < (m : Int) := by omega
            have d1 : wr.cell? ⟨b, off + i * 2, none⟩ = some (.int .i64 x) := cell_later HB.out e1
            have d0 : wr.cell? ⟨d, 0, none⟩ = some (.slice (some ⟨gl, 0, none⟩) n cl) := cell_later HB.out hs0
            by_cases hx0 : x < 0
            · have HP2 := Lib.hid (any_of_take _ ws (i + 1) ((any_take_succ (fun p : Int × List Int => decide (p.1 < 0 ∨ (n : Int) ≤ p.1)) ws i _ hp HP.out).trans (decide_eq_true (Or.inl hx0))))
              have HE : Hid (putRes s ws = (s, 7)) := Lib.hid (by
                unfold putRes
                rw [if_neg HOF.out, HB1.out, HNN.out, if_neg (by decide), if_pos (show badAt n ws = true from HP2.out)])
              have hd : decide (x < 0) = true := decide_eq_true hx0
              clear hGb hbl hp hxr hA hGd HP e1 e2
              go_wp2_with fail
              go_quiet (fail)
              go_wp2_with fail
              go_ret
              exact ⟨_, by rw [HE.out]; rfl, by rw [HE.out]; exact ⟨d, gl, go, cl, co, ao, cp, rfl, H.out.turn (fun k hk => (below_drewN HB.out _).block k (H.out.lt hk)), rfl⟩, Grew.of_below (below_drewN HB.out _)⟩
            · have hd : decide (x < 0) = false := decide_eq_false hx0
              by_cases hxn : (n : Int) ≤ x
              · have HP2 := Lib.hid (any_of_take _ ws (i + 1) ((any_take_succ (fun p : Int × List Int => decide (p.1 < 0 ∨ (n : Int) ≤ p.1)) ws i _ hp HP.out).trans (decide_eq_true (Or.inr hxn))))
                have HE : Hid (putRes s ws = (s, 7)) := Lib.hid (by
                  unfold putRes
                  rw [if_neg HOF.out, HB1.out, HNN.out, if_neg (by decide), if_pos (show badAt n ws = true from HP2.out)])
                clear hGb hbl hp hxr hA hGd HP e1 e2
                go_wp2_with fail
                go_quiet (fail)
                go_wp2_with fail
                go_ret
                exact ⟨_, by rw [HE.out]; rfl, by rw [HE.out]; exact ⟨d, gl, go, cl, co, ao, cp, rfl, H.out.turn (fun k hk => (below_drewN HB.out _).block k (H.out.lt hk)), rfl⟩, Grew.of_below (below_drewN HB.out _)⟩
              · have HP2 := Lib.hid ((any_take_succ (fun p : Int × List Int => decide (p.1 < 0 ∨ (n : Int) ≤ p.1)) ws i _ hp HP.out).trans (decide_eq_false (fun h => h.elim hx0 hxn)))
                clear hGb hbl hp hxr hA hGd HP e1 e2
                go_wp2_with fail
                go_quiet (fail)
                go_wp2_with fail
                go_roundw
                case rel => exact ⟨i + 1, by go_num, by omega, Lib.hid (below_drewN HB.out _), HP2⟩
                case measure => simp [intOf]; omega
          · have HB2 : Hid (badAt n ws = false) := Lib.hid (take_all _ HWL.out (show i = m by omega) HP.out)
            have i1 : ¬ (i : Int) < (m : Int) := by omega
            have HE : Hid (putRes s ws = putAll s ws) := Lib.hid (by unfold putRes; rw [if_neg HOF.out, HB1.out, HNN.out, HB2.out, if_neg (by decide), if_neg (by decide)])
            have HOK := Lib.hid (fun i x zs => elem_ok (i := i) (x := x) (zs := zs) HB1.out HB2.out)
            have HP0 : Hid (RPuts w d gl go cl co (RFoot d gl go ao s.n) s ws n 0 wr) := Lib.hid ⟨ao, cp, s, H.out.turn (fun k hk => HB.out.block k (H.out.lt hk)), HNN.out, rfl, fun k hk => by have := HFW.out k (by rw [HNN.out]; exact hk); omega, by rw [HNN.out]; exact Grew.of_below HB.out⟩
            clear HP HB HFW
            go_wp2_with fail
            go_loopw [7] (fun iv wr => ∃ i : Nat, iv = .int .i64 (i : Int) ∧ i ≤ m ∧ Hid (RPuts w d gl go cl co (RFoot d gl go ao s.n) s ws n i wr)) (fun iv _ => m - (intOf iv).toNat)
            case atStart => exact ⟨0, rfl, Nat.zero_le _, HP0⟩
            case round =>
              clear HP0 hi i1
              obtain ⟨i, rfl, hi, HP⟩ := hrel
              obtain ⟨ao1, cp1, s1, hD, hn1, hput, hfew, hG1⟩ := HP.out
              have HD := Lib.hid hD
              have HN1 := Lib.hid hn1
              have HPUT := Lib.hid hput
              have HFEW := Lib.hid hfew
              have HG1 := Lib.hid hG1
              by_cases hlt : i < m
              · obtain ⟨b, off, x, zs, ad, l, c, rfl, hGb, hbl, hp, e1, e2, hxr, hA, hGd⟩ := list_at HL0.out hlt
                have i1 : (i : Int) < (m : Int) := by omega
                obtain ⟨hz64, hx0, hxn⟩ := HOK.out i x zs hp
                have hl : l = 64 := by rw [← hA.1.1]; exact hz64
                subst hl
                obtain ⟨k, rfl⟩ : ∃ k : Nat, x = k := ⟨x.toNat, by omega⟩
                obtain ⟨bd, od, rfl, hcd⟩ := hA.1.2.2.2.resolve_left (by decide)
                have hbdl : bd < w.heap.size := World.block_lt_of_cell? _ _ (hcd 0 (by decide))
                have hGbd : G bd := hGd bd od none rfl (by decide)
                have hbF : ¬ RFoot d gl go ao s.n b := fun hf => HFG.out b hf hGb
                have hbdF : ¬ RFoot d gl go ao s.n bd := fun hf => HFG.out bd hf hGbd
                have hbR : ¬ RFoot d gl go ao1 n b := fun hf => (hG1.2.2.2.2.2 b hf).elim hbF (fun e => by omega)
                have hbdR : ¬ RFoot d gl go ao1 n bd := fun hf => (hG1.2.2.2.2.2 bd hf).elim hbdF (fun e => by omega)
                have wb := hG1.2.2.2.2.1 b hbl hbF
                have wbd := hG1.2.2.2.2.1 bd hbdl hbdF
                have g1 : wr.cell? ⟨b, off + i * 2, none⟩ = some (.int .i64 (k : Int)) := (cell_of_heap (p := ⟨b, off + i * 2, none⟩) wb).trans e1
                have g2 : wr.cell? ⟨b, off + i * 2 + 1, none⟩ = some (.slice (some ⟨bd, od, none⟩) 64 c) := (cell_of_heap (p := ⟨b, off + i * 2 + 1, none⟩) wb).trans e2
                have hAr := hA.grew hG1 (fun b' o s e _ => by cases e; exact hbdF)
                have HA := Lib.hid hAr
                have HG12 := Lib.hid (And.intro g1 g2)
                have HNO := Lib.hid (And.intro hbR hbdR)
                have HBL := Lib.hid (And.intro (Nat.lt_of_lt_of_le hbl hG1.2.2.2.1) (Nat.lt_of_lt_of_le hbdl hG1.2.2.2.1))
                have HZ := Lib.hid (And.intro hz64 hA.1.2.2.1)
                have HDR : Hid (ws.drop i = ((k : Int), zs) :: ws.drop (i + 1)) := Lib.hid (by
                  have hlt' := (List.getElem?_eq_some_iff.1 hp).1
                  rw [List.drop_eq_getElem_cons hlt', (List.getElem?_eq_some_iff.1 hp).2])
                have hkn : k < n := by omega
                clear hD hn1 hput hfew hG1 HP hp hA hGb hbl hxr hGd hx0 e1 e2 hcd hbdl hGbd hbF hbdF hbR hbdR wb wbd g1 g2 hAr hz64
                have c2 := goes_ri HD.out
                by_cases hz : s1.left = 0
                · have HPE : Hid (putAll s ws = (gone s1, 8)) := Lib.hid (by
                    rw [HPUT.out, HDR.out]
                    show (if s1.left = 0 then (gone s1, 8) else _) = _
                    rw [if_pos hz])
                  rw [if_pos hz, decide_eq_true hz] at c2
                  clear hz
                  go_wp2_with (go_at_call 25; refine c2.mono ?_; rintro e w3 ⟨rfl, hd3, hg3⟩; have HD3 := Lib.hid hd3; have HG3 := Lib.hid hg3; clear hd3 hg3)
                  go_ret
                  exact ⟨RFoot d gl go ao1 n, by rw [HE.out, HPE.out]; rfl, by rw [HE.out, HPE.out]; exact ⟨d, gl, go, cl, co, ao1, cp1, rfl, HD3.out, by rw [show (gone s1).n = n from HN1.out]⟩, HG1.out.trans (grew_in HG3.out (Or.inl rfl))⟩
                · have HPE : Hid (putAll s ws = putAll (addW (step1 s1) k zs) (ws.drop (i + 1))) := Lib.hid (by
                    rw [HPUT.out, HDR.out]
                    show (if s1.left = 0 then (gone s1, 8) else putAll (addW (step1 s1) (Int.toNat (k : Int)) zs) (ws.drop (i + 1))) = _
                    rw [if_neg hz, Int.toNat_natCast])
                  rw [if_neg hz, decide_eq_false hz] at c2
                  obtain ⟨L, hL⟩ : ∃ L, (s1.hist k).tail.length = L := ⟨_, rfl⟩
                  have HLL := Lib.hid hL
                  have i2 : (k : Int) < (n : Int) := hxn
                  clear hz hL
                  go_wp2_with (go_at_call 25; refine c2.mono ?_; rintro e w3 ⟨rfl, hd3, hg3⟩; have HD3 := Lib.hid hd3; have HG3 := Lib.hid hg3; clear hd3 hg3)
                  clear c2
                  have e6 : (step1 s1).n = n := HN1.out
                  have hkn' : k < (step1 s1).n := by rw [e6]; exact hkn
                  have hCk := HD3.out.cells k hkn'
                  have f1 := HD3.out.so
                  rw [e6] at f1
                  have f3 := hCk.opn
                  rw [show ((step1 s1).hist k).tail.length = L from HLL.out] at f3
                  have hnd : ∀ x, ¬ RFoot d gl go ao1 n x → x ≠ d := fun x hx e => hx (Or.inl e)
                  have hb3 := HG3.out.2.2.2.2.1 b HBL.out.1 (hnd b HNO.out.1)
                  have hbd3 := HG3.out.2.2.2.2.1 bd HBL.out.2 (hnd bd HNO.out.2)
                  have g1 : w3.cell? ⟨b, off + i * 2, none⟩ = some (.int .i64 (k : Int)) := (cell_of_heap (p := ⟨b, off + i * 2, none⟩) hb3).trans HG12.out.1
                  have g2 : w3.cell? ⟨b, off + i * 2 + 1, none⟩ = some (.slice (some ⟨bd, od, none⟩) 64 c) := (cell_of_heap (p := ⟨b, off + i * 2 + 1, none⟩) hb3).trans HG12.out.2
                  have hA3 := HA.out.grew HG3.out (fun b' o s e _ => by cases e; exact hnd bd HNO.out.2)
                  obtain ⟨V, hV⟩ : ∃ V, V = w3.drew := ⟨_, rfl⟩
                  have hbV : Below w3.heap.size w3 V := by rw [hV]; exact (Below.refl _ _).drew
                  obtain ⟨S, hS⟩ : ∃ S, S = str zs := ⟨_, rfl⟩
                  have hbA : Below w3.heap.size w3 (V.alloc (.cells #[.string S] 9)) := hbV.alloc hbV.size _
                  have HV := Lib.hid hV
                  have HSS := Lib.hid hS
                  have HB4 := Lib.hid hbA
                  have hdl : d < w3.heap.size := World.block_lt_of_cell? _ _ f1
                  have hbl3 : b < w3.heap.size := World.block_lt_of_cell? _ _ g1
                  have hbdl3 : bd < w3.heap.size := Nat.lt_of_lt_of_le HBL.out.2 HG3.out.2.2.2.1
                  have HSP : Hid (∀ w', (∀ x, (x = d ∨ x = b ∨ x = bd) → w'.heap[x]? = w3.heap[x]?) → SP d go n co b (off + i * 2) bd od c k S w') := Lib.hid (fun w' hx => by rw [HSS.out]; exact sp_of f1 g1 g2 hA3.1 (hx d (Or.inl rfl)) (hx b (Or.inr (Or.inl rfl))) (hx bd (Or.inr (Or.inr rfl))))
                  have hxl : ∀ x, (x = d ∨ x = b ∨ x = bd) → x < w3.heap.size := fun x hx => by
                    rcases hx with rfl | rfl | rfl
                    · exact hdl
                    · exact hbl3
                    · exact hbdl3
                  have HSV : Hid (SP d go n co b (off + i * 2) bd od c k S V) := Lib.hid (HSP.out V (fun x hx => hbV.block x (hxl x hx)))
                  have HSA : Hid (SP d go n co b (off + i * 2) bd od c k S (V.alloc (.cells #[.string S] 9))) := Lib.hid (HSP.out _ (fun x hx => hbA.block x (hxl x hx)))
                  have hob : ∀ x, (x = d ∨ x = b ∨ x = bd) → (Value.slice (ao1 k) L (cp1 k)).ownBlock ≠ some x := fun x hx e => by
                    have hao := own_of_ao hCk.form.1 e
                    rcases hx with rfl | rfl | rfl
                    · exact HD3.out.awayd k hkn' hao
                    · exact HNO.out.1 (Or.inr (Or.inr (Or.inr ⟨k, hkn, hao⟩)))
                    · exact HNO.out.2 (Or.inr (Or.inr (Or.inr ⟨k, hkn, hao⟩)))
                  have HFAR : Hid (∀ x, (x = d ∨ x = b ∨ x = bd) → x < (V.alloc (.cells #[.string S] 9)).heap.size ∧ (Value.slice (ao1 k) L (cp1 k)).ownBlock ≠ some x ∧ x ≠ go ∧ x < w3.heap.size) := Lib.hid (fun x hx => ⟨Nat.lt_of_lt_of_le (hxl x hx) hbA.size, hob x hx, by
                    rcases hx with rfl | rfl | rfl
                    · exact HD3.out.dO
                    · exact fun e => HNO.out.1 (Or.inr (Or.inr (Or.inl e)))
                    · exact fun e => HNO.out.2 (Or.inr (Or.inr (Or.inl e))), hxl x hx⟩)
                  have f3v := cell_later hbV f3
                  have f3b := cell_later hbA f3
                  have hgol : go < w3.heap.size := World.block_lt_of_cell? _ _ f3
                  have HGV : Hid (go < (V.alloc (.cells #[.string S] 9)).heap.size ∧ (Value.slice (ao1 k) L (cp1 k)).ownBlock ≠ some go) := Lib.hid ⟨Nat.lt_of_lt_of_le hgol hbA.size, by rw [← HLL.out]; exact hCk.awo⟩
                  have HFB : Hid ((V.alloc (.cells #[.string S] 9)).frozen? ⟨go, k, none⟩ = false) := Lib.hid (by rw [hbA.frozen (p := ⟨go, k, none⟩) hgol]; exact HD3.out.fro k)
                  have HOWN : Hid ((V.alloc (.cells #[.string S] 9)).ownsRow 0 9 1 (.slice (ao1 k) L (cp1 k)) L (texts (s1.hist k).tail)) := Lib.hid (by rw [← HLL.out]; exact owns_later hCk.row hbA)
                  have HNEWS : Hid (∀ x u, [Value.string S][x]? = some u → (V.alloc (.cells #[.string S] 9)).cell? ((⟨V.heap.size, 0, none⟩ : Addr).add x) = some u) := Lib.hid (World.news_of_block (cs := #[.string S]) (heap_alloc_new _ _))
                  obtain ⟨i0, hi0, hz0, hz1, hz2⟩ := info_parts infoStr
                  have HI := Lib.hid (And.intro hi0 (And.intro hz0 (And.intro hz1 hz2)))
                  have hLb : L + 1 ≤ 1099511627776 := by
                    have h1 := HFEW.out k hkn
                    have h2 : (s1.hist k).tail.length = (s1.hist k).length - 1 := List.length_tail
                    have h3 := HLL.out
                    have h4 := HWL.out
                    omega
                  clear f1 f3 hV hbV hbA hCk hA3 hi0 hz0 hz1 hz2 hb3 hbd3 g1 g2 hnd hxl hob hdl hbl3 hbdl3 hS hgol e6 hkn'
                  refine wp_region_held (S := SP d go n co b (off + i * 2) bd od c k S) (by kernel_rfl) ?_
                  try (change wpAnyH _ _ _ _ _ _ _ _ (World.drew _))
                  rw [← HV.out]
                  refine wpAnyH_take (i := 0) (oi := ⟨some 58, _, _, _, _, _⟩) (v := ?_) rfl (by kernel_rfl) (by kernel_rfl) (by kernel_rfl) (fun _ _ _ h => h) (Or.inl ⟨by kernel_rfl, ?_⟩) HSV.out ?_
                  rotate_left 1
                  · (intro wq hq; obtain ⟨q1, q2, q3, q4⟩ := hq; go_simp); try (with_reducible rfl)
                  try simp only [Act.put, List.setIfInBounds_toArray, List.set_cons_zero, List.set_cons_succ]
                  refine wpAnyH_take (i := 1) (oi := ⟨some 59, _, _, _, _, _⟩) (v := ?_) rfl (by kernel_rfl) (by kernel_rfl) (by kernel_rfl) (fun _ _ _ h => h) (Or.inl ⟨by kernel_rfl, ?_⟩) HSV.out ?_
                  rotate_left 1
                  · (intro wq hq; obtain ⟨q1, q2, q3, q4⟩ := hq; go_simp); try (with_reducible rfl)
                  try simp only [Act.put, List.setIfInBounds_toArray, List.set_cons_zero, List.set_cons_succ]
                  refine wpAnyH_take (i := 2) (oi := ⟨some 60, _, _, _, _, _⟩) (v := ?_) rfl (by kernel_rfl) (by kernel_rfl) (by kernel_rfl) (fun _ _ _ h => h) (Or.inl ⟨by kernel_rfl, ?_⟩) HSV.out ?_
                  rotate_left 1
                  · (intro wq hq; obtain ⟨q1, q2, q3, q4⟩ := hq; go_simp); try (with_reducible rfl)
                  try simp only [Act.put, List.setIfInBounds_toArray, List.set_cons_zero, List.set_cons_succ]
                  refine wpAnyH_take (i := 3) (oi := ⟨some 61, _, _, _, _, _⟩) (v := ?_) rfl (by kernel_rfl) (by kernel_rfl) (by kernel_rfl) (fun _ _ _ h => h) (Or.inl ⟨by kernel_rfl, ?_⟩) HSV.out ?_
                  rotate_left 1
                  · (intro wq hq; obtain ⟨q1, q2, q3, q4⟩ := hq; go_simp); try (with_reducible rfl)
                  try simp only [Act.put, List.setIfInBounds_toArray, List.set_cons_zero, List.set_cons_succ]
                  refine wpAnyH_take (i := 4) (oi := ⟨some 62, _, _, _, _, _⟩) (v := ?_) rfl (by kernel_rfl) (by kernel_rfl) (by kernel_rfl) (fun _ _ _ h => h) (Or.inl ⟨by kernel_rfl, ?_⟩) HSV.out ?_
                  rotate_left 1
                  · (intro wq hq; obtain ⟨q1, q2, q3, q4⟩ := hq; go_simp); try (with_reducible rfl)
                  try simp only [Act.put, List.setIfInBounds_toArray, List.set_cons_zero, List.set_cons_succ]
                  refine wpAnyH_take (i := 5) (oi := ⟨some 63, _, _, _, _, _⟩) (v := ?_) rfl (by kernel_rfl) (by kernel_rfl) (by kernel_rfl) (fun _ _ _ h => h) (Or.inl ⟨by kernel_rfl, ?_⟩) HSV.out ?_
                  rotate_left 1
                  · (intro wq hq; obtain ⟨q1, q2, q3, q4⟩ := hq; go_simp); try (with_reducible rfl)
                  try simp only [Act.put, List.setIfInBounds_toArray, List.set_cons_zero, List.set_cons_succ]
                  refine wpAnyH_take (i := 6) (oi := ⟨some 64, _, _, _, _, _⟩) (v := ?_) rfl (by kernel_rfl) (by kernel_rfl) (by kernel_rfl) (fun _ _ _ h => h) (Or.inl ⟨by kernel_rfl, ?_⟩) HSV.out ?_
                  rotate_left 1
                  · (intro wq hq; obtain ⟨q1, q2, q3, q4⟩ := hq; go_simp); try (with_reducible rfl)
                  try simp only [Act.put, List.setIfInBounds_toArray, List.set_cons_zero, List.set_cons_succ]
                  refine wpAnyH_take (i := 7) (oi := ⟨some 65, _, _, _, _, _⟩) (v := ?_) rfl (by kernel_rfl) (by kernel_rfl) (by kernel_rfl) (fun _ _ _ h => h) (Or.inl ⟨by kernel_rfl, ?_⟩) HSV.out ?_
                  rotate_left 1
                  · (intro wq hq; obtain ⟨q1, q2, q3, q4⟩ := hq; go_simp); try (with_reducible rfl)
                  try simp only [Act.put, List.setIfInBounds_toArray, List.set_cons_zero, List.set_cons_succ]
                  refine wpAnyH_take (i := 8) (oi := ⟨some 66, _, _, _, _, _⟩) (v := ?_) rfl (by kernel_rfl) (by kernel_rfl) (by kernel_rfl) (fun _ _ _ h => h) (Or.inl ⟨by kernel_rfl, ?_⟩) HSV.out ?_
                  rotate_left 1
                  · (intro wq hq; obtain ⟨q1, q2, q3, q4⟩ := hq; go_simp); try (with_reducible rfl)
                  try simp only [Act.put, List.setIfInBounds_toArray, List.set_cons_zero, List.set_cons_succ]
                  refine wpAnyH_take (i := 9) (oi := ⟨some 67, _, _, _, _, _⟩) (v := ?_) rfl (by kernel_rfl) (by kernel_rfl) (by kernel_rfl) (fun _ _ _ h => h) (Or.inl ⟨by kernel_rfl, ?_⟩) HSV.out ?_
                  rotate_left 1
                  · (intro wq hq; obtain ⟨q1, q2, q3, q4⟩ := hq; go_simp); try (with_reducible rfl)
                  try simp only [Act.put, List.setIfInBounds_toArray, List.set_cons_zero, List.set_cons_succ]
                  refine wpAnyH_take (i := 10) (oi := ⟨some 68, _, _, _, _, _⟩) (v := ?_) rfl (by kernel_rfl) (by kernel_rfl) (by kernel_rfl) (fun _ _ _ h => h) (Or.inl ⟨by kernel_rfl, ?_⟩) HSV.out ?_
                  rotate_left 1
                  · (intro wq hq; obtain ⟨q1, q2, q3, q4⟩ := hq; go_simp); try (with_reducible rfl)
                  try simp only [Act.put, List.setIfInBounds_toArray, List.set_cons_zero, List.set_cons_succ]
                  refine wpAnyH_take (i := 11) (oi := ⟨some 69, _, _, _, _, _⟩) (v := ?_) rfl (by kernel_rfl) (by kernel_rfl) (by kernel_rfl) (fun _ _ _ h => h) (Or.inl ⟨by kernel_rfl, ?_⟩) HSV.out ?_
                  rotate_left 1
                  · (intro wq hq; obtain ⟨q1, q2, q3, q4⟩ := hq; go_simp); try (with_reducible rfl)
                  try simp only [Act.put, List.setIfInBounds_toArray, List.set_cons_zero, List.set_cons_succ]
                  refine wpAnyH_take (i := 12) (oi := ⟨some 70, _, _, _, _, _⟩) (v := ?_) rfl (by kernel_rfl) (by kernel_rfl) (by kernel_rfl) (fun _ _ _ h => h) (Or.inl ⟨by kernel_rfl, ?_⟩) HSV.out ?_
                  rotate_left 1
                  · (intro wq hq; obtain ⟨q1, q2, q3, q4⟩ := hq; go_simp); try (with_reducible rfl)
                  try simp only [Act.put, List.setIfInBounds_toArray, List.set_cons_zero, List.set_cons_succ]
                  refine wpAnyH_take (i := 13) (oi := ⟨some 71, _, _, _, _, _⟩) (v := ?_) rfl (by kernel_rfl) (by kernel_rfl) (by kernel_rfl) (fun _ _ _ h => h) (Or.inl ⟨by kernel_rfl, ?_⟩) HSV.out ?_
                  rotate_left 1
                  · (intro wq hq; obtain ⟨q1, q2, q3, q4⟩ := hq; go_simp); try (with_reducible rfl)
                  try simp only [Act.put, List.setIfInBounds_toArray, List.set_cons_zero, List.set_cons_succ]
                  refine wpAnyH_take (i := 14) (oi := ⟨some 72, _, _, _, _, _⟩) (v := ?_) rfl (by kernel_rfl) (by kernel_rfl) (by kernel_rfl) (fun _ _ _ h => h) (Or.inl ⟨by kernel_rfl, ?_⟩) HSV.out ?_
                  rotate_left 1
                  · (intro wq hq; obtain ⟨q1, q2, q3, q4⟩ := hq; go_simp); try (with_reducible rfl)
                  try simp only [Act.put, List.setIfInBounds_toArray, List.set_cons_zero, List.set_cons_succ]
                  refine wpAnyH_take (i := 15) (oi := ⟨some 73, _, _, _, _, _⟩) (v := ?_) rfl (by kernel_rfl) (by kernel_rfl) (by kernel_rfl) (fun _ _ _ h => h) (Or.inl ⟨by kernel_rfl, ?_⟩) HSV.out ?_
                  rotate_left 1
                  · (intro wq hq; obtain ⟨q1, q2, q3, q4⟩ := hq; go_simp); try (with_reducible rfl)
                  try simp only [Act.put, List.setIfInBounds_toArray, List.set_cons_zero, List.set_cons_succ]
                  refine wpAnyH_take (i := 16) (oi := ⟨some 74, _, _, _, _, _⟩) (v := ?_) rfl (by kernel_rfl) (by kernel_rfl) (by kernel_rfl) (fun _ _ _ h => h) (Or.inl ⟨by kernel_rfl, ?_⟩) HSV.out ?_
                  rotate_left 1
                  · (intro wq hq; obtain ⟨q1, q2, q3, q4⟩ := hq; go_simp); try (with_reducible rfl)
                  try simp only [Act.put, List.setIfInBounds_toArray, List.set_cons_zero, List.set_cons_succ]
                  refine wpAnyH_take (i := 17) (oi := ⟨some 75, _, _, _, _, _⟩) (v := ?_) rfl (by kernel_rfl) (by kernel_rfl) (by kernel_rfl) (fun _ _ _ h => h) (Or.inl ⟨by kernel_rfl, ?_⟩) HSV.out ?_
                  rotate_left 1
                  · (intro wq hq; obtain ⟨q1, q2, q3, q4⟩ := hq; go_simp); try (with_reducible rfl)
                  try simp only [Act.put, List.setIfInBounds_toArray, List.set_cons_zero, List.set_cons_succ]
                  refine wpAnyH_take (i := 18) (oi := ⟨some 76, _, _, _, _, _⟩) (v := ?_) rfl (by kernel_rfl) (by kernel_rfl) (by kernel_rfl) (fun _ _ _ h => h) (Or.inl ⟨by kernel_rfl, ?_⟩) HSV.out ?_
                  rotate_left 1
                  · (intro wq hq; obtain ⟨q1, q2, q3, q4⟩ := hq; go_simp); try (with_reducible rfl)
                  try simp only [Act.put, List.setIfInBounds_toArray, List.set_cons_zero, List.set_cons_succ]
                  refine wpAnyH_take (i := 20) (oi := ⟨some 78, _, _, _, _, _⟩) (v := ?_) rfl (by kernel_rfl) (by kernel_rfl) (by kernel_rfl) (fun _ _ _ h => h) (Or.inl ⟨by kernel_rfl, ?_⟩) HSV.out ?_
                  rotate_left 1
                  · (intro wq hq; obtain ⟨q1, q2, q3, q4⟩ := hq; go_simp); try (with_reducible rfl)
                  try simp only [Act.put, List.setIfInBounds_toArray, List.set_cons_zero, List.set_cons_succ]
                  refine wpAnyH_take (i := 21) (oi := ⟨some 79, _, _, _, _, _⟩) (v := ?_) rfl (by kernel_rfl) (by kernel_rfl) (by kernel_rfl) (fun _ _ _ h => h) (Or.inl ⟨by kernel_rfl, ?_⟩) HSV.out ?_
                  rotate_left 1
                  · (intro wq hq; obtain ⟨q1, q2, q3, q4⟩ := hq; go_simp); try (with_reducible rfl)
                  try simp only [Act.put, List.setIfInBounds_toArray, List.set_cons_zero, List.set_cons_succ]
                  refine wpAnyH_take (i := 22) (oi := ⟨some 80, _, _, _, _, _⟩) (v := ?_) rfl (by kernel_rfl) (by kernel_rfl) (by kernel_rfl) (fun _ _ _ h => h) (Or.inl ⟨by kernel_rfl, ?_⟩) HSV.out ?_
                  rotate_left 1
                  · (intro wq hq; obtain ⟨q1, q2, q3, q4⟩ := hq; go_simp); try (with_reducible rfl)
                  try simp only [Act.put, List.setIfInBounds_toArray, List.set_cons_zero, List.set_cons_succ]
                  refine wpAnyH_take (i := 23) (oi := ⟨some 81, _, _, _, _, _⟩) (v := ?_) rfl (by kernel_rfl) (by kernel_rfl) (by kernel_rfl) (fun _ _ _ h => h) (Or.inl ⟨by kernel_rfl, ?_⟩) HSV.out ?_
                  rotate_left 1
                  · (intro wq hq; obtain ⟨q1, q2, q3, q4⟩ := hq; go_simp); try (with_reducible rfl)
                  try simp only [Act.put, List.setIfInBounds_toArray, List.set_cons_zero, List.set_cons_succ]
                  refine wpAnyH_take (i := 24) (oi := ⟨some 82, _, _, _, _, _⟩) (v := ?_) rfl (by kernel_rfl) (by kernel_rfl) (by kernel_rfl) (fun _ _ _ h => h) (Or.inl ⟨by kernel_rfl, ?_⟩) HSV.out ?_
                  rotate_left 1
                  · (intro wq hq; obtain ⟨q1, q2, q3, q4⟩ := hq; go_simp); try (with_reducible rfl)
                  try simp only [Act.put, List.setIfInBounds_toArray, List.set_cons_zero, List.set_cons_succ]
                  refine wpAnyH_take (i := 25) (oi := ⟨some 83, _, _, _, _, _⟩) (v := ?_) rfl (by kernel_rfl) (by kernel_rfl) (by kernel_rfl) (fun _ _ _ h => h) (Or.inl ⟨by kernel_rfl, ?_⟩) HSV.out ?_
                  rotate_left 1
                  · (intro wq hq; obtain ⟨q1, q2, q3, q4⟩ := hq; go_simp); try (with_reducible rfl)
                  try simp only [Act.put, List.setIfInBounds_toArray, List.set_cons_zero, List.set_cons_succ]
                  refine wpAnyH_ready (rs := [19, 26]) (by kernel_rfl) (by simp) ?_
                  refine AllReadyH.cons (o := ⟨some 77, _, _, _, _, _⟩) rfl (fun K hK => ?_) ?_
                  · go_simp
                    refine hK.out _ _ HSV.out (fun _ => ?_)
                    clear hK K
                    refine wpAnyH_ready (rs := [26]) (by kernel_rfl) (by simp) ?_
                    refine AllReadyH.cons (o := ⟨some 84, _, _, _, _, _⟩) rfl (fun K hK => ?_) AllReadyH.nil
                    go_simp
                    refine hK.out _ _ HSA.out (fun _ => ?_)
                    clear hK K
                    refine wpAnyH_ready (rs := [27]) (by kernel_rfl) (by simp) ?_
                    refine AllReadyH.cons (o := ⟨some 85, _, _, _, _, _⟩) rfl (fun K hK => ?_) AllReadyH.nil
                    refine step_append_lies _ rfl (.tmp 77) (.tmp 84) 43 (by rfl) 0 9 i0 (.string ByteArray.empty) 1 16 Try.underlying43 HI.out.1 HI.out.2.1 HI.out.2.2.1 HI.out.2.2.2 rfl (by decide) (.slice (ao1 k) L (cp1 k)) L (texts (s1.hist k).tail) (by rfl) HOWN.out ⟨V.heap.size, 0, none⟩ 1 1 [.string S] (by rfl) rfl HNEWS.out (by simp [Value.oneCell']) (by decide) (by unfold maxLen; omega) (by omega) (Nat.zero_le _) _ rfl ?_
                    intro g5 cap5 w5 hown5 hgrow5 hat5 hlt5
                    have h45 : w5.heap[go]? = (V.alloc (.cells #[.string S] 9)).heap[go]? := hgrow5.block go HGV.out.1 (fun e => HGV.out.2 e.symm)
                    have f5 : w5.cell? ⟨go, k, none⟩ = some (.slice (ao1 k) L (cp1 k)) := (cell_of_heap (p := ⟨go, k, none⟩) h45).trans f3b
                    have fr5 : w5.frozen? ⟨go, k, none⟩ = false := (World.frozen?_of_block (w := V.alloc (.cells #[.string S] 9)) (a := ⟨go, k, none⟩) h45).trans HFB.out
                    have HS5 : Hid (SP d go n co b (off + i * 2) bd od c k S w5) := Lib.hid (HSP.out w5 (fun x hx => by rw [hgrow5.block x (HFAR.out x hx).1 (fun e => (HFAR.out x hx).2.1 e.symm), HB4.out.block x (HFAR.out x hx).2.2.2]))
                    have HS6 : Hid (SP d go n co b (off + i * 2) bd od c k S (w5.setCell ⟨go, k, none⟩ (.slice (some ⟨g5, 0, none⟩) (L + 1) cap5))) := Lib.hid (HSP.out _ (fun x hx => by rw [Below.heap_setCell _ _ _ _ (HFAR.out x hx).2.2.1, hgrow5.block x (HFAR.out x hx).1 (fun e => (HFAR.out x hx).2.1 e.symm), HB4.out.block x (HFAR.out x hx).2.2.2]))
                    have HG5 := Lib.hid (And.intro hown5 (And.intro hgrow5 hat5))
                    clear hown5 hgrow5 hat5 hlt5 h45
                    refine hK.out _ _ HS5.out (fun _ => ?_)
                    clear hK K
                    try simp only [Act.put, List.setIfInBounds_toArray, List.set_cons_zero, List.set_cons_succ]
                    refine wpAnyH_ready (rs := [28]) (by kernel_rfl) (by simp) ?_
                    refine AllReadyH.cons (o := ⟨some 86, _, _, _, _, _⟩) rfl (fun K hK => ?_) AllReadyH.nil
                    go_simp
                    refine hK.out _ _ HS5.out (fun _ => ?_)
                    clear hK K
                    refine wpAnyH_ready (rs := [29]) (by kernel_rfl) (by simp) ?_
                    refine AllReadyH.cons (o := ⟨none, _, _, _, _, _⟩) rfl (fun K hK => ?_) AllReadyH.nil
                    go_simp
                    refine hK.out _ _ HS6.out (fun _ => ?_)
                    clear hK K
                    refine wpAnyH_done (by kernel_rfl) ?_ _
                    go_simp
                    have e6 : (step1 s1).n = n := HN1.out
                    have eL : ((step1 s1).hist k).tail.length = L := HLL.out
                    obtain ⟨D6, G6⟩ := HD3.out.push (k := k) (g5 := g5) (cap5 := cap5) (H := (V.alloc (.cells #[.string S] 9)).heap.size) (zs := zs) (by rw [e6]; exact hkn) HB4.out HZ.out (by rw [eL, ← HSS.out]; exact HG5.out.1) (by rw [eL]; exact HG5.out.2.1) (by rw [eL]; exact HG5.out.2.2) HB4.out.size
                    rw [eL] at D6 G6
                    rw [e6] at G6
                    have G7 := HG1.out.trans ((grew_in (F := RFoot d gl go ao1 n) HG3.out (Or.inl rfl)).trans G6)
                    have HD7 := Lib.hid D6
                    have HG7 := Lib.hid G7
                    clear D6 G6 G7 f5 fr5
                    go_wp2_with fail
                    go_roundw
                    case rel =>
                      refine ⟨i + 1, by go_num, by omega, Lib.hid ⟨_, _, _, HD7.out, HN1.out, HPE.out, fun k' hk' => ?_, HG7.out⟩⟩
                      have h1 := HFEW.out k' hk'
                      have h4 := HWL.out
                      show (if k' = k then s1.hist k' ++ [zs] else s1.hist k').length + _ ≤ _
                      by_cases ek : k' = k
                      · rw [if_pos ek, List.length_append]
                        simp only [List.length_cons, List.length_nil]
                        omega
                      · rw [if_neg ek]; omega
                    case measure => simp [intOf]; omega
                  refine AllReadyH.cons (o := ⟨some 84, _, _, _, _, _⟩) rfl (fun K hK => ?_) AllReadyH.nil
                  go_simp
                  refine hK.out _ _ HSA.out (fun _ => ?_)
                  clear hK K
                  refine wpAnyH_ready (rs := [19]) (by kernel_rfl) (by simp) ?_
                  refine AllReadyH.cons (o := ⟨some 77, _, _, _, _, _⟩) rfl (fun K hK => ?_) AllReadyH.nil
                  go_simp
                  refine hK.out _ _ HSA.out (fun _ => ?_)
                  clear hK K
                  refine wpAnyH_ready (rs := [27]) (by kernel_rfl) (by simp) ?_
                  refine AllReadyH.cons (o := ⟨some 85, _, _, _, _, _⟩) rfl (fun K hK => ?_) AllReadyH.nil
                  refine step_append_lies _ rfl (.tmp 77) (.tmp 84) 43 (by rfl) 0 9 i0 (.string ByteArray.empty) 1 16 Try.underlying43 HI.out.1 HI.out.2.1 HI.out.2.2.1 HI.out.2.2.2 rfl (by decide) (.slice (ao1 k) L (cp1 k)) L (texts (s1.hist k).tail) (by rfl) HOWN.out ⟨V.heap.size, 0, none⟩ 1 1 [.string S] (by rfl) rfl HNEWS.out (by simp [Value.oneCell']) (by decide) (by unfold maxLen; omega) (by omega) (Nat.zero_le _) _ rfl ?_
                  intro g5 cap5 w5 hown5 hgrow5 hat5 hlt5
                  have h45 : w5.heap[go]? = (V.alloc (.cells #[.string S] 9)).heap[go]? := hgrow5.block go HGV.out.1 (fun e => HGV.out.2 e.symm)
                  have f5 : w5.cell? ⟨go, k, none⟩ = some (.slice (ao1 k) L (cp1 k)) := (cell_of_heap (p := ⟨go, k, none⟩) h45).trans f3b
                  have fr5 : w5.frozen? ⟨go, k, none⟩ = false := (World.frozen?_of_block (w := V.alloc (.cells #[.string S] 9)) (a := ⟨go, k, none⟩) h45).trans HFB.out
                  have HS5 : Hid (SP d go n co b (off + i * 2) bd od c k S w5) := Lib.hid (HSP.out w5 (fun x hx => by rw [hgrow5.block x (HFAR.out x hx).1 (fun e => (HFAR.out x hx).2.1 e.symm), HB4.out.block x (HFAR.out x hx).2.2.2]))
                  have HS6 : Hid (SP d go n co b (off + i * 2) bd od c k S (w5.setCell ⟨go, k, none⟩ (.slice (some ⟨g5, 0, none⟩) (L + 1) cap5))) := Lib.hid (HSP.out _ (fun x hx => by rw [Below.heap_setCell _ _ _ _ (HFAR.out x hx).2.2.1, hgrow5.block x (HFAR.out x hx).1 (fun e => (HFAR.out x hx).2.1 e.symm), HB4.out.block x (HFAR.out x hx).2.2.2]))
                  have HG5 := Lib.hid (And.intro hown5 (And.intro hgrow5 hat5))
                  clear hown5 hgrow5 hat5 hlt5 h45
                  refine hK.out _ _ HS5.out (fun _ => ?_)
                  clear hK K
                  try simp only [Act.put, List.setIfInBounds_toArray, List.set_cons_zero, List.set_cons_succ]
                  refine wpAnyH_ready (rs := [28]) (by kernel_rfl) (by simp) ?_
                  refine AllReadyH.cons (o := ⟨some 86, _, _, _, _, _⟩) rfl (fun K hK => ?_) AllReadyH.nil
                  go_simp
                  refine hK.out _ _ HS5.out (fun _ => ?_)
                  clear hK K
                  refine wpAnyH_ready (rs := [29]) (by kernel_rfl) (by simp) ?_
                  refine AllReadyH.cons (o := ⟨none, _, _, _, _, _⟩) rfl (fun K hK => ?_) AllReadyH.nil
                  go_simp
                  refine hK.out _ _ HS6.out (fun _ => ?_)
                  clear hK K
                  refine wpAnyH_done (by kernel_rfl) ?_ _
                  go_simp
                  have e6 : (step1 s1).n = n := HN1.out
                  have eL : ((step1 s1).hist k).tail.length = L := HLL.out
                  obtain ⟨D6, G6⟩ := HD3.out.push (k := k) (g5 := g5) (cap5 := cap5) (H := (V.alloc (.cells #[.string S] 9)).heap.size) (zs := zs) (by rw [e6]; exact hkn) HB4.out HZ.out (by rw [eL, ← HSS.out]; exact HG5.out.1) (by rw [eL]; exact HG5.out.2.1) (by rw [eL]; exact HG5.out.2.2) HB4.out.size
                  rw [eL] at D6 G6
                  rw [e6] at G6
                  have G7 := HG1.out.trans ((grew_in (F := RFoot d gl go ao1 n) HG3.out (Or.inl rfl)).trans G6)
                  have HD7 := Lib.hid D6
                  have HG7 := Lib.hid G7
                  clear D6 G6 G7 f5 fr5
                  go_wp2_with fail
                  go_roundw
                  case rel =>
                    refine ⟨i + 1, by go_num, by omega, Lib.hid ⟨_, _, _, HD7.out, HN1.out, HPE.out, fun k' hk' => ?_, HG7.out⟩⟩
                    have h1 := HFEW.out k' hk'
                    have h4 := HWL.out
                    show (if k' = k then s1.hist k' ++ [zs] else s1.hist k').length + _ ≤ _
                    by_cases ek : k' = k
                    · rw [if_pos ek, List.length_append]
                      simp only [List.length_cons, List.length_nil]
                      omega
                    · rw [if_neg ek]; omega
                  case measure => simp [intOf]; omega
              · have him : i = m := by omega
                subst him
                clear hD hn1 hput hfew hG1 HP
                go_wp2_with fail
                go_ret
                have HPE : putAll s ws = (s1, 0) := by
                  rw [HPUT.out, List.drop_of_length_le (by rw [HWL.out]; exact Nat.le_refl _)]
                  rfl
                exact ⟨RFoot d gl go ao1 n, by rw [HE.out, HPE]; rfl, by rw [HE.out, HPE]; exact ⟨d, gl, go, cl, co, ao1, cp1, rfl, HD.out, by rw [HN1.out]⟩, HG1.out⟩

end Go.Proofs.Ytinlbmlgfneolaa
