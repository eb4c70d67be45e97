/-
  Proved here: what the landed node's Decode answers of any bytes.
  The conditions stand at each theorem.
-/
import Derived.Test.YtojfhhmjoledjaaNRead
import Derived.Laws.ResultCell
namespace Go.Proofs.Ytojfhhmjoledjaa
open Go.RowKit
set_option linter.unusedVariables false
set_option linter.unusedSimpArgs false

theorem bytesEq9_any (ao bo : Option Addr) (al ac bl bc : Nat) (xs ys : List Int) (w : World) (hx : Bts w ao al xs) (hy : Bts w bo bl ys) :
    Calls Try.prog 10 #[.slice ao al ac, .slice bo bl bc] w fun e w' => e = .returned (.bool (decide (xs = ys))) ∧ w = w' := by
  have h1 := str_bytes (cap := ac) hx
  have h2 := str_bytes (cap := bc) hy
  have HE : Hid (((str xs).toList == (str ys).toList) = decide (xs = ys)) := Lib.hid (str_eq hx.2.2.1 hy.2.2.1)
  clear hx hy
  generalize str xs = sx at *
  generalize str ys = sy at *
  go_enter Try.func10, Try.ntmps10
  go_wp2
  go_ret
  exact ⟨by rw [← HE.out]; rfl, rfl⟩

/-- What bytes are read as: a node, if they are just its half. -/
def gotN (zs : List Int) : PNode := readN (pad64n zs)
def isNode (zs : List Int) : Bool := (gotN zs).sound && decide (node32 (gotN zs) = zs)
def decN (zs : List Int) : PNode := if isNode zs = true then gotN zs else noNode
def decErr (zs : List Int) : Int := if isNode zs = true then 0 else 2

theorem node_ways (zs : List Int) : ((gotN zs).sound = true ∧ node32 (gotN zs) = zs ∧ decN zs = gotN zs ∧ decErr zs = 0) ∨ ((gotN zs).sound = true ∧ node32 (gotN zs) ≠ zs ∧ decN zs = noNode ∧ decErr zs = 2) ∨ ((gotN zs).sound = false ∧ decN zs = noNode ∧ decErr zs = 2) := by
  unfold decN decErr isNode
  cases hs : (gotN zs).sound with
  | false => right; right; exact ⟨rfl, rfl, rfl⟩
  | true =>
    by_cases he : node32 (gotN zs) = zs
    · left; rw [decide_eq_true he]; exact ⟨rfl, he, rfl, rfl⟩
    · right; left; rw [decide_eq_false he]; exact ⟨rfl, he, rfl, rfl⟩

theorem pad64n_bytes {zs : List Int} (hz : ∀ z ∈ zs, 0 ≤ z ∧ z ≤ 255) : ∀ z ∈ pad64n zs, 0 ≤ z ∧ z ≤ 255 := by
  intro z h
  unfold pad64n at h
  rw [lay_eq _ _ _ (by show 0 + _ ≤ 64; rw [List.length_take]; omega)] at h
  simp only [List.take_zero, List.nil_append] at h
  rcases List.mem_append.1 h with h | h
  · exact hz z (List.mem_of_mem_take h)
  · have h' := List.mem_of_mem_drop h
    unfold zeros64n at h'
    rw [List.eq_of_mem_replicate h']; decide

set_option maxRecDepth 100000 in
set_option maxHeartbeats 6400000 in
theorem ndec_any (ao : Option Addr) (len cap : Nat) (zs : List Int) (w : World) (hA : Arg w ao len cap zs) :
    Calls Try.prog 4 #[.slice ao len cap] w fun e w' => ∃ xo m xc, e = .returned (.tuple #[(decN zs).val (.slice xo m xc), .int .i64 (decErr zs)]) ∧ XIs w' xo m (decN zs).x ∧ (m ≤ xc ∧ xc ≤ 9223372036854775807) ∧ Below w.heap.size w w' := by
  have HA := Lib.hid hA
  have hB1 : Below w.heap.size w (w.alloc (.cells #[.int .i64 0, .int .i64 0, .int .i64 0, .int .i64 0, .int .i64 0, .int .i64 0, .int .i64 0, .int .i64 0, .int .i64 0, .int .i64 0, .slice none 0 0, .int .i64 0] 26)) := (Below.refl _ _).alloc (Nat.le_refl _) _
  have HB1 := Lib.hid hB1
  have HTH : Hid (∀ W, Below (w.alloc (.cells #[.int .i64 0, .int .i64 0, .int .i64 0, .int .i64 0, .int .i64 0, .int .i64 0, .int .i64 0, .int .i64 0, .int .i64 0, .int .i64 0, .slice none 0 0, .int .i64 0] 26)).heap.size (w.alloc (.cells #[.int .i64 0, .int .i64 0, .int .i64 0, .int .i64 0, .int .i64 0, .int .i64 0, .int .i64 0, .int .i64 0, .int .i64 0, .int .i64 0, .slice none 0 0, .int .i64 0] 26)) W → W.there w.heap.size 0 12) := Lib.hid (fun W hW => there_later hW rfl)
  have cR := read9_any ao len cap zs (w.alloc (.cells #[.int .i64 0, .int .i64 0, .int .i64 0, .int .i64 0, .int .i64 0, .int .i64 0, .int .i64 0, .int .i64 0, .int .i64 0, .int .i64 0, .slice none 0 0, .int .i64 0] 26)) (hA.later hB1)
  have hsm : (gotN zs).small := readN_small (pad64n_bytes hA.1.2.2.1)
  have cE := fun (W : World) (xo : Option Addr) (m xc : Nat) (hX : XIs W xo m (gotN zs).x) (hc : m ≤ xc ∧ xc ≤ 9223372036854775807) => nenc_any (gotN zs) W hsm hX hc
  rw [show readN (pad64n zs) = gotN zs from rfl] at cR
  clear hA hB1 hsm
  rcases node_ways zs with ⟨hs, hb, hg, he⟩ | ⟨hs, hb, hg, he⟩ | ⟨hs, hg, he⟩
  · unfold nodeOut nodeErr at cE
    rw [hs] at cE
    rw [if_pos rfl, if_pos rfl] at cE
    generalize node32 (gotN zs) = O at *
    have HD : Hid (decide (O = zs) = true) := Lib.hid (decide_eq_true hb)
    have HG := Lib.hid hg
    have HE := Lib.hid he
    generalize decErr zs = E at *
    generalize decN zs = D at *
    clear hs hg he hb
    generalize gotN zs = G at *
    obtain ⟨k, f, l, z, d0, d1, d2, d3, s, t, x, c⟩ := G
    have HCE := Lib.hid cE
    unfold PNode.val at HCE cR
    simp only at HCE cR
    clear cE
    go_enter Try.func4, Try.ntmps4
    go_wp2_with (first
      | (go_at_call 9; refine (HCE.out _ _ _ _ X4.out C3.out).mono ?_; rintro e w5 ⟨v5, rfl, hf5, hb5⟩; obtain ⟨a5, c5, rfl, hA5⟩ := fresh_form9 hf5; have A5 := Lib.hid hA5; clear hA5; have X5 := Lib.hid (X4.out.later hb5); have T5 := Lib.hid (HTH.out w5 (B3.out.trans ((K4.out.trans (hb5.mono K4.out.size)).mono B3.out.size))); have B5 := Lib.hid (B4.out.trans (hb5.mono B4.out.size)); have u0 := cell_later hb5 r0; have u1 := cell_later hb5 r1; have u2 := cell_later hb5 r2; have u3 := cell_later hb5 r3; have u4 := cell_later hb5 r4; have u5 := cell_later hb5 r5; have u6 := cell_later hb5 r6; have u7 := cell_later hb5 r7; have u8 := cell_later hb5 r8; have u9 := cell_later hb5 r9; have u10 := cell_later hb5 r10; have u11 := cell_later hb5 r11; clear hf5 hb5 r0 r1 r2 r3 r4 r5 r6 r7 r8 r9 r10 r11)
      | (go_at_call 8; refine cR.mono ?_; rintro e w3 ⟨xo, m, xc, rfl, hx3, hc3, hn3, hb3⟩; have X3 := Lib.hid hx3; have C3 := Lib.hid hc3; have N3 := Lib.hid (fun b o s h => Nat.lt_of_lt_of_le (by simp : w.heap.size < (w.alloc (.cells #[.int .i64 0, .int .i64 0, .int .i64 0, .int .i64 0, .int .i64 0, .int .i64 0, .int .i64 0, .int .i64 0, .int .i64 0, .int .i64 0, .slice none 0 0, .int .i64 0] 26)).heap.size) (hn3 b o s h)); have B3 := Lib.hid hb3; clear hx3 hc3 hn3 hb3)
      | (go_at_call 10; refine (bytesEq9_any a5 ao _ c5 len cap O zs _ A5.out.1 (HA.out.later B5.out).1).mono ?_; rintro e w6 ⟨rfl, rfl⟩; rw [HD.out])
      | (refine wpList_store_mid rfl 26 (.tmp 4) (.tmp 8) rfl w3.heap.size 0 (List.toArray [.int .i64 k, .int .i64 f, .int .i64 l, .int .i64 z, .int .i64 d0, .int .i64 d1, .int .i64 d2, .int .i64 d3, .int .i64 s, .int .i64 t, .slice xo m xc, .int .i64 c]) rfl rfl (there_new w3 _ _ rfl) (by kernel_rfl) (all_oneCell_toArray (by intro v hv; simp only [List.mem_cons, List.mem_nil_iff, or_false] at hv; rcases hv with rfl | rfl | rfl | rfl | rfl | rfl | rfl | rfl | rfl | rfl | rfl | rfl <;> rfl)) ?_; have RG := World.rangeAt_setCells_same _ w3.heap.size 0 [.int .i64 k, .int .i64 f, .int .i64 l, .int .i64 z, .int .i64 d0, .int .i64 d1, .int .i64 d2, .int .i64 d3, .int .i64 s, .int .i64 t, .slice xo m xc, .int .i64 c] (there_new w3 #[.int .i64 0, .int .i64 0, .int .i64 0, .int .i64 0, .int .i64 0, .int .i64 0, .int .i64 0, .int .i64 0, .int .i64 0, .int .i64 0, .slice none 0 0, .int .i64 0] 26 rfl); have K4 : Hid (Below w3.heap.size w3 ((w3.alloc (.cells #[.int .i64 0, .int .i64 0, .int .i64 0, .int .i64 0, .int .i64 0, .int .i64 0, .int .i64 0, .int .i64 0, .int .i64 0, .int .i64 0, .slice none 0 0, .int .i64 0] 26)).setCells w3.heap.size 0 [.int .i64 k, .int .i64 f, .int .i64 l, .int .i64 z, .int .i64 d0, .int .i64 d1, .int .i64 d2, .int .i64 d3, .int .i64 s, .int .i64 t, .slice xo m xc, .int .i64 c])) := Lib.hid (below_setCells ((Below.refl _ _).alloc (Nat.le_refl _) _) (Nat.le_refl _) _ _); generalize (w3.alloc (.cells #[.int .i64 0, .int .i64 0, .int .i64 0, .int .i64 0, .int .i64 0, .int .i64 0, .int .i64 0, .int .i64 0, .int .i64 0, .int .i64 0, .slice none 0 0, .int .i64 0] 26)).setCells w3.heap.size 0 [.int .i64 k, .int .i64 f, .int .i64 l, .int .i64 z, .int .i64 d0, .int .i64 d1, .int .i64 d2, .int .i64 d3, .int .i64 s, .int .i64 t, .slice xo m xc, .int .i64 c] = w4 at *; have X4 := Lib.hid (X3.out.later K4.out); have B4 := Lib.hid ((HB1.out.trans (B3.out.mono HB1.out.size)).trans (K4.out.mono (HB1.out.trans (B3.out.mono HB1.out.size)).size)); have r0 := RG 0 _ rfl; have r1 := RG 1 _ rfl; have r2 := RG 2 _ rfl; have r3 := RG 3 _ rfl; have r4 := RG 4 _ rfl; have r5 := RG 5 _ rfl; have r6 := RG 6 _ rfl; have r7 := RG 7 _ rfl; have r8 := RG 8 _ rfl; have r9 := RG 9 _ rfl; have r10 := RG 10 _ rfl; have r11 := RG 11 _ rfl; clear RG)
      | (refine wpList_store_mid rfl 26 (.tmp 2) (.tmp 23) rfl w.heap.size 0 (List.toArray [.int .i64 k, .int .i64 f, .int .i64 l, .int .i64 z, .int .i64 d0, .int .i64 d1, .int .i64 d2, .int .i64 d3, .int .i64 s, .int .i64 t, .slice xo m xc, .int .i64 c]) rfl rfl T5.out (by kernel_rfl) (all_oneCell_toArray (by intro v hv; simp only [List.mem_cons, List.mem_nil_iff, or_false] at hv; rcases hv with rfl | rfl | rfl | rfl | rfl | rfl | rfl | rfl | rfl | rfl | rfl | rfl <;> rfl)) ?_; have RG := World.rangeAt_setCells_same w5 w.heap.size 0 [.int .i64 k, .int .i64 f, .int .i64 l, .int .i64 z, .int .i64 d0, .int .i64 d1, .int .i64 d2, .int .i64 d3, .int .i64 s, .int .i64 t, .slice xo m xc, .int .i64 c] T5.out; have BF := Lib.hid (below_setCells (B := w.heap.size) (g := w.heap.size) B5.out (Nat.le_refl _) [.int .i64 k, .int .i64 f, .int .i64 l, .int .i64 z, .int .i64 d0, .int .i64 d1, .int .i64 d2, .int .i64 d3, .int .i64 s, .int .i64 t, .slice xo m xc, .int .i64 c] 0); have XF := Lib.hid (XIs.setCells (g := w.heap.size) (fun b o s h => Nat.ne_of_gt (N3.out b o s h)) [.int .i64 k, .int .i64 f, .int .i64 l, .int .i64 z, .int .i64 d0, .int .i64 d1, .int .i64 d2, .int .i64 d3, .int .i64 s, .int .i64 t, .slice xo m xc, .int .i64 c] 0 _ X5.out); generalize w5.setCells w.heap.size 0 [.int .i64 k, .int .i64 f, .int .i64 l, .int .i64 z, .int .i64 d0, .int .i64 d1, .int .i64 d2, .int .i64 d3, .int .i64 s, .int .i64 t, .slice xo m xc, .int .i64 c] = W9 at *; have y0 := RG 0 _ rfl; have y1 := RG 1 _ rfl; have y2 := RG 2 _ rfl; have y3 := RG 3 _ rfl; have y4 := RG 4 _ rfl; have y5 := RG 5 _ rfl; have y6 := RG 6 _ rfl; have y7 := RG 7 _ rfl; have y8 := RG 8 _ rfl; have y9 := RG 9 _ rfl; have y10 := RG 10 _ rfl; have y11 := RG 11 _ rfl; clear RG))
    refine bodyPost_ret (v := .tuple #[PNode.val D (.slice xo m xc), .int .i64 E]) ?_ rfl ⟨xo, m, xc, rfl, by rw [HG.out]; exact XF.out, C3.out, BF.out⟩
    rw [HG.out, HE.out, results_cell_tmp rfl]
    unfold PNode.val
    go_simp
    try rfl
  · unfold nodeOut nodeErr at cE
    rw [hs] at cE
    rw [if_pos rfl, if_pos rfl] at cE
    generalize node32 (gotN zs) = O at *
    have HD : Hid (decide (O = zs) = false) := Lib.hid (decide_eq_false hb)
    have HG := Lib.hid hg
    have HE := Lib.hid he
    generalize decErr zs = E at *
    generalize decN zs = D at *
    clear hs hg he hb
    generalize gotN zs = G at *
    obtain ⟨k, f, l, z, d0, d1, d2, d3, s, t, x, c⟩ := G
    have HCE := Lib.hid cE
    unfold PNode.val at HCE cR
    simp only at HCE cR
    clear cE
    go_enter Try.func4, Try.ntmps4
    go_wp2_with (first
      | (go_at_call 9; refine (HCE.out _ _ _ _ X4.out C3.out).mono ?_; rintro e w5 ⟨v5, rfl, hf5, hb5⟩; obtain ⟨a5, c5, rfl, hA5⟩ := fresh_form9 hf5; have A5 := Lib.hid hA5; clear hA5; have X5 := Lib.hid (X4.out.later hb5); have T5 := Lib.hid (HTH.out w5 (B3.out.trans ((K4.out.trans (hb5.mono K4.out.size)).mono B3.out.size))); have B5 := Lib.hid (B4.out.trans (hb5.mono B4.out.size)); have u0 := cell_later hb5 r0; have u1 := cell_later hb5 r1; have u2 := cell_later hb5 r2; have u3 := cell_later hb5 r3; have u4 := cell_later hb5 r4; have u5 := cell_later hb5 r5; have u6 := cell_later hb5 r6; have u7 := cell_later hb5 r7; have u8 := cell_later hb5 r8; have u9 := cell_later hb5 r9; have u10 := cell_later hb5 r10; have u11 := cell_later hb5 r11; clear hf5 hb5 r0 r1 r2 r3 r4 r5 r6 r7 r8 r9 r10 r11)
      | (go_at_call 8; refine cR.mono ?_; rintro e w3 ⟨xo, m, xc, rfl, hx3, hc3, hn3, hb3⟩; have X3 := Lib.hid hx3; have C3 := Lib.hid hc3; have N3 := Lib.hid (fun b o s h => Nat.lt_of_lt_of_le (by simp : w.heap.size < (w.alloc (.cells #[.int .i64 0, .int .i64 0, .int .i64 0, .int .i64 0, .int .i64 0, .int .i64 0, .int .i64 0, .int .i64 0, .int .i64 0, .int .i64 0, .slice none 0 0, .int .i64 0] 26)).heap.size) (hn3 b o s h)); have B3 := Lib.hid hb3; clear hx3 hc3 hn3 hb3)
      | (go_at_call 10; refine (bytesEq9_any a5 ao _ c5 len cap O zs _ A5.out.1 (HA.out.later B5.out).1).mono ?_; rintro e w6 ⟨rfl, rfl⟩; rw [HD.out])
      | (refine wpList_store_mid rfl 26 (.tmp 4) (.tmp 8) rfl w3.heap.size 0 (List.toArray [.int .i64 k, .int .i64 f, .int .i64 l, .int .i64 z, .int .i64 d0, .int .i64 d1, .int .i64 d2, .int .i64 d3, .int .i64 s, .int .i64 t, .slice xo m xc, .int .i64 c]) rfl rfl (there_new w3 _ _ rfl) (by kernel_rfl) (all_oneCell_toArray (by intro v hv; simp only [List.mem_cons, List.mem_nil_iff, or_false] at hv; rcases hv with rfl | rfl | rfl | rfl | rfl | rfl | rfl | rfl | rfl | rfl | rfl | rfl <;> rfl)) ?_; have RG := World.rangeAt_setCells_same _ w3.heap.size 0 [.int .i64 k, .int .i64 f, .int .i64 l, .int .i64 z, .int .i64 d0, .int .i64 d1, .int .i64 d2, .int .i64 d3, .int .i64 s, .int .i64 t, .slice xo m xc, .int .i64 c] (there_new w3 #[.int .i64 0, .int .i64 0, .int .i64 0, .int .i64 0, .int .i64 0, .int .i64 0, .int .i64 0, .int .i64 0, .int .i64 0, .int .i64 0, .slice none 0 0, .int .i64 0] 26 rfl); have K4 : Hid (Below w3.heap.size w3 ((w3.alloc (.cells #[.int .i64 0, .int .i64 0, .int .i64 0, .int .i64 0, .int .i64 0, .int .i64 0, .int .i64 0, .int .i64 0, .int .i64 0, .int .i64 0, .slice none 0 0, .int .i64 0] 26)).setCells w3.heap.size 0 [.int .i64 k, .int .i64 f, .int .i64 l, .int .i64 z, .int .i64 d0, .int .i64 d1, .int .i64 d2, .int .i64 d3, .int .i64 s, .int .i64 t, .slice xo m xc, .int .i64 c])) := Lib.hid (below_setCells ((Below.refl _ _).alloc (Nat.le_refl _) _) (Nat.le_refl _) _ _); generalize (w3.alloc (.cells #[.int .i64 0, .int .i64 0, .int .i64 0, .int .i64 0, .int .i64 0, .int .i64 0, .int .i64 0, .int .i64 0, .int .i64 0, .int .i64 0, .slice none 0 0, .int .i64 0] 26)).setCells w3.heap.size 0 [.int .i64 k, .int .i64 f, .int .i64 l, .int .i64 z, .int .i64 d0, .int .i64 d1, .int .i64 d2, .int .i64 d3, .int .i64 s, .int .i64 t, .slice xo m xc, .int .i64 c] = w4 at *; have X4 := Lib.hid (X3.out.later K4.out); have B4 := Lib.hid ((HB1.out.trans (B3.out.mono HB1.out.size)).trans (K4.out.mono (HB1.out.trans (B3.out.mono HB1.out.size)).size)); have r0 := RG 0 _ rfl; have r1 := RG 1 _ rfl; have r2 := RG 2 _ rfl; have r3 := RG 3 _ rfl; have r4 := RG 4 _ rfl; have r5 := RG 5 _ rfl; have r6 := RG 6 _ rfl; have r7 := RG 7 _ rfl; have r8 := RG 8 _ rfl; have r9 := RG 9 _ rfl; have r10 := RG 10 _ rfl; have r11 := RG 11 _ rfl; clear RG)
      | (refine wpList_store_mid rfl 26 (.tmp 2) (.tmp 22) rfl w.heap.size 0 (List.toArray [.int .i64 0, .int .i64 0, .int .i64 0, .int .i64 0, .int .i64 0, .int .i64 0, .int .i64 0, .int .i64 0, .int .i64 0, .int .i64 0, .slice none 0 0, .int .i64 0]) rfl rfl T5.out (by kernel_rfl) (all_oneCell_toArray (by intro v hv; simp only [List.mem_cons, List.mem_nil_iff, or_false] at hv; rcases hv with rfl | rfl | rfl | rfl | rfl | rfl | rfl | rfl | rfl | rfl | rfl | rfl <;> rfl)) ?_; have RG := World.rangeAt_setCells_same w5 w.heap.size 0 [.int .i64 0, .int .i64 0, .int .i64 0, .int .i64 0, .int .i64 0, .int .i64 0, .int .i64 0, .int .i64 0, .int .i64 0, .int .i64 0, .slice none 0 0, .int .i64 0] T5.out; have BF := Lib.hid (below_setCells (B := w.heap.size) (g := w.heap.size) B5.out (Nat.le_refl _) [.int .i64 0, .int .i64 0, .int .i64 0, .int .i64 0, .int .i64 0, .int .i64 0, .int .i64 0, .int .i64 0, .int .i64 0, .int .i64 0, .slice none 0 0, .int .i64 0] 0); have XF := Lib.hid (XIs.setCells (g := w.heap.size) (fun b o s h => Nat.ne_of_gt (N3.out b o s h)) [.int .i64 0, .int .i64 0, .int .i64 0, .int .i64 0, .int .i64 0, .int .i64 0, .int .i64 0, .int .i64 0, .int .i64 0, .int .i64 0, .slice none 0 0, .int .i64 0] 0 _ X5.out); generalize w5.setCells w.heap.size 0 [.int .i64 0, .int .i64 0, .int .i64 0, .int .i64 0, .int .i64 0, .int .i64 0, .int .i64 0, .int .i64 0, .int .i64 0, .int .i64 0, .slice none 0 0, .int .i64 0] = W9 at *; have y0 := RG 0 _ rfl; have y1 := RG 1 _ rfl; have y2 := RG 2 _ rfl; have y3 := RG 3 _ rfl; have y4 := RG 4 _ rfl; have y5 := RG 5 _ rfl; have y6 := RG 6 _ rfl; have y7 := RG 7 _ rfl; have y8 := RG 8 _ rfl; have y9 := RG 9 _ rfl; have y10 := RG 10 _ rfl; have y11 := RG 11 _ rfl; clear RG))
    refine bodyPost_ret (v := .tuple #[PNode.val D (.slice none 0 0), .int .i64 E]) ?_ rfl ⟨none, 0, 0, rfl, by rw [HG.out]; exact XIs.nil _, by decide, BF.out⟩
    rw [HG.out, HE.out, results_cell_tmp rfl]
    unfold PNode.val noNode
    go_simp
    try rfl
  · unfold nodeOut nodeErr at cE
    rw [hs] at cE
    rw [if_neg (by decide), if_neg (by decide)] at cE
    have HG := Lib.hid hg
    have HE := Lib.hid he
    generalize decErr zs = E at *
    generalize decN zs = D at *
    clear hs hg he
    generalize gotN zs = G at *
    obtain ⟨k, f, l, z, d0, d1, d2, d3, s, t, x, c⟩ := G
    have HCE := Lib.hid cE
    unfold PNode.val at HCE cR
    simp only at HCE cR
    clear cE
    go_enter Try.func4, Try.ntmps4
    go_wp2_with (first
      | (go_at_call 9; refine (HCE.out _ _ _ _ X4.out C3.out).mono ?_; rintro e w5 ⟨v5, rfl, hf5, hb5⟩;  have X5 := Lib.hid (X4.out.later hb5); have T5 := Lib.hid (HTH.out w5 (B3.out.trans ((K4.out.trans (hb5.mono K4.out.size)).mono B3.out.size))); have B5 := Lib.hid (B4.out.trans (hb5.mono B4.out.size)); have u0 := cell_later hb5 r0; have u1 := cell_later hb5 r1; have u2 := cell_later hb5 r2; have u3 := cell_later hb5 r3; have u4 := cell_later hb5 r4; have u5 := cell_later hb5 r5; have u6 := cell_later hb5 r6; have u7 := cell_later hb5 r7; have u8 := cell_later hb5 r8; have u9 := cell_later hb5 r9; have u10 := cell_later hb5 r10; have u11 := cell_later hb5 r11; clear hf5 hb5 r0 r1 r2 r3 r4 r5 r6 r7 r8 r9 r10 r11)
      | (go_at_call 8; refine cR.mono ?_; rintro e w3 ⟨xo, m, xc, rfl, hx3, hc3, hn3, hb3⟩; have X3 := Lib.hid hx3; have C3 := Lib.hid hc3; have N3 := Lib.hid (fun b o s h => Nat.lt_of_lt_of_le (by simp : w.heap.size < (w.alloc (.cells #[.int .i64 0, .int .i64 0, .int .i64 0, .int .i64 0, .int .i64 0, .int .i64 0, .int .i64 0, .int .i64 0, .int .i64 0, .int .i64 0, .slice none 0 0, .int .i64 0] 26)).heap.size) (hn3 b o s h)); have B3 := Lib.hid hb3; clear hx3 hc3 hn3 hb3)
      | (refine wpList_store_mid rfl 26 (.tmp 4) (.tmp 8) rfl w3.heap.size 0 (List.toArray [.int .i64 k, .int .i64 f, .int .i64 l, .int .i64 z, .int .i64 d0, .int .i64 d1, .int .i64 d2, .int .i64 d3, .int .i64 s, .int .i64 t, .slice xo m xc, .int .i64 c]) rfl rfl (there_new w3 _ _ rfl) (by kernel_rfl) (all_oneCell_toArray (by intro v hv; simp only [List.mem_cons, List.mem_nil_iff, or_false] at hv; rcases hv with rfl | rfl | rfl | rfl | rfl | rfl | rfl | rfl | rfl | rfl | rfl | rfl <;> rfl)) ?_; have RG := World.rangeAt_setCells_same _ w3.heap.size 0 [.int .i64 k, .int .i64 f, .int .i64 l, .int .i64 z, .int .i64 d0, .int .i64 d1, .int .i64 d2, .int .i64 d3, .int .i64 s, .int .i64 t, .slice xo m xc, .int .i64 c] (there_new w3 #[.int .i64 0, .int .i64 0, .int .i64 0, .int .i64 0, .int .i64 0, .int .i64 0, .int .i64 0, .int .i64 0, .int .i64 0, .int .i64 0, .slice none 0 0, .int .i64 0] 26 rfl); have K4 : Hid (Below w3.heap.size w3 ((w3.alloc (.cells #[.int .i64 0, .int .i64 0, .int .i64 0, .int .i64 0, .int .i64 0, .int .i64 0, .int .i64 0, .int .i64 0, .int .i64 0, .int .i64 0, .slice none 0 0, .int .i64 0] 26)).setCells w3.heap.size 0 [.int .i64 k, .int .i64 f, .int .i64 l, .int .i64 z, .int .i64 d0, .int .i64 d1, .int .i64 d2, .int .i64 d3, .int .i64 s, .int .i64 t, .slice xo m xc, .int .i64 c])) := Lib.hid (below_setCells ((Below.refl _ _).alloc (Nat.le_refl _) _) (Nat.le_refl _) _ _); generalize (w3.alloc (.cells #[.int .i64 0, .int .i64 0, .int .i64 0, .int .i64 0, .int .i64 0, .int .i64 0, .int .i64 0, .int .i64 0, .int .i64 0, .int .i64 0, .slice none 0 0, .int .i64 0] 26)).setCells w3.heap.size 0 [.int .i64 k, .int .i64 f, .int .i64 l, .int .i64 z, .int .i64 d0, .int .i64 d1, .int .i64 d2, .int .i64 d3, .int .i64 s, .int .i64 t, .slice xo m xc, .int .i64 c] = w4 at *; have X4 := Lib.hid (X3.out.later K4.out); have B4 := Lib.hid ((HB1.out.trans (B3.out.mono HB1.out.size)).trans (K4.out.mono (HB1.out.trans (B3.out.mono HB1.out.size)).size)); have r0 := RG 0 _ rfl; have r1 := RG 1 _ rfl; have r2 := RG 2 _ rfl; have r3 := RG 3 _ rfl; have r4 := RG 4 _ rfl; have r5 := RG 5 _ rfl; have r6 := RG 6 _ rfl; have r7 := RG 7 _ rfl; have r8 := RG 8 _ rfl; have r9 := RG 9 _ rfl; have r10 := RG 10 _ rfl; have r11 := RG 11 _ rfl; clear RG)
      | (refine wpList_store_mid rfl 26 (.tmp 2) (.tmp 22) rfl w.heap.size 0 (List.toArray [.int .i64 0, .int .i64 0, .int .i64 0, .int .i64 0, .int .i64 0, .int .i64 0, .int .i64 0, .int .i64 0, .int .i64 0, .int .i64 0, .slice none 0 0, .int .i64 0]) rfl rfl T5.out (by kernel_rfl) (all_oneCell_toArray (by intro v hv; simp only [List.mem_cons, List.mem_nil_iff, or_false] at hv; rcases hv with rfl | rfl | rfl | rfl | rfl | rfl | rfl | rfl | rfl | rfl | rfl | rfl <;> rfl)) ?_; have RG := World.rangeAt_setCells_same w5 w.heap.size 0 [.int .i64 0, .int .i64 0, .int .i64 0, .int .i64 0, .int .i64 0, .int .i64 0, .int .i64 0, .int .i64 0, .int .i64 0, .int .i64 0, .slice none 0 0, .int .i64 0] T5.out; have BF := Lib.hid (below_setCells (B := w.heap.size) (g := w.heap.size) B5.out (Nat.le_refl _) [.int .i64 0, .int .i64 0, .int .i64 0, .int .i64 0, .int .i64 0, .int .i64 0, .int .i64 0, .int .i64 0, .int .i64 0, .int .i64 0, .slice none 0 0, .int .i64 0] 0); have XF := Lib.hid (XIs.setCells (g := w.heap.size) (fun b o s h => Nat.ne_of_gt (N3.out b o s h)) [.int .i64 0, .int .i64 0, .int .i64 0, .int .i64 0, .int .i64 0, .int .i64 0, .int .i64 0, .int .i64 0, .int .i64 0, .int .i64 0, .slice none 0 0, .int .i64 0] 0 _ X5.out); generalize w5.setCells w.heap.size 0 [.int .i64 0, .int .i64 0, .int .i64 0, .int .i64 0, .int .i64 0, .int .i64 0, .int .i64 0, .int .i64 0, .int .i64 0, .int .i64 0, .slice none 0 0, .int .i64 0] = W9 at *; have y0 := RG 0 _ rfl; have y1 := RG 1 _ rfl; have y2 := RG 2 _ rfl; have y3 := RG 3 _ rfl; have y4 := RG 4 _ rfl; have y5 := RG 5 _ rfl; have y6 := RG 6 _ rfl; have y7 := RG 7 _ rfl; have y8 := RG 8 _ rfl; have y9 := RG 9 _ rfl; have y10 := RG 10 _ rfl; have y11 := RG 11 _ rfl; clear RG))
    refine bodyPost_ret (v := .tuple #[PNode.val D (.slice none 0 0), .int .i64 E]) ?_ rfl ⟨none, 0, 0, rfl, by rw [HG.out]; exact XIs.nil _, by decide, BF.out⟩
    rw [HG.out, HE.out, results_cell_tmp rfl]
    unfold PNode.val noNode
    go_simp
    try rfl

end Go.Proofs.Ytojfhhmjoledjaa
