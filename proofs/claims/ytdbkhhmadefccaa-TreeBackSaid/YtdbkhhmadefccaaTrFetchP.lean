/-
  Proved here: how the landed tree reads a page out of the block that it lies in (fetch).
  The conditions stand at each theorem.
-/
import Derived.Test.YtdbkhhmadefccaaTrFetch
namespace Go.Proofs.Ytdbkhhmadefccaa
open Go.RowKit
set_option linter.unusedVariables false
set_option linter.unusedSimpArgs false

theorem page_parts {zs pg : List Int} (h : pageOf zs = some pg) : zs.length = 64 ∧ sealedB zs = true ∧ words zs = pg ∧ pg.any nzB = true ∧ apartL pg = true := by
  unfold pageOf at h
  split at h
  · next hc =>
    cases h
    simp only [Bool.and_eq_true, decide_eq_true_eq] at hc
    exact ⟨hc.1.1, decide_eq_true hc.1, rfl, hc.2.1, hc.2.2⟩
  · cases h

theorem there_later' {w wx : World} {b o n : Nat} (hb : Below w.heap.size w wx) (h : w.there b o n) (hlt : b < w.heap.size) : wx.there b o n := fun j hj => by
  obtain ⟨h1, h2⟩ := h j hj
  obtain ⟨u, hu⟩ := Option.isSome_iff_exists.1 h1
  exact ⟨by rw [cell_later hb hu]; rfl, by rw [hb.frozen (p := ⟨b, o + j, none⟩) hlt]; exact h2⟩

/-- The variables that a closure reads. -/
theorem caps_made {w : World} {g i : Nat} {q : Int} (hc : w.cell? ⟨g, 154 + i, none⟩ = some (.int .i64 q)) (T1 T2 : TypeId) : Caps ((w.alloc (.cells #[.pointer (some ⟨g, 0, none⟩)] T1)).alloc (.cells #[.int .i64 (i : Int)] T2)) g w.heap.size (w.heap.size + 1) i q := by
  have hb : Below w.heap.size w ((w.alloc (.cells #[.pointer (some ⟨g, 0, none⟩)] T1)).alloc (.cells #[.int .i64 (i : Int)] T2)) := ((Below.refl _ _).alloc (Nat.le_refl _) _).alloc (by simp) _
  refine ⟨?_, ?_, cell_later hb hc⟩
  · exact cell_later ((Below.refl _ _).alloc (Nat.le_refl _) _) (one_cell_new w _ T1)
  · have e : (w.alloc (.cells #[.pointer (some ⟨g, 0, none⟩)] T1)).heap.size = w.heap.size + 1 := World.size_alloc _ _
    have h2 := one_cell_new (w.alloc (.cells #[.pointer (some ⟨g, 0, none⟩)] T1)) (.int .i64 (i : Int)) T2
    rw [e] at h2
    exact h2

set_option maxRecDepth 100000 in
set_option maxHeartbeats 6400000 in
theorem fetchP_any {w0 w : World} {g i : Nat} {L : List Int} {ao : Option Addr} {m cap : Nat} {ws : List (Int × List Int)} {q : Int} {zs pg : List Int} (hO : OwnV w0.heap.size w0 g (ints L) w) (hL : L.length = 159) (hW : WIs w0 ao m ws) (hi : i < 5) (hq : L.getD (154 + i) 0 = q) (h0 : q ≠ 0) (hf : findW ws q = some zs) (hp : pageOf zs = some pg) :
    Calls Try.prog 43 #[.pointer (some ⟨g, 0, none⟩), .int .i64 (i : Int), .slice ao m cap] w fun e w' => e = .returned (.bool true) ∧ OwnV w0.heap.size w0 g (ints (lay L (4 + i * 30) pg)) w' := by
  obtain ⟨k, hk1, hk2⟩ := find_index hf
  obtain ⟨p1, p2, p3, p4, _⟩ := page_parts hp
  have hmk : k < m := by
    have := (List.getElem?_eq_some_iff.1 hk1).1
    have := hW.1
    omega
  obtain ⟨b, off, a, ys, ad, l, c, rfl, hks, _, _, d2, hA⟩ := hW.at hmk
  have hys : ys = zs := by
    rw [hk1] at hks
    simp at hks
    exact hks.2.symm
  subst hys
  have hl64 : l = 64 := by rw [← hA.1.1, p1]
  subst hl64
  have hne : ints L ≠ [] := by intro h; have := congrArg List.length h; rw [ints_length, hL] at this; simp at this
  have hcq : w.cell? ⟨g, 154 + i, none⟩ = some (.int .i64 q) := hO.1 _ _ (ints_get (by rw [← hq, List.getD_eq_getElem?_getD, List.getElem?_eq_getElem (by omega)]; rfl))
  have hglt : g < w.heap.size := World.block_lt_of_cell? _ _ hcq
  have HB : Hid (∀ o p, Below w.heap.size w ((w.alloc o).alloc p)) := Lib.hid (fun o p => ((Below.refl _ _).alloc (Nat.le_refl _) _).alloc (by simp) _)
  have hc2 : ∀ o p, ((w.alloc o).alloc p).cell? ⟨g, 154 + i, none⟩ = some (.int .i64 q) := fun o p => cell_later (HB.out o p) hcq
  have i1 : (i : Int) < 5 := by omega
  have i0 : (0 : Int) ≤ (i : Int) := by omega
  have b0 : (q == 0) = false := by simpa using h0
  have HM : Hid (∃ W, W = ((w.alloc (.cells #[.pointer (some ⟨g, 0, none⟩)] 45)).alloc (.cells #[.int .i64 (i : Int)] 3))) := Lib.hid ⟨_, rfl⟩
  have HIX : Hid (∀ W, Below w0.heap.size w0 W → Caps W g w.heap.size (w.heap.size + 1) i q → Calls Try.prog 52 #[.slice (some ⟨b, off, none⟩) m cap, .func (.func 53) #[] #[.pointer (some ⟨w.heap.size, 0, none⟩), .pointer (some ⟨w.heap.size + 1, 0, none⟩)]] W fun e w' => e = .returned (.int .i64 (k : Int)) ∧ Below W.heap.size W w') := Lib.hid (fun W hB hC => indexW_any (hW.later hB) hC hi hk1 hk2)
  have HSE : Hid (∀ W, Below w0.heap.size w0 W → Calls Try.prog 54 #[.slice ad 64 c] W (Says W.heap.size W true)) := Lib.hid (fun W hB => by
    have h := fSealed_any ad 64 c ys W (hA.later hB)
    rw [p2] at h
    exact h)
  have HRD : Hid (∀ W, Below w0.heap.size w0 W → Calls Try.prog 55 #[.slice ad (64 : Nat) c] W fun e w' => e = .returned (pageV pg) ∧ Below W.heap.size W w') := Lib.hid (fun W hB => by
    have h := read_any ad c ys W (hA.later hB)
    rw [p3] at h
    exact h)
  have hl30 : pg.length = 30 := by rw [← p3]; exact words_length _
  have HUS : Hid (∀ W, Calls Try.prog 37 #[pageV pg] W fun e w' => e = .returned (.bool true) ∧ Below W.heap.size W w') := Lib.hid (fun W => by
    have h := used_any pg W hl30
    rw [p4] at h
    exact h)
  have HCQ := Lib.hid hcq
  have HBW : Hid (b < w0.heap.size) := Lib.hid (World.block_lt_of_cell? _ _ d2)
  have HGE : Hid (w0.heap.size ≤ g) := Lib.hid hO.2.2.1
  have HO := Lib.hid hO
  have HD2 := Lib.hid d2
  have HLL := Lib.hid hL
  have HL30 := Lib.hid hl30
  have k1 : (k : Int) < (m : Int) := by omega
  have k0 : ¬ ((k : Int) < 0) := by omega
  have k2 : (0 : Int) ≤ (k : Int) := by omega
  clear hO hL hW hq h0 hf hp hk1 hk2 p1 p2 p3 p4 hks d2 hA hne hcq
  unfold pageV at HRD HUS
  go_enter Try.func43, Try.ntmps43
  go_wp2_with fail
  go_quiet (fail)
  obtain ⟨W1, hW1⟩ : ∃ W1, W1 = ((w.alloc (.cells #[.pointer (some ⟨g, 0, none⟩)] 45)).alloc (.cells #[.int .i64 (i : Int)] 3)).drewN nq := ⟨_, rfl⟩
  have HB1 : Hid (Below w.heap.size w W1) := Lib.hid (by rw [hW1]; exact below_drewN (HB.out _ _) _)
  have HCP : Hid (Caps W1 g w.heap.size (w.heap.size + 1) i q) := Lib.hid (by
    rw [hW1]
    have h := caps_made HCQ.out 45 3
    exact ⟨h.c1, h.c2, h.c3⟩)
  rw [← hW1]
  clear hW1 hc2
  have HB01 : Hid (Below w0.heap.size w0 W1) := Lib.hid (HO.out.2.2.2.trans (HB1.out.mono HO.out.2.2.2.size))
  go_wp2_with (first
    | (go_at_call 52; refine (HIX.out _ HB01.out HCP.out).mono ?_; rintro e w2 ⟨rfl, hb⟩; have HB2 := Lib.hid hb; have HB02 := Lib.hid (HB01.out.trans (hb.mono HB01.out.size)); have d3 := cell_later HB02.out HD2.out; clear hb)
    | (go_at_call 54; refine (HSE.out _ HB02.out).mono ?_; rintro e w3 ⟨rfl, hb⟩; have HB3 := Lib.hid hb; have HB03 := Lib.hid (HB02.out.trans (hb.mono HB02.out.size)); clear hb))
  have HB23 := Lib.hid (HB1.out.trans ((HB2.out.trans (HB3.out.mono HB2.out.size)).mono HB1.out.size))
  have HB13 := Lib.hid (HB2.out.trans (HB3.out.mono HB2.out.size))
  have HO3 : Hid (OwnV w0.heap.size w0 g (ints L) w3) := Lib.hid (HO.out.later HB23.out (by intro h; have := congrArg List.length h; rw [ints_length, HLL.out] at this; simp at this))
  have HTH : Hid (∀ W, Below w3.heap.size w3 W → W.there g (4 + i * 30) 30) := Lib.hid (fun W hW => there_later' hW (fun j hj => ⟨by
      rw [HO3.out.1 (4 + i * 30 + j) (.int .i64 (L.getD (4 + i * 30 + j) 0)) (ints_get (by rw [List.getD_eq_getElem?_getD, List.getElem?_eq_getElem (by rw [HLL.out]; omega)]; rfl))]; rfl, HO3.out.2.1 _⟩) (Nat.lt_of_lt_of_le hglt HB23.out.size))
  have HS3 : Hid (∀ W, Below w3.heap.size w3 W → W.cell? ⟨w.heap.size, 0, none⟩ = some (.pointer (some ⟨g, 0, none⟩)) ∧ W.cell? ⟨w.heap.size + 1, 0, none⟩ = some (.int .i64 (i : Int)) ∧ W.cell? ⟨b, off + k * 2 + 1, none⟩ = some (.slice ad 64 c)) := Lib.hid (fun W hW => by
    have h := HCP.out.later (HB13.out.trans (hW.mono HB13.out.size))
    exact ⟨h.c1, h.c2, cell_later (HB03.out.trans (hW.mono HB03.out.size)) HD2.out⟩)
  have iP := iPage HL30.out
  have hN30 : (ints pg).length = 30 := by rw [ints_length, HL30.out]
  have hOne := ints_one pg
  have HK : Hid (∀ W, Below w3.heap.size w3 W → W.cell? ⟨w.heap.size, 0, none⟩ = some (.pointer (some ⟨g, 0, none⟩)) ∧ W.cell? ⟨w.heap.size + 1, 0, none⟩ = some (.int .i64 (i : Int)) ∧ W.cell? ⟨b, off + k * 2 + 1, none⟩ = some (.slice ad 64 c) ∧ W.there g (4 + i * 30) 30) := Lib.hid (fun W hW => by
    obtain ⟨s1, s2, s3⟩ := HS3.out W hW
    exact ⟨s1, s2, s3, HTH.out W hW⟩)
  have HKS : Hid (∀ W vs, Below w3.heap.size w3 W → (W.setCells g (4 + i * 30) vs).cell? ⟨w.heap.size, 0, none⟩ = some (.pointer (some ⟨g, 0, none⟩)) ∧ (W.setCells g (4 + i * 30) vs).cell? ⟨w.heap.size + 1, 0, none⟩ = some (.int .i64 (i : Int)) ∧ (W.setCells g (4 + i * 30) vs).cell? ⟨b, off + k * 2 + 1, none⟩ = some (.slice ad 64 c) ∧ (W.setCells g (4 + i * 30) vs).there g (4 + i * 30) 30) := Lib.hid (fun W vs hW => by
    obtain ⟨s1, s2, s3, s4⟩ := HK.out W hW
    have kp := Keeps.sets g vs (4 + i * 30) W
    have h1 := HBW.out
    have h2 := HGE.out
    refine ⟨?_, ?_, ?_, World.there_setCells s4 _ _ _⟩
    · rw [kp.cell (p := ⟨w.heap.size, 0, none⟩) (by show w.heap.size ≠ g; omega)]; exact s1
    · rw [kp.cell (p := ⟨w.heap.size + 1, 0, none⟩) (by show w.heap.size + 1 ≠ g; omega)]; exact s2
    · rw [kp.cell (p := ⟨b, off + k * 2 + 1, none⟩) (by show b ≠ g; omega)]; exact s3)
  go_region_held3 (fun W => W.cell? ⟨w.heap.size, 0, none⟩ = some (.pointer (some ⟨g, 0, none⟩)) ∧ W.cell? ⟨w.heap.size + 1, 0, none⟩ = some (.int .i64 (i : Int)) ∧ W.cell? ⟨b, off + k * 2 + 1, none⟩ = some (.slice ad 64 c) ∧ W.there g (4 + i * 30) 30) (first | exact HK.out _ ((Below.refl _ _).drew) | exact HK.out _ ((Below.refl _ _).drew.trans HB5.out) | exact HKS.out _ _ ((Below.refl _ _).drew.trans HB5.out)) ((go_at_call 55; refine (HRD.out _ HB03.out.drew).mono ?_; rintro e w5 ⟨rfl, hb⟩; have HB5 : Hid (Below w3.drew.heap.size w3.drew w5) := Lib.hid hb; clear hb))
  have HB35 := Lib.hid ((Below.refl w3.heap.size w3).drew.trans HB5.out)
  have HO6 : Hid (OwnV w0.heap.size w0 g (ints (lay L (4 + i * 30) pg)) (w5.setCells g (4 + i * 30) (ints pg))) := Lib.hid ((HO3.out.later HB35.out (by intro h; have := congrArg List.length h; rw [ints_length, HLL.out] at this; simp at this)).fillI pg L (4 + i * 30) w5 (by rw [HLL.out, HL30.out]; omega))
  have HS6 := Lib.hid (HKS.out w5 (ints pg) HB35.out)
  have HR6 : Hid ((w5.setCells g (4 + i * 30) (ints pg)).rangeAt g (4 + i * 30) (ints pg)) := Lib.hid (World.rangeAt_setCells_same _ _ _ _ (by rw [hN30]; exact HTH.out _ HB35.out))
  obtain ⟨W6, hW6⟩ : ∃ W6, W6 = w5.setCells g (4 + i * 30) (ints pg) := ⟨_, rfl⟩
  rw [← hW6] at HO6 HS6 HR6 ⊢
  clear hW6
  have hu := uPage
  have HK6 : Hid (∀ W, Below W6.heap.size W6 W → W.cell? ⟨w.heap.size, 0, none⟩ = some (.pointer (some ⟨g, 0, none⟩)) ∧ W.cell? ⟨w.heap.size + 1, 0, none⟩ = some (.int .i64 (i : Int)) ∧ W.rangeAt g (4 + i * 30) (ints pg)) := Lib.hid (fun W hW => ⟨cell_later hW HS6.out.1, cell_later hW HS6.out.2.1, fun j v hj => cell_later hW (HR6.out j v hj)⟩)
  go_wp2_with fail
  go_region_held3 (fun W => W.cell? ⟨w.heap.size, 0, none⟩ = some (.pointer (some ⟨g, 0, none⟩)) ∧ W.cell? ⟨w.heap.size + 1, 0, none⟩ = some (.int .i64 (i : Int)) ∧ W.rangeAt g (4 + i * 30) (ints pg)) (first | exact HK6.out _ ((Below.refl _ _).drew) | exact HK6.out _ ((Below.refl _ _).drew.trans HB7.out)) ((go_at_call 37; refine (HUS.out _).mono ?_; rintro e w7 ⟨rfl, hb⟩; have HB7 : Hid (Below W6.drew.heap.size W6.drew w7) := Lib.hid hb; clear hb))
  go_wp2_with fail
  go_ret
  exact ⟨rfl, HO6.out.later ((Below.refl _ _).drew.trans HB7.out) (by intro h; have := congrArg List.length h; rw [ints_length, lay_length, HLL.out] at this; simp at this)⟩

end Go.Proofs.Ytdbkhhmadefccaa
