/-
  Proved here: what the document's own answer says when an entry is added (Add).
  The conditions stand at each theorem.
-/
import Derived.Test.YtkpgefjbhimmgaaEntRefG
namespace Go.Proofs.Ytkpgefjbhimmgaa
open Go.RowKit
set_option linter.unusedVariables false
set_option linter.unusedSimpArgs false

/-- The rows' own cells, as they are read. -/
theorem rows_cell {base : Nat} {w : World} {og c : Nat} {bs : List (List PEnt)} (h : RowsE base w (.slice (some ⟨og, 0, none⟩) bs.length c) bs) {k : Nat} (hk : k < bs.length) : ∃ ad cc, w.cell? ⟨og, k, none⟩ = some (.slice ad (bs.getD k []).length cc) := by
  obtain ⟨xs, x1, x2, x3⟩ := h
  have hxl : xs.length = bs.length := by have := x1.1; omega
  have hy : xs[k]? = some (xs[k]'(by omega)) := List.getElem?_eq_getElem (by omega)
  have he : bs[k]? = some bs[k] := List.getElem?_eq_getElem hk
  obtain ⟨ad, cc, hs⟩ := owns_shape (x2 k _ _ hy he).1
  have := x1.cells rfl k _ hy
  rw [Go.WideShapes.add_plain, Nat.zero_add, hs] at this
  refine ⟨ad, cc, ?_⟩
  rw [this]
  simp [List.getD, he]

theorem radd_err (ao : Option Addr) (len cap : Nat) (bs : List (List PEnt)) (nd : Int) (nm : ByteArray) (w : World) (hA : BlkArg w ao len cap bs) (hx : (-9223372036854775808 ≤ nd ∧ nd ≤ 9223372036854775807) ∧ nm.size ≤ 140737488351232) (hz : checkE bs ⟨nd, nm⟩ ≠ 0) :
    Calls Try.prog 23 #[.slice ao len cap, .agg #[.int .i64 nd, .string nm]] w (AddGives w ([], 0, checkE bs ⟨nd, nm⟩)) := by
  have HB1 : Hid (Below w.heap.size w (w.alloc (.cells #[.int .i64 nd, .string nm] 40))) := Lib.hid ((Below.refl _ _).alloc (Nat.le_refl _) _)
  have cC := rCheck_any ao len cap bs nd nm _ (hA.later HB1.out) hx.2
  generalize checkE bs ⟨nd, nm⟩ = K at *
  have j1 : (K == 0) = false := by simpa using hz
  have j2 : (K != 0) = true := by simpa using hz
  clear hA hx hz
  go_enter Try.func23, Try.ntmps23
  go_wp2_with (go_at_call 33; refine cC.mono ?_; rintro e w2 ⟨rfl, hb2⟩; have HB2 := Lib.hid (HB1.out.trans (hb2.mono HB1.out.size)); clear hb2)
  go_ret3
  exact ⟨_, rfl, BlkVal.nil _, HB2.out⟩

set_option maxHeartbeats 800000 in
theorem radd_there (ao : Option Addr) (len cap : Nat) (bs : List (List PEnt)) (nd : Int) (nm : ByteArray) (w : World) (hA : BlkArg w ao len cap bs) (hx : (-9223372036854775808 ≤ nd ∧ nd ≤ 9223372036854775807) ∧ nm.size ≤ 140737488351232) (hz : checkE bs ⟨nd, nm⟩ = 0) (hf : (findRes bs nm).2.2 = 0) :
    Calls Try.prog 23 #[.slice ao len cap, .agg #[.int .i64 nd, .string nm]] w (AddGives w ([], 0, 5)) := by
  have HB1 : Hid (Below w.heap.size w (w.alloc (.cells #[.int .i64 nd, .string nm] 40))) := Lib.hid ((Below.refl _ _).alloc (Nat.le_refl _) _)
  have cC := rCheck_any ao len cap bs nd nm _ (hA.later HB1.out) hx.2
  rw [hz] at cC
  have CF : Hid (∀ W, Below w.heap.size w W → Calls Try.prog 21 #[.slice ao len cap, .string nm] W (FindDone W bs nm)) := Lib.hid (fun W hW => rFind_any ao len cap bs nm W (hA.later hW) hx.2)
  unfold FindDone at CF
  generalize findRes bs nm = F at *
  obtain ⟨f1, f2, f3⟩ := F
  dsimp only at hf CF
  subst hf
  have k0 := two_cells_new w (.int .i64 nd) (.string nm) 40 0 _ rfl
  have k1 := two_cells_new w (.int .i64 nd) (.string nm) 40 1 _ rfl
  have HA := Lib.hid hA
  have HX := Lib.hid hx
  have HL : Hid (bs.length = len) := Lib.hid hA.1.1
  have hlm : len ≤ 140737488351232 := hA.1.2.1
  have HS1 : Hid ((w.alloc (.cells #[.int .i64 nd, .string nm] 40)).heap.size = w.heap.size + 1) := Lib.hid (World.size_alloc _ _)
  clear hA hx hz
  go_enter Try.func23, Try.ntmps23
  go_wp2_with (first | (go_at_call 33; refine cC.mono ?_; rintro e w2 ⟨rfl, hb2⟩; have m0 := cell_later hb2 k0; have m1 := cell_later hb2 k1; have HS2 := Lib.hid (Nat.le_trans (Nat.le_of_eq HS1.out.symm) hb2.size); have HB2 := Lib.hid (HB1.out.trans (hb2.mono HB1.out.size)); clear hb2 k0 k1) | (go_at_call 21; refine (CF.out _ HB2.out).mono ?_; rintro e w3 ⟨rfl, hb3⟩; have p0 := cell_later hb3 m0; have p1 := cell_later hb3 m1; have HS3 := Lib.hid (Nat.le_trans HS2.out hb3.size); have HB3 := Lib.hid (HB2.out.trans (hb3.mono HB2.out.size)); clear hb3 m0 m1))
  go_ret3
  exact ⟨_, rfl, BlkVal.nil _, HB3.out⟩

set_option maxHeartbeats 1600000 in
theorem radd_full (ao : Option Addr) (len cap : Nat) (bs : List (List PEnt)) (nd : Int) (nm : ByteArray) (w : World) (hA : BlkArg w ao len cap bs) (hx : (-9223372036854775808 ≤ nd ∧ nd ≤ 9223372036854775807) ∧ nm.size ≤ 140737488351232) (hz : checkE bs ⟨nd, nm⟩ = 0) (hf : (findRes bs nm).2.2 = 4) (h3 : ∀ b ∈ bs, b.length ≤ 3) (hi : bs.findIdx? (fun b => decide (b.length < 3)) = none) (h96 : len = 96) :
    Calls Try.prog 23 #[.slice ao len cap, .agg #[.int .i64 nd, .string nm]] w (AddGives w ([], 0, 11)) := by
  have HB1 : Hid (Below w.heap.size w (w.alloc (.cells #[.int .i64 nd, .string nm] 40))) := Lib.hid ((Below.refl _ _).alloc (Nat.le_refl _) _)
  have cC := rCheck_any ao len cap bs nd nm _ (hA.later HB1.out) hx.2
  rw [hz] at cC
  have CF : Hid (∀ W, Below w.heap.size w W → Calls Try.prog 21 #[.slice ao len cap, .string nm] W (FindDone W bs nm)) := Lib.hid (fun W hW => rFind_any ao len cap bs nm W (hA.later hW) hx.2)
  unfold FindDone at CF
  generalize findRes bs nm = F at *
  obtain ⟨f1, f2, f3⟩ := F
  dsimp only at hf CF
  subst hf
  have k0 := two_cells_new w (.int .i64 nd) (.string nm) 40 0 _ rfl
  have k1 := two_cells_new w (.int .i64 nd) (.string nm) 40 1 _ rfl
  have HA := Lib.hid hA
  have HX := Lib.hid hx
  have HL : Hid (bs.length = len) := Lib.hid hA.1.1
  have hlm : len ≤ 140737488351232 := hA.1.2.1
  have H3 := Lib.hid h3
  have CY : Hid (∀ W, Below w.heap.size w W → Calls Try.prog 36 #[.slice ao len cap] W (fun e w' => ∃ v, e = .returned v ∧ RowsE W.heap.size w' v bs ∧ Below W.heap.size W w')) := Lib.hid (fun W hW => rcopy_any ao len cap bs W (HA.out.later hW) H3.out (by omega))
  have HS1 : Hid ((w.alloc (.cells #[.int .i64 nd, .string nm] 40)).heap.size = w.heap.size + 1) := Lib.hid (World.size_alloc _ _)
  have HFULL : Hid (∀ b ∈ bs, 3 ≤ b.length) := Lib.hid (fun b hb => by have := List.findIdx?_eq_none_iff.1 hi b hb; simpa using this)
  have H96 := Lib.hid h96
  clear hA hx hz h3 hi h96
  go_enter Try.func23, Try.ntmps23
  go_wp2_with (first | (go_at_call 33; refine cC.mono ?_; rintro e w2 ⟨rfl, hb2⟩; have m0 := cell_later hb2 k0; have m1 := cell_later hb2 k1; have HS2 := Lib.hid (Nat.le_trans (Nat.le_of_eq HS1.out.symm) hb2.size); have HB2 := Lib.hid (HB1.out.trans (hb2.mono HB1.out.size)); clear hb2 k0 k1) | (go_at_call 21; refine (CF.out _ HB2.out).mono ?_; rintro e w3 ⟨rfl, hb3⟩; have p0 := cell_later hb3 m0; have p1 := cell_later hb3 m1; have HS3 := Lib.hid (Nat.le_trans HS2.out hb3.size); have HB3 := Lib.hid (HB2.out.trans (hb3.mono HB2.out.size)); clear hb3 m0 m1) | (go_at_call 36; refine (CY.out _ HB3.out).mono ?_; rintro e w4 ⟨v, rfl, hv, hb4⟩; have HV := Lib.hid hv; have q0 := cell_later hb4 p0; have q1 := cell_later hb4 p1; have HS4 := Lib.hid (Nat.le_trans HS3.out hb4.size); have HS34 := Lib.hid hb4.size; have HB4 := Lib.hid (HB3.out.trans (hb4.mono HB3.out.size)); obtain ⟨va, vc, rfl⟩ := owns_shape hv.choose_spec.1; rw [HL.out]; rw [HL.out] at HV; clear hv hb4 p0 p1))
  obtain ⟨og, hva⟩ : ∃ og, va = some ⟨og, 0, none⟩ := by
    obtain ⟨xs, x1, _⟩ := HV.out
    obtain ⟨g, c', hv2, _, _⟩ := x1.form (by rw [HL.out, H96.out]; decide)
    simp only [Value.slice.injEq] at hv2
    exact ⟨g, hv2.1⟩
  subst hva
  have HROW : Hid (∀ k, k < len → ∃ ad n cc, w4.cell? ⟨og, k, none⟩ = some (.slice ad n cc) ∧ 3 ≤ n ∧ n ≤ 3) := Lib.hid (fun k hk => by
    have hv := HV.out
    rw [← HL.out] at hv
    obtain ⟨ad, cc, hc⟩ := rows_cell hv (k := k) (by rw [HL.out]; exact hk)
    have hm : bs.getD k [] ∈ bs := by
      have hkl : k < bs.length := by rw [HL.out]; exact hk
      simp [List.getD, hkl]
    exact ⟨ad, _, cc, hc, HFULL.out _ hm, H3.out _ hm⟩)
  go_loop [9] (fun iv => ∃ k : Nat, iv = .int .i64 (k : Int) ∧ k ≤ len) (fun iv => len - (intOf iv).toNat)
  case atStart => exact ⟨0, rfl, Nat.zero_le _⟩
  case round =>
    obtain ⟨k, rfl, hk⟩ := hrel
    by_cases hkl : k < len
    · obtain ⟨ad, n, cc, hc, hn1, hn2⟩ := HROW.out k hkl
      have j1 : (k : Int) < (len : Int) := by omega
      have j2 : ¬ (n : Int) < 3 := by omega
      go_wp2_with fail
      go_round
      case rel => exact ⟨k + 1, by go_num, by omega⟩
      case measure => simp [intOf]; omega
    · obtain rfl : k = len := by omega
      have j3 : ((k : Int) == 96) = true := by have := H96.out; simp; omega
      go_wp2_with fail
      go_ret3
      exact ⟨_, rfl, BlkVal.nil _, HB4.out⟩

set_option maxHeartbeats 3200000 in
theorem radd_new (ao : Option Addr) (len cap : Nat) (bs : List (List PEnt)) (nd : Int) (nm : ByteArray) (w : World) (hA : BlkArg w ao len cap bs) (hx : (-9223372036854775808 ≤ nd ∧ nd ≤ 9223372036854775807) ∧ nm.size ≤ 140737488351232) (hz : checkE bs ⟨nd, nm⟩ = 0) (hf : (findRes bs nm).2.2 = 4) (h3 : ∀ b ∈ bs, b.length ≤ 3) (hi : bs.findIdx? (fun b => decide (b.length < 3)) = none) (h96 : len < 96) :
    Calls Try.prog 23 #[.slice ao len cap, .agg #[.int .i64 nd, .string nm]] w (AddGives w (bs ++ [[⟨nd, nm⟩]], len, 0)) := by
  have HB1 : Hid (Below w.heap.size w (w.alloc (.cells #[.int .i64 nd, .string nm] 40))) := Lib.hid ((Below.refl _ _).alloc (Nat.le_refl _) _)
  have cC := rCheck_any ao len cap bs nd nm _ (hA.later HB1.out) hx.2
  rw [hz] at cC
  have CF : Hid (∀ W, Below w.heap.size w W → Calls Try.prog 21 #[.slice ao len cap, .string nm] W (FindDone W bs nm)) := Lib.hid (fun W hW => rFind_any ao len cap bs nm W (hA.later hW) hx.2)
  unfold FindDone at CF
  generalize findRes bs nm = F at *
  obtain ⟨f1, f2, f3⟩ := F
  dsimp only at hf CF
  subst hf
  have k0 := two_cells_new w (.int .i64 nd) (.string nm) 40 0 _ rfl
  have k1 := two_cells_new w (.int .i64 nd) (.string nm) 40 1 _ rfl
  have HA := Lib.hid hA
  have HX := Lib.hid hx
  have HL : Hid (bs.length = len) := Lib.hid hA.1.1
  have hlm : len ≤ 140737488351232 := hA.1.2.1
  have H3 := Lib.hid h3
  have CY : Hid (∀ W, Below w.heap.size w W → Calls Try.prog 36 #[.slice ao len cap] W (fun e w' => ∃ v, e = .returned v ∧ RowsE W.heap.size w' v bs ∧ Below W.heap.size W w')) := Lib.hid (fun W hW => rcopy_any ao len cap bs W (HA.out.later hW) H3.out (by omega))
  have HS1 : Hid ((w.alloc (.cells #[.int .i64 nd, .string nm] 40)).heap.size = w.heap.size + 1) := Lib.hid (World.size_alloc _ _)
  have HFULL : Hid (∀ b ∈ bs, 3 ≤ b.length) := Lib.hid (fun b hb => by have := List.findIdx?_eq_none_iff.1 hi b hb; simpa using this)
  clear hA hx hz h3 hi
  go_enter Try.func23, Try.ntmps23
  go_wp2_with (first | (go_at_call 33; refine cC.mono ?_; rintro e w2 ⟨rfl, hb2⟩; have m0 := cell_later hb2 k0; have m1 := cell_later hb2 k1; have HS2 := Lib.hid (Nat.le_trans (Nat.le_of_eq HS1.out.symm) hb2.size); have HB2 := Lib.hid (HB1.out.trans (hb2.mono HB1.out.size)); clear hb2 k0 k1) | (go_at_call 21; refine (CF.out _ HB2.out).mono ?_; rintro e w3 ⟨rfl, hb3⟩; have p0 := cell_later hb3 m0; have p1 := cell_later hb3 m1; have HS3 := Lib.hid (Nat.le_trans HS2.out hb3.size); have HB3 := Lib.hid (HB2.out.trans (hb3.mono HB2.out.size)); clear hb3 m0 m1) | (go_at_call 36; refine (CY.out _ HB3.out).mono ?_; rintro e w4 ⟨v, rfl, hv, hb4⟩; have HV := Lib.hid hv; have q0 := cell_later hb4 p0; have q1 := cell_later hb4 p1; have HS4 := Lib.hid (Nat.le_trans HS3.out hb4.size); have HS34 := Lib.hid hb4.size; have HB4 := Lib.hid (HB3.out.trans (hb4.mono HB3.out.size)); obtain ⟨va, vc, rfl⟩ := owns_shape hv.choose_spec.1; rw [HL.out]; rw [HL.out] at HV; clear hv hb4 p0 p1))
  obtain ⟨og, HOG⟩ : ∃ og, Hid (0 < len → va = some ⟨og, 0, none⟩) := by
    obtain ⟨xs, x1, _⟩ := HV.out
    by_cases h0 : 0 < len
    · obtain ⟨g, c', hv2, _, _⟩ := x1.form (by rw [HL.out]; exact h0)
      simp only [Value.slice.injEq] at hv2
      exact ⟨g, Lib.hid (fun _ => hv2.1)⟩
    · exact ⟨0, Lib.hid (fun h => absurd h h0)⟩
  have HROW : Hid (∀ k, k < len → ∃ ad n cc, va = some ⟨og, 0, none⟩ ∧ w4.cell? ⟨og, k, none⟩ = some (.slice ad n cc) ∧ 3 ≤ n ∧ n ≤ 3) := Lib.hid (fun k hk => by
    have hv := HV.out
    have hva := HOG.out (by omega)
    rw [← HL.out, hva] at hv
    obtain ⟨ad, cc, hc⟩ := rows_cell hv (k := k) (by rw [HL.out]; exact hk)
    have hm : bs.getD k [] ∈ bs := by
      have hkl : k < bs.length := by rw [HL.out]; exact hk
      simp [List.getD, hkl]
    exact ⟨ad, _, cc, hva, hc, HFULL.out _ hm, H3.out _ hm⟩)
  go_loop [9] (fun iv => ∃ k : Nat, iv = .int .i64 (k : Int) ∧ k ≤ len) (fun iv => len - (intOf iv).toNat)
  case atStart => exact ⟨0, rfl, Nat.zero_le _⟩
  case round =>
    obtain ⟨k, rfl, hk⟩ := hrel
    by_cases hkl : k < len
    · obtain ⟨ad, n, cc, hva, hc, hn1, hn2⟩ := HROW.out k hkl
      have j1 : (k : Int) < (len : Int) := by omega
      have j2 : ¬ (n : Int) < 3 := by omega
      subst hva
      go_wp2_with fail
      go_round
      case rel => exact ⟨k + 1, by go_num, by omega⟩
      case measure => simp [intOf]; omega
    · obtain rfl : k = len := by omega
      have j3 : ¬ (k : Int) = 96 := by omega
      have j4 : ((k : Int) == 96) = false := by simpa using j3
      obtain ⟨xs, x1, x2, x3⟩ := HV.out
      rw [HL.out] at x1
      have X1 := Lib.hid x1
      have X2 := Lib.hid x2
      have X3 := Lib.hid x3
      have HU : Hid (OwnE w4.heap.size (w4.alloc (.cells #[.int .i64 nd, .string nm] 40)) (.slice (some ⟨w4.heap.size, 0, none⟩) 1 1) [⟨nd, nm⟩]) := Lib.hid ⟨⟨rfl, .inr ⟨w4.heap.size, 1, #[.int .i64 nd, .string nm], rfl, Nat.le_refl _, heap_alloc_new w4 _, Nat.le_refl _, by unfold maxLen; omega, rfl, rfl⟩⟩, fun x hx => by rw [List.mem_singleton.1 hx]; exact HX.out⟩
      have HBA : Hid (Below w4.heap.size w4 (w4.alloc (.cells #[.int .i64 nd, .string nm] 40))) := Lib.hid ((Below.refl _ _).alloc (Nat.le_refl _) _)
      have HO2 : Hid (((w4.alloc (.cells #[.int .i64 nd, .string nm] 40)).alloc (.cells #[.slice (some ⟨w4.heap.size, 0, none⟩) 1 1] 22)).ownsRow w3.heap.size 22 1 (.slice va k vc) k xs) := Lib.hid ((x1.alloc _).alloc _)
      clear x1 x2 x3
      go_wp2_with (refine wp_append_ks elemEnts rfl (.tmp 55) (.tmp 58) rfl w3.heap.size k _ xs rfl HO2.out ⟨w4.heap.size + 1, 0, none⟩ 1 1 [.slice (some ⟨w4.heap.size, 0, none⟩) 1 1] rfl rfl (by have h := news_made (w4.alloc (.cells #[.int .i64 nd, .string nm] 40)) [.slice (some ⟨w4.heap.size, 0, none⟩) 1 1] 22; rw [World.size_alloc] at h; exact h) (by intro q hq; rw [List.mem_singleton.1 hq]; rfl) (by omega) (by have := HS34.out; simp; omega) ?_; intro v5 w5 hown5 hg5 hb5; have HO5 := Lib.hid hown5; have HG5 := Lib.hid hg5; have HB5 := Lib.hid hb5; clear hown5 hg5 hb5)
      go_ret3
      refine ⟨v5, rfl, RowsE.val (base := w3.heap.size) (RowsE.snoc (by rw [HL.out]; exact X1.out) X2.out X3.out HBA.out HS34.out HU.out (by rw [HL.out]; exact HO5.out) HG5.out) (fun b hb => ?_) (by rw [List.length_append, HL.out]; simp; omega), ?_⟩
      · rcases List.mem_append.1 hb with hb | hb
        · have := H3.out b hb; omega
        · rw [List.mem_singleton.1 hb]; simp
      · have h1 := HS3.out
        have h2 := HB4.out.size
        exact ((HB4.out.alloc h2 _).alloc (by simp; omega) _).trans (HB5.out.mono (by omega))

set_option maxHeartbeats 3200000 in
theorem radd_room (ao : Option Addr) (len cap : Nat) (bs : List (List PEnt)) (nd : Int) (nm : ByteArray) (w : World) (hA : BlkArg w ao len cap bs) (hx : (-9223372036854775808 ≤ nd ∧ nd ≤ 9223372036854775807) ∧ nm.size ≤ 140737488351232) (hz : checkE bs ⟨nd, nm⟩ = 0) (hf : (findRes bs nm).2.2 = 4) (h3 : ∀ b ∈ bs, b.length ≤ 3) (h96 : len ≤ 96) (i : Nat) (hi : bs.findIdx? (fun b => decide (b.length < 3)) = some i) :
    Calls Try.prog 23 #[.slice ao len cap, .agg #[.int .i64 nd, .string nm]] w (AddGives w (bs.set i (bs.getD i [] ++ [⟨nd, nm⟩]), i, 0)) := by
  obtain ⟨hil, hroom, hrest⟩ := List.findIdx?_eq_some_iff_getElem.1 hi
  obtain ⟨es, hes⟩ : ∃ es, bs[i]? = some es := ⟨_, List.getElem?_eq_getElem hil⟩
  have hg : bs.getD i [] = es := (getD_of hes).1
  have hes3 : es.length < 3 := by
    have := of_decide_eq_true hroom
    have h2 := List.getElem?_eq_getElem hil
    rw [hes] at h2
    simp only [Option.some.injEq] at h2
    rw [h2]; exact this
  rw [hg]
  have HES := Lib.hid hes
  have HREST : Hid (∀ j, j < i → 3 ≤ (bs.getD j []).length) := Lib.hid (fun j hj => by
    have := hrest j hj
    have hjl : j < bs.length := by omega
    simp [List.getD, hjl] at this ⊢
    omega)
  clear hg hrest hroom hes
  have HB1 : Hid (Below w.heap.size w (w.alloc (.cells #[.int .i64 nd, .string nm] 40))) := Lib.hid ((Below.refl _ _).alloc (Nat.le_refl _) _)
  have cC := rCheck_any ao len cap bs nd nm _ (hA.later HB1.out) hx.2
  rw [hz] at cC
  have CF : Hid (∀ W, Below w.heap.size w W → Calls Try.prog 21 #[.slice ao len cap, .string nm] W (FindDone W bs nm)) := Lib.hid (fun W hW => rFind_any ao len cap bs nm W (hA.later hW) hx.2)
  unfold FindDone at CF
  generalize findRes bs nm = F at *
  obtain ⟨f1, f2, f3⟩ := F
  dsimp only at hf CF
  subst hf
  have k0 := two_cells_new w (.int .i64 nd) (.string nm) 40 0 _ rfl
  have k1 := two_cells_new w (.int .i64 nd) (.string nm) 40 1 _ rfl
  have HA := Lib.hid hA
  have HX := Lib.hid hx
  have HL : Hid (bs.length = len) := Lib.hid hA.1.1
  have hlm : len ≤ 140737488351232 := hA.1.2.1
  have H3 := Lib.hid h3
  have CY : Hid (∀ W, Below w.heap.size w W → Calls Try.prog 36 #[.slice ao len cap] W (fun e w' => ∃ v, e = .returned v ∧ RowsE W.heap.size w' v bs ∧ Below W.heap.size W w')) := Lib.hid (fun W hW => rcopy_any ao len cap bs W (HA.out.later hW) H3.out (by omega))
  have HS1 : Hid ((w.alloc (.cells #[.int .i64 nd, .string nm] 40)).heap.size = w.heap.size + 1) := Lib.hid (World.size_alloc _ _)
  clear hA hx hz h3
  go_enter Try.func23, Try.ntmps23
  have il : i < len := by rw [← HL.out]; exact hil
  clear hi hil
  go_wp2_with (first | (go_at_call 33; refine cC.mono ?_; rintro e w2 ⟨rfl, hb2⟩; have m0 := cell_later hb2 k0; have m1 := cell_later hb2 k1; have HS2 := Lib.hid (Nat.le_trans (Nat.le_of_eq HS1.out.symm) hb2.size); have HB2 := Lib.hid (HB1.out.trans (hb2.mono HB1.out.size)); clear hb2 k0 k1) | (go_at_call 21; refine (CF.out _ HB2.out).mono ?_; rintro e w3 ⟨rfl, hb3⟩; have p0 := cell_later hb3 m0; have p1 := cell_later hb3 m1; have HS3 := Lib.hid (Nat.le_trans HS2.out hb3.size); have HB3 := Lib.hid (HB2.out.trans (hb3.mono HB2.out.size)); clear hb3 m0 m1) | (go_at_call 36; refine (CY.out _ HB3.out).mono ?_; rintro e w4 ⟨v, rfl, hv, hb4⟩; have HV := Lib.hid hv; have q0 := cell_later hb4 p0; have q1 := cell_later hb4 p1; have HS4 := Lib.hid (Nat.le_trans HS3.out hb4.size); have HS34 := Lib.hid hb4.size; have HB4 := Lib.hid (HB3.out.trans (hb4.mono HB3.out.size)); obtain ⟨va, vc, rfl⟩ := owns_shape hv.choose_spec.1; rw [HL.out]; rw [HL.out] at HV; clear hv hb4 p0 p1))
  obtain ⟨xs, x1, x2, x3⟩ := HV.out
  rw [HL.out] at x1
  obtain ⟨og, vc', hvs, hogb, _⟩ := x1.form (by omega)
  simp only [Value.slice.injEq] at hvs
  obtain ⟨rfl, _, rfl⟩ := hvs
  have HROW : Hid (∀ k, k < i → ∃ ad n cc, w4.cell? ⟨og, k, none⟩ = some (.slice ad n cc) ∧ 3 ≤ n ∧ n ≤ 3) := Lib.hid (fun k hk => by
    have hv := HV.out
    rw [← HL.out] at hv
    have hkl : k < bs.length := by rw [HL.out]; omega
    obtain ⟨ad, cc, hc⟩ := rows_cell hv (k := k) hkl
    have hm : bs.getD k [] ∈ bs := by simp [List.getD, hkl]
    exact ⟨ad, _, cc, hc, HREST.out _ hk, H3.out _ hm⟩)
  obtain ⟨u, hu⟩ : ∃ u, xs[i]? = some u := ⟨xs[i]'(by have := x1.1; omega), List.getElem?_eq_getElem _⟩
  have X1 := Lib.hid x1
  have X2 := Lib.hid x2
  have X3 := Lib.hid x3
  have HU := Lib.hid hu
  have HUE := Lib.hid (x2 i u es hu HES.out)
  obtain ⟨ua, uc, hud⟩ := owns_shape HUE.out.1
  have oc : w4.cell? ⟨og, i, none⟩ = some (.slice ua es.length uc) := by
    have := x1.cells rfl i u hu
    rwa [Go.WideShapes.add_plain, Nat.zero_add, hud] at this
  have hf0 : w4.frozen? ⟨og, i, none⟩ = false := x1.frozenAt i
  have HUD := Lib.hid hud
  have HNE : Hid (some og ≠ (Value.slice ua es.length uc).ownBlock) := Lib.hid (by
    have := (owns_ne_k x1 HUE.out.1 (by decide)).resolve_left (by simp [Value.ownBlock])
    rw [hud] at this
    simpa [Value.ownBlock] using this)
  have HOG := Lib.hid hogb
  have HUO : Hid (w4.ownsRow w3.heap.size 40 2 (.slice ua es.length uc) es.length (cellsE es)) := Lib.hid (by have := HUE.out.1; rwa [hud] at this)
  have HQ : Hid (Below w4.heap.size w4 (w4.alloc (.cells #[.int .i64 nd, .string nm] 40)).drew) := Lib.hid ((Below.refl _ _).alloc (Nat.le_refl _) _).drew
  have oa := cell_later HQ.out oc
  have oaf : (w4.alloc (.cells #[.int .i64 nd, .string nm] 40)).drew.frozen? ⟨og, i, none⟩ = false := by
    rw [HQ.out.frozen (p := ⟨og, i, none⟩) (World.block_lt_of_cell? _ _ oc)]; exact hf0
  have HOA := Lib.hid oa
  have HOF := Lib.hid oaf
  have HOL : Hid (og < (w4.alloc (.cells #[.int .i64 nd, .string nm] 40)).drew.heap.size) := Lib.hid (World.block_lt_of_cell? _ _ oa)
  have n0 : w4.drew.cell? ⟨w.heap.size, 0, none⟩ = some (.int .i64 nd) := q0
  have n1 : w4.drew.cell? ⟨w.heap.size, 1, none⟩ = some (.string nm) := q1
  have n2 : w4.drew.cell? ⟨og, i, none⟩ = some (.slice ua es.length uc) := oc
  clear x1 x2 x3 hu hud hf0 hogb oa oaf
  go_loop [9] (fun iv => ∃ k : Nat, iv = .int .i64 (k : Int) ∧ k ≤ i) (fun iv => i - (intOf iv).toNat)
  case atStart => exact ⟨0, rfl, Nat.zero_le _⟩
  case round =>
    obtain ⟨k, rfl, hk⟩ := hrel
    by_cases hkl : k < i
    · obtain ⟨ad, n, cc, hc, hn1, hn2⟩ := HROW.out k hkl
      have j1 : (k : Int) < (len : Int) := by omega
      have j2 : ¬ (n : Int) < 3 := by omega
      go_wp2_with fail
      go_round
      case rel => exact ⟨k + 1, by go_num, by omega⟩
      case measure => simp [intOf]; omega
    · obtain rfl : k = i := by omega
      have j0 : 0 ≤ (k : Int) := by omega
      have j1 : (k : Int) < (len : Int) := by omega
      have j2 : (es.length : Int) < 3 := by omega
      go_wp2_with fail
      go_region_law (refine step_append_ks (o := ⟨some 48, _, _, _, _, _⟩) elemEntry rfl (.tmp 45) (.tmp 47) rfl w3.heap.size es.length _ (cellsE es) rfl (owns_drew (HUO.out.alloc _)) ⟨w4.heap.size, 0, none⟩ 1 1 [.int .i64 nd, .string nm] rfl rfl (news_made w4 [.int .i64 nd, .string nm] _) (by intro q hq; simp only [List.mem_cons, List.mem_nil_iff, or_false] at hq; rcases hq with rfl | rfl <;> rfl) (by omega) (by have := HS34.out; simp; omega) ?_; intro u' w' hown hg hb; obtain ⟨ua', uc', rfl⟩ := owns_shape hown; have p1 : w'.cell? ⟨og, k, none⟩ = some (.slice ua es.length uc) := hg.cell HOA.out HNE.out; have p2 : w'.frozen? ⟨og, k, none⟩ = false := (World.frozen?_of_block (w := (w4.alloc (.cells #[.int .i64 nd, .string nm] 40)).drew) (a := ⟨og, k, none⟩) (hg.block og HOL.out HNE.out)).trans HOF.out; have HOWN := Lib.hid hown; have HG := Lib.hid hg; have HBB := Lib.hid hb; clear hown hg hb)
      all_goals
        go_wp2_with fail
        go_ret3
        refine ⟨_, rfl, rows_done (base := w3.heap.size) (og := og) (i := k) (u := u) (es := es) (by rw [HL.out]; exact X1.out) X2.out X3.out HQ.out (by rw [HUD.out]; exact HG.out) HU.out HES.out (ownE_snoc (x := ⟨nd, nm⟩) HOWN.out HUE.out.2 HX.out) rfl (fun b hb => by have := H3.out b hb; omega) (by simp; omega) (by rw [HL.out]; omega), ?_⟩
        have h1 := HS3.out
        have h2 := HOG.out
        have h3' := HB4.out.size
        exact ((HB4.out.trans (HQ.out.mono h3')).trans (HBB.out.mono (by omega))).setCell (by show w.heap.size ≤ og; omega) _

theorem radd_any (ao : Option Addr) (len cap : Nat) (bs : List (List PEnt)) (nd : Int) (nm : ByteArray) (w : World) (hA : BlkArg w ao len cap bs) (hx : (-9223372036854775808 ≤ nd ∧ nd ≤ 9223372036854775807) ∧ nm.size ≤ 140737488351232) :
    Calls Try.prog 23 #[.slice ao len cap, .agg #[.int .i64 nd, .string nm]] w (AddDone w bs ⟨nd, nm⟩) := by
  have hl : bs.length = len := hA.1.1
  by_cases hz : checkE bs ⟨nd, nm⟩ = 0
  · rcases add_ways4 hz with ⟨hf, hr⟩ | ⟨hf, h2, h3, ⟨i, hi, hr⟩ | ⟨hi, h96, hr⟩ | ⟨hi, h96, hr⟩⟩
    · have := radd_there ao len cap bs nd nm w hA hx hz hf
      unfold AddDone
      rw [hr]; exact this
    · have := radd_room ao len cap bs nd nm w hA hx hz hf h3 (by omega) i hi
      unfold AddDone
      rw [hr]; exact this
    · have := radd_full ao len cap bs nd nm w hA hx hz hf h3 hi (by omega)
      unfold AddDone
      rw [hr]; exact this
    · have := radd_new ao len cap bs nd nm w hA hx hz hf h3 hi (by omega)
      unfold AddDone
      rw [hr, hl]; exact this
  · have := radd_err ao len cap bs nd nm w hA hx hz
    have hr : addRes bs ⟨nd, nm⟩ = ([], 0, checkE bs ⟨nd, nm⟩) := by unfold addRes; rw [if_pos hz]
    unfold AddDone
    rw [hr]; exact this

end Go.Proofs.Ytkpgefjbhimmgaa
