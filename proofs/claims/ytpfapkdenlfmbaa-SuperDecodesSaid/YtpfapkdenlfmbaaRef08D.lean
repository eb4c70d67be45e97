/-
  Proved here: what the document's own reading of blocks of Supers and Heads (drydockref08: Decode, GetHead) answers.
  The conditions stand at each theorem.
-/
import Derived.Test.YtpfapkdenlfmbaaRef08
import Derived.Laws.ResultCell
import Derived.Deep.RegionHeld
namespace Go.Proofs.Ytpfapkdenlfmbaa
open Go.RowKit

theorem num04 {w : World} {ao : Option Addr} {len cap : Nat} {zs : List Int} {pz kz : Int} (hB : Bts w ao len zs) (hk : kz.toNat ≤ 4) (hpk : pz.toNat + kz.toNat ≤ len) (h0 : 0 ≤ pz ∧ 0 ≤ kz) :
    Calls Try.prog 26 #[.slice ao len cap, .int .i64 pz, .int .i64 kz] w fun e w' => e = .returned (.int .i64 (leN zs pz.toNat kz.toNat)) ∧ w' = w := by
  obtain ⟨p, rfl⟩ := Int.eq_ofNat_of_zero_le h0.1
  obtain ⟨k, rfl⟩ := Int.eq_ofNat_of_zero_le h0.2
  exact (Num04_any ao len cap zs p k w hB hk hpk).mono (fun e w' h => ⟨h.1, h.2.symm⟩)

/-- A byte is as it was, as a greater number. -/
theorem byte_at {zs : List Int} {n : Nat} (hz : ∀ z ∈ zs, 0 ≤ z ∧ z ≤ 255) (hl : zs.length = n) {k : Nat} (hk : k < n) : IntKind.i64.wrap (zs.getD k 0) = zs.getD k 0 ∧ i64w (zs.getD k 0) := by
  have h := hz _ (getD_mem (l := zs) (k := k) (by omega))
  exact ⟨by rw [IntKind.wrap_i64]; omega, by unfold i64w; omega⟩

theorem leN_in {zs : List Int} (hz : ∀ z ∈ zs, 0 ≤ z ∧ z ≤ 255) {p k : Nat} (h : p + k ≤ zs.length) (hk : k ≤ 4) : i64w (leN zs p k) := by
  have := leN_four hz p k h hk
  unfold i64w
  omega

/-- Two variables that were made, behind a draw. -/
theorem two_made {w w5 : World} {T : TypeId} {c0 c1 : Array Value} (hb : Below (((w.alloc (.cells c0 T)).alloc (.cells c1 T)).drew).heap.size (((w.alloc (.cells c0 T)).alloc (.cells c1 T)).drew) w5) :
    (∀ j v, c0[j]? = some v → w5.cell? ⟨w.heap.size, j, none⟩ = some v) ∧ (∀ j, w5.frozen? ⟨w.heap.size, j, none⟩ = false) ∧ (∀ j v, c1[j]? = some v → w5.cell? ⟨w.heap.size + 1, j, none⟩ = some v) ∧ Below w.heap.size w w5 := by
  have b1 : Below (w.alloc (.cells c0 T)).heap.size (w.alloc (.cells c0 T)) w5 := (((Below.refl _ _).alloc (Nat.le_refl _) _).drew).trans (hb.mono (by simp))
  refine ⟨fun j v h => cell_later b1 (by rw [World.cell?_alloc_new]; exact h), fun j => ?_, fun j v h => ?_, (((Below.refl _ _).alloc (Nat.le_refl _) _).trans (b1.mono (by simp)))⟩
  · rw [b1.frozen (p := ⟨w.heap.size, j, none⟩) (by simp), World.frozen?_alloc_mark]
    simp
  · refine cell_later hb ?_
    show ((w.alloc (.cells c0 T)).alloc (.cells c1 T)).cell? ⟨w.heap.size + 1, j, none⟩ = some v
    rw [← World.size_alloc w (.cells c0 T), World.cell?_alloc_new]
    exact h

set_option maxHeartbeats 1600000 in
theorem dec08_any (ao : Option Addr) (len cap : Nat) (zs : List Int) (w : World) (hA : Arg w ao len cap zs) : Calls Try.prog 13 #[.slice ao len cap] w fun e w' => e = .returned (.tuple #[(getSup zs).val, .int .i64 (getSupErr zs)]) ∧ Below w.heap.size w w' := by
  have hB := hA.1
  by_cases h64 : len = 64
  case neg =>
    have hI : isSup zs = false := by unfold isSup; rw [hB.1, decide_eq_false h64]; rfl
    have HE : Hid (getSupErr zs = 2 ∧ getSup zs = noSup) := Lib.hid (by unfold getSupErr getSup; rw [hI]; exact ⟨rfl, rfl⟩)
    have hne : ((len : Int) == 64) = false := by simp; omega
    have B0 : Hid (Below w.heap.size w (w.alloc (.cells #[.int .i64 0, .int .i64 0, .int .i64 0, .int .i64 0, .int .i64 0] 23))) := Lib.hid ((Below.refl _ _).alloc (Nat.le_refl _) _)
    clear hI hB hA
    go_enter Try.func13, Try.ntmps13
    go_wp2_with fail
    refine bodyPost_ret (v := .tuple #[(noSup).val, .int .i64 2]) ?_ rfl ⟨by rw [HE.out.1, HE.out.2], B0.out⟩
    rw [results_cell_tmp rfl]
    go_simp
    try rfl
  subst h64
  have HB := Lib.hid hB
  obtain ⟨g, off, rfl, hc⟩ := hB.2.2.2.resolve_left (by decide)
  have f6 := hc 6 (by decide)
  have hx6 := byte_at hB.2.2.1 hB.1 (k := 6) (by decide)
  obtain ⟨x6, HX6⟩ : ∃ x, Hid (zs.getD 6 0 = x) := ⟨_, Lib.hid rfl⟩
  rw [HX6.out] at f6 hx6
  obtain ⟨hw6, hj6⟩ := hx6
  have IX6 := Lib.hid hj6
  have HF6 := Lib.hid f6
  clear hj6
  have f7 := hc 7 (by decide)
  have hx7 := byte_at hB.2.2.1 hB.1 (k := 7) (by decide)
  obtain ⟨x7, HX7⟩ : ∃ x, Hid (zs.getD 7 0 = x) := ⟨_, Lib.hid rfl⟩
  rw [HX7.out] at f7 hx7
  obtain ⟨hw7, hj7⟩ := hx7
  have IX7 := Lib.hid hj7
  have HF7 := Lib.hid f7
  clear hj7
  have f8 := hc 8 (by decide)
  have hx8 := byte_at hB.2.2.1 hB.1 (k := 8) (by decide)
  obtain ⟨x8, HX8⟩ : ∃ x, Hid (zs.getD 8 0 = x) := ⟨_, Lib.hid rfl⟩
  rw [HX8.out] at f8 hx8
  obtain ⟨hw8, hj8⟩ := hx8
  have IX8 := Lib.hid hj8
  have HF8 := Lib.hid f8
  clear hj8
  have IN0 : Hid (i64w (leN zs 4 2)) := Lib.hid (leN_in hB.2.2.1 (by rw [hB.1]; decide) (by decide))
  have IN1 : Hid (i64w (leN zs 10 2)) := Lib.hid (leN_in hB.2.2.1 (by rw [hB.1]; decide) (by decide))
  have HS : Hid (readSup zs = (⟨leN zs 4 2, x6, x7, x8, leN zs 10 2⟩ : PSup)) := Lib.hid (by unfold readSup; rw [HX6.out, HX7.out, HX8.out])
  have HK : Hid (∀ W, Below w.heap.size w W → W.cell? ⟨g, off + 6, none⟩ = some (.int .u8 x6) ∧ W.cell? ⟨g, off + 7, none⟩ = some (.int .u8 x7) ∧ W.cell? ⟨g, off + 8, none⟩ = some (.int .u8 x8) ∧ Hid (Below w.heap.size w W)) := Lib.hid (fun W h => ⟨cell_later h HF6.out, cell_later h HF7.out, cell_later h HF8.out, Lib.hid h⟩)
  have Bn : Hid (Below w.heap.size w (w.alloc (.cells #[.int .i64 0, .int .i64 0, .int .i64 0, .int .i64 0, .int .i64 0] 23))) := Lib.hid ((Below.refl _ _).alloc (Nat.le_refl _) _)
  have B0 := Lib.hid Bn.out.drew
  have B1 : Hid (Below w.heap.size w ((w.alloc (.cells #[.int .i64 0, .int .i64 0, .int .i64 0, .int .i64 0, .int .i64 0] 23)).drew.alloc (.cells #[.int .i64 0, .int .i64 0, .int .i64 0, .int .i64 0, .int .i64 0] 23))) := Lib.hid (B0.out.alloc B0.out.size _)
  clear hB hA hc f6 f7 f8
  obtain ⟨E, O, hEO⟩ : ∃ E O, supErr (⟨leN zs 4 2, x6, x7, x8, leN zs 10 2⟩ : PSup) = E ∧ supOut (⟨leN zs 4 2, x6, x7, x8, leN zs 10 2⟩ : PSup) = O := ⟨_, _, rfl, rfl⟩
  have cE := fun (W : World) => enc08_any (⟨leN zs 4 2, x6, x7, x8, leN zs 10 2⟩ : PSup) W ⟨IN0.out, IX6.out, IX7.out, IX8.out, IN1.out⟩
  rw [hEO.1, hEO.2] at cE
  have HEO := Lib.hid hEO
  clear hEO
  have H3 : Hid ((E = 2 ∧ getSupErr zs = 2 ∧ getSup zs = noSup) ∨ (E = 0 ∧ ((str O).toList == (str zs).toList) = true ∧ getSupErr zs = 0 ∧ getSup zs = ⟨leN zs 4 2, x6, x7, x8, leN zs 10 2⟩) ∨ (E = 0 ∧ ((str O).toList == (str zs).toList) = false ∧ getSupErr zs = 2 ∧ getSup zs = noSup)) := Lib.hid (by
    obtain ⟨e1, e2⟩ := HEO.out
    have hi : isSup zs = ((⟨leN zs 4 2, x6, x7, x8, leN zs 10 2⟩ : PSup).sound && decide (supBlock ⟨leN zs 4 2, x6, x7, x8, leN zs 10 2⟩ = zs)) := by
      unfold isSup
      rw [HB.out.1, HS.out]
      rfl
    unfold getSupErr getSup
    rw [hi]
    unfold supErr supOut at *
    by_cases hs : (⟨leN zs 4 2, x6, x7, x8, leN zs 10 2⟩ : PSup).sound = true
    · rw [if_pos hs] at e1 e2
      have hv : ((str O).toList == (str zs).toList) = decide (O = zs) := str_eq (by rw [← e2]; exact sealOf_bytes (supB_bytes _)) HB.out.2.2.1
      rw [hv, hs, Bool.true_and, e2]
      by_cases ho : O = zs
      · right; left
        rw [decide_eq_true ho]
        exact ⟨e1.symm, rfl, rfl, HS.out⟩
      · right; right
        rw [decide_eq_false ho]
        exact ⟨e1.symm, rfl, rfl, rfl⟩
    · left
      rw [if_neg hs] at e1
      rw [Bool.not_eq_true] at hs
      rw [hs]
      exact ⟨e1.symm, rfl, rfl⟩)
  go_enter Try.func13, Try.ntmps13
  go_wp2_with fail
  go_region_held (fun W => W.cell? ⟨g, off + 6, none⟩ = some (.int .u8 x6) ∧ W.cell? ⟨g, off + 7, none⟩ = some (.int .u8 x7) ∧ W.cell? ⟨g, off + 8, none⟩ = some (.int .u8 x8) ∧ Hid (Below w.heap.size w W)) (first | exact HK.out _ B0.out | exact HK.out _ B1.out | exact HK.out _ ((Bn.out.alloc Bn.out.size _).drew))
    (first | (go_at_call 26; refine (num04 (zs := zs) (HB.out.later (by first | exact B0.out | exact B1.out)) (by decide) (by decide) (by decide)).mono ?_; rintro e w' ⟨rfl, rfl⟩))
  all_goals
    rcases H3.out with ⟨h1, h2, h3⟩ | ⟨h1, h4, h2, h3⟩ | ⟨h1, h4, h2, h3⟩
  all_goals
    subst h1
    have G2 := Lib.hid h2
    have G3 := Lib.hid h3
    clear h2 h3
    go_wp2_with (first | (go_at_call 8; refine (cE _).mono ?_; rintro e w5 ⟨v5, rfl, hf5, hb5⟩; obtain ⟨t0, t1, t2, t3⟩ := two_made hb5; have B5 := Lib.hid t3; have k1 := fresh_str hf5; have k2 := str_bytes (cap := cap) (HB.out.later t3); have r0 := t0 0 _ rfl; have q0 := t1 0; have s0 := t2 0 _ rfl; have r1 := t0 1 _ rfl; have q1 := t1 1; have s1 := t2 1 _ rfl; have r2 := t0 2 _ rfl; have q2 := t1 2; have s2 := t2 2 _ rfl; have r3 := t0 3 _ rfl; have q3 := t1 3; have s3 := t2 3 _ rfl; have r4 := t0 4 _ rfl; have q4 := t1 4; have s4 := t2 4 _ rfl; clear t0 t1 t2 t3 hf5 hb5))
  all_goals
    refine bodyPost_ret (v := .tuple #[(getSup zs).val, .int .i64 (getSupErr zs)]) ?_ rfl ⟨rfl, (((((B5.out.setCell (Nat.le_refl _) _).setCell (Nat.le_refl _) _).setCell (Nat.le_refl _) _).setCell (Nat.le_refl _) _).setCell (Nat.le_refl _) _)⟩
    rw [G2.out, G3.out, results_cell_tmp rfl]
    go_simp
    try rfl

set_option maxHeartbeats 1600000 in
theorem get08_any (ao : Option Addr) (len cap : Nat) (zs : List Int) (w : World) (hA : Arg w ao len cap zs) : Calls Try.prog 15 #[.slice ao len cap] w fun e w' => e = .returned (.tuple #[(getHead zs).val, .int .i64 (getHeadErr zs)]) ∧ Below w.heap.size w w' := by
  have hB := hA.1
  by_cases h64 : len = 64
  case neg =>
    have hI : isHead zs = false := by unfold isHead; rw [hB.1, decide_eq_false h64]; rfl
    have HE : Hid (getHeadErr zs = 2 ∧ getHead zs = noHead) := Lib.hid (by unfold getHeadErr getHead; rw [hI]; exact ⟨rfl, rfl⟩)
    have hne : ((len : Int) == 64) = false := by simp; omega
    have B0 : Hid (Below w.heap.size w (w.alloc (.cells #[.int .i64 0, .int .i64 0] 25))) := Lib.hid ((Below.refl _ _).alloc (Nat.le_refl _) _)
    clear hI hB hA
    go_enter Try.func15, Try.ntmps15
    go_wp2_with fail
    refine bodyPost_ret (v := .tuple #[(noHead).val, .int .i64 2]) ?_ rfl ⟨by rw [HE.out.1, HE.out.2], B0.out⟩
    rw [results_cell_tmp rfl]
    go_simp
    try rfl
  subst h64
  have HB := Lib.hid hB
  obtain ⟨g, off, rfl, hc⟩ := hB.2.2.2.resolve_left (by decide)
  have f4 := hc 4 (by decide)
  have hx4 := byte_at hB.2.2.1 hB.1 (k := 4) (by decide)
  obtain ⟨x4, HX4⟩ : ∃ x, Hid (zs.getD 4 0 = x) := ⟨_, Lib.hid rfl⟩
  rw [HX4.out] at f4 hx4
  obtain ⟨hw4, hj4⟩ := hx4
  have IX4 := Lib.hid hj4
  have HF4 := Lib.hid f4
  clear hj4
  have IN0 : Hid (i64w (leN zs 8 4)) := Lib.hid (leN_in hB.2.2.1 (by rw [hB.1]; decide) (by decide))
  have HS : Hid (readHead zs = (⟨x4, leN zs 8 4⟩ : PHead)) := Lib.hid (by unfold readHead; rw [HX4.out])
  have HK : Hid (∀ W, Below w.heap.size w W → W.cell? ⟨g, off + 4, none⟩ = some (.int .u8 x4) ∧ Hid (Below w.heap.size w W)) := Lib.hid (fun W h => ⟨cell_later h HF4.out, Lib.hid h⟩)
  have Bn : Hid (Below w.heap.size w (w.alloc (.cells #[.int .i64 0, .int .i64 0] 25))) := Lib.hid ((Below.refl _ _).alloc (Nat.le_refl _) _)
  have B0 := Lib.hid Bn.out.drew
  have B1 : Hid (Below w.heap.size w ((w.alloc (.cells #[.int .i64 0, .int .i64 0] 25)).drew.alloc (.cells #[.int .i64 0, .int .i64 0] 25))) := Lib.hid (B0.out.alloc B0.out.size _)
  clear hB hA hc f4
  obtain ⟨E, O, hEO⟩ : ∃ E O, headErr (⟨x4, leN zs 8 4⟩ : PHead) = E ∧ headOut (⟨x4, leN zs 8 4⟩ : PHead) = O := ⟨_, _, rfl, rfl⟩
  have cE := fun (W : World) => put08_any (⟨x4, leN zs 8 4⟩ : PHead) W ⟨IX4.out, IN0.out⟩
  rw [hEO.1, hEO.2] at cE
  have HEO := Lib.hid hEO
  clear hEO
  have H3 : Hid ((E = 2 ∧ getHeadErr zs = 2 ∧ getHead zs = noHead) ∨ (E = 0 ∧ ((str O).toList == (str zs).toList) = true ∧ getHeadErr zs = 0 ∧ getHead zs = ⟨x4, leN zs 8 4⟩) ∨ (E = 0 ∧ ((str O).toList == (str zs).toList) = false ∧ getHeadErr zs = 2 ∧ getHead zs = noHead)) := Lib.hid (by
    obtain ⟨e1, e2⟩ := HEO.out
    have hi : isHead zs = ((⟨x4, leN zs 8 4⟩ : PHead).sound && decide (headBlock ⟨x4, leN zs 8 4⟩ = zs)) := by
      unfold isHead
      rw [HB.out.1, HS.out]
      rfl
    unfold getHeadErr getHead
    rw [hi]
    unfold headErr headOut at *
    by_cases hs : (⟨x4, leN zs 8 4⟩ : PHead).sound = true
    · rw [if_pos hs] at e1 e2
      have hv : ((str O).toList == (str zs).toList) = decide (O = zs) := str_eq (by rw [← e2]; exact sealOf_bytes (headB_bytes _)) HB.out.2.2.1
      rw [hv, hs, Bool.true_and, e2]
      by_cases ho : O = zs
      · right; left
        rw [decide_eq_true ho]
        exact ⟨e1.symm, rfl, rfl, HS.out⟩
      · right; right
        rw [decide_eq_false ho]
        exact ⟨e1.symm, rfl, rfl, rfl⟩
    · left
      rw [if_neg hs] at e1
      rw [Bool.not_eq_true] at hs
      rw [hs]
      exact ⟨e1.symm, rfl, rfl⟩)
  go_enter Try.func15, Try.ntmps15
  go_wp2_with fail
  go_region_held (fun W => W.cell? ⟨g, off + 4, none⟩ = some (.int .u8 x4) ∧ Hid (Below w.heap.size w W)) (first | exact HK.out _ B0.out | exact HK.out _ B1.out | exact HK.out _ ((Bn.out.alloc Bn.out.size _).drew))
    (first | (go_at_call 26; refine (num04 (zs := zs) (HB.out.later (by first | exact B0.out | exact B1.out)) (by decide) (by decide) (by decide)).mono ?_; rintro e w' ⟨rfl, rfl⟩))
  all_goals
    rcases H3.out with ⟨h1, h2, h3⟩ | ⟨h1, h4, h2, h3⟩ | ⟨h1, h4, h2, h3⟩
  all_goals
    subst h1
    have G2 := Lib.hid h2
    have G3 := Lib.hid h3
    clear h2 h3
    go_wp2_with (first | (go_at_call 10; refine (cE _).mono ?_; rintro e w5 ⟨v5, rfl, hf5, hb5⟩; obtain ⟨t0, t1, t2, t3⟩ := two_made hb5; have B5 := Lib.hid t3; have k1 := fresh_str hf5; have k2 := str_bytes (cap := cap) (HB.out.later t3); have r0 := t0 0 _ rfl; have q0 := t1 0; have s0 := t2 0 _ rfl; have r1 := t0 1 _ rfl; have q1 := t1 1; have s1 := t2 1 _ rfl; clear t0 t1 t2 t3 hf5 hb5))
  all_goals
    refine bodyPost_ret (v := .tuple #[(getHead zs).val, .int .i64 (getHeadErr zs)]) ?_ rfl ⟨rfl, ((B5.out.setCell (Nat.le_refl _) _).setCell (Nat.le_refl _) _)⟩
    rw [G2.out, G3.out, results_cell_tmp rfl]
    go_simp
    try rfl

end Go.Proofs.Ytpfapkdenlfmbaa
