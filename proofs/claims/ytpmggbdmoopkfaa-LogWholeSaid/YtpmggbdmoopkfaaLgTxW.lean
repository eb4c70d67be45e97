/-
  Proved here: what the landed log's transaction answers.
  The conditions stand at each theorem.
-/
import Derived.Test.YtpmggbdmoopkfaaLgTx
namespace Go.Proofs.Ytpmggbdmoopkfaa
open Go.RowKit
set_option linter.unusedVariables false
set_option linter.unusedSimpArgs false

set_option maxRecDepth 100000 in
set_option maxHeartbeats 3200000 in
theorem txNone_any {w : World} {B b off cap : Nat} {Z : List (List Int)} (a : Nat) (q : Int) (ha : a < 40) (hq : I64 q) (hL : LogAt w B b off cap Z) (hT : q = 1073741824 ∨ txAt Z a q = none) :
    Calls Try.prog 37 #[.func (.func 36) #[] #[.pointer (some ⟨B, 0, none⟩)], .agg #[.int .i64 (a : Int), .int .i64 q]] w (NoTx w) := by
  obtain ⟨W0, hW0⟩ : ∃ W0, w.alloc (.cells #[.int .i64 (a : Int), .int .i64 q] 40) = W0 := ⟨_, rfl⟩
  have B0 : Hid (Below w.heap.size w W0) := Lib.hid (by rw [← hW0]; exact (Below.refl _ _).alloc (Nat.le_refl _) _)
  have n0 : W0.cell? ⟨w.heap.size, 0, none⟩ = some (.int .i64 (a : Int)) := by rw [← hW0, World.cell?_alloc_new]; rfl
  have n1 : W0.cell? ⟨w.heap.size, 1, none⟩ = some (.int .i64 q) := by rw [← hW0, World.cell?_alloc_new]; rfl
  have HL0 := Lib.hid (hL.later B0.out)
  have HAL := Lib.hid ha
  have i1 : (a : Int) < 40 := by omega
  obtain ⟨X, hX⟩ : ∃ X, Z.getD a [] = X := ⟨_, rfl⟩
  have cX : Hid (∀ ad c, Arg W0 (some ad) 64 c (Z.getD (a % 40) []) → Arg W0 (some ad) 64 c X) := Lib.hid (fun ad c h => by rw [Nat.mod_eq_of_lt ha, hX] at h; exact h)
  obtain ⟨D, hD⟩ : ∃ D, getBeg X = D := ⟨_, rfl⟩
  obtain ⟨E, hE⟩ : ∃ E, getBegErr X = E := ⟨_, rfl⟩
  have cB : Hid (∀ ad c, Arg W0 (some ad) 64 c X → Calls Try.prog 11 #[.slice (some ad) (64 : Nat) c] W0 (HandedD W0.heap.size W0 D E)) := Lib.hid (fun ad c h => by have c := lBegins_any (some ad) 64 c X W0 h; rw [hD, hE] at c; exact c)
  have hw : E = 2 ∨ (E = 0 ∧ D.seq ≠ q) ∨ (E = 0 ∧ D.seq = q ∧ q = 1073741824) ∨ (E = 0 ∧ D.seq = q ∧ q ≠ 1073741824 ∧ txAt Z a q = none) := by
    rcases err_two X with h | h
    · rw [hE] at h
      by_cases h2 : D.seq = q
      · by_cases h3 : q = 1073741824
        · exact Or.inr (Or.inr (Or.inl ⟨h, h2, h3⟩))
        · exact Or.inr (Or.inr (Or.inr ⟨h, h2, h3, hT.resolve_left h3⟩))
      · exact Or.inr (Or.inl ⟨h, h2⟩)
    · exact Or.inl (by rw [← hE]; exact h)
  have hww := fun h : txAt Z a q = none => tx_none_ways h
  rw [hX, hD, hE] at hww
  have h20 : E = 0 → 1 ≤ D.to.length ∧ D.to.length ≤ 20 := fun h => by rw [← hE] at h; rw [← hD]; exact (beg_is h).2.2
  clear hD hE
  obtain ⟨s, to⟩ := D
  simp only at hw hww h20
  clear hL hT ha
  rcases hw with h | ⟨h, h2⟩ | ⟨h, h2, h3⟩ | ⟨h, h2, h3, h4⟩
  · subst h
    clear hww h20
    go_enter Try.func37, Try.ntmps37
    go_wp2_with (first
      | (go_at_call 11; refine (cB.out _ _ (cX.out _ _ HA1.out)).mono ?_; rintro e w2 ⟨v2, rfl, ⟨a2, c2, rfl, hI2, _⟩, hb2⟩; obtain ⟨W2, hW2⟩ : ∃ W2, w2.alloc (.cells #[.int .i64 s, .slice a2 to.length c2] 24) = W2 := ⟨_, rfl⟩; have b2 : Below W0.heap.size W0 W2 := (by rw [← hW2]; exact hb2.alloc hb2.size _); have B2 := Lib.hid b2; have m0 := cell_later b2 n0; have m1 := cell_later b2 n1; have d0 : W2.cell? ⟨w2.heap.size, 0, none⟩ = some (.int .i64 s) := (by rw [← hW2, World.cell?_alloc_new]; rfl); have d1 : W2.cell? ⟨w2.heap.size, 1, none⟩ = some (.slice a2 to.length c2) := (by rw [← hW2, World.cell?_alloc_new]; rfl); have HI2 : Hid (IArg W2 a2 to.length c2 to) := Lib.hid (by rw [← hW2]; exact hI2.later ((Below.refl _ _).alloc (Nat.le_refl _) _)); have HL2 := Lib.hid (HL0.out.later b2); clear hI2 hb2 b2)
      | (go_at_call 36; refine (HL0.out.lies a (by have := HAL.out; omega) rfl).mono ?_; rintro e w1 ⟨⟨ad1, c1, rfl, hA1⟩, rfl⟩; have HA1 := Lib.hid hA1; clear hA1))
    go_ret2
    exact ⟨rfl, B0.out.trans (B2.out.mono B0.out.size)⟩
  · subst h
    clear hww h20
    have hne : (s != q) = true := by simpa using h2
    clear h2
    go_enter Try.func37, Try.ntmps37
    go_wp2_with (first
      | (go_at_call 11; refine (cB.out _ _ (cX.out _ _ HA1.out)).mono ?_; rintro e w2 ⟨v2, rfl, ⟨a2, c2, rfl, hI2, _⟩, hb2⟩; obtain ⟨W2, hW2⟩ : ∃ W2, w2.alloc (.cells #[.int .i64 s, .slice a2 to.length c2] 24) = W2 := ⟨_, rfl⟩; have b2 : Below W0.heap.size W0 W2 := (by rw [← hW2]; exact hb2.alloc hb2.size _); have B2 := Lib.hid b2; have m0 := cell_later b2 n0; have m1 := cell_later b2 n1; have d0 : W2.cell? ⟨w2.heap.size, 0, none⟩ = some (.int .i64 s) := (by rw [← hW2, World.cell?_alloc_new]; rfl); have d1 : W2.cell? ⟨w2.heap.size, 1, none⟩ = some (.slice a2 to.length c2) := (by rw [← hW2, World.cell?_alloc_new]; rfl); have HI2 : Hid (IArg W2 a2 to.length c2 to) := Lib.hid (by rw [← hW2]; exact hI2.later ((Below.refl _ _).alloc (Nat.le_refl _) _)); have HL2 := Lib.hid (HL0.out.later b2); clear hI2 hb2 b2)
      | (go_at_call 36; refine (HL0.out.lies a (by have := HAL.out; omega) rfl).mono ?_; rintro e w1 ⟨⟨ad1, c1, rfl, hA1⟩, rfl⟩; have HA1 := Lib.hid hA1; clear hA1))
    go_ret2
    exact ⟨rfl, B0.out.trans (B2.out.mono B0.out.size)⟩
  · subst h
    subst h2
    subst h3
    clear hww h20
    go_enter Try.func37, Try.ntmps37
    go_wp2_with (first
      | (go_at_call 11; refine (cB.out _ _ (cX.out _ _ HA1.out)).mono ?_; rintro e w2 ⟨v2, rfl, ⟨a2, c2, rfl, hI2, _⟩, hb2⟩; obtain ⟨W2, hW2⟩ : ∃ W2, w2.alloc (.cells #[.int .i64 1073741824, .slice a2 to.length c2] 24) = W2 := ⟨_, rfl⟩; have b2 : Below W0.heap.size W0 W2 := (by rw [← hW2]; exact hb2.alloc hb2.size _); have B2 := Lib.hid b2; have m0 := cell_later b2 n0; have m1 := cell_later b2 n1; have d0 : W2.cell? ⟨w2.heap.size, 0, none⟩ = some (.int .i64 1073741824) := (by rw [← hW2, World.cell?_alloc_new]; rfl); have d1 : W2.cell? ⟨w2.heap.size, 1, none⟩ = some (.slice a2 to.length c2) := (by rw [← hW2, World.cell?_alloc_new]; rfl); have HI2 : Hid (IArg W2 a2 to.length c2 to) := Lib.hid (by rw [← hW2]; exact hI2.later ((Below.refl _ _).alloc (Nat.le_refl _) _)); have HL2 := Lib.hid (HL0.out.later b2); clear hI2 hb2 b2)
      | (go_at_call 36; refine (HL0.out.lies a (by have := HAL.out; omega) rfl).mono ?_; rintro e w1 ⟨⟨ad1, c1, rfl, hA1⟩, rfl⟩; have HA1 := Lib.hid hA1; clear hA1))
    go_ret2
    exact ⟨rfl, B0.out.trans (B2.out.mono B0.out.size)⟩
  · subst h
    subst h2
    have HM20 := Lib.hid (h20 rfl)
    have hne1 : (s == 1073741824) = false := by simpa using h3
    have hne0 : (s != s) = false := by simp
    replace hww := hww h4
    clear h4 h3 h20
    replace hww := ((hww.resolve_left (by decide)).resolve_left (fun h => h.2 rfl)).2.2
    obtain ⟨Y, hY⟩ : ∃ Y, Z.getD ((a + (to.length + 1)) % 40) [] = Y := ⟨_, rfl⟩
    have cY : Hid (∀ W ad c, Arg W (some ad) 64 c (Z.getD ((a + 1 + to.length) % 40) []) → Arg W (some ad) 64 c Y) := Lib.hid (fun W ad c h => by rw [show a + 1 + to.length = a + (to.length + 1) by omega, hY] at h; exact h)
    rw [hY] at hww
    clear hY
    have HK2 : Hid ((a : Int) + 1 + (to.length : Int) = ((a + 1 + to.length : Nat) : Int)) := Lib.hid (by omega)
    have i20 : (to.length : Int) ≤ 20 := by have := HM20.out; omega
    have i00 : (0 : Int) ≤ (to.length : Int) := by omega
    obtain ⟨s2, hy1⟩ : ∃ s2, getEndSeq Y = s2 := ⟨_, rfl⟩
    obtain ⟨n2, hy2⟩ : ∃ n2, getEndCount Y = n2 := ⟨_, rfl⟩
    obtain ⟨e2, hy3⟩ : ∃ e2, getEndErr Y = e2 := ⟨_, rfl⟩
    rw [hy1, hy2, hy3] at hww
    rcases hww with h | ⟨h, h2⟩ | ⟨h, h2, h3⟩
    · subst h
      go_enter Try.func37, Try.ntmps37
      go_wp2_with (first
        | (go_at_call 17; refine (lEnds_any (some ad3) 64 c3 Y W2 (cY.out _ _ _ HA3.out)).mono ?_; rw [hy1, hy2, hy3]; rintro e w4 ⟨rfl, hb4⟩; have B4 := Lib.hid (B2.out.trans (hb4.mono B2.out.size)); have p0 := cell_later hb4 m0; have p1 := cell_later hb4 m1; have r0 := cell_later hb4 d0; have r1 := cell_later hb4 d1; have HI4 := Lib.hid (HI2.out.later hb4); have HL4 := Lib.hid (HL2.out.later hb4); clear hb4)
        | (go_at_call 36; refine (HL2.out.lies (a + 1 + to.length) (by have := HAL.out; have := HM20.out; omega) HK2.out).mono ?_; rintro e w3 ⟨⟨ad3, c3, rfl, hA3⟩, rfl⟩; have HA3 := Lib.hid hA3; clear hA3)
        | (go_at_call 11; refine (cB.out _ _ (cX.out _ _ HA1.out)).mono ?_; rintro e w2 ⟨v2, rfl, ⟨a2, c2, rfl, hI2, _⟩, hb2⟩; obtain ⟨W2, hW2⟩ : ∃ W2, w2.alloc (.cells #[.int .i64 s, .slice a2 to.length c2] 24) = W2 := ⟨_, rfl⟩; have b2 : Below W0.heap.size W0 W2 := (by rw [← hW2]; exact hb2.alloc hb2.size _); have B2 := Lib.hid b2; have m0 := cell_later b2 n0; have m1 := cell_later b2 n1; have d0 : W2.cell? ⟨w2.heap.size, 0, none⟩ = some (.int .i64 s) := (by rw [← hW2, World.cell?_alloc_new]; rfl); have d1 : W2.cell? ⟨w2.heap.size, 1, none⟩ = some (.slice a2 to.length c2) := (by rw [← hW2, World.cell?_alloc_new]; rfl); have HI2 : Hid (IArg W2 a2 to.length c2 to) := Lib.hid (by rw [← hW2]; exact hI2.later ((Below.refl _ _).alloc (Nat.le_refl _) _)); have HL2 := Lib.hid (HL0.out.later b2); clear hI2 hb2 b2)
        | (go_at_call 36; refine (HL0.out.lies a (by have := HAL.out; omega) rfl).mono ?_; rintro e w1 ⟨⟨ad1, c1, rfl, hA1⟩, rfl⟩; have HA1 := Lib.hid hA1; clear hA1))
      go_ret2
      exact ⟨rfl, B0.out.trans (B4.out.mono B0.out.size)⟩
    · subst h
      have hne2 : (s2 != s) = true := by simpa using h2
      clear h2
      go_enter Try.func37, Try.ntmps37
      go_wp2_with (first
        | (go_at_call 17; refine (lEnds_any (some ad3) 64 c3 Y W2 (cY.out _ _ _ HA3.out)).mono ?_; rw [hy1, hy2, hy3]; rintro e w4 ⟨rfl, hb4⟩; have B4 := Lib.hid (B2.out.trans (hb4.mono B2.out.size)); have p0 := cell_later hb4 m0; have p1 := cell_later hb4 m1; have r0 := cell_later hb4 d0; have r1 := cell_later hb4 d1; have HI4 := Lib.hid (HI2.out.later hb4); have HL4 := Lib.hid (HL2.out.later hb4); clear hb4)
        | (go_at_call 36; refine (HL2.out.lies (a + 1 + to.length) (by have := HAL.out; have := HM20.out; omega) HK2.out).mono ?_; rintro e w3 ⟨⟨ad3, c3, rfl, hA3⟩, rfl⟩; have HA3 := Lib.hid hA3; clear hA3)
        | (go_at_call 11; refine (cB.out _ _ (cX.out _ _ HA1.out)).mono ?_; rintro e w2 ⟨v2, rfl, ⟨a2, c2, rfl, hI2, _⟩, hb2⟩; obtain ⟨W2, hW2⟩ : ∃ W2, w2.alloc (.cells #[.int .i64 s, .slice a2 to.length c2] 24) = W2 := ⟨_, rfl⟩; have b2 : Below W0.heap.size W0 W2 := (by rw [← hW2]; exact hb2.alloc hb2.size _); have B2 := Lib.hid b2; have m0 := cell_later b2 n0; have m1 := cell_later b2 n1; have d0 : W2.cell? ⟨w2.heap.size, 0, none⟩ = some (.int .i64 s) := (by rw [← hW2, World.cell?_alloc_new]; rfl); have d1 : W2.cell? ⟨w2.heap.size, 1, none⟩ = some (.slice a2 to.length c2) := (by rw [← hW2, World.cell?_alloc_new]; rfl); have HI2 : Hid (IArg W2 a2 to.length c2 to) := Lib.hid (by rw [← hW2]; exact hI2.later ((Below.refl _ _).alloc (Nat.le_refl _) _)); have HL2 := Lib.hid (HL0.out.later b2); clear hI2 hb2 b2)
        | (go_at_call 36; refine (HL0.out.lies a (by have := HAL.out; omega) rfl).mono ?_; rintro e w1 ⟨⟨ad1, c1, rfl, hA1⟩, rfl⟩; have HA1 := Lib.hid hA1; clear hA1))
      go_ret2
      exact ⟨rfl, B0.out.trans (B4.out.mono B0.out.size)⟩
    · subst h
      obtain rfl : s = s2 := h2.symm
      have hne2 : (n2 != (to.length : Int)) = true := by simpa using h3
      clear h3
      go_enter Try.func37, Try.ntmps37
      go_wp2_with (first
        | (go_at_call 17; refine (lEnds_any (some ad3) 64 c3 Y W2 (cY.out _ _ _ HA3.out)).mono ?_; rw [hy1, hy2, hy3]; rintro e w4 ⟨rfl, hb4⟩; have B4 := Lib.hid (B2.out.trans (hb4.mono B2.out.size)); have p0 := cell_later hb4 m0; have p1 := cell_later hb4 m1; have r0 := cell_later hb4 d0; have r1 := cell_later hb4 d1; have HI4 := Lib.hid (HI2.out.later hb4); have HL4 := Lib.hid (HL2.out.later hb4); clear hb4)
        | (go_at_call 36; refine (HL2.out.lies (a + 1 + to.length) (by have := HAL.out; have := HM20.out; omega) HK2.out).mono ?_; rintro e w3 ⟨⟨ad3, c3, rfl, hA3⟩, rfl⟩; have HA3 := Lib.hid hA3; clear hA3)
        | (go_at_call 11; refine (cB.out _ _ (cX.out _ _ HA1.out)).mono ?_; rintro e w2 ⟨v2, rfl, ⟨a2, c2, rfl, hI2, _⟩, hb2⟩; obtain ⟨W2, hW2⟩ : ∃ W2, w2.alloc (.cells #[.int .i64 s, .slice a2 to.length c2] 24) = W2 := ⟨_, rfl⟩; have b2 : Below W0.heap.size W0 W2 := (by rw [← hW2]; exact hb2.alloc hb2.size _); have B2 := Lib.hid b2; have m0 := cell_later b2 n0; have m1 := cell_later b2 n1; have d0 : W2.cell? ⟨w2.heap.size, 0, none⟩ = some (.int .i64 s) := (by rw [← hW2, World.cell?_alloc_new]; rfl); have d1 : W2.cell? ⟨w2.heap.size, 1, none⟩ = some (.slice a2 to.length c2) := (by rw [← hW2, World.cell?_alloc_new]; rfl); have HI2 : Hid (IArg W2 a2 to.length c2 to) := Lib.hid (by rw [← hW2]; exact hI2.later ((Below.refl _ _).alloc (Nat.le_refl _) _)); have HL2 := Lib.hid (HL0.out.later b2); clear hI2 hb2 b2)
        | (go_at_call 36; refine (HL0.out.lies a (by have := HAL.out; omega) rfl).mono ?_; rintro e w1 ⟨⟨ad1, c1, rfl, hA1⟩, rfl⟩; have HA1 := Lib.hid hA1; clear hA1))
      go_ret2
      exact ⟨rfl, B0.out.trans (B4.out.mono B0.out.size)⟩

def OneTx (w : World) (l : List (Int × List Int)) (e : Ending) (w' : World) : Prop :=
  ∃ g c, e = .returned (.tuple #[.slice (some ⟨g, 0, none⟩) l.length c, .bool true]) ∧ WIn (fun k => w.heap.size ≤ k ∧ k < w'.heap.size) w' (some ⟨g, 0, none⟩) l.length l ∧ Below w.heap.size w w'

set_option maxRecDepth 100000 in
set_option maxHeartbeats 3200000 in
theorem txSome_any {w : World} {B b off cap : Nat} {Z : List (List Int)} (a : Nat) (q : Int) (ha : a < 40) (hq : I64 q) (hq2 : q ≠ 1073741824) (hL : LogAt w B b off cap Z) (l : List (Int × List Int)) (hT : txAt Z a q = some l) :
    Calls Try.prog 37 #[.func (.func 36) #[] #[.pointer (some ⟨B, 0, none⟩)], .agg #[.int .i64 (a : Int), .int .i64 q]] w (OneTx w l) := by
  obtain ⟨W0, hW0⟩ : ∃ W0, w.alloc (.cells #[.int .i64 (a : Int), .int .i64 q] 40) = W0 := ⟨_, rfl⟩
  have B0 : Hid (Below w.heap.size w W0) := Lib.hid (by rw [← hW0]; exact (Below.refl _ _).alloc (Nat.le_refl _) _)
  have n0 : W0.cell? ⟨w.heap.size, 0, none⟩ = some (.int .i64 (a : Int)) := by rw [← hW0, World.cell?_alloc_new]; rfl
  have n1 : W0.cell? ⟨w.heap.size, 1, none⟩ = some (.int .i64 q) := by rw [← hW0, World.cell?_alloc_new]; rfl
  have HL0 := Lib.hid (hL.later B0.out)
  have HAL := Lib.hid ha
  have i1 : (a : Int) < 40 := by omega
  obtain ⟨X, hX⟩ : ∃ X, Z.getD a [] = X := ⟨_, rfl⟩
  have cX : Hid (∀ ad c, Arg W0 (some ad) 64 c (Z.getD (a % 40) []) → Arg W0 (some ad) 64 c X) := Lib.hid (fun ad c h => by rw [Nat.mod_eq_of_lt ha, hX] at h; exact h)
  obtain ⟨D, hD⟩ : ∃ D, getBeg X = D := ⟨_, rfl⟩
  obtain ⟨E, hE⟩ : ∃ E, getBegErr X = E := ⟨_, rfl⟩
  have cB : Hid (∀ ad c, Arg W0 (some ad) 64 c X → Calls Try.prog 11 #[.slice (some ad) (64 : Nat) c] W0 (HandedD W0.heap.size W0 D E)) := Lib.hid (fun ad c h => by have c := lBegins_any (some ad) 64 c X W0 h; rw [hD, hE] at c; exact c)
  have hww := tx_some_ways hT
  rw [hX, hD, hE] at hww
  clear hD hE
  obtain ⟨s, to⟩ := D
  simp only at hww
  obtain ⟨h, h2, hm, hww⟩ := hww
  subst h
  subst h2
  have HM20 := Lib.hid hm
  have hne1 : (s == 1073741824) = false := by simpa using hq2
  have hne0 : (s != s) = false := by simp
  have hne3 : ((to.length : Int) != (to.length : Int)) = false := by simp
  clear hL hT ha hm hq2
  obtain ⟨Y, hY⟩ : ∃ Y, Z.getD ((a + (to.length + 1)) % 40) [] = Y := ⟨_, rfl⟩
  have cY : Hid (∀ W ad c, Arg W (some ad) 64 c (Z.getD ((a + 1 + to.length) % 40) []) → Arg W (some ad) 64 c Y) := Lib.hid (fun W ad c h => by rw [show a + 1 + to.length = a + (to.length + 1) by omega, hY] at h; exact h)
  rw [hY] at hww
  clear hY
  have HK2 : Hid ((a : Int) + 1 + (to.length : Int) = ((a + 1 + to.length : Nat) : Int)) := Lib.hid (by omega)
  have i20 : (to.length : Int) ≤ 20 := by have := HM20.out; omega
  have i00 : (0 : Int) ≤ (to.length : Int) := by omega
  obtain ⟨hy3, hy1, hy2, hl⟩ := hww
  have HLL : Hid (l.length = to.length) := Lib.hid (by rw [hl, txL_length])
  have HAT : Hid (∀ i x, to[i]? = some x → l[i]? = some (x, Z.getD ((a + 1 + i) % 40) [])) := Lib.hid (fun i x h => by
    have hi := (List.getElem?_eq_some_iff.1 h).1
    rw [hl]
    unfold txL
    rw [List.getElem?_map, List.getElem?_range hi]
    show some (to.getD i 0, _) = _
    rw [List.getD_eq_getElem?_getD, h]
    rfl)
  clear hl
  go_enter Try.func37, Try.ntmps37
  go_wp2_with (first
    | (go_at_call 17; refine (lEnds_any (some ad3) 64 c3 Y W2 (cY.out _ _ _ HA3.out)).mono ?_; rw [hy1, hy2, hy3]; rintro e w4 ⟨rfl, hb4⟩; have B4 := Lib.hid (B2.out.trans (hb4.mono B2.out.size)); have p0 := cell_later hb4 m0; have p1 := cell_later hb4 m1; have r0 := cell_later hb4 d0; have r1 := cell_later hb4 d1; have HI4 := Lib.hid (HI2.out.later hb4); have hmk := run_make_wrs w4 to.length (by have := HM20.out; omega); have HP5 := Lib.hid (WPart.made w4 to.length l); obtain ⟨W5, hW5⟩ : ∃ W5, w4.alloc (.cells (madeCells #[.int .i64 0, .slice none 0 0] (to.length * 2)) 50) = W5 := ⟨_, rfl⟩; rw [hW5] at hmk HP5; have b5 : Below w4.heap.size w4 W5 := (by rw [← hW5]; exact (Below.refl _ _).alloc (Nat.le_refl _) _); have B5 := Lib.hid b5; have t0 := cell_later b5 p0; have t1 := cell_later b5 p1; have u0 := cell_later b5 r0; have u1 := cell_later b5 r1; have HI5 := Lib.hid (HI4.out.later b5); clear b5 hW5; have HL4 := Lib.hid (HL2.out.later hb4); clear hb4)
    | (go_at_call 36; refine (HL2.out.lies (a + 1 + to.length) (by have := HAL.out; have := HM20.out; omega) HK2.out).mono ?_; rintro e w3 ⟨⟨ad3, c3, rfl, hA3⟩, rfl⟩; have HA3 := Lib.hid hA3; clear hA3)
    | (go_at_call 11; refine (cB.out _ _ (cX.out _ _ HA1.out)).mono ?_; rintro e w2 ⟨v2, rfl, ⟨a2, c2, rfl, hI2, _⟩, hb2⟩; obtain ⟨W2, hW2⟩ : ∃ W2, w2.alloc (.cells #[.int .i64 s, .slice a2 to.length c2] 24) = W2 := ⟨_, rfl⟩; have b2 : Below W0.heap.size W0 W2 := (by rw [← hW2]; exact hb2.alloc hb2.size _); have B2 := Lib.hid b2; have m0 := cell_later b2 n0; have m1 := cell_later b2 n1; have d0 : W2.cell? ⟨w2.heap.size, 0, none⟩ = some (.int .i64 s) := (by rw [← hW2, World.cell?_alloc_new]; rfl); have d1 : W2.cell? ⟨w2.heap.size, 1, none⟩ = some (.slice a2 to.length c2) := (by rw [← hW2, World.cell?_alloc_new]; rfl); have HI2 : Hid (IArg W2 a2 to.length c2 to) := Lib.hid (by rw [← hW2]; exact hI2.later ((Below.refl _ _).alloc (Nat.le_refl _) _)); have HL2 := Lib.hid (HL0.out.later b2); clear hI2 hb2 b2)
    | (go_at_call 36; refine (HL0.out.lies a (by have := HAL.out; omega) rfl).mono ?_; rintro e w1 ⟨⟨ad1, c1, rfl, hA1⟩, rfl⟩; have HA1 := Lib.hid hA1; clear hA1))
  go_loopw [71] (fun iv wr => ∃ i : Nat, iv = .int .i64 (i : Int) ∧ i ≤ to.length ∧ Hid (WPart w4.heap.size w4.heap.size to.length i l wr) ∧ Hid (Below w4.heap.size w4 wr)) (fun iv _ => to.length - (intOf iv).toNat)
  case atStart => exact ⟨0, rfl, Nat.zero_le _, HP5, B5⟩
  case round =>
    obtain ⟨i, rfl, hi, HP, HB⟩ := hrel
    by_cases hlt : i < to.length
    · obtain ⟨fb, fo, x, rfl, hx, hc, hx64⟩ := HI4.out.at hlt
      have k1 : wr.cell? ⟨fb, fo + i, none⟩ = some (.int .i64 x) := cell_later HB.out hc
      have HAX := Lib.hid (HAT.out i x hx)
      have HX := Lib.hid hx64
      have HLW := Lib.hid (HL4.out.later HB.out)
      have HK3 : Hid ((a : Int) + 1 + (i : Int) = ((a + 1 + i : Nat) : Int)) := Lib.hid (by omega)
      have j1 : (i : Int) < (to.length : Int) := by omega
      have j0 : (0 : Int) ≤ (i : Int) := by omega
      clear hx hc hx64
      go_wp2_with (first
        | (go_at_call 51; refine (bClone_any HA6.out).mono ?_; rintro e w7 ⟨g7, o7, c7, rfl, hA7, hg7, hb7⟩; have HP7 := Lib.hid (HP.out.later hb7); have HA7 := Lib.hid hA7; have HG7 : Hid (w4.heap.size ≤ g7 ∧ g7 ≠ w4.heap.size) := Lib.hid (by have h1 := HP.out.1; omega); have B7 := Lib.hid (HB.out.trans (hb7.mono HB.out.size)); obtain ⟨z1, z2⟩ := HP7.out.2.2.1 i (Nat.le_refl _) hlt; have f1 := HP7.out.2.1 (i * 2); have f2 := HP7.out.2.1 (i * 2 + 1); clear hA7 hg7 hb7)
        | (go_at_call 36; refine (HLW.out.lies (a + 1 + i) (by have := HAL.out; have := HM20.out; omega) HK3.out).mono ?_; rintro e w6 ⟨⟨ad6, c6, rfl, hA6⟩, rfl⟩; have HA6 := Lib.hid hA6; clear hA6))
      go_roundw
      case rel => exact ⟨i + 1, by go_num, by omega, Lib.hid (HP7.out.put hlt HX.out HAX.out HG7.out HA7.out), Lib.hid ((B7.out.setCell (Nat.le_refl _) _).setCell (Nat.le_refl _) _)⟩
      case measure => simp [intOf]; omega
    · obtain rfl : i = to.length := by omega
      have HW : Hid (WIn (fun k => w.heap.size ≤ k ∧ k < wr.heap.size) wr (some ⟨w4.heap.size, 0, none⟩) to.length l) := Lib.hid ((HP.out.win HLL.out (by have := HM20.out; omega) (Nat.le_refl _)).imp (fun k hk => ⟨Nat.le_trans (B0.out.trans (B4.out.mono B0.out.size)).size hk.1, hk.2⟩))
      go_wp2_with fail
      go_ret2
      exact ⟨w4.heap.size, to.length, by rw [HLL.out]; rfl, by rw [HLL.out]; exact HW.out, (B0.out.trans (B4.out.mono B0.out.size)).trans (HB.out.mono (B0.out.trans (B4.out.mono B0.out.size)).size)⟩

end Go.Proofs.Ytpmggbdmoopkfaa
