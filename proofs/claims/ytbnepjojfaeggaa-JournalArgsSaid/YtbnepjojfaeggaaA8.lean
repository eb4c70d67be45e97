/-
  Proved here: what the landed log's transaction answers. The conditions stand at each theorem. Proved here: what the landed log's Find answers. The conditions stand at each theorem.
-/
import Derived.Test.YtbnepjojfaeggaaA7
import Derived.Test.YtbnepjojfaeggaaA6
namespace Go.Proofs.Ytbnepjojfaeggaa
open Go.RowKit
set_option linter.unusedVariables false
set_option linter.unusedSimpArgs false

set_option maxRecDepth 100000 in
set_option maxHeartbeats 3200000 in
theorem txNone_any {w : World} {B b off cap : Nat} {Z : List (List Int)} (a : Nat) (q : Int) (ha : a < 40) (hq : I64 q) (hL : LogAt w B b off cap Z) (hT : q = 1073741824 ∨ txAt Z a q = none) :
    Calls Try.prog 73 #[.func (.func 72) #[] #[.pointer (some ⟨B, 0, none⟩)], .agg #[.int .i64 (a : Int), .int .i64 q]] w (NoTx w) := by
  obtain ⟨W0, hW0⟩ : ∃ W0, w.alloc (.cells #[.int .i64 (a : Int), .int .i64 q] 58) = W0 := ⟨_, rfl⟩
  have B0 : Hid (Below w.heap.size w W0) := Lib.hid (by rw [← hW0]; exact (Below.refl _ _).alloc (Nat.le_refl _) _)
  have n0 : W0.cell? ⟨w.heap.size, 0, none⟩ = some (.int .i64 (a : Int)) := by rw [← hW0, World.cell?_alloc_new]; rfl
  have n1 : W0.cell? ⟨w.heap.size, 1, none⟩ = some (.int .i64 q) := by rw [← hW0, World.cell?_alloc_new]; rfl
  have HL0 := Lib.hid (hL.later B0.out)
  have HAL := Lib.hid ha
  have i1 : (a : Int) < 40 := by omega
  obtain ⟨X, hX⟩ : ∃ X, Z.getD a [] = X := ⟨_, rfl⟩
  have cX : Hid (∀ ad c, Arg W0 (some ad) 64 c (Z.getD (a % 40) []) → Arg W0 (some ad) 64 c X) := Lib.hid (fun ad c h => by rw [Nat.mod_eq_of_lt ha, hX] at h; exact h)
  obtain ⟨D, hD⟩ : ∃ D, getBeg X = D := ⟨_, rfl⟩
  obtain ⟨E, hE⟩ : ∃ E, getBegErr X = E := ⟨_, rfl⟩
  have cB : Hid (∀ ad c, Arg W0 (some ad) 64 c X → Calls Try.prog 64 #[.slice (some ad) (64 : Nat) c] W0 (HandedD W0.heap.size W0 D E)) := Lib.hid (fun ad c h => by have c := lBegins_any (some ad) 64 c X W0 h; rw [hD, hE] at c; exact c)
  have hw : E = 2 ∨ (E = 0 ∧ D.seq ≠ q) ∨ (E = 0 ∧ D.seq = q ∧ q = 1073741824) ∨ (E = 0 ∧ D.seq = q ∧ q ≠ 1073741824 ∧ txAt Z a q = none) := by
    rcases err_two X with h | h
    · rw [hE] at h
      by_cases h2 : D.seq = q
      · by_cases h3 : q = 1073741824
        · exact Or.inr (Or.inr (Or.inl ⟨h, h2, h3⟩))
        · exact Or.inr (Or.inr (Or.inr ⟨h, h2, h3, hT.resolve_left h3⟩))
      · exact Or.inr (Or.inl ⟨h, h2⟩)
    · exact Or.inl (by rw [← hE]; exact h)
  have hww := fun h : txAt Z a q = none => tx_none_ways h
  rw [hX, hD, hE] at hww
  have h20 : E = 0 → 1 ≤ D.to.length ∧ D.to.length ≤ 20 := fun h => by rw [← hE] at h; rw [← hD]; exact (beg_is h).2.2
  clear hD hE
  obtain ⟨s, to⟩ := D
  simp only at hw hww h20
  clear hL hT ha
  rcases hw with h | ⟨h, h2⟩ | ⟨h, h2, h3⟩ | ⟨h, h2, h3, h4⟩
  · subst h
    clear hww h20
    go_enter Try.func73, Try.ntmps73
    go_wp2_with (first
      | (go_at_call 64; refine (cB.out _ _ (cX.out _ _ HA1.out)).mono ?_; rintro e w2 ⟨v2, rfl, ⟨a2, c2, rfl, hI2, _⟩, hb2⟩; obtain ⟨W2, hW2⟩ : ∃ W2, w2.alloc (.cells #[.int .i64 s, .slice a2 to.length c2] 72) = W2 := ⟨_, rfl⟩; have b2 : Below W0.heap.size W0 W2 := (by rw [← hW2]; exact hb2.alloc hb2.size _); have B2 := Lib.hid b2; have m0 := cell_later b2 n0; have m1 := cell_later b2 n1; have d0 : W2.cell? ⟨w2.heap.size, 0, none⟩ = some (.int .i64 s) := (by rw [← hW2, World.cell?_alloc_new]; rfl); have d1 : W2.cell? ⟨w2.heap.size, 1, none⟩ = some (.slice a2 to.length c2) := (by rw [← hW2, World.cell?_alloc_new]; rfl); have HI2 : Hid (IArg W2 a2 to.length c2 to) := Lib.hid (by rw [← hW2]; exact hI2.later ((Below.refl _ _).alloc (Nat.le_refl _) _)); have HL2 := Lib.hid (HL0.out.later b2); clear hI2 hb2 b2)
      | (go_at_call 72; refine (HL0.out.lies a (by have := HAL.out; omega) rfl).mono ?_; rintro e w1 ⟨⟨ad1, c1, rfl, hA1⟩, rfl⟩; have HA1 := Lib.hid hA1; clear hA1))
    go_ret2
    exact ⟨rfl, B0.out.trans (B2.out.mono B0.out.size)⟩
  · subst h
    clear hww h20
    have hne : (s != q) = true := by simpa using h2
    clear h2
    go_enter Try.func73, Try.ntmps73
    go_wp2_with (first
      | (go_at_call 64; refine (cB.out _ _ (cX.out _ _ HA1.out)).mono ?_; rintro e w2 ⟨v2, rfl, ⟨a2, c2, rfl, hI2, _⟩, hb2⟩; obtain ⟨W2, hW2⟩ : ∃ W2, w2.alloc (.cells #[.int .i64 s, .slice a2 to.length c2] 72) = W2 := ⟨_, rfl⟩; have b2 : Below W0.heap.size W0 W2 := (by rw [← hW2]; exact hb2.alloc hb2.size _); have B2 := Lib.hid b2; have m0 := cell_later b2 n0; have m1 := cell_later b2 n1; have d0 : W2.cell? ⟨w2.heap.size, 0, none⟩ = some (.int .i64 s) := (by rw [← hW2, World.cell?_alloc_new]; rfl); have d1 : W2.cell? ⟨w2.heap.size, 1, none⟩ = some (.slice a2 to.length c2) := (by rw [← hW2, World.cell?_alloc_new]; rfl); have HI2 : Hid (IArg W2 a2 to.length c2 to) := Lib.hid (by rw [← hW2]; exact hI2.later ((Below.refl _ _).alloc (Nat.le_refl _) _)); have HL2 := Lib.hid (HL0.out.later b2); clear hI2 hb2 b2)
      | (go_at_call 72; refine (HL0.out.lies a (by have := HAL.out; omega) rfl).mono ?_; rintro e w1 ⟨⟨ad1, c1, rfl, hA1⟩, rfl⟩; have HA1 := Lib.hid hA1; clear hA1))
    go_ret2
    exact ⟨rfl, B0.out.trans (B2.out.mono B0.out.size)⟩
  · subst h
    subst h2
    subst h3
    clear hww h20
    go_enter Try.func73, Try.ntmps73
    go_wp2_with (first
      | (go_at_call 64; refine (cB.out _ _ (cX.out _ _ HA1.out)).mono ?_; rintro e w2 ⟨v2, rfl, ⟨a2, c2, rfl, hI2, _⟩, hb2⟩; obtain ⟨W2, hW2⟩ : ∃ W2, w2.alloc (.cells #[.int .i64 1073741824, .slice a2 to.length c2] 72) = W2 := ⟨_, rfl⟩; have b2 : Below W0.heap.size W0 W2 := (by rw [← hW2]; exact hb2.alloc hb2.size _); have B2 := Lib.hid b2; have m0 := cell_later b2 n0; have m1 := cell_later b2 n1; have d0 : W2.cell? ⟨w2.heap.size, 0, none⟩ = some (.int .i64 1073741824) := (by rw [← hW2, World.cell?_alloc_new]; rfl); have d1 : W2.cell? ⟨w2.heap.size, 1, none⟩ = some (.slice a2 to.length c2) := (by rw [← hW2, World.cell?_alloc_new]; rfl); have HI2 : Hid (IArg W2 a2 to.length c2 to) := Lib.hid (by rw [← hW2]; exact hI2.later ((Below.refl _ _).alloc (Nat.le_refl _) _)); have HL2 := Lib.hid (HL0.out.later b2); clear hI2 hb2 b2)
      | (go_at_call 72; refine (HL0.out.lies a (by have := HAL.out; omega) rfl).mono ?_; rintro e w1 ⟨⟨ad1, c1, rfl, hA1⟩, rfl⟩; have HA1 := Lib.hid hA1; clear hA1))
    go_ret2
    exact ⟨rfl, B0.out.trans (B2.out.mono B0.out.size)⟩
  · subst h
    subst h2
    have HM20 := Lib.hid (h20 rfl)
    have hne1 : (s == 1073741824) = false := by simpa using h3
    have hne0 : (s != s) = false := by simp
    replace hww := hww h4
    clear h4 h3 h20
    replace hww := ((hww.resolve_left (by decide)).resolve_left (fun h => h.2 rfl)).2.2
    obtain ⟨Y, hY⟩ : ∃ Y, Z.getD ((a + (to.length + 1)) % 40) [] = Y := ⟨_, rfl⟩
    have cY : Hid (∀ W ad c, Arg W (some ad) 64 c (Z.getD ((a + 1 + to.length) % 40) []) → Arg W (some ad) 64 c Y) := Lib.hid (fun W ad c h => by rw [show a + 1 + to.length = a + (to.length + 1) by omega, hY] at h; exact h)
    rw [hY] at hww
    clear hY
    have HK2 : Hid ((a : Int) + 1 + (to.length : Int) = ((a + 1 + to.length : Nat) : Int)) := Lib.hid (by omega)
    have i20 : (to.length : Int) ≤ 20 := by have := HM20.out; omega
    have i00 : (0 : Int) ≤ (to.length : Int) := by omega
    obtain ⟨s2, hy1⟩ : ∃ s2, getEndSeq Y = s2 := ⟨_, rfl⟩
    obtain ⟨n2, hy2⟩ : ∃ n2, getEndCount Y = n2 := ⟨_, rfl⟩
    obtain ⟨e2, hy3⟩ : ∃ e2, getEndErr Y = e2 := ⟨_, rfl⟩
    rw [hy1, hy2, hy3] at hww
    rcases hww with h | ⟨h, h2⟩ | ⟨h, h2, h3⟩
    · subst h
      go_enter Try.func73, Try.ntmps73
      go_wp2_with (first
        | (go_at_call 87; refine (lEnds_any (some ad3) 64 c3 Y W2 (cY.out _ _ _ HA3.out)).mono ?_; rw [hy1, hy2, hy3]; rintro e w4 ⟨rfl, hb4⟩; have B4 := Lib.hid (B2.out.trans (hb4.mono B2.out.size)); have p0 := cell_later hb4 m0; have p1 := cell_later hb4 m1; have r0 := cell_later hb4 d0; have r1 := cell_later hb4 d1; have HI4 := Lib.hid (HI2.out.later hb4); have HL4 := Lib.hid (HL2.out.later hb4); clear hb4)
        | (go_at_call 72; refine (HL2.out.lies (a + 1 + to.length) (by have := HAL.out; have := HM20.out; omega) HK2.out).mono ?_; rintro e w3 ⟨⟨ad3, c3, rfl, hA3⟩, rfl⟩; have HA3 := Lib.hid hA3; clear hA3)
        | (go_at_call 64; refine (cB.out _ _ (cX.out _ _ HA1.out)).mono ?_; rintro e w2 ⟨v2, rfl, ⟨a2, c2, rfl, hI2, _⟩, hb2⟩; obtain ⟨W2, hW2⟩ : ∃ W2, w2.alloc (.cells #[.int .i64 s, .slice a2 to.length c2] 72) = W2 := ⟨_, rfl⟩; have b2 : Below W0.heap.size W0 W2 := (by rw [← hW2]; exact hb2.alloc hb2.size _); have B2 := Lib.hid b2; have m0 := cell_later b2 n0; have m1 := cell_later b2 n1; have d0 : W2.cell? ⟨w2.heap.size, 0, none⟩ = some (.int .i64 s) := (by rw [← hW2, World.cell?_alloc_new]; rfl); have d1 : W2.cell? ⟨w2.heap.size, 1, none⟩ = some (.slice a2 to.length c2) := (by rw [← hW2, World.cell?_alloc_new]; rfl); have HI2 : Hid (IArg W2 a2 to.length c2 to) := Lib.hid (by rw [← hW2]; exact hI2.later ((Below.refl _ _).alloc (Nat.le_refl _) _)); have HL2 := Lib.hid (HL0.out.later b2); clear hI2 hb2 b2)
        | (go_at_call 72; refine (HL0.out.lies a (by have := HAL.out; omega) rfl).mono ?_; rintro e w1 ⟨⟨ad1, c1, rfl, hA1⟩, rfl⟩; have HA1 := Lib.hid hA1; clear hA1))
      go_ret2
      exact ⟨rfl, B0.out.trans (B4.out.mono B0.out.size)⟩
    · subst h
      have hne2 : (s2 != s) = true := by simpa using h2
      clear h2
      go_enter Try.func73, Try.ntmps73
      go_wp2_with (first
        | (go_at_call 87; refine (lEnds_any (some ad3) 64 c3 Y W2 (cY.out _ _ _ HA3.out)).mono ?_; rw [hy1, hy2, hy3]; rintro e w4 ⟨rfl, hb4⟩; have B4 := Lib.hid (B2.out.trans (hb4.mono B2.out.size)); have p0 := cell_later hb4 m0; have p1 := cell_later hb4 m1; have r0 := cell_later hb4 d0; have r1 := cell_later hb4 d1; have HI4 := Lib.hid (HI2.out.later hb4); have HL4 := Lib.hid (HL2.out.later hb4); clear hb4)
        | (go_at_call 72; refine (HL2.out.lies (a + 1 + to.length) (by have := HAL.out; have := HM20.out; omega) HK2.out).mono ?_; rintro e w3 ⟨⟨ad3, c3, rfl, hA3⟩, rfl⟩; have HA3 := Lib.hid hA3; clear hA3)
        | (go_at_call 64; refine (cB.out _ _ (cX.out _ _ HA1.out)).mono ?_; rintro e w2 ⟨v2, rfl, ⟨a2, c2, rfl, hI2, _⟩, hb2⟩; obtain ⟨W2, hW2⟩ : ∃ W2, w2.alloc (.cells #[.int .i64 s, .slice a2 to.length c2] 72) = W2 := ⟨_, rfl⟩; have b2 : Below W0.heap.size W0 W2 := (by rw [← hW2]; exact hb2.alloc hb2.size _); have B2 := Lib.hid b2; have m0 := cell_later b2 n0; have m1 := cell_later b2 n1; have d0 : W2.cell? ⟨w2.heap.size, 0, none⟩ = some (.int .i64 s) := (by rw [← hW2, World.cell?_alloc_new]; rfl); have d1 : W2.cell? ⟨w2.heap.size, 1, none⟩ = some (.slice a2 to.length c2) := (by rw [← hW2, World.cell?_alloc_new]; rfl); have HI2 : Hid (IArg W2 a2 to.length c2 to) := Lib.hid (by rw [← hW2]; exact hI2.later ((Below.refl _ _).alloc (Nat.le_refl _) _)); have HL2 := Lib.hid (HL0.out.later b2); clear hI2 hb2 b2)
        | (go_at_call 72; refine (HL0.out.lies a (by have := HAL.out; omega) rfl).mono ?_; rintro e w1 ⟨⟨ad1, c1, rfl, hA1⟩, rfl⟩; have HA1 := Lib.hid hA1; clear hA1))
      go_ret2
      exact ⟨rfl, B0.out.trans (B4.out.mono B0.out.size)⟩
    · subst h
      obtain rfl : s = s2 := h2.symm
      have hne2 : (n2 != (to.length : Int)) = true := by simpa using h3
      clear h3
      go_enter Try.func73, Try.ntmps73
      go_wp2_with (first
        | (go_at_call 87; refine (lEnds_any (some ad3) 64 c3 Y W2 (cY.out _ _ _ HA3.out)).mono ?_; rw [hy1, hy2, hy3]; rintro e w4 ⟨rfl, hb4⟩; have B4 := Lib.hid (B2.out.trans (hb4.mono B2.out.size)); have p0 := cell_later hb4 m0; have p1 := cell_later hb4 m1; have r0 := cell_later hb4 d0; have r1 := cell_later hb4 d1; have HI4 := Lib.hid (HI2.out.later hb4); have HL4 := Lib.hid (HL2.out.later hb4); clear hb4)
        | (go_at_call 72; refine (HL2.out.lies (a + 1 + to.length) (by have := HAL.out; have := HM20.out; omega) HK2.out).mono ?_; rintro e w3 ⟨⟨ad3, c3, rfl, hA3⟩, rfl⟩; have HA3 := Lib.hid hA3; clear hA3)
        | (go_at_call 64; refine (cB.out _ _ (cX.out _ _ HA1.out)).mono ?_; rintro e w2 ⟨v2, rfl, ⟨a2, c2, rfl, hI2, _⟩, hb2⟩; obtain ⟨W2, hW2⟩ : ∃ W2, w2.alloc (.cells #[.int .i64 s, .slice a2 to.length c2] 72) = W2 := ⟨_, rfl⟩; have b2 : Below W0.heap.size W0 W2 := (by rw [← hW2]; exact hb2.alloc hb2.size _); have B2 := Lib.hid b2; have m0 := cell_later b2 n0; have m1 := cell_later b2 n1; have d0 : W2.cell? ⟨w2.heap.size, 0, none⟩ = some (.int .i64 s) := (by rw [← hW2, World.cell?_alloc_new]; rfl); have d1 : W2.cell? ⟨w2.heap.size, 1, none⟩ = some (.slice a2 to.length c2) := (by rw [← hW2, World.cell?_alloc_new]; rfl); have HI2 : Hid (IArg W2 a2 to.length c2 to) := Lib.hid (by rw [← hW2]; exact hI2.later ((Below.refl _ _).alloc (Nat.le_refl _) _)); have HL2 := Lib.hid (HL0.out.later b2); clear hI2 hb2 b2)
        | (go_at_call 72; refine (HL0.out.lies a (by have := HAL.out; omega) rfl).mono ?_; rintro e w1 ⟨⟨ad1, c1, rfl, hA1⟩, rfl⟩; have HA1 := Lib.hid hA1; clear hA1))
      go_ret2
      exact ⟨rfl, B0.out.trans (B4.out.mono B0.out.size)⟩

def OneTx (w : World) (l : List (Int × List Int)) (e : Ending) (w' : World) : Prop :=
  ∃ g c, e = .returned (.tuple #[.slice (some ⟨g, 0, none⟩) l.length c, .bool true]) ∧ WIn (fun k => w.heap.size ≤ k ∧ k < w'.heap.size) w' (some ⟨g, 0, none⟩) l.length l ∧ Below w.heap.size w w'

set_option maxRecDepth 100000 in
set_option maxHeartbeats 3200000 in
theorem txSome_any {w : World} {B b off cap : Nat} {Z : List (List Int)} (a : Nat) (q : Int) (ha : a < 40) (hq : I64 q) (hq2 : q ≠ 1073741824) (hL : LogAt w B b off cap Z) (l : List (Int × List Int)) (hT : txAt Z a q = some l) :
    Calls Try.prog 73 #[.func (.func 72) #[] #[.pointer (some ⟨B, 0, none⟩)], .agg #[.int .i64 (a : Int), .int .i64 q]] w (OneTx w l) := by
  obtain ⟨W0, hW0⟩ : ∃ W0, w.alloc (.cells #[.int .i64 (a : Int), .int .i64 q] 58) = W0 := ⟨_, rfl⟩
  have B0 : Hid (Below w.heap.size w W0) := Lib.hid (by rw [← hW0]; exact (Below.refl _ _).alloc (Nat.le_refl _) _)
  have n0 : W0.cell? ⟨w.heap.size, 0, none⟩ = some (.int .i64 (a : Int)) := by rw [← hW0, World.cell?_alloc_new]; rfl
  have n1 : W0.cell? ⟨w.heap.size, 1, none⟩ = some (.int .i64 q) := by rw [← hW0, World.cell?_alloc_new]; rfl
  have HL0 := Lib.hid (hL.later B0.out)
  have HAL := Lib.hid ha
  have i1 : (a : Int) < 40 := by omega
  obtain ⟨X, hX⟩ : ∃ X, Z.getD a [] = X := ⟨_, rfl⟩
  have cX : Hid (∀ ad c, Arg W0 (some ad) 64 c (Z.getD (a % 40) []) → Arg W0 (some ad) 64 c X) := Lib.hid (fun ad c h => by rw [Nat.mod_eq_of_lt ha, hX] at h; exact h)
  obtain ⟨D, hD⟩ : ∃ D, getBeg X = D := ⟨_, rfl⟩
  obtain ⟨E, hE⟩ : ∃ E, getBegErr X = E := ⟨_, rfl⟩
  have cB : Hid (∀ ad c, Arg W0 (some ad) 64 c X → Calls Try.prog 64 #[.slice (some ad) (64 : Nat) c] W0 (HandedD W0.heap.size W0 D E)) := Lib.hid (fun ad c h => by have c := lBegins_any (some ad) 64 c X W0 h; rw [hD, hE] at c; exact c)
  have hww := tx_some_ways hT
  rw [hX, hD, hE] at hww
  clear hD hE
  obtain ⟨s, to⟩ := D
  simp only at hww
  obtain ⟨h, h2, hm, hww⟩ := hww
  subst h
  subst h2
  have HM20 := Lib.hid hm
  have hne1 : (s == 1073741824) = false := by simpa using hq2
  have hne0 : (s != s) = false := by simp
  have hne3 : ((to.length : Int) != (to.length : Int)) = false := by simp
  clear hL hT ha hm hq2
  obtain ⟨Y, hY⟩ : ∃ Y, Z.getD ((a + (to.length + 1)) % 40) [] = Y := ⟨_, rfl⟩
  have cY : Hid (∀ W ad c, Arg W (some ad) 64 c (Z.getD ((a + 1 + to.length) % 40) []) → Arg W (some ad) 64 c Y) := Lib.hid (fun W ad c h => by rw [show a + 1 + to.length = a + (to.length + 1) by omega, hY] at h; exact h)
  rw [hY] at hww
  clear hY
  have HK2 : Hid ((a : Int) + 1 + (to.length : Int) = ((a + 1 + to.length : Nat) : Int)) := Lib.hid (by omega)
  have i20 : (to.length : Int) ≤ 20 := by have := HM20.out; omega
  have i00 : (0 : Int) ≤ (to.length : Int) := by omega
  obtain ⟨hy3, hy1, hy2, hl⟩ := hww
  have HLL : Hid (l.length = to.length) := Lib.hid (by rw [hl, txL_length])
  have HAT : Hid (∀ i x, to[i]? = some x → l[i]? = some (x, Z.getD ((a + 1 + i) % 40) [])) := Lib.hid (fun i x h => by
    have hi := (List.getElem?_eq_some_iff.1 h).1
    rw [hl]
    unfold txL
    rw [List.getElem?_map, List.getElem?_range hi]
    show some (to.getD i 0, _) = _
    rw [List.getD_eq_getElem?_getD, h]
    rfl)
  clear hl
  go_enter Try.func73, Try.ntmps73
  go_wp2_with (first
    | (go_at_call 87; refine (lEnds_any (some ad3) 64 c3 Y W2 (cY.out _ _ _ HA3.out)).mono ?_; rw [hy1, hy2, hy3]; rintro e w4 ⟨rfl, hb4⟩; have B4 := Lib.hid (B2.out.trans (hb4.mono B2.out.size)); have p0 := cell_later hb4 m0; have p1 := cell_later hb4 m1; have r0 := cell_later hb4 d0; have r1 := cell_later hb4 d1; have HI4 := Lib.hid (HI2.out.later hb4); have hmk := run_make_wrs w4 to.length (by have := HM20.out; omega); have HP5 := Lib.hid (WPart.made w4 to.length l); obtain ⟨W5, hW5⟩ : ∃ W5, w4.alloc (.cells (madeCells #[.int .i64 0, .slice none 0 0] (to.length * 2)) 48) = W5 := ⟨_, rfl⟩; rw [hW5] at hmk HP5; have b5 : Below w4.heap.size w4 W5 := (by rw [← hW5]; exact (Below.refl _ _).alloc (Nat.le_refl _) _); have B5 := Lib.hid b5; have t0 := cell_later b5 p0; have t1 := cell_later b5 p1; have u0 := cell_later b5 r0; have u1 := cell_later b5 r1; have HI5 := Lib.hid (HI4.out.later b5); clear b5 hW5; have HL4 := Lib.hid (HL2.out.later hb4); clear hb4)
    | (go_at_call 72; refine (HL2.out.lies (a + 1 + to.length) (by have := HAL.out; have := HM20.out; omega) HK2.out).mono ?_; rintro e w3 ⟨⟨ad3, c3, rfl, hA3⟩, rfl⟩; have HA3 := Lib.hid hA3; clear hA3)
    | (go_at_call 64; refine (cB.out _ _ (cX.out _ _ HA1.out)).mono ?_; rintro e w2 ⟨v2, rfl, ⟨a2, c2, rfl, hI2, _⟩, hb2⟩; obtain ⟨W2, hW2⟩ : ∃ W2, w2.alloc (.cells #[.int .i64 s, .slice a2 to.length c2] 72) = W2 := ⟨_, rfl⟩; have b2 : Below W0.heap.size W0 W2 := (by rw [← hW2]; exact hb2.alloc hb2.size _); have B2 := Lib.hid b2; have m0 := cell_later b2 n0; have m1 := cell_later b2 n1; have d0 : W2.cell? ⟨w2.heap.size, 0, none⟩ = some (.int .i64 s) := (by rw [← hW2, World.cell?_alloc_new]; rfl); have d1 : W2.cell? ⟨w2.heap.size, 1, none⟩ = some (.slice a2 to.length c2) := (by rw [← hW2, World.cell?_alloc_new]; rfl); have HI2 : Hid (IArg W2 a2 to.length c2 to) := Lib.hid (by rw [← hW2]; exact hI2.later ((Below.refl _ _).alloc (Nat.le_refl _) _)); have HL2 := Lib.hid (HL0.out.later b2); clear hI2 hb2 b2)
    | (go_at_call 72; refine (HL0.out.lies a (by have := HAL.out; omega) rfl).mono ?_; rintro e w1 ⟨⟨ad1, c1, rfl, hA1⟩, rfl⟩; have HA1 := Lib.hid hA1; clear hA1))
  go_loopw [71] (fun iv wr => ∃ i : Nat, iv = .int .i64 (i : Int) ∧ i ≤ to.length ∧ Hid (WPart w4.heap.size w4.heap.size to.length i l wr) ∧ Hid (Below w4.heap.size w4 wr)) (fun iv _ => to.length - (intOf iv).toNat)
  case atStart => exact ⟨0, rfl, Nat.zero_le _, HP5, B5⟩
  case round =>
    obtain ⟨i, rfl, hi, HP, HB⟩ := hrel
    by_cases hlt : i < to.length
    · obtain ⟨fb, fo, x, rfl, hx, hc, hx64⟩ := HI4.out.at hlt
      have k1 : wr.cell? ⟨fb, fo + i, none⟩ = some (.int .i64 x) := cell_later HB.out hc
      have HAX := Lib.hid (HAT.out i x hx)
      have HX := Lib.hid hx64
      have HLW := Lib.hid (HL4.out.later HB.out)
      have HK3 : Hid ((a : Int) + 1 + (i : Int) = ((a + 1 + i : Nat) : Int)) := Lib.hid (by omega)
      have j1 : (i : Int) < (to.length : Int) := by omega
      have j0 : (0 : Int) ≤ (i : Int) := by omega
      clear hx hc hx64
      go_wp2_with (first
        | (go_at_call 88; refine (bClone_any HA6.out).mono ?_; rintro e w7 ⟨g7, o7, c7, rfl, hA7, hg7, hb7⟩; have HP7 := Lib.hid (HP.out.later hb7); have HA7 := Lib.hid hA7; have HG7 : Hid (w4.heap.size ≤ g7 ∧ g7 ≠ w4.heap.size) := Lib.hid (by have h1 := HP.out.1; omega); have B7 := Lib.hid (HB.out.trans (hb7.mono HB.out.size)); obtain ⟨z1, z2⟩ := HP7.out.2.2.1 i (Nat.le_refl _) hlt; have f1 := HP7.out.2.1 (i * 2); have f2 := HP7.out.2.1 (i * 2 + 1); clear hA7 hg7 hb7)
        | (go_at_call 72; refine (HLW.out.lies (a + 1 + i) (by have := HAL.out; have := HM20.out; omega) HK3.out).mono ?_; rintro e w6 ⟨⟨ad6, c6, rfl, hA6⟩, rfl⟩; have HA6 := Lib.hid hA6; clear hA6))
      go_roundw
      case rel => exact ⟨i + 1, by go_num, by omega, Lib.hid (HP7.out.put hlt HX.out HAX.out HG7.out HA7.out), Lib.hid ((B7.out.setCell (Nat.le_refl _) _).setCell (Nat.le_refl _) _)⟩
      case measure => simp [intOf]; omega
    · obtain rfl : i = to.length := by omega
      have HW : Hid (WIn (fun k => w.heap.size ≤ k ∧ k < wr.heap.size) wr (some ⟨w4.heap.size, 0, none⟩) to.length l) := Lib.hid ((HP.out.win HLL.out (by have := HM20.out; omega) (Nat.le_refl _)).imp (fun k hk => ⟨Nat.le_trans (B0.out.trans (B4.out.mono B0.out.size)).size hk.1, hk.2⟩))
      go_wp2_with fail
      go_ret2
      exact ⟨w4.heap.size, to.length, by rw [HLL.out]; rfl, by rw [HLL.out]; exact HW.out, (B0.out.trans (B4.out.mono B0.out.size)).trans (HB.out.mono (B0.out.trans (B4.out.mono B0.out.size)).size)⟩

end Go.Proofs.Ytbnepjojfaeggaa

namespace Go.Proofs.Ytbnepjojfaeggaa
open Go.RowKit
set_option linter.unusedVariables false
set_option linter.unusedSimpArgs false

theorem logAt_of {w : World} {ao : Option Addr} {cap : Nat} {Z : List (List Int)} (hR : RowsIn w ao 40 cap Z) (h64 : all64 Z = true) : ∃ b off, ao = some ⟨b, off, none⟩ ∧ ∀ W B, Below w.heap.size w W → W.cell? ⟨B, 0, none⟩ = some (.slice ao (40 : Nat) cap) → LogAt W B b off cap Z := by
  have hl : ∀ j, j < 40 → (Z.getD j []).length = 64 := fun j hj => by
    unfold all64 at h64
    have := List.all_eq_true.1 h64 (Z.getD j []) (by rw [List.getD_eq_getElem?_getD, List.getElem?_eq_getElem (by rw [hR.1]; exact hj)]; exact List.getElem_mem _)
    exact of_decide_eq_true this
  obtain ⟨b, off, _, _, rfl, _⟩ := hR.full (show 0 < 40 by decide) (hl 0 (by decide))
  refine ⟨b, off, rfl, fun W B hb hc => ⟨hc, hR.2.1, hR.1, fun j hj => ?_⟩⟩
  obtain ⟨b', off', ad, c, he, h1, h2⟩ := hR.full hj (hl j hj)
  simp only [Option.some.injEq, Addr.mk.injEq, and_true] at he
  obtain ⟨rfl, rfl⟩ := he
  exact ⟨ad, c, cell_later hb h1, h2.later hb⟩

theorem okLog_is {Z : List (List Int)} {a s : Int} : okLog Z a s = (PHead.sound ⟨a, s⟩ && ringB Z) := by
  unfold okLog PHead.sound ringB all64
  rw [Bool.eq_iff_iff]
  simp only [Bool.and_eq_true, decide_eq_true_eq]
  exact ⟨fun h => ⟨h.1.2, h.1.1, h.2⟩, fun h => ⟨⟨h.2.1, h.1⟩, h.2.2⟩⟩

/-- What holds at the label. -/
def AtNext (Z : List (List Int)) (at_ s : Int) (w1 : World) (B b off cap : Nat) (v : Value) (pre : List (List (Int × List Int))) (a : Nat) (q : Int) (w' : World) : Prop :=
  a < 40 ∧ s ≤ q ∧ q ≤ 1073741824 ∧ findF Z at_.toNat s = (pre ++ (findF Z a q).1, (findF Z a q).2) ∧ (pre.length : Int) = q - s ∧ FVar w1 (a : Int) q w' ∧ LogAt w' B b off cap Z ∧ LOwn (w1.heap.size + 2) w' v pre

set_option maxRecDepth 100000 in
set_option maxHeartbeats 3200000 in
theorem lFind_any {w : World} {ao : Option Addr} {len cap : Nat} {Z : List (List Int)} (at_ s : Int) (h1 : I64 at_) (h2 : I64 s) (hR : RowsIn w ao len cap Z) :
    Calls Try.prog 56 #[.slice ao len cap, .agg #[.int .i64 at_, .int .i64 s]] w (HandedF w.heap.size w (foundOut Z at_ s) (foundErr Z at_ s)) := by
  obtain ⟨w1, hW1⟩ : ∃ w1, w.alloc (.cells #[.slice ao len cap] 45) = w1 := ⟨_, rfl⟩
  have B1 : Hid (Below w.heap.size w w1) := Lib.hid (by rw [← hW1]; exact (Below.refl _ _).alloc (Nat.le_refl _) _)
  have hs1 : w1.heap.size = w.heap.size + 1 := by rw [← hW1]; simp
  have l1 : w1.cell? ⟨w.heap.size, 0, none⟩ = some (.slice ao len cap) := by rw [← hW1, World.cell?_alloc_new]; rfl
  obtain ⟨A0, hA0⟩ : ∃ A0, (w1.alloc (.cells #[.int .i64 at_, .int .i64 s] 58)).alloc (.cells #[.int .i64 0, .int .i64 0] 58) = A0 := ⟨_, rfl⟩
  have FV0 : FVar w1 at_ s A0 := by
    have hs2 : (w1.alloc (.cells #[.int .i64 at_, .int .i64 s] 58)).heap.size = w1.heap.size + 1 := by simp
    have hb : Below (w1.alloc (.cells #[.int .i64 at_, .int .i64 s] 58)).heap.size (w1.alloc (.cells #[.int .i64 at_, .int .i64 s] 58)) A0 := by rw [← hA0]; exact (Below.refl _ _).alloc (Nat.le_refl _) _
    refine ⟨by rw [← hA0]; exact ((Below.refl _ _).alloc (Nat.le_refl _) _).alloc (by simp) _, cell_later hb ?_, cell_later hb ?_, ?_, ?_, fun j => ?_, fun j => ?_⟩
    · rw [World.cell?_alloc_new]; rfl
    · rw [World.cell?_alloc_new]; rfl
    · rw [← hA0, ← hs2, World.cell?_alloc_new]; rfl
    · rw [← hA0, ← hs2, World.cell?_alloc_new]; rfl
    · rw [hb.frozen (p := ⟨w1.heap.size, j, none⟩) (by simp), World.frozen?_alloc_mark]; simp
    · rw [← hA0, ← hs2, World.frozen?_alloc_mark]; simp
  have HF0 : Hid (∀ W, Below A0.heap.size A0 W → FVar w1 at_ s W) := Lib.hid (fun W hb => FV0.later hb)
  have HB0 : Hid (∀ W, Below A0.heap.size A0 W → Below w.heap.size w W) := Lib.hid (fun W hb => B1.out.trans ((FV0.later hb).1.mono B1.out.size))
  have HLB : Hid (∀ W, Below A0.heap.size A0 W → W.cell? ⟨w.heap.size, 0, none⟩ = some (.slice ao len cap)) := Lib.hid (fun W hb => cell_later (FV0.later hb).1 l1)
  have HRL : Hid (∀ W, Below A0.heap.size A0 W → RowsIn W ao len cap Z) := Lib.hid (fun W hb => hR.later (HB0.out W hb))
  have cP := sput_any ⟨at_, s⟩ A0 ⟨h1, h2⟩
  have HIN := Lib.hid (And.intro h1 h2)
  have hok := okLog_is (Z := Z) (a := at_) (s := s)
  have a0 := FV0.2.1
  have a1 := FV0.2.2.1
  unfold PHead.val at cP
  have HBAD : Hid (∀ W, Below A0.heap.size A0 W → Below w.heap.size w ((W.setCell ⟨w1.heap.size + 1, 0, none⟩ (.int .i64 0)).setCell ⟨w1.heap.size + 1, 1, none⟩ (.int .i64 0))) := Lib.hid (fun W hb => ((HB0.out W hb).setCell (p := ⟨w1.heap.size + 1, 0, none⟩) (by show w.heap.size ≤ w1.heap.size + 1; omega) _).setCell (p := ⟨w1.heap.size + 1, 1, none⟩) (by show w.heap.size ≤ w1.heap.size + 1; omega) _)
  by_cases hok1 : okLog Z at_ s = true
  case neg =>
    have HE : Hid (foundErr Z at_ s = 2 ∧ foundOut Z at_ s = ([], 0, 0)) := Lib.hid (by unfold foundErr foundOut; rw [if_neg hok1, if_neg hok1]; exact ⟨rfl, rfl⟩)
    rw [Bool.not_eq_true] at hok1
    rw [hok1] at hok
    cases hS : PHead.sound ⟨at_, s⟩ with
    | false =>
      have e1 : headErr ⟨at_, s⟩ = 2 := by unfold headErr; rw [hS]; rfl
      rw [e1] at cP
      clear hok hok1 hS e1 h1 h2 hR l1 FV0 hs1
      go_enter Try.func56, Try.ntmps56
      go_wp2_with fail
      clear hA0 hW1
      refine wp_scope_again 0 (fun _ _ => False) (fun _ _ => 0) rfl ?_ (fun _ _ h => h.elim)
      intro hpass
      go_wp2_with (first | (go_at_call 58; refine cP.mono ?_; rintro e w2 ⟨v2, rfl, _, hb2⟩; have HB2 := Lib.hid hb2; have k0 := (HF0.out _ hb2).2.1; have k1 := (HF0.out _ hb2).2.2.1; have k2 := (HF0.out _ hb2).2.2.2.1; have k3 := (HF0.out _ hb2).2.2.2.2.1; have f2 := (HF0.out _ hb2).2.2.2.2.2.1; have f3 := (HF0.out _ hb2).2.2.2.2.2.2; have l0 := HLB.out _ hb2; have cR := ring_any (HRL.out _ hb2); clear hb2))
      simp only [Exit.jump]
      refine bodyPost_ret (v := .tuple #[.slice none 0 0, .agg #[.int .i64 0, .int .i64 0], .int .i64 2]) ?_ rfl ⟨none, 0, by rw [HE.out.1, HE.out.2]; rfl, by rw [HE.out.2]; exact LIn.nil _ _, (HBAD.out _ HB2.out)⟩
      rw [results_tct rfl]
      go_simp
      try rfl
    | true =>
      have hrg : ringB Z = false := by rw [hS, Bool.true_and] at hok; exact hok.symm
      have e1 : headErr ⟨at_, s⟩ = 0 := by unfold headErr; rw [hS]; rfl
      rw [e1] at cP
      have HRG := Lib.hid hrg
      clear hok hok1 hS e1 h1 h2 hR l1 FV0 hrg hs1
      go_enter Try.func56, Try.ntmps56
      go_wp2_with fail
      clear hA0 hW1
      refine wp_scope_again 0 (fun _ _ => False) (fun _ _ => 0) rfl ?_ (fun _ _ h => h.elim)
      intro hpass
      go_wp2_with (first | (go_at_call 71; refine cR.mono ?_; rintro e w3 ⟨rfl, rfl⟩; rw [HRG.out]) | (go_at_call 58; refine cP.mono ?_; rintro e w2 ⟨v2, rfl, _, hb2⟩; have HB2 := Lib.hid hb2; have k0 := (HF0.out _ hb2).2.1; have k1 := (HF0.out _ hb2).2.2.1; have k2 := (HF0.out _ hb2).2.2.2.1; have k3 := (HF0.out _ hb2).2.2.2.2.1; have f2 := (HF0.out _ hb2).2.2.2.2.2.1; have f3 := (HF0.out _ hb2).2.2.2.2.2.2; have l0 := HLB.out _ hb2; have cR := ring_any (HRL.out _ hb2); clear hb2))
      simp only [Exit.jump]
      refine bodyPost_ret (v := .tuple #[.slice none 0 0, .agg #[.int .i64 0, .int .i64 0], .int .i64 2]) ?_ rfl ⟨none, 0, by rw [HE.out.1, HE.out.2]; rfl, by rw [HE.out.2]; exact LIn.nil _ _, (HBAD.out _ HB2.out)⟩
      rw [results_tct rfl]
      go_simp
      try rfl
  rw [hok1] at hok
  have hS : PHead.sound ⟨at_, s⟩ = true := by
    cases h : PHead.sound ⟨at_, s⟩ with
    | true => rfl
    | false => rw [h] at hok; cases hok
  have hrg : ringB Z = true := by rw [hS, Bool.true_and] at hok; exact hok.symm
  have e1 : headErr ⟨at_, s⟩ = 0 := by unfold headErr; rw [hS]; rfl
  rw [e1] at cP
  have Hc : Hid (0 ≤ at_ ∧ at_ ≤ 39 ∧ 1 ≤ s ∧ s ≤ 1073741824) := Lib.hid (of_decide_eq_true hS)
  have hr2 : Z.length = 40 ∧ all64 Z = true := by unfold ringB at hrg; rw [Bool.and_eq_true, decide_eq_true_eq] at hrg; exact hrg
  have HRG := Lib.hid hrg
  obtain rfl : len = 40 := by rw [← hR.1, hr2.1]
  have HE : Hid (foundErr Z at_ s = 0 ∧ foundOut Z at_ s = ((findF Z at_.toNat s).1, ((findF Z at_.toNat s).2.1 : Int), (findF Z at_.toNat s).2.2)) := Lib.hid (by unfold foundErr foundOut; rw [hok1]; exact ⟨rfl, rfl⟩)
  obtain ⟨b, off, rfl, hLG⟩ := logAt_of hR hr2.2
  have HLG := Lib.hid hLG
  have hfin : ∀ (W : World) (ov : Value) (pre : List (List (Int × List Int))) (a : Nat) (q : Int), findF Z at_.toNat s = (pre, a, q) → FVar w1 (a : Int) q W → LOwn (w1.heap.size + 2) W ov pre → ∃ oa oc, ov = .slice oa pre.length oc ∧
      HandedF w.heap.size w (foundOut Z at_ s) (foundErr Z at_ s) (.returned (.tuple #[ov, .agg #[.int .i64 a, .int .i64 q], .int .i64 0])) (((W.setCell ⟨w1.heap.size + 1, 0, none⟩ (.int .i64 a)).setCell ⟨w1.heap.size + 1, 1, none⟩ (.int .i64 q)).drew) := fun W ov pre a q he hV hO => by
    have hK : Keeps (w1.heap.size + 1) W (((W.setCell ⟨w1.heap.size + 1, 0, none⟩ (.int .i64 a)).setCell ⟨w1.heap.size + 1, 1, none⟩ (.int .i64 q)).drew) := ((Keeps.set _ ⟨w1.heap.size + 1, 0, none⟩ _).trans (Keeps.set _ ⟨w1.heap.size + 1, 1, none⟩ _)).drew
    obtain ⟨oa, oc, rfl, hL⟩ := (hO.keeps hK (by omega)).lin (b0 := w.heap.size) (by omega)
    refine ⟨oa, oc, rfl, oa, oc, ?_, ?_, (((B1.out.trans (hV.1.mono B1.out.size)).setCell (p := ⟨w1.heap.size + 1, 0, none⟩) (by show w.heap.size ≤ w1.heap.size + 1; omega) _).setCell (p := ⟨w1.heap.size + 1, 1, none⟩) (by show w.heap.size ≤ w1.heap.size + 1; omega) _).drew⟩
    · rw [HE.out.1, HE.out.2, he]
    · rw [HE.out.2, he]; exact hL
  have HFIN := Lib.hid hfin
  have HS1 := Lib.hid hs1
  have HLC : Hid (∀ W, Below w1.heap.size w1 W → LogAt W w.heap.size b off cap Z) := Lib.hid (fun W hb => hLG W _ (B1.out.trans (hb.mono B1.out.size)) (cell_later hb l1))
  clear hok hok1 hS e1 h1 h2 hR l1 FV0 hrg hr2 hLG hfin hs1
  go_enter Try.func56, Try.ntmps56
  go_wp2_with fail
  clear hA0 hW1
  refine wp_scope_again 0 (fun a' w' => ∃ (v : Value) (pre : List (List (Int × List Int))) (a : Nat) (q : Int) (u7 u8 u11 u12 u13 u14 u15 u16 u17 u18 u19 u20 u21 u22 u23 u24 u25 u26 u27 u28 u29 u30 u31 u32 u33 u34 u35 u36 u37 u38 u39 u40 u41 u42 u43 u44 u45 u46 u47 u48 u49 u50 u51 : Value), a' = { tmps := #[.slice (some ⟨b, off, none⟩) (40 : Nat) cap, .agg #[.int .i64 at_, .int .i64 s], .pointer (some ⟨w.heap.size, 0, none⟩), .pointer (some ⟨w1.heap.size, 0, none⟩), .slice none 0 0, .pointer (some ⟨w1.heap.size + 1, 0, none⟩), .int .i64 0, u7, u8, .func (.func 72) #[] #[.pointer (some ⟨w.heap.size, 0, none⟩)], v, u11, u12, u13, u14, u15, u16, u17, u18, u19, u20, u21, u22, u23, u24, u25, u26, u27, u28, u29, u30, u31, u32, u33, u34, u35, u36, u37, u38, u39, u40, u41, u42, u43, u44, u45, u46, u47, u48, u49, u50, u51], defers := [] } ∧ Hid (AtNext Z at_ s w1 w.heap.size b off cap v pre a q w')) (fun _ w' => seqOf w1.heap.size w') rfl ?_ ?_
  · intro hpass
    go_wp2_with (first | (go_at_call 71; refine cR.mono ?_; rintro e w3 ⟨rfl, rfl⟩; rw [HRG.out]) | (go_at_call 58; refine cP.mono ?_; rintro e w2 ⟨v2, rfl, _, hb2⟩; have HB2 := Lib.hid hb2; have k0 := (HF0.out _ hb2).2.1; have k1 := (HF0.out _ hb2).2.2.1; have k2 := (HF0.out _ hb2).2.2.2.1; have k3 := (HF0.out _ hb2).2.2.2.2.1; have f2 := (HF0.out _ hb2).2.2.2.2.2.1; have f3 := (HF0.out _ hb2).2.2.2.2.2.2; have l0 := HLB.out _ hb2; have cR := ring_any (HRL.out _ hb2); clear hb2))
    go_step3
    rename_i hK0
    refine hK0 _ _ (hpass _ _ ?_)
    have hc := Hc.out
    refine ⟨.slice none 0 0, [], at_.toNat, s, _, _, _, _, _, _, _, _, _, _, _, _, _, _, _, _, _, _, _, _, _, _, _, _, _, _, _, _, _, _, _, _, _, _, _, _, _, _, _, _, _, _, _, rfl, Lib.hid ⟨by omega, Int.le_refl _, hc.2.2.2, rfl, by simp, ?_, HLG.out _ _ (HB0.out _ HB2.out) l0, ?_⟩⟩
    · rw [Int.toNat_of_nonneg hc.1]; exact HF0.out _ HB2.out
    · exact ⟨[], owns_nil_r _ _ _ _, fun j l h => by simp at h⟩
  · rintro a' w' ⟨v, pre, a, q, u7, u8, u11, u12, u13, u14, u15, u16, u17, u18, u19, u20, u21, u22, u23, u24, u25, u26, u27, u28, u29, u30, u31, u32, u33, u34, u35, u36, u37, u38, u39, u40, u41, u42, u43, u44, u45, u46, u47, u48, u49, u50, u51, rfl, HA⟩
    obtain ⟨ha, hq0, hq1, hF, hpl, hV, hL, hO⟩ := HA.out
    have HV := Lib.hid hV
    have HF := Lib.hid hF
    have HPL := Lib.hid hpl
    have HO := Lib.hid hO
    have HQ := Lib.hid (And.intro hq0 hq1)
    have k0 := hV.2.1
    have k1 := hV.2.2.1
    have hq64 : I64 q := by have := Hc.out; unfold I64; omega
    by_cases hno : q = 1073741824 ∨ txAt Z a q = none
    · have HFF : Hid (findF Z at_.toNat s = (pre, a, q)) := Lib.hid (by
        rcases hno with h | h
        · rw [hF, findF_end (by omega), List.append_nil]
        · rw [hF, findF_none h, List.append_nil])
      have cT := txNone_any a q ha hq64 hL hno
      clear HA ha hq0 hq1 hF hpl hV hL hO hno hq64
      go_wp2_with (go_at_call 73; refine cT.mono ?_; rintro e w3 ⟨rfl, hb3⟩; have HV3 := Lib.hid (HV.out.later hb3); have HO3 := Lib.hid (HO.out.later hb3); have k4 := HV3.out.2.1; have k5 := HV3.out.2.2.1; have k2 := HV3.out.2.2.2.1; have k3 := HV3.out.2.2.2.2.1; have f3 := HV3.out.2.2.2.2.2.2; clear hb3)
      obtain ⟨oa, oc, rfl, hfin⟩ := HFIN.out w3 v pre a q HFF.out HV3.out HO3.out
      have HFI := Lib.hid hfin
      clear hfin
      go_region
      all_goals
        go_wp2_with fail
        simp only [Exit.jump]
        refine bodyPost_ret (v := .tuple #[.slice oa pre.length oc, .agg #[.int .i64 (a : Int), .int .i64 q], .int .i64 0]) ?_ rfl HFI.out
        rw [results_tct rfl]
        go_simp
        try rfl
    · have hq2 : q ≠ 1073741824 := fun h => hno (Or.inl h)
      obtain ⟨l, hl⟩ : ∃ l, txAt Z a q = some l := by
        cases h : txAt Z a q with
        | none => exact absurd (Or.inr h) hno
        | some l => exact ⟨l, rfl⟩
      have cT := txSome_any a q ha hq64 hq2 hL l hl
      have hln := (tx_some hl).2.2.2
      have HLN := Lib.hid hln
      have HQ3 : Hid (q < 1073741824) := Lib.hid (by omega)
      have HF2 : Hid (findF Z at_.toNat s = ((pre ++ [l]) ++ (findF Z ((a + (l.length + 2)) % 40) (q + 1)).1, (findF Z ((a + (l.length + 2)) % 40) (q + 1)).2)) := Lib.hid (by rw [hF, findF_some hl HQ3.out, List.append_assoc]; rfl)
      obtain ⟨j, hj⟩ : ∃ j, (a + (l.length + 2)) % 40 = j := ⟨_, rfl⟩
      rw [hj] at HF2
      have HJ40 : Hid (j < 40) := Lib.hid (by omega)
      have i1 : (a : Int) < 40 := by omega
      have i20 : (l.length : Int) ≤ 20 := by omega
      have i00 : (0 : Int) ≤ (l.length : Int) := by omega
      have iq : q < 1073741824 := HQ3.out
      have iq0 : 1 ≤ q := by have := Hc.out; omega
      have x3 : Int.tmod ((a : Int) + (l.length : Int) + 2) 40 = (j : Int) := by rw [IntWalk.rem_in _ _ (by omega)]; omega
      obtain ⟨xs, ho, hxs⟩ := hO
      have HOW := Lib.hid ho
      have HXS := Lib.hid hxs
      have HLT := Lib.hid hV.lt
      have HPB : Hid (pre.length ≤ 1073741824) := Lib.hid (by have := Hc.out; omega)
      clear HA ha hq0 hq1 hF hpl hV hL hno hq64 hq2 hl hln hj ho hxs
      go_wp2_with (first
        | (go_at_call 73; refine cT.mono ?_; rintro e w3 ⟨g3, c3, rfl, hW3, hb3⟩; have HV3 := Lib.hid (HV.out.later hb3); have HW3 := Lib.hid hW3; have B3 := Lib.hid hb3; clear hb3 hW3)
        | (refine wp_append_at elemWs rfl (.tmp 37) (.tmp 39) rfl (w1.heap.size + 2) pre.length v xs rfl ((owns_later_r HOW.out B3.out).alloc _) ⟨w3.heap.size, 0, none⟩ 1 1 [.slice (some ⟨g3, 0, none⟩) l.length c3] rfl (by decide) rfl (news_f w3 [.slice (some ⟨g3, 0, none⟩) l.length c3] _) (by intro u hu; simp only [List.mem_cons, List.mem_nil_iff, or_false] at hu; rcases hu with rfl; rfl) (by have := HPB.out; omega) (by have := HLT.out; have := B3.out.size; simp; omega) ?_; intro v9 w9 hown9 hg9 hb9 hv9; have HL9 : Hid (LOwn (w1.heap.size + 2) w9 v9 (pre ++ [l])) := Lib.hid (LOwn.snoc HOW.out HXS.out B3.out HLT.out HW3.out hown9 hg9 hv9); have HV9 : Hid (FVar w1 (a : Int) q w9) := Lib.hid ((HV3.out.later ((Below.refl _ _).alloc (Nat.le_refl _) _)).under hb9 (by omega)); have k0 := HV9.out.2.1; have k1 := HV9.out.2.2.1; have f0 := HV9.out.2.2.2.2.2.1; clear hown9 hg9 hb9 hv9))
      have HVF := FVar.set (a' := (j : Int)) (s' := q + 1) HV9.out
      have hq9 := HQ.out
      go_step3
      refine ⟨rfl, ⟨⟨v9, pre ++ [l], j, q + 1, _, _, _, _, _, _, _, _, _, _, _, _, _, _, _, _, _, _, _, _, _, _, _, _, _, _, _, _, _, _, _, _, _, _, _, _, _, _, _, _, _, _, _, rfl, Lib.hid ⟨HJ40.out, by omega, by omega, HF2.out, ?_, HVF, HLC.out _ HVF.1, HL9.out.keeps ((Keeps.set _ ⟨w1.heap.size, 0, none⟩ _).trans (Keeps.set _ ⟨w1.heap.size, 1, none⟩ _)) (by show w1.heap.size < w1.heap.size + 2; omega)⟩⟩, ?_⟩⟩
      · rw [List.length_append]
        have := HPL.out
        simp
        omega
      · rw [seqOf_eq HVF, seqOf_eq HV.out]
        have := HQ3.out
        omega

end Go.Proofs.Ytbnepjojfaeggaa
