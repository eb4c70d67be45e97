/-
  Proved here: what the landed node's toSlots answers.
  The conditions stand at each theorem.
-/
import Derived.Test.YtojfhhmjoledjaaNSnd
import Derived.Laws.ResultCell
namespace Go.Proofs.Ytojfhhmjoledjaa
open Go.RowKit
set_option linter.unusedVariables false
set_option linter.unusedSimpArgs false

theorem results_one9 {fn : Func} {p : Tmp} {ty : TypeId} (h : fn.results = #[.cell p ty]) (tmps : Array Value) (P : Program) (w : World) :
    (results fn tmps).run P w = ((asAddr (tmps.getD p undef)).run P w).andThen fun a w₁ => (loadVar ty a).run P w₁ := by
  simp only [results, h]
  simp [Sem.run_bind, Result.andThen]

/-- The numbers of extents, one behind the other. -/
def flatX (xs : List PX) : List Int := xs.flatMap fun x => [x.a, x.f, x.c]
def slotI (xs : List PX) (j : Nat) : Int := (flatX xs).getD j 0
def slotsV (xs : List PX) : Value := .agg #[.int .i64 (slotI xs 0), .int .i64 (slotI xs 1), .int .i64 (slotI xs 2), .int .i64 (slotI xs 3), .int .i64 (slotI xs 4), .int .i64 (slotI xs 5), .int .i64 (slotI xs 6), .int .i64 (slotI xs 7), .int .i64 (slotI xs 8)]

theorem flatX_length (xs : List PX) : (flatX xs).length = xs.length * 3 := by
  unfold flatX
  induction xs with
  | nil => rfl
  | cons p r ih => rw [List.flatMap_cons, List.length_append, ih]; show 3 + _ = _; rw [List.length_cons]; omega

theorem slotI_step {xs : List PX} {i : Nat} {x : PX} (h : xs[i]? = some x) (j : Nat) : slotI (xs.take (i + 1)) j = if j = 3 * i then x.a else if j = 3 * i + 1 then x.f else if j = 3 * i + 2 then x.c else slotI (xs.take i) j := by
  have hi := (List.getElem?_eq_some_iff.1 h).1
  have hl : (flatX (xs.take i)).length = 3 * i := by rw [flatX_length, List.length_take]; omega
  unfold slotI
  rw [take_at h, show flatX (xs.take i ++ [x]) = flatX (xs.take i) ++ [x.a, x.f, x.c] by unfold flatX; rw [List.flatMap_append]; rfl]
  rw [List.getD_eq_getElem?_getD, List.getD_eq_getElem?_getD]
  by_cases h0 : j < 3 * i
  · rw [List.getElem?_append_left (by omega), if_neg (by omega), if_neg (by omega), if_neg (by omega)]
  · rw [List.getElem?_append_right (by omega), hl]
    by_cases h1 : j = 3 * i
    · rw [if_pos h1, h1, Nat.sub_self]; rfl
    · rw [if_neg h1]
      by_cases h2 : j = 3 * i + 1
      · rw [if_pos h2, h2, show 3 * i + 1 - 3 * i = 1 by omega]; rfl
      · rw [if_neg h2]
        by_cases h3 : j = 3 * i + 2
        · rw [if_pos h3, h3, show 3 * i + 2 - 3 * i = 2 by omega]; rfl
        · rw [if_neg h3, List.getElem?_eq_none (by show 3 ≤ j - 3 * i; omega), List.getElem?_eq_none (by omega)]

/-- Block g holds nine numbers, and may be written; what was there is as it was. -/
def Nine (w0 : World) (g : Nat) (L : Nat → Int) (wr : World) : Prop :=
  Below w0.heap.size w0 wr ∧ (∀ j, j < 9 → wr.cell? ⟨g, j, none⟩ = some (.int .i64 (L j))) ∧ ∀ j, wr.frozen? ⟨g, j, none⟩ = false

theorem Nine.alloc {w0 wr : World} {g : Nat} {L : Nat → Int} (h : Nine w0 g L wr) (o : Obj) : Nine w0 g L (wr.alloc o) := by
  have hb : Below wr.heap.size wr (wr.alloc o) := (Below.refl _ _).alloc (Nat.le_refl _) _
  have hg : g < wr.heap.size := World.block_lt_of_cell? _ _ (h.2.1 0 (by decide))
  exact ⟨h.1.trans (hb.mono h.1.size), fun j hj => cell_later hb (h.2.1 j hj), fun j => by rw [hb.frozen (p := ⟨g, j, none⟩) hg]; exact h.2.2 j⟩

theorem Nine.set {w0 wr : World} {g k : Nat} {L : Nat → Int} (h : Nine w0 g L wr) (hg : w0.heap.size ≤ g) (hk : k < 9) (x : Int) : Nine w0 g (fun j => if j = k then x else L j) (wr.setCell ⟨g, k, none⟩ (.int .i64 x)) := by
  refine ⟨h.1.setCell (p := ⟨g, k, none⟩) hg _, fun j hj => ?_, fun j => by simpa using h.2.2 j⟩
  show (wr.setCell ⟨g, k, none⟩ (.int .i64 x)).cell? ⟨g, j, none⟩ = some (.int .i64 (if j = k then x else L j))
  by_cases e : j = k
  · subst e
    rw [if_pos rfl]
    exact World.cell?_setCell_same wr _ _ (h.2.1 j hj)
  · rw [if_neg e, World.cell?_setCell_other (h := by intro e'; exact e (by simpa using (congrArg Addr.off e').symm))]
    exact h.2.1 j hj

theorem Nine.congr {w0 wr : World} {g : Nat} {L M : Nat → Int} (h : Nine w0 g L wr) (he : ∀ j, j < 9 → L j = M j) : Nine w0 g M wr :=
  ⟨h.1, fun j hj => by rw [h.2.1 j hj, he j hj], h.2.2⟩

/-- Another block than the one that is written. -/
def Zeros9 (g : Nat) (wr : World) : Prop := (∀ j, j < 9 → wr.cell? ⟨g, j, none⟩ = some (.int .i64 0)) ∧ ∀ j, wr.frozen? ⟨g, j, none⟩ = false
theorem Zeros9.alloc {wr : World} {g : Nat} (h : Zeros9 g wr) (o : Obj) : Zeros9 g (wr.alloc o) := by
  have hb : Below wr.heap.size wr (wr.alloc o) := (Below.refl _ _).alloc (Nat.le_refl _) _
  have hg : g < wr.heap.size := World.block_lt_of_cell? _ _ (h.1 0 (by decide))
  exact ⟨fun j hj => cell_later hb (h.1 j hj), fun j => by rw [hb.frozen (p := ⟨g, j, none⟩) hg]; exact h.2 j⟩
theorem Zeros9.set {wr : World} {g g' k : Nat} {v : Value} (h : Zeros9 g wr) (hne : g' ≠ g) : Zeros9 g (wr.setCell ⟨g', k, none⟩ v) :=
  ⟨fun j hj => by rw [World.cell?_setCell_other (h := by intro e; exact hne (by simpa using congrArg Addr.block e))]; exact h.1 j hj, fun j => by simpa using h.2 j⟩

theorem zeros_cells (w : World) (T : TypeId) : Zeros9 w.heap.size (w.alloc (.cells #[.int .i64 0, .int .i64 0, .int .i64 0, .int .i64 0, .int .i64 0, .int .i64 0, .int .i64 0, .int .i64 0, .int .i64 0] T)) := by
  refine ⟨fun j hj => ?_, fun j => by rw [World.frozen?_alloc_mark]; simp⟩
  rw [World.cell?_alloc_new]
  match j, hj with
  | 0, _ | 1, _ | 2, _ | 3, _ | 4, _ | 5, _ | 6, _ | 7, _ | 8, _ => rfl

set_option maxRecDepth 100000 in
set_option maxHeartbeats 6400000 in
theorem toSlots_any {w : World} {ao : Option Addr} {m cap : Nat} {xs : List PX} (hX : XIs w ao m xs) (hr : ∀ x ∈ xs, runOk x.f x.c = true ∧ smallX x) :
    Calls Try.prog 33 #[.slice ao m cap] w fun e w' => e = .returned (slotsV xs) ∧ Below w.heap.size w w' := by
  have hm := hX.2.1
  have HX := Lib.hid hX
  have HR := Lib.hid hr
  have HXL := Lib.hid hX.1
  have SC := st_cx
  clear hX hr
  have HZ0 : Hid (Zeros9 w.heap.size ((w.alloc (.cells #[.int .i64 0, .int .i64 0, .int .i64 0, .int .i64 0, .int .i64 0, .int .i64 0, .int .i64 0, .int .i64 0, .int .i64 0] 45)).alloc (.cells #[.int .i64 0, .int .i64 0, .int .i64 0, .int .i64 0, .int .i64 0, .int .i64 0, .int .i64 0, .int .i64 0, .int .i64 0] 45))) := Lib.hid ((zeros_cells w _).alloc _)
  have HN0 : Hid (Nine w (w.heap.size + 1) (fun _ => 0) ((w.alloc (.cells #[.int .i64 0, .int .i64 0, .int .i64 0, .int .i64 0, .int .i64 0, .int .i64 0, .int .i64 0, .int .i64 0, .int .i64 0] 45)).alloc (.cells #[.int .i64 0, .int .i64 0, .int .i64 0, .int .i64 0, .int .i64 0, .int .i64 0, .int .i64 0, .int .i64 0, .int .i64 0] 45))) := Lib.hid (by
    have h := zeros_cells (w.alloc (.cells #[.int .i64 0, .int .i64 0, .int .i64 0, .int .i64 0, .int .i64 0, .int .i64 0, .int .i64 0, .int .i64 0, .int .i64 0] 45)) 45
    rw [World.size_alloc] at h
    exact ⟨((Below.refl _ _).alloc (Nat.le_refl _) _).alloc (by simp) _, h.1, h.2⟩)
  go_enter Try.func33, Try.ntmps33
  go_wp2_with fail
  go_loopw [11] (fun iv wr => ∃ i : Int, iv = .int .i64 i ∧ (0 ≤ i ∧ i ≤ m) ∧ Hid (Nine w (w.heap.size + 1) (slotI (xs.take i.toNat)) wr) ∧ Hid (Zeros9 w.heap.size wr)) (fun iv _ => m - (intOf iv).toNat)
  case atStart => exact ⟨0, rfl, by omega, Lib.hid (HN0.out.congr (fun j hj => by unfold slotI; rfl)), HZ0⟩
  case round =>
    obtain ⟨i, rfl, hi, HN, HZ⟩ := hrel
    by_cases hlt : i < m
    · obtain ⟨b, off, x, p, q, rfl, hx, hmem, c1, c2, f1, f2⟩ := HX.out.at (i := i.toNat) (by omega)
      have d1 : wr.cell? ⟨b, off + i.toNat * 2, none⟩ = some (.int .i64 x.a) := cell_later HN.out.1 c1
      have d2 : wr.cell? ⟨b, off + i.toNat * 2 + 1, none⟩ = some (.complex .f64 p q) := cell_later HN.out.1 c2
      have hok := HR.out x hmem
      have cP := fun W => Parts_gen (.complex .f64 p q) x.f x.c W ⟨_, _, rfl, f1, f2⟩ hok.2.2
      unfold partA partB partE at cP
      rw [if_pos hok.1, if_pos hok.1, if_pos hok.1] at cP
      have HS := Lib.hid (slotI_step hx)
      have HA := Lib.hid (HN.out.alloc (.cells #[.int .i64 x.a, .complex .f64 p q] 40))
      have HZA := Lib.hid (HZ.out.alloc (.cells #[.int .i64 x.a, .complex .f64 p q] 40))
      clear hx hmem c1 c2 f1 f2 hok
      obtain ⟨a, f, c⟩ := x
      simp only at *
      have hi3 : i < 3 := by omega
      obtain rfl | rfl | rfl : i = 0 ∨ i = 1 ∨ i = 2 := by omega
      · have d1' : wr.cell? ⟨b, off, none⟩ = some (.int .i64 a) := d1
        have d2' : wr.cell? ⟨b, off + 1, none⟩ = some (.complex .f64 p q) := d2
        clear d1 d2
        have g0 := HA.out.2.1 0 (by decide)
        have g1 := HA.out.2.1 1 (by decide)
        have g2 := HA.out.2.1 2 (by decide)
        have k0 := HA.out.2.2 0
        have k1 := HA.out.2.2 1
        have k2 := HA.out.2.2 2
        generalize slotI (xs.take (Int.toNat 0)) 0 = y0 at g0
        generalize slotI (xs.take (Int.toNat 0)) 1 = y1 at g1
        generalize slotI (xs.take (Int.toNat 0)) 2 = y2 at g2
        have j1 : (0 : Int) < (m : Int) := by omega
        go_wp2_with (go_at_call 48; refine (cP _).mono ?_; rintro e' w3 ⟨rfl, rfl⟩)
        go_roundw
        case rel => exact ⟨1, by go_num, by omega, Lib.hid ((((HA.out.set (Nat.le_succ _) (k := 0) (by decide) a).set (Nat.le_succ _) (k := 1) (by decide) f).set (Nat.le_succ _) (k := 2) (by decide) c).congr (fun j hj => by
          refine Eq.trans ?_ (show (if j = 0 then a else if j = 1 then f else if j = 2 then c else slotI (xs.take 0) j) = slotI (xs.take 1) j from (HS.out j).symm)
          by_cases h1 : j = 0
          · subst h1; rfl
          · by_cases h2 : j = 1
            · subst h2; rfl
            · by_cases h3 : j = 2
              · subst h3; rfl
              · rw [if_neg h3, if_neg h2, if_neg h1, if_neg h1, if_neg h2, if_neg h3]; rfl)), Lib.hid (((HZA.out.set (by omega)).set (by omega)).set (by omega))⟩
        case measure => simp [intOf]; omega
      · have d1' : wr.cell? ⟨b, off + 2, none⟩ = some (.int .i64 a) := d1
        have d2' : wr.cell? ⟨b, off + 3, none⟩ = some (.complex .f64 p q) := d2
        clear d1 d2
        have g0 := HA.out.2.1 3 (by decide)
        have g1 := HA.out.2.1 4 (by decide)
        have g2 := HA.out.2.1 5 (by decide)
        have k0 := HA.out.2.2 3
        have k1 := HA.out.2.2 4
        have k2 := HA.out.2.2 5
        generalize slotI (xs.take (Int.toNat 1)) 3 = y0 at g0
        generalize slotI (xs.take (Int.toNat 1)) 4 = y1 at g1
        generalize slotI (xs.take (Int.toNat 1)) 5 = y2 at g2
        have j1 : (1 : Int) < (m : Int) := by omega
        go_wp2_with (go_at_call 48; refine (cP _).mono ?_; rintro e' w3 ⟨rfl, rfl⟩)
        go_roundw
        case rel => exact ⟨2, by go_num, by omega, Lib.hid ((((HA.out.set (Nat.le_succ _) (k := 3) (by decide) a).set (Nat.le_succ _) (k := 4) (by decide) f).set (Nat.le_succ _) (k := 5) (by decide) c).congr (fun j hj => by
          refine Eq.trans ?_ (show (if j = 3 then a else if j = 4 then f else if j = 5 then c else slotI (xs.take 1) j) = slotI (xs.take 2) j from (HS.out j).symm)
          by_cases h1 : j = 3
          · subst h1; rfl
          · by_cases h2 : j = 4
            · subst h2; rfl
            · by_cases h3 : j = 5
              · subst h3; rfl
              · rw [if_neg h3, if_neg h2, if_neg h1, if_neg h1, if_neg h2, if_neg h3]; rfl)), Lib.hid (((HZA.out.set (by omega)).set (by omega)).set (by omega))⟩
        case measure => simp [intOf]; omega
      · have d1' : wr.cell? ⟨b, off + 4, none⟩ = some (.int .i64 a) := d1
        have d2' : wr.cell? ⟨b, off + 5, none⟩ = some (.complex .f64 p q) := d2
        clear d1 d2
        have g0 := HA.out.2.1 6 (by decide)
        have g1 := HA.out.2.1 7 (by decide)
        have g2 := HA.out.2.1 8 (by decide)
        have k0 := HA.out.2.2 6
        have k1 := HA.out.2.2 7
        have k2 := HA.out.2.2 8
        generalize slotI (xs.take (Int.toNat 2)) 6 = y0 at g0
        generalize slotI (xs.take (Int.toNat 2)) 7 = y1 at g1
        generalize slotI (xs.take (Int.toNat 2)) 8 = y2 at g2
        have j1 : (2 : Int) < (m : Int) := by omega
        go_wp2_with (go_at_call 48; refine (cP _).mono ?_; rintro e' w3 ⟨rfl, rfl⟩)
        go_roundw
        case rel => exact ⟨3, by go_num, by omega, Lib.hid ((((HA.out.set (Nat.le_succ _) (k := 6) (by decide) a).set (Nat.le_succ _) (k := 7) (by decide) f).set (Nat.le_succ _) (k := 8) (by decide) c).congr (fun j hj => by
          refine Eq.trans ?_ (show (if j = 6 then a else if j = 7 then f else if j = 8 then c else slotI (xs.take 2) j) = slotI (xs.take 3) j from (HS.out j).symm)
          by_cases h1 : j = 6
          · subst h1; rfl
          · by_cases h2 : j = 7
            · subst h2; rfl
            · by_cases h3 : j = 8
              · subst h3; rfl
              · rw [if_neg h3, if_neg h2, if_neg h1, if_neg h1, if_neg h2, if_neg h3]; rfl)), Lib.hid (((HZA.out.set (by omega)).set (by omega)).set (by omega))⟩
        case measure => simp [intOf]; omega
    · have hin : i = m := by omega
      subst hin
      have e0 : (m : Int).toNat = m := by omega
      rw [e0, ← HXL.out, List.take_length] at HN
      have n0 := HN.out.2.1 0 (by decide)
      have z0 := HZ.out.1 0 (by decide)
      have r0 := HZ.out.2 0
      have n1 := HN.out.2.1 1 (by decide)
      have z1 := HZ.out.1 1 (by decide)
      have r1 := HZ.out.2 1
      have n2 := HN.out.2.1 2 (by decide)
      have z2 := HZ.out.1 2 (by decide)
      have r2 := HZ.out.2 2
      have n3 := HN.out.2.1 3 (by decide)
      have z3 := HZ.out.1 3 (by decide)
      have r3 := HZ.out.2 3
      have n4 := HN.out.2.1 4 (by decide)
      have z4 := HZ.out.1 4 (by decide)
      have r4 := HZ.out.2 4
      have n5 := HN.out.2.1 5 (by decide)
      have z5 := HZ.out.1 5 (by decide)
      have r5 := HZ.out.2 5
      have n6 := HN.out.2.1 6 (by decide)
      have z6 := HZ.out.1 6 (by decide)
      have r6 := HZ.out.2 6
      have n7 := HN.out.2.1 7 (by decide)
      have z7 := HZ.out.1 7 (by decide)
      have r7 := HZ.out.2 7
      have n8 := HN.out.2.1 8 (by decide)
      have z8 := HZ.out.1 8 (by decide)
      have r8 := HZ.out.2 8
      have HB := Lib.hid HN.out.1
      go_wp2_with fail
      refine bodyPost_ret (v := slotsV xs) ?_ rfl ⟨rfl, (((((((((HB.out.setCell (Nat.le_refl _) _).setCell (Nat.le_refl _) _).setCell (Nat.le_refl _) _).setCell (Nat.le_refl _) _).setCell (Nat.le_refl _) _).setCell (Nat.le_refl _) _).setCell (Nat.le_refl _) _).setCell (Nat.le_refl _) _).setCell (Nat.le_refl _) _)⟩
      rw [results_one9 rfl]
      unfold slotsV
      go_simp
      try rfl

end Go.Proofs.Ytojfhhmjoledjaa
