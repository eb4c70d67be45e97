/-
  Proved here: what the document's own Begins of a log answers.
  The conditions stand at each theorem.
-/
import Derived.Test.YtpmggbdmoopkfaaRef15E
import Derived.Laws.ResultCell
import Derived.Deep.Cut
import Derived.Deep.RegionLaw
namespace Go.Proofs.Ytpmggbdmoopkfaa
open Go.RowKit
set_option linter.unusedVariables false
set_option linter.unusedSimpArgs false

/-- What Begins hands back. -/
def HandedD (base : Nat) (w0 : World) (d : PDesc) (err : Int) (e : Ending) (w' : World) : Prop :=
  ∃ v, e = .returned (.tuple #[.agg #[.int .i64 d.seq, v], .int .i64 err]) ∧ FreshI w' base v d.to ∧ Below base w0 w'

theorem cell_under {base : Nat} {w w' : World} {p : Addr} {v : Value} (hb : Below base w w') (h : w.cell? p = some v) (hp : p.block < base) : w'.cell? p = some v := by
  rw [← h]
  unfold World.cell?
  rw [hb.block p.block hp]

theorem frozen_under {base : Nat} {w w' : World} {g : Nat} (hb : Below base w w') (h : ∀ j, w.frozen? ⟨g, j, none⟩ = false) (hp : g < base) : ∀ j, w'.frozen? ⟨g, j, none⟩ = false := fun j => by
  rw [World.frozen?_of_block (w := w) (a := ⟨g, j, none⟩) (hb.block g hp)]; exact h j

/-- A descriptor's variable: its number, and its list. -/
def DVar (w0 : World) (g : Nat) (s : Int) (sl : Value) (wr : World) : Prop :=
  Below w0.heap.size w0 wr ∧ wr.cell? ⟨g, 0, none⟩ = some (.int .i64 s) ∧ wr.cell? ⟨g, 1, none⟩ = some sl ∧ ∀ j, wr.frozen? ⟨g, j, none⟩ = false
theorem DVar.lt {w0 wr : World} {g : Nat} {s : Int} {sl : Value} (h : DVar w0 g s sl wr) : g < wr.heap.size := World.block_lt_of_cell? _ _ h.2.1
theorem DVar.later {w0 wr wx : World} {g : Nat} {s : Int} {sl : Value} (h : DVar w0 g s sl wr) (hb : Below wr.heap.size wr wx) : DVar w0 g s sl wx :=
  ⟨h.1.trans (hb.mono h.1.size), cell_later hb h.2.1, cell_later hb h.2.2.1, fun j => by rw [hb.frozen (p := ⟨g, j, none⟩) h.lt]; exact h.2.2.2 j⟩
theorem DVar.under {w0 wr wx : World} {g base : Nat} {s : Int} {sl : Value} (h : DVar w0 g s sl wr) (hb : Below base wr wx) (hg : g < base) (h0 : w0.heap.size ≤ g) : DVar w0 g s sl wx :=
  ⟨h.1.trans (hb.mono (by omega)), cell_under hb h.2.1 hg, cell_under hb h.2.2.1 hg, frozen_under hb h.2.2.2 hg⟩
theorem DVar.setSl {w0 wr : World} {g : Nat} {s : Int} {sl sl' : Value} (h : DVar w0 g s sl wr) (hg : w0.heap.size ≤ g) : DVar w0 g s sl' (wr.setCell ⟨g, 1, none⟩ sl') :=
  ⟨h.1.setCell (p := ⟨g, 1, none⟩) hg _, by rw [World.cell?_setCell_other (h := by simp)]; exact h.2.1, World.cell?_setCell_same wr _ _ h.2.2.1, fun j => by simpa using h.2.2.2 j⟩
theorem DVar.drew {w0 wr : World} {g : Nat} {s : Int} {sl : Value} (h : DVar w0 g s sl wr) : DVar w0 g s sl wr.drew := ⟨h.1.drew, h.2.1, h.2.2.1, fun j => h.2.2.2 j⟩
theorem dvar_new (w0 : World) (s : Int) : DVar w0 w0.heap.size s (.slice none 0 0) (w0.alloc (.cells #[.int .i64 s, .slice none 0 0] 24)) := by
  refine ⟨(Below.refl _ _).alloc (Nat.le_refl _) _, ?_, ?_, fun j => by rw [World.frozen?_alloc_mark]; simp⟩
  · rw [World.cell?_alloc_new]; rfl
  · rw [World.cell?_alloc_new]; rfl

theorem owns_setCell {w : World} {base n sz g k : Nat} {e : TypeId} {v u : Value} {xs : List Value} (h : w.ownsRow base e sz v n xs) (hg : g < base) : (w.setCell ⟨g, k, none⟩ u).ownsRow base e sz v n xs := by
  refine ⟨h.1, ?_⟩
  rcases h.2 with h2 | ⟨g', cap, cur, hv, hg', hh, rest⟩
  · exact Or.inl h2
  · refine Or.inr ⟨g', cap, cur, hv, hg', ?_, rest⟩
    rw [Below.heap_setCell _ _ _ _ (by show g' ≠ g; omega)]
    exact hh

theorem owns_drew {w : World} {base n sz : Nat} {e : TypeId} {v : Value} {xs : List Value} (h : w.ownsRow base e sz v n xs) : w.drew.ownsRow base e sz v n xs := h

/-- The numbers that are read, so far. -/
def toR (zs : List Int) (i : Nat) : List Int := (List.range i).map fun (k : Nat) => leN zs (10 + 2 * k) 2
theorem toR_step (zs : List Int) (i : Nat) : toR zs (i + 1) = toR zs i ++ [leN zs (10 + 2 * i) 2] := by
  unfold toR
  rw [List.range_succ, List.map_append]
  rfl

theorem one_new (w : World) (x : Int) : (w.alloc (.cells #[.int .i64 x] 3)).cell? ⟨w.heap.size, 0, none⟩ = some (.int .i64 x) := by rw [World.cell?_alloc_new]; rfl

set_option maxHeartbeats 1600000 in
theorem RBegins_any (ao : Option Addr) (len cap : Nat) (zs : List Int) (w : World) (hA : Bts w ao len zs) : Calls Try.prog 12 #[.slice ao len cap] w (HandedD w.heap.size w (getBeg zs) (getBegErr zs)) := by
  have hB := hA
  have B0 : Hid (Below w.heap.size w (w.alloc (.cells #[.int .i64 0, .slice none 0 0] 24))) := Lib.hid ((Below.refl _ _).alloc (Nat.le_refl _) _)
  by_cases h64 : len = 64
  case neg =>
    have hI : isBeg zs = false := by unfold isBeg; rw [hB.1, decide_eq_false (fun h => h64 h.1)]; rfl
    have HE : Hid (getBegErr zs = 2 ∧ getBeg zs = ⟨0, []⟩) := Lib.hid (by unfold getBegErr getBeg; rw [hI]; exact ⟨rfl, rfl⟩)
    have hne : ((len : Int) == 64) = false := by simp; omega
    have hne2 : ((len : Int) != 64) = true := by simp; omega
    clear hI hB hA
    go_enter Try.func12, Try.ntmps12
    go_wp2_with fail
    refine bodyPost_ret (v := .tuple #[.agg #[.int .i64 0, .slice none 0 0], .int .i64 2]) ?_ rfl ⟨.slice none 0 0, by rw [HE.out.1, HE.out.2], by rw [HE.out.2]; exact FreshI.nil _ _, B0.out⟩
    rw [results_cell_tmp rfl]
    go_simp
    try rfl
  subst h64
  have HB := Lib.hid hB
  obtain ⟨g, off, rfl, hc⟩ := hB.2.2.2.resolve_left (by decide)
  have f8 := hc 8 (by decide)
  have b8 := hB.2.2.1 _ (getD_mem (l := zs) (k := 8) (by rw [hB.1]; decide))
  obtain ⟨x8, HX8⟩ : ∃ x, Hid (zs.getD 8 0 = x) := ⟨_, Lib.hid rfl⟩
  rw [HX8.out] at f8 b8
  have hw8 : IntKind.i64.wrap x8 = x8 := by rw [IntKind.wrap_i64]; omega
  have HF8 := Lib.hid f8
  have f8' := cell_later B0.out f8
  by_cases h20 : x8 ≤ 20
  case neg =>
    have hI : isBeg zs = false := by unfold isBeg; rw [HX8.out, decide_eq_false (fun h => h20 h.2)]; rfl
    have HE : Hid (getBegErr zs = 2 ∧ getBeg zs = ⟨0, []⟩) := Lib.hid (by unfold getBegErr getBeg; rw [hI]; exact ⟨rfl, rfl⟩)
    have hgt : 20 < x8 := by omega
    clear hI hB hA hc h20
    go_enter Try.func12, Try.ntmps12
    go_wp2_with fail
    refine bodyPost_ret (v := .tuple #[.agg #[.int .i64 0, .slice none 0 0], .int .i64 2]) ?_ rfl ⟨.slice none 0 0, by rw [HE.out.1, HE.out.2], by rw [HE.out.2]; exact FreshI.nil _ _, B0.out⟩
    rw [results_cell_tmp rfl]
    go_simp
    try rfl
  obtain ⟨s, HS⟩ : ∃ x, Hid (leN zs 4 4 = x) := ⟨_, Lib.hid rfl⟩
  have CN := Lib.hid (fun W (hW : Below w.heap.size w W) (p k : Int) (h1 : p.toNat + k.toNat ≤ 64) (h2 : k.toNat ≤ 4) (h3 : 0 ≤ p ∧ 0 ≤ k) => num15 (cap := cap) (zs := zs) (HB.out.later hW) h2 h1 h3)
  clear hA hB hc
  obtain ⟨n8, rfl⟩ := Int.eq_ofNat_of_zero_le b8.1
  have H8 := Lib.hid b8
  clear b8
  have NV : Hid (DVar (w.alloc (.cells #[.int .i64 0, .slice none 0 0] 24)) (w.heap.size + 1) s (.slice none 0 0) ((w.alloc (.cells #[.int .i64 0, .slice none 0 0] 24)).alloc (.cells #[.int .i64 s, .slice none 0 0] 24))) := Lib.hid (by
    have h := dvar_new (w.alloc (.cells #[.int .i64 0, .slice none 0 0] 24)) s
    rw [World.size_alloc] at h
    exact h)
  go_enter Try.func12, Try.ntmps12
  go_wp2_with (first | (go_at_call 33; refine (CN.out _ B0.out _ _ (by decide) (by decide) (by decide)).mono ?_; rintro e w' ⟨rfl, rfl⟩; rw [show leN zs (Int.toNat 4) (Int.toNat 4) = s from HS.out]))
  go_loopw [5] (fun iv wr => ∃ (i : Nat) (vv : Value), iv = .int .i64 (i : Int) ∧ i ≤ n8 ∧ Hid (DVar (w.alloc (.cells #[.int .i64 0, .slice none 0 0] 24)) (w.heap.size + 1) s vv wr) ∧ Hid (wr.ownsRow (w.heap.size + 2) 3 1 vv i (ints (toR zs i)))) (fun iv _ => n8 - (intOf iv).toNat)
  case atStart => exact ⟨0, _, rfl, Nat.zero_le _, NV, Lib.hid (owns_nil_r _ _ _ _)⟩
  case round =>
    obtain ⟨i, vv, rfl, hi, HV, HO⟩ := hrel
    have BR : Hid (Below w.heap.size w wr) := Lib.hid (B0.out.trans (HV.out.1.mono B0.out.size))
    have f8r := cell_later BR.out HF8.out
    by_cases hlt : i < n8
    · have i1 : (i : Int) < (n8 : Int) := by omega
      have c1 := HV.out.2.2.1
      have r1 := HV.out.2.2.2
      have HSZ : Hid (w.heap.size + 2 ≤ wr.heap.size) := Lib.hid HV.out.lt
      have c1d : wr.drew.cell? ⟨w.heap.size + 1, 1, none⟩ = some vv := c1
      have CI : Hid (Calls Try.prog 33 #[.slice (some ⟨g, off, none⟩) (64 : Nat) cap, .int .i64 (IntKind.i64.wrap (10 + IntKind.i64.wrap (2 * (i : Int)))), .int .i64 2] wr.drew fun e w' => e = .returned (.int .i64 (leN zs (10 + 2 * i) 2)) ∧ w' = wr.drew) := Lib.hid (by
        have h := CN.out wr.drew BR.out.drew (10 + 2 * (i : Int)) 2 (by have := H8.out; omega) (by decide) (by omega)
        rw [show (10 + 2 * (i : Int)).toNat = 10 + 2 * i by omega] at h
        rw [show IntKind.i64.wrap (10 + IntKind.i64.wrap (2 * (i : Int))) = 10 + 2 * (i : Int) by rw [IntKind.wrap_i64, IntKind.wrap_i64]; omega]
        exact h)
      have HST := Lib.hid (toR_step zs i)
      obtain ⟨y, HY⟩ : ∃ y, Hid (leN zs (10 + 2 * i) 2 = y) := ⟨_, Lib.hid rfl⟩
      rw [HY.out] at CI HST
      have c1a : ∀ x, (wr.drew.alloc (.cells #[.int .i64 x] 3)).cell? ⟨w.heap.size + 1, 1, none⟩ = some vv := fun x => cell_later ((Below.refl _ _).alloc (Nat.le_refl _) _) c1d
      have c1b : ∀ x, (wr.alloc (.cells #[.int .i64 x] 3)).cell? ⟨w.heap.size + 1, 1, none⟩ = some vv := fun x => cell_later ((Below.refl _ _).alloc (Nat.le_refl _) _) c1
      go_wp2_with fail
      go_region_law (first
        | (go_simp; go_at_call 33; refine CI.out.mono ?_; rintro e w3 ⟨rfl, rfl⟩)
        | (refine step_append_one (o := ⟨some 37, _, _, _, _, _⟩) elemI rfl (.tmp 30) (.tmp 36) rfl (w.heap.size + 2) _ vv _ rfl ((owns_drew HO.out).alloc _) ⟨wr.heap.size, 0, none⟩ 1 (.int .i64 y) rfl (one_new wr.drew y) rfl rfl (by have := H8.out; omega) (by have := HSZ.out; simp; omega) ?_; intro v4 w4 hown4 hb4; obtain ⟨ao4, cp4, rfl⟩ := owns_shape_r hown4; have HO4 := Lib.hid hown4; have NV4 := Lib.hid ((HV.out.drew.later ((Below.refl _ _).alloc (Nat.le_refl _) (.cells #[.int .i64 y] 3))).under hb4 (by omega) (by simp)); have c4 := NV4.out.2.2.1; have f4 := NV4.out.2.2.2; clear hown4 hb4))
      all_goals
        go_wp2_with fail
        go_roundw
        case rel => exact ⟨i + 1, _, by go_num, by omega, Lib.hid (NV4.out.setSl (by simp)), Lib.hid (by rw [HST.out, ints_append]; exact owns_setCell HO4.out (by omega))⟩
        case measure => simp [intOf]; omega
    · obtain rfl : i = n8 := by omega
      obtain ⟨ad, cd, rfl⟩ := owns_shape_r HO.out
      have HF : Hid (∀ W, W.ownsRow (w.heap.size + 2) 3 1 (.slice ad i cd) i (ints (toR zs i)) → FreshI W w.heap.size (.slice ad i cd) (toR zs i)) := Lib.hid (fun W h => (fresh_of_ints h (by
        intro z hz
        unfold toR at hz
        obtain ⟨k, hk, rfl⟩ := List.mem_map.1 hz
        have hk := List.mem_range.1 hk
        have h20 := H8.out
        have := leN_four HB.out.2.2.1 (10 + 2 * k) 2 (by rw [HB.out.1]; omega) (by decide)
        unfold I64
        omega) (by have := H8.out; omega)).mono (by omega))
      have hIA : IArg wr ad i cd (toR zs i) := by
        obtain ⟨a, c, he, hI, _⟩ := HF.out wr HO.out
        have hl : (toR zs i).length = i := by unfold toR; rw [List.length_map, List.length_range]
        rw [hl] at he hI
        simp only [Value.slice.injEq, true_and] at he
        obtain ⟨rfl, rfl⟩ := he
        exact hI
      have cE := RBegin_any s hIA
      have HRD : Hid (readD zs = ⟨s, toR zs i⟩) := Lib.hid (by unfold readD; rw [HX8.out, HS.out]; rfl)
      obtain ⟨E, O, hEO⟩ : ∃ E O, begErr ⟨s, toR zs i⟩ = E ∧ begOut ⟨s, toR zs i⟩ = O := ⟨_, _, rfl, rfl⟩
      rw [hEO.1, hEO.2] at cE
      have HEO := Lib.hid hEO
      clear hEO hIA
      have H3 : Hid ((E = 2 ∧ getBegErr zs = 2 ∧ getBeg zs = ⟨0, []⟩) ∨ (E = 0 ∧ ((str O).toList == (str zs).toList) = true ∧ getBegErr zs = 0 ∧ getBeg zs = ⟨s, toR zs i⟩) ∨ (E = 0 ∧ ((str O).toList == (str zs).toList) = false ∧ getBegErr zs = 2 ∧ getBeg zs = ⟨0, []⟩)) := Lib.hid (by
        obtain ⟨e1, e2⟩ := HEO.out
        have hi : isBeg zs = (soundD ⟨s, toR zs i⟩ && decide (begB ⟨s, toR zs i⟩ = zs)) := by
          unfold isBeg
          rw [HX8.out, HRD.out, decide_eq_true (And.intro HB.out.1 (by have := H8.out; omega)), Bool.true_and]
        unfold getBegErr getBeg
        rw [hi, HRD.out]
        unfold begErr begOut at *
        by_cases hs : soundD ⟨s, toR zs i⟩ = true
        · rw [if_pos hs] at e1 e2
          have hv : ((str O).toList == (str zs).toList) = decide (O = zs) := str_eq (by rw [← e2]; exact sealOf_bytes (begL_bytes _)) HB.out.2.2.1
          rw [hv, hs, Bool.true_and, e2]
          by_cases ho : O = zs
          · right; left
            rw [decide_eq_true ho]
            exact ⟨e1.symm, rfl, rfl, rfl⟩
          · right; right
            rw [decide_eq_false ho]
            exact ⟨e1.symm, rfl, rfl, rfl⟩
        · left
          rw [if_neg hs] at e1
          rw [Bool.not_eq_true] at hs
          rw [hs]
          exact ⟨e1.symm, rfl, rfl⟩)
      have c0 := HV.out.2.1
      have c1 := HV.out.2.2.1
      have HW0 : Hid (∀ W, Below (w.alloc (.cells #[.int .i64 0, .slice none 0 0] 24)).heap.size (w.alloc (.cells #[.int .i64 0, .slice none 0 0] 24)) W → W.cell? ⟨w.heap.size, 0, none⟩ = some (.int .i64 0) ∧ W.cell? ⟨w.heap.size, 1, none⟩ = some (.slice none 0 0) ∧ ∀ j, W.frozen? ⟨w.heap.size, j, none⟩ = false) := Lib.hid (fun W hW => ⟨cell_later hW (by rw [World.cell?_alloc_new]; rfl), cell_later hW (by rw [World.cell?_alloc_new]; rfl), fun j => by rw [hW.frozen (p := ⟨w.heap.size, j, none⟩) (by simp), World.frozen?_alloc_mark]; simp⟩)
      rcases H3.out with ⟨h1, h2, h3⟩ | ⟨h1, h4, h2, h3⟩ | ⟨h1, h4, h2, h3⟩
      all_goals
        subst h1
        have G2 := Lib.hid h2
        have G3 := Lib.hid h3
        clear h2 h3
        go_wp2_with (go_at_call 10; refine cE.mono ?_; rintro e w5 ⟨v5, rfl, hf5, hb5⟩; have NV5 := Lib.hid (HV.out.later hb5); have O5 := Lib.hid (owns_later_r HO.out hb5); have B5 := Lib.hid (BR.out.trans (hb5.mono BR.out.size)); have k1 := fresh_str hf5; have k2 := str_bytes (cap := cap) (HB.out.later B5.out); obtain ⟨q0, q1, q2⟩ := HW0.out w5 NV5.out.1; have d0 := NV5.out.2.1; have d1 := NV5.out.2.2.1; clear hf5 hb5)
      all_goals
        refine bodyPost_ret (v := .tuple #[.agg #[.int .i64 (getBeg zs).seq, if getBegErr zs = 0 then .slice ad i cd else .slice none 0 0], .int .i64 (getBegErr zs)]) ?_ rfl ⟨_, rfl, ?_, ((B5.out.setCell (Nat.le_refl _) _).setCell (Nat.le_refl _) _)⟩
        · rw [G2.out, G3.out, results_cell_tmp rfl]
          go_simp
          try rfl
        · rw [G2.out, G3.out]
          first
            | exact FreshI.nil _ _
            | exact HF.out _ (owns_setCell (owns_setCell O5.out (by omega)) (by omega))

end Go.Proofs.Ytpmggbdmoopkfaa
