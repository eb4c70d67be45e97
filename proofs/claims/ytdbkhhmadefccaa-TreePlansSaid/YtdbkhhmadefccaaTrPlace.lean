/-
  Proved here: how the landed tree gives each page that is needed a block (place).
  The conditions stand at each theorem.
-/
import Derived.Test.YtdbkhhmadefccaaTrWrite
namespace Go.Proofs.Ytdbkhhmadefccaa
open Go.RowKit
set_option linter.unusedVariables false
set_option linter.unusedSimpArgs false

/-- A chart whose first i pages have their blocks. -/
def placeL (L fs : List Int) : Nat → List Int
  | 0 => L
  | i + 1 => if needsB L i = true then (placeL L fs i).set (154 + i) (fs.getD (usedN L i) 0) else placeL L fs i

theorem placeL_length (L fs : List Int) : ∀ i, (placeL L fs i).length = L.length
  | 0 => rfl
  | i + 1 => by
    unfold placeL
    split
    · rw [List.length_set, placeL_length L fs i]
    · exact placeL_length L fs i

theorem placeL_low (L fs : List Int) : ∀ i j, j < 154 → (placeL L fs i)[j]? = L[j]?
  | 0, _, _ => rfl
  | i + 1, j, h => by
    unfold placeL
    split
    · rw [List.getElem?_set_ne (by omega), placeL_low L fs i j h]
    · exact placeL_low L fs i j h

theorem page_low {L M : List Int} (h : ∀ j, j < 154 → M[j]? = L[j]?) {k : Nat} (hk : k < 5) : pageL M k = pageL L k := by
  unfold pageL
  apply List.ext_getElem?
  intro i
  rw [List.getElem?_take, List.getElem?_take]
  split
  · rw [List.getElem?_drop, List.getElem?_drop, h _ (by omega)]
  · rfl

theorem needs_low {L M : List Int} (h : ∀ j, j < 154 → M[j]? = L[j]?) {k : Nat} (hk : k < 5) : needsB M k = needsB L k := by
  unfold needsB
  rw [page_low h (by decide : 2 < 5), page_low h (by decide : 3 < 5), page_low h (by decide : 4 < 5), page_low h hk]

def placedL (L fs : List Int) : List Int := lay (placeL L fs 5) 34 (((placeL L fs 5).drop 156).take 3)

theorem usedN_mono (L : List Int) {i j : Nat} (h : i ≤ j) : usedN L i ≤ usedN L j := by
  induction h with
  | refl => exact Nat.le_refl _
  | step _ ih => rw [usedN_succ]; omega

theorem restI (w : World) {ao : Option Addr} {len cap k : Nat} {fs : List Int} (h : IArg w ao len cap fs) (hk : k < len) : ∃ b off, ao = some ⟨b, off, none⟩ ∧ IArg w (some ⟨b, off + k, none⟩) (len - k) (cap - k) (fs.drop k) ∧ w.cell? ⟨b, off + k, none⟩ = some (.int .i64 (fs.getD k 0)) ∧ fs[k]? = some (fs.getD k 0) := by
  obtain ⟨b, off, x, rfl, hx, hc, _⟩ := h.at hk
  refine ⟨b, off, rfl, h.drop (by omega), ?_, ?_⟩
  · rw [hc, List.getD_eq_getElem?_getD, hx]; rfl
  · rw [List.getD_eq_getElem?_getD, hx]; rfl

/-- The fresh blocks that are left, as a slice: from the k-th on, where there are any. -/
def LeftI (ao : Option Addr) (len cap k : Nat) (v : Value) : Prop := (∃ a, v = .slice a (len - k) (cap - k)) ∧ (k < len → ∀ b off, ao = some ⟨b, off, none⟩ → v = .slice (some ⟨b, off + k, none⟩) (len - k) (cap - k))

theorem placeL_i64 {L fs : List Int} (hL : ∀ z ∈ L, I64 z) (hf : ∀ z ∈ fs, I64 z) : ∀ i, ∀ z ∈ placeL L fs i, I64 z
  | 0, z, hz => hL z hz
  | i + 1, z, hz => by
    unfold placeL at hz
    split at hz
    · rcases List.mem_or_eq_of_mem_set hz with h | rfl
      · exact placeL_i64 hL hf i z h
      · by_cases hu : usedN L i < fs.length
        · rw [List.getD_eq_getElem?_getD, List.getElem?_eq_getElem hu]
          exact hf _ (List.getElem_mem _)
        · rw [getD_behind _ _ (by omega)]
          exact ⟨by decide, by decide⟩
    · exact placeL_i64 hL hf i z hz

set_option maxRecDepth 100000 in
set_option maxHeartbeats 6400000 in
theorem place_any (g : Nat) (L : List Int) (w0 w : World) (hO : OwnV w0.heap.size w0 g (ints L) w) (hL : L.length = 159) (hz : ∀ z ∈ L, I64 z) (ao : Option Addr) (len cap : Nat) (fs : List Int) (hA : IArg w0 ao len cap fs) (hn : usedN L 5 ≤ len) :
    Calls Try.prog 24 #[.pointer (some ⟨g, 0, none⟩), .slice ao len cap] w fun e w' => e = .returned (.tuple #[]) ∧ OwnV w0.heap.size w0 g (ints (placedL L fs)) w' := by
  have HO := Lib.hid hO
  have HL := Lib.hid hL
  have HA := Lib.hid hA
  have HN := Lib.hid hn
  have hlc := hA.2.2.2
  have HZ := Lib.hid (placeL_i64 (fs := fs) hz hA.2.1)
  clear hO hL hA hn hz
  have HV0 : Hid (LeftI ao len cap (usedN L 0) (.slice ao len cap)) := Lib.hid ⟨⟨ao, rfl⟩, fun _ b off h => by rw [h]; rfl⟩
  go_enter Try.func24, Try.ntmps24
  go_wp2_with fail
  go_loopw [1, 5] (fun sv iv wr => ∃ i : Nat, iv = .int .i64 (i : Int) ∧ i ≤ 5 ∧ Hid (LeftI ao len cap (usedN L i) sv) ∧ Hid (OwnV w0.heap.size w0 g (ints (placeL L fs i)) wr)) (fun _ iv _ => 5 - (intOf iv).toNat)
  case atStart => exact ⟨0, rfl, Nat.zero_le _, HV0, HO⟩
  case round =>
    obtain ⟨i, rfl, hi, HV, HR⟩ := hrel
    by_cases hlt : i < 5
    · have HPL : Hid ((placeL L fs i).length = 159) := Lib.hid (by rw [placeL_length, HL.out])
      have cN := needs_any (chart_of_own HR.out HPL.out) hlt
      rw [needs_low (placeL_low L fs i) hlt] at cN
      have i1 : (i : Int) < 5 := by omega
      have hu := usedN_succ L i
      cases hb : needsB L i with
      | false =>
        rw [hb] at cN hu
        have HU : Hid (usedN L (i + 1) = usedN L i) := Lib.hid hu
        have HPS : Hid (placeL L fs (i + 1) = placeL L fs i) := Lib.hid (by show (if needsB L i = true then _ else _) = _; rw [hb]; rfl)
        clear hb hu
        go_wp2_with (go_at_call 20; refine cN.mono ?_; rintro e w5 ⟨rfl, b5⟩; have B5 := Lib.hid b5; clear b5)
        go_roundw
        case rel => exact ⟨i + 1, by go_num, by omega, Lib.hid (by rw [HU.out]; exact HV.out), Lib.hid (by rw [HPS.out]; exact HR.out.later B5.out (by intro h; have := congrArg List.length h; rw [ints_length, HPL.out] at this; simp at this))⟩
        case measure => simp [intOf]; omega
      | true =>
        rw [hb] at cN hu
        have hu2 : usedN L i < len := by
          have h1 := usedN_mono L (show i + 1 ≤ 5 by omega)
          have h2 := HN.out
          have : (true : Bool).toNat = 1 := rfl
          omega
        have HU : Hid (usedN L (i + 1) = usedN L i + 1) := Lib.hid hu
        obtain ⟨b, off, rfl, hR, hc, _⟩ := restI _ (HA.out.later HR.out.2.2.2) hu2
        obtain rfl := HV.out.2 hu2 b off rfl
        have HPS : Hid (placeL L fs (i + 1) = (placeL L fs i).set (154 + i) (fs.getD (usedN L i) 0)) := Lib.hid (by show (if needsB L i = true then _ else _) = _; rw [hb]; rfl)
        have HU2 := Lib.hid hu2
        obtain ⟨U, hU⟩ : ∃ U, usedN L i = U := ⟨_, rfl⟩
        rw [hU] at HU HPS HU2 hc hu2 ⊢
        have HCELL := Lib.hid hc
        clear hb hu hU hR
        go_wp2_with (go_at_call 20; refine cN.mono ?_; rintro e w5 ⟨rfl, b5⟩; have B5 := Lib.hid b5; clear b5)
        have HO5 : Hid (OwnV w0.heap.size w0 g (ints (placeL L fs i)) w5) := Lib.hid (HR.out.later B5.out (by intro h; have := congrArg List.length h; rw [ints_length, HPL.out] at this; simp at this))
        have hcl : w5.cell? ⟨b, off + U, none⟩ = some (.int .i64 (fs.getD U 0)) := cell_later B5.out HCELL.out
        have hc4 := HO5.out.1 (154 + i) _ (ints_get (x := (placeL L fs i).getD (154 + i) 0) (by rw [List.getD_eq_getElem?_getD, List.getElem?_eq_getElem (by rw [HPL.out]; omega)]; rfl))
        have hf4 := HO5.out.2.1 (154 + i)
        have HST : Hid (OwnV w0.heap.size w0 g (ints (placeL L fs (i + 1))) (w5.setCell ⟨g, 154 + i, none⟩ (.int .i64 (fs.getD U 0)))) := Lib.hid (by
          have h := HO5.out.store (k := 154 + i) (y := .int .i64 (fs.getD U 0)) (by rw [ints_length, HPL.out]; omega)
          rw [← ints_set, ← HPS.out] at h
          exact h)
        obtain ⟨l', hl'⟩ : ∃ l', len - U = l' := ⟨_, rfl⟩
        obtain ⟨c', hc'⟩ : ∃ c', cap - U = c' := ⟨_, rfl⟩
        have HLE : Hid (len - (U + 1) = l' - 1 ∧ cap - (U + 1) = c' - 1) := Lib.hid ⟨by omega, by omega⟩
        have l1 : 1 ≤ l' := by omega
        have l2 : l' ≤ c' := by omega
        rw [hl', hc']
        have l3 : (0 : Int) < (l' : Int) := by omega
        have n0 : 0 < l' := by omega
        have n1 : 1 ≤ c' := by omega
        have n2 : 0 < c' := by omega
        have n3 : i < 5 := hlt
        have l4 : (1 : Int) ≤ (l' : Int) := by omega
        have l5 : (1 : Int) ≤ (c' : Int) := by omega
        have i0 : (0 : Int) ≤ (i : Int) := by omega
        generalize (placeL L fs i).getD (154 + i) 0 = y at *
        generalize fs.getD U 0 = x at *
        clear hl' hc' hu2 hc
        have e1 : 154 + i * 1 = 154 + i := by omega
        by_cases hc1 : c' = 1
        · go_region
          all_goals go_wp2_with fail
          go_roundw
          case rel => exact ⟨i + 1, by go_num, by omega, Lib.hid (by
            rw [HU.out]
            have := HLE.out
            exact ⟨⟨_, by rw [this.1, this.2, hc1]⟩, fun h => by omega⟩), Lib.hid HST.out.drew⟩
          case measure => simp [intOf]; omega
        · go_region
          all_goals go_wp2_with fail
          go_roundw
          case rel => exact ⟨i + 1, by go_num, by omega, Lib.hid (by
            rw [HU.out]
            have := HLE.out
            exact ⟨⟨_, by rw [this.1, this.2]⟩, fun _ b' off' e => by
              simp only [Option.some.injEq, Addr.mk.injEq, and_true] at e
              obtain ⟨rfl, rfl⟩ := e
              rw [this.1, this.2, Nat.add_assoc]⟩), Lib.hid HST.out.drew⟩
          case measure => simp [intOf]; omega
    · obtain rfl : i = 5 := by omega
      have HPL : Hid ((placeL L fs 5).length = 159) := Lib.hid (by rw [placeL_length, HL.out])
      have HSRC : Hid (IArg wr.drew (some ⟨g, 156, none⟩) 3 3 (((placeL L fs 5).drop 156).take 3)) := Lib.hid (by
        have hl : (((placeL L fs 5).drop 156).take 3).length = 3 := by rw [List.length_take, List.length_drop, HPL.out]; decide
        have := iarg_of_range (w := wr.drew) (b := g) (off := 156) (cap := 3) (zs := ((placeL L fs 5).drop 156).take 3) (range_part (own_range HR.out.drew) 156 3) (fun z hz => HZ.out 5 z (List.mem_of_mem_drop (List.mem_of_mem_take hz))) (by omega) (by omega)
        rwa [hl] at this)
      have HCC := Lib.hid (own_copy_ints (off := 34) (len := 30) (cap := 30) HR.out.drew (by rw [HPL.out]; decide) _ _ _ _ HSRC.out 3)
      have HEND : Hid (lay (placeL L fs 5) 34 ((((placeL L fs 5).drop 156).take 3).take 30) = placedL L fs) := Lib.hid (by
        unfold placedL
        rw [List.take_of_length_le (l := ((placeL L fs 5).drop 156).take 3) (by rw [List.length_take]; omega)])
      go_wp2_with fail
      refine wp_region_still_tail 9 (by kernel_rfl) (by kernel_rfl) ?_
      simp only [List.take_succ_cons, List.take_zero, List.drop_succ_cons, List.drop_zero]
      try rw [drew_of_r]
      iterate 9 still_step
      refine wpStill_nil ?_
      go_wp2_with (refine wp_copy rfl (.tmp 26) (.tmp 30) 22 22 rfl _ _ rfl rfl _ HCC.out ?_; rintro v5 w5 ⟨rfl, hO5, hK5⟩; have HO5 := Lib.hid hO5; have HK5 := Lib.hid hK5; clear hO5 hK5)
      go_end0
      rw [HEND.out] at HO5
      exact ⟨rfl, HO5.out⟩

end Go.Proofs.Ytdbkhhmadefccaa
