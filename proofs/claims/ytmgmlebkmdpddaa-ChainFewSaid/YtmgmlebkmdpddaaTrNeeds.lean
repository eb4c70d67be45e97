/-
  Proved here: what the landed tree's chart answers: which pages are needed (needs).
  The conditions stand at each theorem.
-/
import Derived.Test.YtmgmlebkmdpddaaTrUsed
namespace Go.Proofs.Ytmgmlebkmdpddaa
open Go.RowKit
set_option linter.unusedVariables false
set_option linter.unusedSimpArgs false

/-- Block g is a chart: its 159 numbers. -/
def ChartAt (w : World) (g : Nat) (L : List Int) : Prop := L.length = 159 ∧ w.rangeAt g 0 (ints L)
def pageL (L : List Int) (i : Nat) : List Int := (L.drop (4 + i * 30)).take 30
def needsB (L : List Int) (i : Nat) : Bool := if i = 1 then [pageL L 2, pageL L 3, pageL L 4].any (fun p => p.any nzB) else (pageL L i).any nzB

theorem pageL_length {L : List Int} (h : L.length = 159) {i : Nat} (hi : i < 5) : (pageL L i).length = 30 := by
  unfold pageL
  rw [List.length_take, List.length_drop]
  omega

theorem range_part {w : World} {g : Nat} {L : List Int} (h : w.rangeAt g 0 (ints L)) (o n : Nat) : w.rangeAt g o (ints ((L.drop o).take n)) := fun j v hj => by
  rw [ints_take, ints_drop, List.getElem?_take] at hj
  split at hj
  · rw [List.getElem?_drop] at hj
    have := h _ v hj
    rwa [Nat.zero_add] at this
  · cases hj

theorem ChartAt.page {w : World} {g : Nat} {L : List Int} (h : ChartAt w g L) (i : Nat) : w.rangeAt g (4 + i * 30) (ints (pageL L i)) := range_part h.2 _ _
theorem ChartAt.later {w wx : World} {g : Nat} {L : List Int} (h : ChartAt w g L) (hb : Below w.heap.size w wx) : ChartAt wx g L := ⟨h.1, fun j v hj => cell_later hb (h.2 j v hj)⟩

theorem any_take_p {p : List Int → Bool} {l : List (List Int)} {i : Nat} {x : List Int} (h : l[i]? = some x) (h0 : (l.take i).any p = false) : (l.take (i + 1)).any p = p x := by
  rw [List.take_add_one, h, List.any_append, h0]
  simp
theorem any_of_take_p {p : List Int → Bool} {l : List (List Int)} {i : Nat} (h : (l.take i).any p = true) : l.any p = true := by
  rw [List.any_eq_true] at h ⊢
  obtain ⟨x, hx, hp⟩ := h
  exact ⟨x, List.mem_of_mem_take hx, hp⟩

def anyP (p : List Int) : Bool := p.any nzB

set_option maxRecDepth 100000 in
set_option maxHeartbeats 1600000 in
theorem indexU_any {w : World} {g : Nat} {ps : List (List Int)} (h3 : ps.length = 3) (hp : ∀ i p, ps[i]? = some p → p.length = 30 ∧ w.rangeAt g (64 + i * 30) (ints p)) :
    Calls Try.prog 62 #[.slice (some ⟨g, 64, none⟩) (3 : Nat) (3 : Nat), .func (.func 58) #[] #[]] w fun e w' => ∃ r : Int, e = .returned (.int .i64 r) ∧ decide (0 ≤ r) = ps.any anyP ∧ Below w.heap.size w w' := by
  have HP := Lib.hid hp
  have HL := Lib.hid h3
  clear hp h3
  go_enter Try.func62, Try.ntmps62
  go_wp2_with fail
  go_loopw [8] (fun iv wr => ∃ i : Nat, iv = .int .i64 (i : Int) ∧ i ≤ 3 ∧ Hid (Below w.heap.size w wr) ∧ Hid ((ps.take i).any anyP = false)) (fun iv _ => 3 - (intOf iv).toNat)
  case atStart => exact ⟨0, rfl, Nat.zero_le _, Lib.hid (Below.refl _ _), Lib.hid rfl⟩
  case round =>
    obtain ⟨i, rfl, hi, HB, HQ⟩ := hrel
    by_cases hlt : i < 3
    · obtain ⟨x, hx⟩ : ∃ x, ps[i]? = some x := ⟨_, List.getElem?_eq_getElem (by rw [HL.out]; exact hlt)⟩
      obtain ⟨hl, hr⟩ := HP.out i x hx
      have hr : wr.rangeAt g (64 + i * 30) (ints x) := fun j v hj => cell_later HB.out (hr j v hj)
      have HI := Lib.hid (iPage hl)
      have HR := Lib.hid hr
      have cF := fun W => used_any x W hl
      unfold pageV at cF
      have i1 : (i : Int) < 3 := by omega
      have HX := Lib.hid hx
      have HV : Hid ((ps.take (i + 1)).any anyP = x.any nzB) := Lib.hid (any_take_p HX.out HQ.out)
      obtain ⟨B, hB⟩ : ∃ B, x.any nzB = B := ⟨_, rfl⟩
      rw [hB] at HV cF
      clear hx hr hl hB
      cases B with
      | true =>
        have HT := Lib.hid (any_of_take_p HV.out)
        clear HV
        go_wp2_with (first | (refine wpList_load_mid rfl 97 (.tmp 14) rfl g (64 + i * 30) rfl (ints x) _ HR.out uPage rfl HI.out ?_) | (go_at_call 58; refine (cF _).mono ?_; rintro e w3 ⟨rfl, hb3⟩; have HB3 := Lib.hid hb3; clear hb3))
        go_ret
        exact ⟨(i : Int), rfl, by rw [HT.out]; exact decide_eq_true (by omega), HB.out.trans (HB3.out.mono HB.out.size)⟩
      | false =>
        go_wp2_with (first | (refine wpList_load_mid rfl 97 (.tmp 14) rfl g (64 + i * 30) rfl (ints x) _ HR.out uPage rfl HI.out ?_) | (go_at_call 58; refine (cF _).mono ?_; rintro e w3 ⟨rfl, hb3⟩; have HB3 := Lib.hid hb3; clear hb3))
        go_roundw
        case rel => exact ⟨i + 1, by go_num, by omega, Lib.hid (HB.out.trans (HB3.out.mono HB.out.size)), HV⟩
        case measure => simp [intOf]; omega
    · have hin : i = 3 := by omega
      subst hin
      go_wp2_with fail
      go_ret
      refine ⟨-1, rfl, ?_, HB.out⟩
      have h := HQ.out
      rw [← HL.out, List.take_length] at h
      rw [h]
      rfl

set_option maxHeartbeats 800000 in
theorem containsU_any {w : World} {g : Nat} {ps : List (List Int)} (h3 : ps.length = 3) (hp : ∀ i p, ps[i]? = some p → p.length = 30 ∧ w.rangeAt g (64 + i * 30) (ints p)) :
    Calls Try.prog 57 #[.slice (some ⟨g, 64, none⟩) (3 : Nat) (3 : Nat), .func (.func 58) #[] #[]] w fun e w' => e = .returned (.bool (ps.any anyP)) ∧ Below w.heap.size w w' := by
  have c := indexU_any h3 hp
  clear h3 hp
  go_enter Try.func57, Try.ntmps57
  go_wp2_with (go_at_call 62; refine c.mono ?_; rintro e w2 ⟨r, rfl, hr, hb⟩; have HR := Lib.hid hr; have HB := Lib.hid hb; clear hr hb)
  go_ret
  exact ⟨by rw [← HR.out]; rfl, HB.out⟩

set_option maxRecDepth 100000 in
set_option maxHeartbeats 1600000 in
/-- Is a page needed? -/
theorem needs_any {w : World} {g i : Nat} {L : List Int} (hC : ChartAt w g L) (hi : i < 5) :
    Calls Try.prog 47 #[.pointer (some ⟨g, 0, none⟩), .int .i64 i] w fun e w' => e = .returned (.bool (needsB L i)) ∧ Below w.heap.size w w' := by
  by_cases h1 : i = 1
  · subst h1
    have c := containsU_any (w := w) (g := g) (ps := [pageL L 2, pageL L 3, pageL L 4]) rfl (fun k p hk => by
      match k, hk with
      | 0, hk => cases hk; exact ⟨pageL_length hC.1 (by decide), hC.page 2⟩
      | 1, hk => cases hk; exact ⟨pageL_length hC.1 (by decide), hC.page 3⟩
      | 2, hk => cases hk; exact ⟨pageL_length hC.1 (by decide), hC.page 4⟩
      | k + 3, hk => simp at hk)
    have HN : Hid (needsB L 1 = [pageL L 2, pageL L 3, pageL L 4].any anyP) := Lib.hid rfl
    obtain ⟨B, hB⟩ : ∃ B, [pageL L 2, pageL L 3, pageL L 4].any anyP = B := ⟨_, rfl⟩
    rw [hB] at HN c
    clear hC hB
    go_enter Try.func47, Try.ntmps47
    go_wp2_with (go_at_call 57; refine c.mono ?_; rintro e w2 ⟨rfl, hb⟩; have HB := Lib.hid hb; clear hb)
    go_ret
    exact ⟨by rw [HN.out]; rfl, HB.out⟩
  · have HR := Lib.hid (hC.page i)
    have hl := pageL_length hC.1 hi
    have HI := Lib.hid (iPage hl)
    have c := fun W => used_any (pageL L i) W hl
    unfold pageV at c
    have HN : Hid (needsB L i = (pageL L i).any nzB) := Lib.hid (by unfold needsB; rw [if_neg h1])
    obtain ⟨B, hB⟩ : ∃ B, (pageL L i).any nzB = B := ⟨_, rfl⟩
    rw [hB] at HN c
    have i5 : (i : Int) < 5 := by omega
    have n1 : ((i : Int) == 1) = false := by simp; omega
    clear hC hB hl
    go_enter Try.func47, Try.ntmps47
    go_wp2_with (first | (refine wpList_load_mid rfl 97 (.tmp 16) rfl g (4 + i * 30) rfl (ints (pageL L i)) _ HR.out uPage rfl HI.out ?_) | (go_at_call 58; refine (c _).mono ?_; rintro e w2 ⟨rfl, hb⟩; have HB := Lib.hid hb; clear hb))
    go_ret
    exact ⟨by rw [HN.out]; rfl, HB.out⟩

end Go.Proofs.Ytmgmlebkmdpddaa
