/-
  Proved here: what the landed disk says of a list of writes ahead of any (fault): the error that is told first.
  The conditions stand at each theorem.
-/
import Derived.Test.YtinlbmlgfneolaaDevRes
namespace Go.Proofs.Ytinlbmlgfneolaa
open Go.RowKit
set_option linter.unusedVariables false
set_option linter.unusedSimpArgs false

def wAgg (x : Int) (ad : Option Addr) (l c : Nat) : Value := .agg #[.int .i64 x, .slice ad l c]

set_option maxHeartbeats 800000 in
theorem fault1_any (x : Int) (ad : Option Addr) (l c : Nat) (w : World) : Calls Try.prog 31 #[wAgg x ad l c] w fun e w' => e = .returned (.bool (decide (l ≠ 64))) ∧ Below w.heap.size w w' := by
  unfold wAgg
  by_cases h : l = 64
  · subst h
    go_enter Try.func31, Try.ntmps31
    go_wp2_with fail
    go_ret
    exact ⟨rfl, (Below.refl _ _).alloc (Nat.le_refl _) _⟩
  · have hne : ((l : Int) != 64) = true := by simp; omega
    rw [decide_eq_true h]
    go_enter Try.func31, Try.ntmps31
    go_wp2_with fail
    go_ret
    exact ⟨rfl, (Below.refl _ _).alloc (Nat.le_refl _) _⟩

set_option maxHeartbeats 800000 in
theorem fault2_any (x : Int) (ad : Option Addr) (l c q d n cg : Nat) (ag : Option Addr) (w : World) (hq : w.cell? ⟨q, 0, none⟩ = some (.pointer (some ⟨d, 0, none⟩))) (hd : w.cell? ⟨d, 3, none⟩ = some (.slice ag n cg)) :
    Calls Try.prog 32 #[wAgg x ad l c, .pointer (some ⟨q, 0, none⟩)] w fun e w' => e = .returned (.bool (decide (x < 0 ∨ (n : Int) ≤ x))) ∧ Below w.heap.size w w' := by
  unfold wAgg
  have hb : Below w.heap.size w (w.alloc (.cells #[.int .i64 x, .slice ad l c] 54)) := (Below.refl _ _).alloc (Nat.le_refl _) _
  have hq1 := cell_later hb hq
  have c1 := has_of (blocks_d (cell_later hb hd)) x
  have e : (!decide (0 ≤ x ∧ x < (n : Int))) = decide (x < 0 ∨ (n : Int) ≤ x) := by
    by_cases h : 0 ≤ x ∧ x < (n : Int)
    · rw [decide_eq_true h, decide_eq_false (by omega)]; rfl
    · rw [decide_eq_false h, decide_eq_true (by omega)]; rfl
  have HE := Lib.hid e
  have HB := Lib.hid hb
  clear hq hd e hb
  generalize decide (0 ≤ x ∧ x < (n : Int)) = v at *
  go_enter Try.func32, Try.ntmps32
  go_wp2_with (go_at_call 26; refine c1.mono ?_; rintro e w' ⟨rfl, rfl⟩)
  go_ret
  exact ⟨by rw [← HE.out]; rfl, HB.out⟩

/-- An element of a list of writes. -/
theorem list_at {w : World} {G : Nat → Prop} {ao : Option Addr} {m : Nat} {ws : List (Int × List Int)} (h : ListIs w G ao m ws) {i : Nat} (hi : i < m) : ∃ b off a zs ad l c, ao = some ⟨b, off, none⟩ ∧ G b ∧ b < w.heap.size ∧ ws[i]? = some (a, zs) ∧ w.cell? ⟨b, off + i * 2, none⟩ = some (.int .i64 a) ∧ w.cell? ⟨b, off + i * 2 + 1, none⟩ = some (.slice ad l c) ∧
    (-9223372036854775808 ≤ a ∧ a ≤ 9223372036854775807) ∧ Arg w ad l c zs ∧ ∀ b' o s, ad = some ⟨b', o, s⟩ → l ≠ 0 → G b' := by
  obtain ⟨h1, h2, h3⟩ := h
  obtain ⟨b, off, rfl, hG, hc⟩ := h3.resolve_left (by omega)
  have hlt : i < ws.length := by omega
  obtain ⟨p, hp⟩ : ∃ p, ws[i]? = some p := ⟨_, List.getElem?_eq_getElem hlt⟩
  obtain ⟨c1, c2, ad, l, c, c3, c4, c5⟩ := hc i p.1 p.2 hp
  rw [Nat.mul_comm] at c1 c3
  exact ⟨b, off, p.1, p.2, ad, l, c, rfl, hG, World.block_lt_of_cell? _ _ c1, hp, c1, c3, c2, c4, c5⟩

theorem any_take_succ {α : Type} (p : α → Bool) (l : List α) (i : Nat) (x : α) (h : l[i]? = some x) (h0 : (l.take i).any p = false) : (l.take (i + 1)).any p = p x := by
  rw [List.take_add_one, h, List.any_append, h0]
  simp

theorem any_of_take {α : Type} (p : α → Bool) (l : List α) (i : Nat) (h : (l.take i).any p = true) : l.any p = true := by
  rw [List.any_eq_true] at h ⊢
  obtain ⟨x, hx, hp⟩ := h
  exact ⟨x, List.mem_of_mem_take hx, hp⟩

set_option maxRecDepth 100000 in
set_option maxHeartbeats 1600000 in
theorem index_len {w : World} {G : Nat → Prop} {ao : Option Addr} {m cap : Nat} {ws : List (Int × List Int)} (hL : ListIs w G ao m ws)  :
    Calls Try.prog 33 #[.slice ao m cap, .func (.func 31) #[] #[]] w fun e w' => ∃ r : Int, e = .returned (.int .i64 r) ∧ decide (0 ≤ r) = ws.any (fun p : Int × List Int => decide (p.2.length ≠ 64)) ∧ (-1 ≤ r ∧ r ≤ 140737488351232) ∧ Below w.heap.size w w' := by
  have hm := hL.2.1
  have HL := Lib.hid hL
  have HWL := Lib.hid hL.1
  clear hL
  go_enter Try.func33, Try.ntmps33
  go_wp2_with fail
  go_loopw [8] (fun iv wr => ∃ i : Nat, iv = .int .i64 (i : Int) ∧ i ≤ m ∧ Hid (Below w.heap.size w wr) ∧ Hid ((ws.take i).any (fun p : Int × List Int => decide (p.2.length ≠ 64)) = false)) (fun iv _ => m - (intOf iv).toNat)
  case atStart => exact ⟨0, rfl, Nat.zero_le _, Lib.hid (Below.refl _ _), Lib.hid rfl⟩
  case round =>
    obtain ⟨i, rfl, hi, HB, HP⟩ := hrel
    by_cases hlt : i < m
    · obtain ⟨b, off, x, zs, ad, l, c, rfl, hG, hbl, hp, c1, c2, _, hA, _⟩ := list_at HL.out hlt
      have d1 : wr.cell? ⟨b, off + i * 2, none⟩ = some (.int .i64 x) := cell_later HB.out c1
      have d2 : wr.cell? ⟨b, off + i * 2 + 1, none⟩ = some (.slice ad l c) := cell_later HB.out c2
      have i1 : (i : Int) < (m : Int) := by omega
      have hzl := hA.1.1
      have cF := fault1_any x ad l c wr
      unfold wAgg at cF
      by_cases hv : (fun p : Int × List Int => decide (p.2.length ≠ 64)) (x, zs) = true
      · have HS := Lib.hid ((any_take_succ (fun p : Int × List Int => decide (p.2.length ≠ 64)) ws i _ hp HP.out).trans hv)
        rw [show decide (l ≠ 64) = true from (by rw [← hzl]; exact hv)] at cF
        have HV := Lib.hid (any_of_take (fun p : Int × List Int => decide (p.2.length ≠ 64)) ws (i + 1) HS.out)
        clear hG hbl hp c1 c2 hA hzl hv HS
        go_wp2_with (go_at_call 31; refine cF.mono ?_; rintro e w3 ⟨rfl, hb3⟩; have HB3 := Lib.hid hb3; clear hb3)
        go_ret
        exact ⟨(i : Int), rfl, by rw [HV.out]; exact decide_eq_true (by omega), by omega, HB.out.trans (HB3.out.mono HB.out.size)⟩
      · rw [Bool.not_eq_true] at hv
        have HS := Lib.hid ((any_take_succ (fun p : Int × List Int => decide (p.2.length ≠ 64)) ws i _ hp HP.out).trans hv)
        rw [show decide (l ≠ 64) = false from (by rw [← hzl]; exact hv)] at cF
        clear hG hbl hp c1 c2 hA hzl hv
        go_wp2_with (go_at_call 31; refine cF.mono ?_; rintro e w3 ⟨rfl, hb3⟩; have HB3 := Lib.hid hb3; clear hb3)
        go_roundw
        case rel => exact ⟨i + 1, by go_num, by omega, Lib.hid (HB.out.trans (HB3.out.mono HB.out.size)), HS⟩
        case measure => simp [intOf]; omega
    · have hin : i = m := by omega
      subst hin
      go_wp2_with fail
      go_ret
      refine ⟨-1, rfl, ?_, by omega, HB.out⟩
      have h := HP.out
      rw [← HWL.out, List.take_length] at h
      rw [h]
      rfl

set_option maxHeartbeats 800000 in
theorem contains_len {w : World} {G : Nat → Prop} {ao : Option Addr} {m cap : Nat} {ws : List (Int × List Int)} (hL : ListIs w G ao m ws)  :
    Calls Try.prog 30 #[.slice ao m cap, .func (.func 31) #[] #[]] w fun e w' => e = .returned (.bool (ws.any (fun p : Int × List Int => decide (p.2.length ≠ 64)))) ∧ Below w.heap.size w w' := by
  have c := index_len (cap := cap) hL 
  clear hL
  go_enter Try.func30, Try.ntmps30
  go_wp2_with (go_at_call 33; refine c.mono ?_; rintro e w2 ⟨r, rfl, hr, hrb, hb⟩; have HR := Lib.hid hr; have HB := Lib.hid hb; clear hr hb)
  go_ret
  exact ⟨by rw [← HR.out]; rfl, HB.out⟩

set_option maxRecDepth 100000 in
set_option maxHeartbeats 1600000 in
theorem index_at {w : World} {G : Nat → Prop} {ao : Option Addr} {m cap : Nat} {ws : List (Int × List Int)} (hL : ListIs w G ao m ws) {q d n cg : Nat} {ag : Option Addr} (hq : w.cell? ⟨q, 0, none⟩ = some (.pointer (some ⟨d, 0, none⟩))) (hd : w.cell? ⟨d, 3, none⟩ = some (.slice ag n cg)) :
    Calls Try.prog 33 #[.slice ao m cap, .func (.func 32) #[] #[.pointer (some ⟨q, 0, none⟩)]] w fun e w' => ∃ r : Int, e = .returned (.int .i64 r) ∧ decide (0 ≤ r) = ws.any (fun p : Int × List Int => decide (p.1 < 0 ∨ (n : Int) ≤ p.1)) ∧ (-1 ≤ r ∧ r ≤ 140737488351232) ∧ Below w.heap.size w w' := by
  have hm := hL.2.1
  have HL := Lib.hid hL
  have HWL := Lib.hid hL.1
  have HQ := Lib.hid hq
  have HD := Lib.hid hd
  clear hL hq hd
  go_enter Try.func33, Try.ntmps33
  go_wp2_with fail
  go_loopw [8] (fun iv wr => ∃ i : Nat, iv = .int .i64 (i : Int) ∧ i ≤ m ∧ Hid (Below w.heap.size w wr) ∧ Hid ((ws.take i).any (fun p : Int × List Int => decide (p.1 < 0 ∨ (n : Int) ≤ p.1)) = false)) (fun iv _ => m - (intOf iv).toNat)
  case atStart => exact ⟨0, rfl, Nat.zero_le _, Lib.hid (Below.refl _ _), Lib.hid rfl⟩
  case round =>
    obtain ⟨i, rfl, hi, HB, HP⟩ := hrel
    by_cases hlt : i < m
    · obtain ⟨b, off, x, zs, ad, l, c, rfl, hG, hbl, hp, c1, c2, _, hA, _⟩ := list_at HL.out hlt
      have d1 : wr.cell? ⟨b, off + i * 2, none⟩ = some (.int .i64 x) := cell_later HB.out c1
      have d2 : wr.cell? ⟨b, off + i * 2 + 1, none⟩ = some (.slice ad l c) := cell_later HB.out c2
      have i1 : (i : Int) < (m : Int) := by omega
      have hzl := hA.1.1
      have cF := fault2_any x ad l c q d n cg ag wr (cell_later HB.out HQ.out) (cell_later HB.out HD.out)
      unfold wAgg at cF
      by_cases hv : (fun p : Int × List Int => decide (p.1 < 0 ∨ (n : Int) ≤ p.1)) (x, zs) = true
      · have HS := Lib.hid ((any_take_succ (fun p : Int × List Int => decide (p.1 < 0 ∨ (n : Int) ≤ p.1)) ws i _ hp HP.out).trans hv)
        rw [show decide (x < 0 ∨ (n : Int) ≤ x) = true from (by exact hv)] at cF
        have HV := Lib.hid (any_of_take (fun p : Int × List Int => decide (p.1 < 0 ∨ (n : Int) ≤ p.1)) ws (i + 1) HS.out)
        clear hG hbl hp c1 c2 hA hzl hv HS
        go_wp2_with (go_at_call 32; refine cF.mono ?_; rintro e w3 ⟨rfl, hb3⟩; have HB3 := Lib.hid hb3; clear hb3)
        go_ret
        exact ⟨(i : Int), rfl, by rw [HV.out]; exact decide_eq_true (by omega), by omega, HB.out.trans (HB3.out.mono HB.out.size)⟩
      · rw [Bool.not_eq_true] at hv
        have HS := Lib.hid ((any_take_succ (fun p : Int × List Int => decide (p.1 < 0 ∨ (n : Int) ≤ p.1)) ws i _ hp HP.out).trans hv)
        rw [show decide (x < 0 ∨ (n : Int) ≤ x) = false from (by exact hv)] at cF
        clear hG hbl hp c1 c2 hA hzl hv
        go_wp2_with (go_at_call 32; refine cF.mono ?_; rintro e w3 ⟨rfl, hb3⟩; have HB3 := Lib.hid hb3; clear hb3)
        go_roundw
        case rel => exact ⟨i + 1, by go_num, by omega, Lib.hid (HB.out.trans (HB3.out.mono HB.out.size)), HS⟩
        case measure => simp [intOf]; omega
    · have hin : i = m := by omega
      subst hin
      go_wp2_with fail
      go_ret
      refine ⟨-1, rfl, ?_, by omega, HB.out⟩
      have h := HP.out
      rw [← HWL.out, List.take_length] at h
      rw [h]
      rfl

set_option maxHeartbeats 800000 in
theorem contains_at {w : World} {G : Nat → Prop} {ao : Option Addr} {m cap : Nat} {ws : List (Int × List Int)} (hL : ListIs w G ao m ws) {q d n cg : Nat} {ag : Option Addr} (hq : w.cell? ⟨q, 0, none⟩ = some (.pointer (some ⟨d, 0, none⟩))) (hd : w.cell? ⟨d, 3, none⟩ = some (.slice ag n cg)) :
    Calls Try.prog 30 #[.slice ao m cap, .func (.func 32) #[] #[.pointer (some ⟨q, 0, none⟩)]] w fun e w' => e = .returned (.bool (ws.any (fun p : Int × List Int => decide (p.1 < 0 ∨ (n : Int) ≤ p.1)))) ∧ Below w.heap.size w w' := by
  have c := index_at (cap := cap) hL hq hd
  clear hL hq hd
  go_enter Try.func30, Try.ntmps30
  go_wp2_with (go_at_call 33; refine c.mono ?_; rintro e w2 ⟨r, rfl, hr, hrb, hb⟩; have HR := Lib.hid hr; have HB := Lib.hid hb; clear hr hb)
  go_ret
  exact ⟨by rw [← HR.out]; rfl, HB.out⟩

theorem ListIs.later {w wx : World} {G : Nat → Prop} {ao : Option Addr} {m : Nat} {ws : List (Int × List Int)} (h : ListIs w G ao m ws) (hb : Below w.heap.size w wx) : ListIs wx G ao m ws := by
  obtain ⟨h1, h2, h3⟩ := h
  refine ⟨h1, h2, ?_⟩
  rcases h3 with h0 | ⟨b, off, rfl, hG, hc⟩
  · exact Or.inl h0
  · refine Or.inr ⟨b, off, rfl, hG, fun j a zs hj => ?_⟩
    obtain ⟨c1, c2, ad, l, c, c3, c4, c5⟩ := hc j a zs hj
    exact ⟨cell_later hb c1, c2, ad, l, c, cell_later hb c3, c4.later hb, c5⟩

def faultErr (n : Nat) (ws : List (Int × List Int)) : Int := if badLen ws = true then 1 else if badAt n ws = true then 7 else 0

set_option maxHeartbeats 1600000 in
theorem fault_d {w : World} {G : Nat → Prop} {ao ag : Option Addr} {d m cap n cg : Nat} {ws : List (Int × List Int)} (hL : ListIs w G ao m ws) (hd : w.cell? ⟨d, 3, none⟩ = some (.slice ag n cg)) :
    Calls Try.prog 23 #[.pointer (some ⟨d, 0, none⟩), .slice ao m cap] w fun e w' => e = .returned (.int .i64 (faultErr n ws)) ∧ Below w.heap.size w w' := by
  obtain ⟨w1, hw1⟩ : ∃ w1, w1 = w.alloc (.cells #[.pointer (some ⟨d, 0, none⟩)] 23) := ⟨_, rfl⟩
  have hb1 : Below w.heap.size w w1 := by rw [hw1]; exact (Below.refl _ _).alloc (Nat.le_refl _) _
  have hq1 : w1.cell? ⟨w.heap.size, 0, none⟩ = some (.pointer (some ⟨d, 0, none⟩)) := by rw [hw1]; exact one_cell_new w _ _
  have HL1 := Lib.hid (hL.later hb1)
  have HD1 := Lib.hid (cell_later hb1 hd)
  have c1 := contains_len (cap := cap) HL1.out
  have HB1 := Lib.hid hb1
  have HQ1 := Lib.hid hq1
  have HW1 := Lib.hid hw1
  obtain ⟨q, hq⟩ : ∃ q, q = w.heap.size := ⟨_, rfl⟩
  have HQQ := Lib.hid hq
  clear hL hd hw1 hb1 hq1 hq
  rw [HW1.out] at c1
  by_cases h1 : badLen ws = true
  · rw [show ws.any (fun p : Int × List Int => decide (p.2.length ≠ 64)) = true from h1] at c1
    have HE : Hid (faultErr n ws = 1) := Lib.hid (by unfold faultErr; rw [if_pos h1])
    clear h1
    go_enter Try.func23, Try.ntmps23
    go_wp2_with (go_at_call 30; refine c1.mono ?_; rintro e w2 ⟨rfl, hb2⟩; have HB2 := Lib.hid hb2; clear hb2)
    go_ret
    refine ⟨by rw [HE.out]; rfl, ?_⟩
    have h := HB2.out
    rw [← HW1.out] at h
    exact HB1.out.trans (h.mono HB1.out.size)
  · rw [show ws.any (fun p : Int × List Int => decide (p.2.length ≠ 64)) = false from (by rw [Bool.not_eq_true] at h1; exact h1)] at c1
    have C2 : Hid (∀ w2, Below w1.heap.size w1 w2 → Calls Try.prog 30 #[.slice ao m cap, .func (.func 32) #[] #[.pointer (some ⟨w.heap.size, 0, none⟩)]] w2 fun e w' => e = .returned (.bool (badAt n ws)) ∧ Below w2.heap.size w2 w') :=
      Lib.hid (fun w2 hb => contains_at (HL1.out.later hb) (cell_later hb HQ1.out) (cell_later hb HD1.out))
    have HE : Hid (faultErr n ws = if badAt n ws = true then 7 else 0) := Lib.hid (by unfold faultErr; rw [if_neg h1])
    rw [HW1.out] at C2
    clear h1
    cases hv : badAt n ws
    · rw [hv] at HE C2
      clear hv
      go_enter Try.func23, Try.ntmps23
      go_wp2_with (go_at_call 30; refine c1.mono ?_; rintro e w2 ⟨rfl, hb2⟩; have HB2 := Lib.hid hb2; clear hb2 c1)
      refine (C2.out w2 HB2.out).mono ?_
      rintro e w3 ⟨rfl, hb3⟩
      have HB3 := Lib.hid hb3
      clear hb3
      go_wp2_with fail
      go_ret
      refine ⟨by rw [HE.out]; rfl, ?_⟩
      have h := HB2.out
      rw [← HW1.out] at h
      have h2 := h.trans (HB3.out.mono h.size)
      exact HB1.out.trans (h2.mono HB1.out.size)
    · rw [hv] at HE C2
      clear hv
      go_enter Try.func23, Try.ntmps23
      go_wp2_with (go_at_call 30; refine c1.mono ?_; rintro e w2 ⟨rfl, hb2⟩; have HB2 := Lib.hid hb2; clear hb2 c1)
      refine (C2.out w2 HB2.out).mono ?_
      rintro e w3 ⟨rfl, hb3⟩
      have HB3 := Lib.hid hb3
      clear hb3
      go_wp2_with fail
      go_ret
      refine ⟨by rw [HE.out]; rfl, ?_⟩
      have h := HB2.out
      rw [← HW1.out] at h
      have h2 := h.trans (HB3.out.mono h.size)
      exact HB1.out.trans (h2.mono HB1.out.size)

end Go.Proofs.Ytinlbmlgfneolaa
