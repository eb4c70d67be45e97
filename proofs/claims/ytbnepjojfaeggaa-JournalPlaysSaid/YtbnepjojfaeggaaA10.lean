/-
  Proved here: what the landed disk says of a list of writes ahead of any (fault): the error that is told first. The conditions stand at each theorem. Proved here: where the landed disk lies behind one write more; lists of writes stay as they are while other blocks turn. The conditions stand at each theorem. Proved here: what Put of the landed disk makes of it. The conditions stand at each theorem. Proved here: the landed disk's calls answer what the laws of layer 7 ask of them; so do those of no disk. The conditions stand at DiskOk and DiskNil (Disk).
-/
import Derived.Test.YtbnepjojfaeggaaA9
import Derived.Deep.RegionLaw
import Derived.Great.BuildSlice
import Derived.Deep.QuietTactic
import Derived.BigQuiet
namespace Go.Proofs.Ytbnepjojfaeggaa
open Go.RowKit
set_option linter.unusedVariables false
set_option linter.unusedSimpArgs false

def wAgg (x : Int) (ad : Option Addr) (l c : Nat) : Value := .agg #[.int .i64 x, .slice ad l c]

set_option maxHeartbeats 800000 in
theorem fault1_any (x : Int) (ad : Option Addr) (l c : Nat) (w : World) : Calls Try.prog 60 #[wAgg x ad l c] w fun e w' => e = .returned (.bool (decide (l ≠ 64))) ∧ Below w.heap.size w w' := by
  unfold wAgg
  by_cases h : l = 64
  · subst h
    go_enter Try.func60, Try.ntmps60
    go_wp2_with fail
    go_ret
    exact ⟨rfl, (Below.refl _ _).alloc (Nat.le_refl _) _⟩
  · have hne : ((l : Int) != 64) = true := by simp; omega
    rw [decide_eq_true h]
    go_enter Try.func60, Try.ntmps60
    go_wp2_with fail
    go_ret
    exact ⟨rfl, (Below.refl _ _).alloc (Nat.le_refl _) _⟩

set_option maxHeartbeats 800000 in
theorem fault2_any (x : Int) (ad : Option Addr) (l c q d n cg : Nat) (ag : Option Addr) (w : World) (hq : w.cell? ⟨q, 0, none⟩ = some (.pointer (some ⟨d, 0, none⟩))) (hd : w.cell? ⟨d, 3, none⟩ = some (.slice ag n cg)) :
    Calls Try.prog 61 #[wAgg x ad l c, .pointer (some ⟨q, 0, none⟩)] w fun e w' => e = .returned (.bool (decide (x < 0 ∨ (n : Int) ≤ x))) ∧ Below w.heap.size w w' := by
  unfold wAgg
  have hb : Below w.heap.size w (w.alloc (.cells #[.int .i64 x, .slice ad l c] 48)) := (Below.refl _ _).alloc (Nat.le_refl _) _
  have hq1 := cell_later hb hq
  have c1 := has_of (blocks_d (cell_later hb hd)) x
  have e : (!decide (0 ≤ x ∧ x < (n : Int))) = decide (x < 0 ∨ (n : Int) ≤ x) := by
    by_cases h : 0 ≤ x ∧ x < (n : Int)
    · rw [decide_eq_true h, decide_eq_false (by omega)]; rfl
    · rw [decide_eq_false h, decide_eq_true (by omega)]; rfl
  have HE := Lib.hid e
  have HB := Lib.hid hb
  clear hq hd e hb
  generalize decide (0 ≤ x ∧ x < (n : Int)) = v at *
  go_enter Try.func61, Try.ntmps61
  go_wp2_with (go_at_call 43; refine c1.mono ?_; rintro e w' ⟨rfl, rfl⟩)
  go_ret
  exact ⟨by rw [← HE.out]; rfl, HB.out⟩

/-- An element of a list of writes. -/
theorem list_at {w : World} {G : Nat → Prop} {ao : Option Addr} {m : Nat} {ws : List (Int × List Int)} (h : ListIs w G ao m ws) {i : Nat} (hi : i < m) : ∃ b off a zs ad l c, ao = some ⟨b, off, none⟩ ∧ G b ∧ b < w.heap.size ∧ ws[i]? = some (a, zs) ∧ w.cell? ⟨b, off + i * 2, none⟩ = some (.int .i64 a) ∧ w.cell? ⟨b, off + i * 2 + 1, none⟩ = some (.slice ad l c) ∧
    (-9223372036854775808 ≤ a ∧ a ≤ 9223372036854775807) ∧ Arg w ad l c zs ∧ ∀ b' o s, ad = some ⟨b', o, s⟩ → l ≠ 0 → G b' := by
  obtain ⟨h1, h2, h3⟩ := h
  obtain ⟨b, off, rfl, hG, hc⟩ := h3.resolve_left (by omega)
  have hlt : i < ws.length := by omega
  obtain ⟨p, hp⟩ : ∃ p, ws[i]? = some p := ⟨_, List.getElem?_eq_getElem hlt⟩
  obtain ⟨c1, c2, ad, l, c, c3, c4, c5⟩ := hc i p.1 p.2 hp
  rw [Nat.mul_comm] at c1 c3
  exact ⟨b, off, p.1, p.2, ad, l, c, rfl, hG, World.block_lt_of_cell? _ _ c1, hp, c1, c3, c2, c4, c5⟩

theorem any_take_succ {α : Type} (p : α → Bool) (l : List α) (i : Nat) (x : α) (h : l[i]? = some x) (h0 : (l.take i).any p = false) : (l.take (i + 1)).any p = p x := by
  rw [List.take_add_one, h, List.any_append, h0]
  simp

theorem any_of_take {α : Type} (p : α → Bool) (l : List α) (i : Nat) (h : (l.take i).any p = true) : l.any p = true := by
  rw [List.any_eq_true] at h ⊢
  obtain ⟨x, hx, hp⟩ := h
  exact ⟨x, List.mem_of_mem_take hx, hp⟩

set_option maxRecDepth 100000 in
set_option maxHeartbeats 1600000 in
theorem index_len {w : World} {G : Nat → Prop} {ao : Option Addr} {m cap : Nat} {ws : List (Int × List Int)} (hL : ListIs w G ao m ws)  :
    Calls Try.prog 76 #[.slice ao m cap, .func (.func 60) #[] #[]] w fun e w' => ∃ r : Int, e = .returned (.int .i64 r) ∧ decide (0 ≤ r) = ws.any (fun p : Int × List Int => decide (p.2.length ≠ 64)) ∧ (-1 ≤ r ∧ r ≤ 140737488351232) ∧ Below w.heap.size w w' := by
  have hm := hL.2.1
  have HL := Lib.hid hL
  have HWL := Lib.hid hL.1
  clear hL
  go_enter Try.func76, Try.ntmps76
  go_wp2_with fail
  go_loopw [8] (fun iv wr => ∃ i : Nat, iv = .int .i64 (i : Int) ∧ i ≤ m ∧ Hid (Below w.heap.size w wr) ∧ Hid ((ws.take i).any (fun p : Int × List Int => decide (p.2.length ≠ 64)) = false)) (fun iv _ => m - (intOf iv).toNat)
  case atStart => exact ⟨0, rfl, Nat.zero_le _, Lib.hid (Below.refl _ _), Lib.hid rfl⟩
  case round =>
    obtain ⟨i, rfl, hi, HB, HP⟩ := hrel
    by_cases hlt : i < m
    · obtain ⟨b, off, x, zs, ad, l, c, rfl, hG, hbl, hp, c1, c2, _, hA, _⟩ := list_at HL.out hlt
      have d1 : wr.cell? ⟨b, off + i * 2, none⟩ = some (.int .i64 x) := cell_later HB.out c1
      have d2 : wr.cell? ⟨b, off + i * 2 + 1, none⟩ = some (.slice ad l c) := cell_later HB.out c2
      have i1 : (i : Int) < (m : Int) := by omega
      have hzl := hA.1.1
      have cF := fault1_any x ad l c wr
      unfold wAgg at cF
      by_cases hv : (fun p : Int × List Int => decide (p.2.length ≠ 64)) (x, zs) = true
      · have HS := Lib.hid ((any_take_succ (fun p : Int × List Int => decide (p.2.length ≠ 64)) ws i _ hp HP.out).trans hv)
        rw [show decide (l ≠ 64) = true from (by rw [← hzl]; exact hv)] at cF
        have HV := Lib.hid (any_of_take (fun p : Int × List Int => decide (p.2.length ≠ 64)) ws (i + 1) HS.out)
        clear hG hbl hp c1 c2 hA hzl hv HS
        go_wp2_with (go_at_call 60; refine cF.mono ?_; rintro e w3 ⟨rfl, hb3⟩; have HB3 := Lib.hid hb3; clear hb3)
        go_ret
        exact ⟨(i : Int), rfl, by rw [HV.out]; exact decide_eq_true (by omega), by omega, HB.out.trans (HB3.out.mono HB.out.size)⟩
      · rw [Bool.not_eq_true] at hv
        have HS := Lib.hid ((any_take_succ (fun p : Int × List Int => decide (p.2.length ≠ 64)) ws i _ hp HP.out).trans hv)
        rw [show decide (l ≠ 64) = false from (by rw [← hzl]; exact hv)] at cF
        clear hG hbl hp c1 c2 hA hzl hv
        go_wp2_with (go_at_call 60; refine cF.mono ?_; rintro e w3 ⟨rfl, hb3⟩; have HB3 := Lib.hid hb3; clear hb3)
        go_roundw
        case rel => exact ⟨i + 1, by go_num, by omega, Lib.hid (HB.out.trans (HB3.out.mono HB.out.size)), HS⟩
        case measure => simp [intOf]; omega
    · have hin : i = m := by omega
      subst hin
      go_wp2_with fail
      go_ret
      refine ⟨-1, rfl, ?_, by omega, HB.out⟩
      have h := HP.out
      rw [← HWL.out, List.take_length] at h
      rw [h]
      rfl

set_option maxHeartbeats 800000 in
theorem contains_len {w : World} {G : Nat → Prop} {ao : Option Addr} {m cap : Nat} {ws : List (Int × List Int)} (hL : ListIs w G ao m ws)  :
    Calls Try.prog 59 #[.slice ao m cap, .func (.func 60) #[] #[]] w fun e w' => e = .returned (.bool (ws.any (fun p : Int × List Int => decide (p.2.length ≠ 64)))) ∧ Below w.heap.size w w' := by
  have c := index_len (cap := cap) hL 
  clear hL
  go_enter Try.func59, Try.ntmps59
  go_wp2_with (go_at_call 76; refine c.mono ?_; rintro e w2 ⟨r, rfl, hr, hrb, hb⟩; have HR := Lib.hid hr; have HB := Lib.hid hb; clear hr hb)
  go_ret
  exact ⟨by rw [← HR.out]; rfl, HB.out⟩

set_option maxRecDepth 100000 in
set_option maxHeartbeats 1600000 in
theorem index_at {w : World} {G : Nat → Prop} {ao : Option Addr} {m cap : Nat} {ws : List (Int × List Int)} (hL : ListIs w G ao m ws) {q d n cg : Nat} {ag : Option Addr} (hq : w.cell? ⟨q, 0, none⟩ = some (.pointer (some ⟨d, 0, none⟩))) (hd : w.cell? ⟨d, 3, none⟩ = some (.slice ag n cg)) :
    Calls Try.prog 76 #[.slice ao m cap, .func (.func 61) #[] #[.pointer (some ⟨q, 0, none⟩)]] w fun e w' => ∃ r : Int, e = .returned (.int .i64 r) ∧ decide (0 ≤ r) = ws.any (fun p : Int × List Int => decide (p.1 < 0 ∨ (n : Int) ≤ p.1)) ∧ (-1 ≤ r ∧ r ≤ 140737488351232) ∧ Below w.heap.size w w' := by
  have hm := hL.2.1
  have HL := Lib.hid hL
  have HWL := Lib.hid hL.1
  have HQ := Lib.hid hq
  have HD := Lib.hid hd
  clear hL hq hd
  go_enter Try.func76, Try.ntmps76
  go_wp2_with fail
  go_loopw [8] (fun iv wr => ∃ i : Nat, iv = .int .i64 (i : Int) ∧ i ≤ m ∧ Hid (Below w.heap.size w wr) ∧ Hid ((ws.take i).any (fun p : Int × List Int => decide (p.1 < 0 ∨ (n : Int) ≤ p.1)) = false)) (fun iv _ => m - (intOf iv).toNat)
  case atStart => exact ⟨0, rfl, Nat.zero_le _, Lib.hid (Below.refl _ _), Lib.hid rfl⟩
  case round =>
    obtain ⟨i, rfl, hi, HB, HP⟩ := hrel
    by_cases hlt : i < m
    · obtain ⟨b, off, x, zs, ad, l, c, rfl, hG, hbl, hp, c1, c2, _, hA, _⟩ := list_at HL.out hlt
      have d1 : wr.cell? ⟨b, off + i * 2, none⟩ = some (.int .i64 x) := cell_later HB.out c1
      have d2 : wr.cell? ⟨b, off + i * 2 + 1, none⟩ = some (.slice ad l c) := cell_later HB.out c2
      have i1 : (i : Int) < (m : Int) := by omega
      have hzl := hA.1.1
      have cF := fault2_any x ad l c q d n cg ag wr (cell_later HB.out HQ.out) (cell_later HB.out HD.out)
      unfold wAgg at cF
      by_cases hv : (fun p : Int × List Int => decide (p.1 < 0 ∨ (n : Int) ≤ p.1)) (x, zs) = true
      · have HS := Lib.hid ((any_take_succ (fun p : Int × List Int => decide (p.1 < 0 ∨ (n : Int) ≤ p.1)) ws i _ hp HP.out).trans hv)
        rw [show decide (x < 0 ∨ (n : Int) ≤ x) = true from (by exact hv)] at cF
        have HV := Lib.hid (any_of_take (fun p : Int × List Int => decide (p.1 < 0 ∨ (n : Int) ≤ p.1)) ws (i + 1) HS.out)
        clear hG hbl hp c1 c2 hA hzl hv HS
        go_wp2_with (go_at_call 61; refine cF.mono ?_; rintro e w3 ⟨rfl, hb3⟩; have HB3 := Lib.hid hb3; clear hb3)
        go_ret
        exact ⟨(i : Int), rfl, by rw [HV.out]; exact decide_eq_true (by omega), by omega, HB.out.trans (HB3.out.mono HB.out.size)⟩
      · rw [Bool.not_eq_true] at hv
        have HS := Lib.hid ((any_take_succ (fun p : Int × List Int => decide (p.1 < 0 ∨ (n : Int) ≤ p.1)) ws i _ hp HP.out).trans hv)
        rw [show decide (x < 0 ∨ (n : Int) ≤ x) = false from (by exact hv)] at cF
        clear hG hbl hp c1 c2 hA hzl hv
        go_wp2_with (go_at_call 61; refine cF.mono ?_; rintro e w3 ⟨rfl, hb3⟩; have HB3 := Lib.hid hb3; clear hb3)
        go_roundw
        case rel => exact ⟨i + 1, by go_num, by omega, Lib.hid (HB.out.trans (HB3.out.mono HB.out.size)), HS⟩
        case measure => simp [intOf]; omega
    · have hin : i = m := by omega
      subst hin
      go_wp2_with fail
      go_ret
      refine ⟨-1, rfl, ?_, by omega, HB.out⟩
      have h := HP.out
      rw [← HWL.out, List.take_length] at h
      rw [h]
      rfl

set_option maxHeartbeats 800000 in
theorem contains_at {w : World} {G : Nat → Prop} {ao : Option Addr} {m cap : Nat} {ws : List (Int × List Int)} (hL : ListIs w G ao m ws) {q d n cg : Nat} {ag : Option Addr} (hq : w.cell? ⟨q, 0, none⟩ = some (.pointer (some ⟨d, 0, none⟩))) (hd : w.cell? ⟨d, 3, none⟩ = some (.slice ag n cg)) :
    Calls Try.prog 59 #[.slice ao m cap, .func (.func 61) #[] #[.pointer (some ⟨q, 0, none⟩)]] w fun e w' => e = .returned (.bool (ws.any (fun p : Int × List Int => decide (p.1 < 0 ∨ (n : Int) ≤ p.1)))) ∧ Below w.heap.size w w' := by
  have c := index_at (cap := cap) hL hq hd
  clear hL hq hd
  go_enter Try.func59, Try.ntmps59
  go_wp2_with (go_at_call 76; refine c.mono ?_; rintro e w2 ⟨r, rfl, hr, hrb, hb⟩; have HR := Lib.hid hr; have HB := Lib.hid hb; clear hr hb)
  go_ret
  exact ⟨by rw [← HR.out]; rfl, HB.out⟩

theorem ListIs.later {w wx : World} {G : Nat → Prop} {ao : Option Addr} {m : Nat} {ws : List (Int × List Int)} (h : ListIs w G ao m ws) (hb : Below w.heap.size w wx) : ListIs wx G ao m ws := by
  obtain ⟨h1, h2, h3⟩ := h
  refine ⟨h1, h2, ?_⟩
  rcases h3 with h0 | ⟨b, off, rfl, hG, hc⟩
  · exact Or.inl h0
  · refine Or.inr ⟨b, off, rfl, hG, fun j a zs hj => ?_⟩
    obtain ⟨c1, c2, ad, l, c, c3, c4, c5⟩ := hc j a zs hj
    exact ⟨cell_later hb c1, c2, ad, l, c, cell_later hb c3, c4.later hb, c5⟩

def faultErr (n : Nat) (ws : List (Int × List Int)) : Int := if badLen ws = true then 1 else if badAt n ws = true then 7 else 0

set_option maxHeartbeats 1600000 in
theorem fault_d {w : World} {G : Nat → Prop} {ao ag : Option Addr} {d m cap n cg : Nat} {ws : List (Int × List Int)} (hL : ListIs w G ao m ws) (hd : w.cell? ⟨d, 3, none⟩ = some (.slice ag n cg)) :
    Calls Try.prog 41 #[.pointer (some ⟨d, 0, none⟩), .slice ao m cap] w fun e w' => e = .returned (.int .i64 (faultErr n ws)) ∧ Below w.heap.size w w' := by
  obtain ⟨w1, hw1⟩ : ∃ w1, w1 = w.alloc (.cells #[.pointer (some ⟨d, 0, none⟩)] 32) := ⟨_, rfl⟩
  have hb1 : Below w.heap.size w w1 := by rw [hw1]; exact (Below.refl _ _).alloc (Nat.le_refl _) _
  have hq1 : w1.cell? ⟨w.heap.size, 0, none⟩ = some (.pointer (some ⟨d, 0, none⟩)) := by rw [hw1]; exact one_cell_new w _ _
  have HL1 := Lib.hid (hL.later hb1)
  have HD1 := Lib.hid (cell_later hb1 hd)
  have c1 := contains_len (cap := cap) HL1.out
  have HB1 := Lib.hid hb1
  have HQ1 := Lib.hid hq1
  have HW1 := Lib.hid hw1
  obtain ⟨q, hq⟩ : ∃ q, q = w.heap.size := ⟨_, rfl⟩
  have HQQ := Lib.hid hq
  clear hL hd hw1 hb1 hq1 hq
  rw [HW1.out] at c1
  by_cases h1 : badLen ws = true
  · rw [show ws.any (fun p : Int × List Int => decide (p.2.length ≠ 64)) = true from h1] at c1
    have HE : Hid (faultErr n ws = 1) := Lib.hid (by unfold faultErr; rw [if_pos h1])
    clear h1
    go_enter Try.func41, Try.ntmps41
    go_wp2_with (go_at_call 59; refine c1.mono ?_; rintro e w2 ⟨rfl, hb2⟩; have HB2 := Lib.hid hb2; clear hb2)
    go_ret
    refine ⟨by rw [HE.out]; rfl, ?_⟩
    have h := HB2.out
    rw [← HW1.out] at h
    exact HB1.out.trans (h.mono HB1.out.size)
  · rw [show ws.any (fun p : Int × List Int => decide (p.2.length ≠ 64)) = false from (by rw [Bool.not_eq_true] at h1; exact h1)] at c1
    have C2 : Hid (∀ w2, Below w1.heap.size w1 w2 → Calls Try.prog 59 #[.slice ao m cap, .func (.func 61) #[] #[.pointer (some ⟨w.heap.size, 0, none⟩)]] w2 fun e w' => e = .returned (.bool (badAt n ws)) ∧ Below w2.heap.size w2 w') :=
      Lib.hid (fun w2 hb => contains_at (HL1.out.later hb) (cell_later hb HQ1.out) (cell_later hb HD1.out))
    have HE : Hid (faultErr n ws = if badAt n ws = true then 7 else 0) := Lib.hid (by unfold faultErr; rw [if_neg h1])
    rw [HW1.out] at C2
    clear h1
    cases hv : badAt n ws
    · rw [hv] at HE C2
      clear hv
      go_enter Try.func41, Try.ntmps41
      go_wp2_with (go_at_call 59; refine c1.mono ?_; rintro e w2 ⟨rfl, hb2⟩; have HB2 := Lib.hid hb2; clear hb2 c1)
      refine (C2.out w2 HB2.out).mono ?_
      rintro e w3 ⟨rfl, hb3⟩
      have HB3 := Lib.hid hb3
      clear hb3
      go_wp2_with fail
      go_ret
      refine ⟨by rw [HE.out]; rfl, ?_⟩
      have h := HB2.out
      rw [← HW1.out] at h
      have h2 := h.trans (HB3.out.mono h.size)
      exact HB1.out.trans (h2.mono HB1.out.size)
    · rw [hv] at HE C2
      clear hv
      go_enter Try.func41, Try.ntmps41
      go_wp2_with (go_at_call 59; refine c1.mono ?_; rintro e w2 ⟨rfl, hb2⟩; have HB2 := Lib.hid hb2; clear hb2 c1)
      refine (C2.out w2 HB2.out).mono ?_
      rintro e w3 ⟨rfl, hb3⟩
      have HB3 := Lib.hid hb3
      clear hb3
      go_wp2_with fail
      go_ret
      refine ⟨by rw [HE.out]; rfl, ?_⟩
      have h := HB2.out
      rw [← HW1.out] at h
      have h2 := h.trans (HB3.out.mono h.size)
      exact HB1.out.trans (h2.mono HB1.out.size)

end Go.Proofs.Ytbnepjojfaeggaa

namespace Go.Proofs.Ytbnepjojfaeggaa
open Go.RowKit
set_option linter.unusedVariables false
set_option linter.unusedSimpArgs false

theorem Arg.grew {F F' : Nat → Prop} {w w' : World} {ad : Option Addr} {l c : Nat} {zs : List Int} (h : Arg w ad l c zs) (hG : Grew F F' w w') (hb : ∀ b' o s, ad = some ⟨b', o, s⟩ → l ≠ 0 → ¬ F b') : Arg w' ad l c zs := by
  obtain ⟨⟨h1, h2, h3, h4⟩, h5, h6, h7⟩ := h
  refine ⟨⟨h1, h2, h3, ?_⟩, h5, h6, h7⟩
  rcases h4 with h4 | ⟨b, o, rfl, hc⟩
  · exact Or.inl h4
  · by_cases h0 : l = 0
    · exact Or.inl h0
    · have hlt := World.block_lt_of_cell? _ _ (hc 0 (by omega))
      exact Or.inr ⟨b, o, rfl, fun j hj => by rw [cell_of_heap (p := ⟨b, o + j, none⟩) (hG.2.2.2.2.1 b hlt (hb b o none rfl h0))]; exact hc j hj⟩

theorem ListIs.grew {F F' G : Nat → Prop} {w w' : World} {ao : Option Addr} {m : Nat} {ws : List (Int × List Int)} (h : ListIs w G ao m ws) (hG : Grew F F' w w') (hd : ∀ k, F k → ¬ G k) : ListIs w' G ao m ws := by
  obtain ⟨h1, h2, h3⟩ := h
  refine ⟨h1, h2, ?_⟩
  rcases h3 with h0 | ⟨b, off, rfl, hGb, hc⟩
  · exact Or.inl h0
  · refine Or.inr ⟨b, off, rfl, hGb, fun j a zs hj => ?_⟩
    obtain ⟨c1, c2, ad, l, c, c3, c4, c5⟩ := hc j a zs hj
    have hk := hG.2.2.2.2.1 b (World.block_lt_of_cell? _ _ c1) (fun hf => hd b hf hGb)
    exact ⟨by rw [cell_of_heap (p := ⟨b, off + 2 * j, none⟩) hk]; exact c1, c2, ad, l, c, by rw [cell_of_heap (p := ⟨b, off + 2 * j + 1, none⟩) hk]; exact c3, c4.grew hG (fun b' o s e hl hf => hd b' hf (c5 b' o s e hl)), c5⟩

theorem own_of_ao {ao : Option Addr} {r n cap : Nat} (hf : ao = none ∨ ∃ r, ao = some ⟨r, 0, none⟩) (h : (Value.slice ao n cap).ownBlock = some r) : ao = some ⟨r, 0, none⟩ := by
  rcases hf with rfl | ⟨q, rfl⟩
  · simp [Value.ownBlock] at h
  · simp [Value.ownBlock] at h
    rw [h]

/-- One write more in cell k. -/
theorem DIs.push {w3 w4 w5 : World} {d g : Nat} {ao : Nat → Option Addr} {cp : Nat → Nat} {s : DM} (h : DIs w3 d g ao cp s) {k : Nat} (hk : k < s.n) (hb4 : Below w3.heap.size w3 w4) {zs : List Int} (hz : zs.length = 64 ∧ ∀ z ∈ zs, 0 ≤ z ∧ z ≤ 255)
    {g5 cap5 H : Nat} (ho : w5.ownsRow 0 81 64 (.slice (some ⟨g5, 0, none⟩) ((s.hist k).tail.length + 1) cap5) ((s.hist k).tail.length + 1) (flat (s.hist k).tail ++ bys zs))
    (hg : w4.grownBy w5 (Value.slice (ao k) (s.hist k).tail.length (cp k)).ownBlock) (hat : (Value.slice (ao k) (s.hist k).tail.length (cp k)).ownBlock = some g5 ∨ g5 = H) (hH : w3.heap.size ≤ H) :
    DIs (w5.setCell ⟨g, k * 65 + 64, none⟩ (.slice (some ⟨g5, 0, none⟩) ((s.hist k).tail.length + 1) cap5)) d g (fun i => if i = k then some ⟨g5, 0, none⟩ else ao i) (fun i => if i = k then cap5 else cp i) (addW s k zs) ∧
      Grew (Foot d g ao s.n) (Foot d g (fun i => if i = k then some ⟨g5, 0, none⟩ else ao i) s.n) w3 (w5.setCell ⟨g, k * 65 + 64, none⟩ (.slice (some ⟨g5, 0, none⟩) ((s.hist k).tail.length + 1) cap5)) := by
  have hCk := h.cells k hk
  have hf := hCk.form.1
  obtain ⟨ob, hob⟩ : ∃ ob, (Value.slice (ao k) (s.hist k).tail.length (cp k)).ownBlock = ob := ⟨_, rfl⟩
  rw [hob] at hg hat
  have hobr : ∀ r, ob = some r → ao k = some ⟨r, 0, none⟩ := fun r e => own_of_ao hf (hob.trans e)
  have hobg : ob ≠ some g := fun e => hCk.away (hob.trans e)
  have hobd : ob ≠ some d := fun e => h.awayd k hk (hobr d e)
  have hdl : d < w3.heap.size := World.block_lt_of_cell? _ _ h.off
  have hgl : g < w3.heap.size := hCk.lt
  have h45 : ∀ b, b < w3.heap.size → ob ≠ some b → w5.heap[b]? = w3.heap[b]? := fun b hb hne => by
    rw [hg.block b (Nat.lt_of_lt_of_le hb hb4.size) (fun e => hne e.symm), hb4.block b hb]
  have h5d : ∀ b, b < w3.heap.size → ob ≠ some b → b ≠ g → (w5.setCell ⟨g, k * 65 + 64, none⟩ (.slice (some ⟨g5, 0, none⟩) ((s.hist k).tail.length + 1) cap5)).heap[b]? = w3.heap[b]? := fun b hb hne hbg => by
    rw [Below.heap_setCell _ _ _ _ hbg, h45 b hb hne]
  have hg5g : g5 ≠ g := by
    rcases hat with e | e
    · intro e'; exact hobg (by rw [e, e'])
    · omega
  have hg5d : g5 ≠ d := by
    rcases hat with e | e
    · intro e'; exact hobd (by rw [e, e'])
    · omega
  have hcg : ∀ j, j ≠ k * 65 + 64 → (w5.setCell ⟨g, k * 65 + 64, none⟩ (.slice (some ⟨g5, 0, none⟩) ((s.hist k).tail.length + 1) cap5)).cell? ⟨g, j, none⟩ = w3.cell? ⟨g, j, none⟩ := fun j hj => by
    rw [World.cell?_setCell_other (h := ne_off (Ne.symm hj)), cell_of_heap (p := ⟨g, j, none⟩) (h45 g hgl hobg)]
  have hcd : ∀ j, (w5.setCell ⟨g, k * 65 + 64, none⟩ (.slice (some ⟨g5, 0, none⟩) ((s.hist k).tail.length + 1) cap5)).cell? ⟨d, j, none⟩ = w3.cell? ⟨d, j, none⟩ := fun j => cell_of_heap (p := ⟨d, j, none⟩) (h5d d hdl hobd h.dg)
  have hne : s.hist k ≠ [] := (h.ok k).1
  have hhd : (s.hist k ++ [zs]).headD [] = (s.hist k).headD [] := by
    cases hh : s.hist k with
    | nil => exact absurd hh hne
    | cons x r => rfl
  have htl : (s.hist k ++ [zs]).tail = (s.hist k).tail ++ [zs] := by
    cases hh : s.hist k with
    | nil => exact absurd hh hne
    | cons x r => rfl
  refine ⟨⟨h.dg, h.n1, h.n480, fun i => ?_, by rw [hcd]; exact h.off, by rw [hcd, hcd]; exact h.pow, by rw [hcd]; exact h.sl, fun j => ?_, fun j => ?_, fun i hi => ?_, fun i hi => ?_, fun i j hi hj hij => ?_⟩, ?_⟩
  · show (if i = k then s.hist i ++ [zs] else s.hist i) ≠ [] ∧ ∀ c ∈ (if i = k then s.hist i ++ [zs] else s.hist i), _
    by_cases e : i = k
    · rw [if_pos e]
      refine ⟨by simp, fun c hc => ?_⟩
      rcases List.mem_append.1 hc with hc | hc
      · exact (h.ok i).2 c hc
      · rw [List.mem_singleton.1 hc]; exact hz
    · rw [if_neg e]; exact h.ok i
  · rw [World.frozen?_of_block (w := w3) (a := ⟨d, j, none⟩) (h5d d hdl hobd h.dg)]; exact h.frd j
  · rw [World.frozen?_setCell, World.frozen?_of_block (w := w3) (a := ⟨g, j, none⟩) (h45 g hgl hobg)]; exact h.frg j
  · have hi' : i < s.n := hi
    show CellIs _ g (i * 65) ((if i = k then s.hist i ++ [zs] else s.hist i).headD []) (if i = k then some ⟨g5, 0, none⟩ else ao i) (if i = k then cap5 else cp i) (if i = k then s.hist i ++ [zs] else s.hist i).tail
    have hC := h.cells i hi'
    by_cases e : i = k
    · subst e
      simp only [if_pos]
      rw [hhd, htl]
      have hl : ((s.hist i).tail ++ [zs]).length = (s.hist i).tail.length + 1 := by rw [List.length_append]; rfl
      refine ⟨fun j v hv => ?_, ?_, ?_, ?_, hC.len.1, fun c hc => ?_⟩
      · have hj : j < 64 := by have := (List.getElem?_eq_some_iff.1 hv).1; rw [bys_length, hC.len.1] at this; exact this
        rw [hcg _ (by omega)]; exact hC.last j v hv
      · rw [hl]
        exact World.cell?_setCell_same _ _ _ (by rw [cell_of_heap (p := ⟨g, i * 65 + 64, none⟩) (h45 g hgl hobg)]; exact hC.opn)
      · rw [hl, flat_snoc]
        exact owns_turn ho (fun b hb => by
          simp [Value.ownBlock] at hb
          rw [Below.heap_setCell _ _ _ _ (fun e => hg5g (hb.trans e))])
      · simp [Value.ownBlock]
        exact hg5g
      · rcases List.mem_append.1 hc with hc | hc
        · exact hC.len.2 c hc
        · rw [List.mem_singleton.1 hc]; exact hz.1
    · simp only [if_neg e]
      refine ⟨fun j v hv => ?_, ?_, owns_turn hC.row (fun b hb => ?_), hC.away, hC.len⟩
      · have hj : j < 64 := by have := (List.getElem?_eq_some_iff.1 hv).1; rw [bys_length, hC.len.1] at this; exact this
        rw [hcg _ (by omega)]; exact hC.last j v hv
      · rw [hcg _ (by omega)]; exact hC.opn
      · have hao := own_of_ao hC.form.1 hb
        refine h5d b (hC.row.lt b hb).2 (fun e' => ?_) (fun e' => hC.away (by rw [hb, e']))
        rcases h.apart i k hi' hk e with h0 | h0
        · rw [h0] at hao; cases hao
        · exact h0 (hao.trans (hobr b e').symm)
  · show (if i = k then some ⟨g5, 0, none⟩ else ao i) ≠ _
    by_cases e : i = k
    · rw [if_pos e]; intro e'; cases e'; exact hg5d rfl
    · rw [if_neg e]; exact h.awayd i hi
  · have key : ∀ x, x < s.n → x ≠ k → ao x ≠ some ⟨g5, 0, none⟩ := fun x hx hxk ex => by
      rcases hat with e | e
      · rcases h.apart x k hx hk hxk with h0 | h0
        · rw [h0] at ex; cases ex
        · exact h0 (ex.trans (hobr g5 e).symm)
      · have hC := h.cells x hx
        rw [ex] at hC
        have := hC.row_lt
        omega
    show (if i = k then some ⟨g5, 0, none⟩ else ao i) = none ∨ (if i = k then some ⟨g5, 0, none⟩ else ao i) ≠ (if j = k then some ⟨g5, 0, none⟩ else ao j)
    by_cases e1 : i = k <;> by_cases e2 : j = k
    · omega
    · rw [if_pos e1, if_neg e2]; exact Or.inr (Ne.symm (key j hj e2))
    · rw [if_neg e1, if_pos e2]; exact Or.inr (key i hi e1)
    · rw [if_neg e1, if_neg e2]; exact h.apart i j hi hj hij
  · refine ⟨hg.os.trans hb4.os, hg.tape.trans hb4.tape, hg.output.trans hb4.output, Nat.le_trans hb4.size (Nat.le_trans hg.size (by simp [World.setCell])), fun b hb hF => ?_, fun b hF => ?_⟩
    · exact h5d b hb (fun e => hF (Or.inr (Or.inr ⟨k, hk, hobr b e⟩))) (fun e => hF (Or.inr (Or.inl e)))
    · rcases hF with e | e | ⟨i, hi, e⟩
      · exact Or.inl (Or.inl e)
      · exact Or.inl (Or.inr (Or.inl e))
      · by_cases ek : i = k
        · simp only [if_pos ek] at e
          cases e
          rcases hat with e' | e'
          · exact Or.inl (Or.inr (Or.inr ⟨k, hk, hobr _ e'⟩))
          · exact Or.inr (by omega)
        · simp only [if_neg ek] at e
          exact Or.inl (Or.inr (Or.inr ⟨i, hi, e⟩))

end Go.Proofs.Ytbnepjojfaeggaa

namespace Go.Proofs.Ytbnepjojfaeggaa
open Go.RowKit
set_option linter.unusedVariables false
set_option linter.unusedSimpArgs false

set_option maxHeartbeats 400000 in
theorem put_nil (ao : Option Addr) (m cap : Nat) (w : World) : Calls Try.prog 23 #[.pointer none, .slice ao m cap] w fun e w' => e = .returned (.int .i64 1) ∧ w = w' := by
  have c := ready_nil w
  go_enter Try.func23, Try.ntmps23
  go_wp2_with (go_at_call 40; refine c.mono ?_; rintro e w' ⟨rfl, rfl⟩)
  go_ret
  exact ⟨rfl, rfl⟩

set_option maxRecDepth 100000 in
theorem alloc54 (w : World) : (Instr.alloc 48 true (.tuple #[])).run Try.prog w = .ok (.pointer (some ⟨w.heap.size, 0, none⟩)) (w.alloc (.cells #[.int .i64 0, .slice none 0 0] 48)) := by
  rfl
theorem i54 (x : Int) (ad : Option Addr) (l c : Nat) : (Try.prog.info? 48).map (·.size) = some (#[Value.int .i64 x, .slice ad l c] : Array Value).size := by
  show _ = some 2
  kernel_rfl
theorem p54 (x : Int) (ad : Option Addr) (l c : Nat) : (#[Value.int .i64 x, .slice ad l c] : Array Value).all (·.oneCell') = true := all_oneCell_toArray (cs := [Value.int .i64 x, .slice ad l c]) (by simp [Value.oneCell'])

section
variable {ops : Array Oper} {rest : List Oper} {o : Oper} {a : Act} {w : World} {Q : Exit → Act → World → Prop}

/-- A new variable of a write. -/
theorem wp_new54 (hg : o.guard = none) (ho : o.op = .alloc 48) (dst : Option Tmp) (hd : o.dst = dst)
    (h : ∀ n1 w1, n1 = w.heap.size → w1 = w.alloc (.cells #[.int .i64 0, .slice none 0 0] 48) → wpList Try.prog ops Q rest (a.put dst (.pointer (some ⟨n1, 0, none⟩))) w1) : wpList Try.prog ops Q (o :: rest) a w := by
  subst hd
  refine wpList_plain hg fun K hK => ?_
  unfold Oper.wp execOp
  simp only [ho, Sem.run_bind, alloc54, Sem.run_pure, Result.andThen_ok]
  exact hK _ _ (h _ _ rfl rfl)

/-- A write goes into it. -/
theorem wp_store54 (hg : o.guard = none) (x y : Operand) (ho : o.op = .store 48 x y) (hd : o.dst = none) {w0 : World} {n1 : Nat} (hn : n1 = w0.heap.size) (hw : w = w0.alloc (.cells #[.int .i64 0, .slice none 0 0] 48)) (hx : a.eval x = .pointer (some ⟨n1, 0, none⟩))
    (k : Int) (ad : Option Addr) (l c : Nat) (hy : a.eval y = .agg #[.int .i64 k, .slice ad l c])
    (h : ∀ w2, w2.cell? ⟨n1, 0, none⟩ = some (.int .i64 k) → w2.cell? ⟨n1, 1, none⟩ = some (.slice ad l c) → Below w0.heap.size w0 w2 → wpList Try.prog ops Q rest (a.put none undef) w2) : wpList Try.prog ops Q (o :: rest) a w := by
  have ht : w.there n1 0 (#[Value.int .i64 k, .slice ad l c] : Array Value).size := by
    rw [hw, hn]
    intro j hj
    refine ⟨?_, by rw [World.frozen?_alloc_mark]; simp⟩
    rw [Nat.zero_add, World.cell?_alloc_new]
    match j, hj with
    | 0, _ => rfl
    | 1, _ => rfl
  have hs := World.rangeAt_setCells_same w n1 0 [Value.int .i64 k, .slice ad l c] ht
  refine wpList_store_mid hg 48 x y ho n1 0 #[.int .i64 k, .slice ad l c] hx hy ht (i54 _ _ _ _) (p54 _ _ _ _) ?_
  rw [hd]
  refine h _ (hs 0 _ rfl) (hs 1 _ rfl) ?_
  exact below_setCells _ (by rw [hn]; exact Nat.le_refl _) _ _ _ (by rw [hw]; exact (Below.refl _ _).alloc (Nat.le_refl _) _)
end

section
variable {ops : Array Oper} {o : Oper} {a : Act} {w : World} {K : Act → World → Prop} {Q : Exit → Act → World → Prop} {E : Prop}

/-- A load of a block, as one step of a region that draws. -/
theorem step_load65 (hg : o.guard = none) (x : Operand) (ho : o.op = .load 81 x) (b off : Nat) (hx : a.eval x = .pointer (some ⟨b, off, none⟩)) (c : List Int) (hr : w.rangeAt b off (bys c)) (hc : c.length = 64)
    (hK : K (a.put o.dst (.agg (bys c).toArray)) w) : if Region.wanted o (yielded ops a.tmps) = true then Oper.wp Try.prog o a w K Q else E := by
  rw [if_pos (by simp [Region.wanted, hg])]
  exact wp_load_mid _ x ho b off hx (bys c) _ hr u65 rfl (i65 hc) hK

theorem fill65 {c : List Int} (hc : c.length = 64) (cells : Array Value) (h : cells.size = 64) : Instr.fill (fun i => some (i * 64, 64)) cells [(0, Value.agg (bys c).toArray)] = some (bys c).toArray := by
  have h64 : (bys c).length = 64 := by rw [bys_length, hc]
  have h1 := Great.fill_whole (s := 64) (by decide) [Value.agg (bys c).toArray] cells (fun v hv => by
    rw [List.mem_singleton.1 hv]
    show (bys c).toArray.size = 64
    simp [h64]) (by rw [h]; rfl)
  have e : ([Value.agg (bys c).toArray].flatMap fun v => v.cells.toList) = bys c := by simp [Value.cells]
  rw [e] at h1
  exact h1

theorem info65 : (Try.prog.info? 81).map (fun i => (i.zero, i.size, i.bytes)) = some (some (.agg zero65), 64, 64) := by kernel_rfl

/-- '[]block{x}', as one step of a region that draws. -/
theorem step_build65 (hg : o.guard = none) (x : Operand) (ho : o.op = .buildSlice 82 1 #[(0, x)]) (c : List Int) (hx : a.eval x = .agg (bys c).toArray) (hc : c.length = 64) (H : Nat) (hH : w.heap.size = H)
    (hK : K (a.put o.dst (.slice (some ⟨H, 0, none⟩) 1 1)) (w.alloc (.cells (bys c).toArray 81))) : if Region.wanted o (yielded ops a.tmps) = true then Oper.wp Try.prog o a w K Q else E := by
  subst hH
  rw [if_pos (by simp [Region.wanted, hg])]
  obtain ⟨i0, hi, hz0, hz1, hz2⟩ := info_parts info65
  refine wp_buildSlice _ 81 1 _ ho (bys c).toArray i0 (.agg zero65) u66 hi hz0 (by rw [hz1]; decide) (by rw [hz1]; decide) ?_ hK
  rw [hz1]
  have e : (#[((0 : Nat), x)].map fun (i, x) => (i, a.eval x)).toList = [(0, Value.agg (bys c).toArray)] := by simp [hx]
  rw [e]
  exact fill65 hc _ (by simp)
end

/-- The loop of Put behind i rounds. -/
def Puts (w0 : World) (d g : Nat) (F G : Nat → Prop) (s : DM) (po : Option Addr) (m : Nat) (ws : List (Int × List Int)) (n i : Nat) (wr : World) : Prop :=
  ∃ ao cp s1, DIs wr d g ao cp s1 ∧ s1.n = n ∧ putAll s ws = putAll s1 (ws.drop i) ∧ (∀ k, k < n → (s1.hist k).length + (ws.length - i) ≤ 1099511627776) ∧ Grew F (Foot d g ao n) w0 wr ∧ ListIs wr G po m ws

theorem elem_ok {ws : List (Int × List Int)} {n i : Nat} {x : Int} {zs : List Int} (h1 : badLen ws = false) (h2 : badAt n ws = false) (h : ws[i]? = some (x, zs)) : zs.length = 64 ∧ 0 ≤ x ∧ x < n := by
  have hm := List.mem_of_getElem? h
  unfold badLen at h1
  unfold badAt at h2
  rw [List.any_eq_false] at h1 h2
  have a1 := h1 _ hm
  have a2 := h2 _ hm
  simp at a1 a2
  exact ⟨a1, a2.1, a2.2⟩

theorem data_range {w : World} {bd od l c : Nat} {zs : List Int} (h : Arg w (some ⟨bd, od, none⟩) l c zs) : w.rangeAt bd od (bys zs) := by
  intro j v hv
  have h1 := bts_news h.1 rfl j v hv
  rw [Go.WideShapes.add_plain] at h1
  exact h1

set_option maxRecDepth 100000 in
set_option maxHeartbeats 3200000 in
theorem di_put {w : World} {a : Addr} {F : Nat → Prop} {s : DM} (G : Nat → Prop) (po : Option Addr) (m cap : Nat) (ws : List (Int × List Int)) (h : DI w a F s) (hL : ListIs w G po m ws) (hFG : ∀ k, F k → ¬ G k) (hfew : ∀ k, k < s.n → (s.hist k).length + ws.length ≤ 1099511627776) :
    Calls Try.prog 23 #[.pointer (some a), .slice po m cap] w fun e w' => ∃ F', e = .returned (.int .i64 (putRes s ws).2) ∧ DI w' a F' (putRes s ws).1 ∧ Grew F F' w w' := by
  obtain ⟨d, g, ao, cp, rfl, h, rfl⟩ := h
  have c1 := ready_d h.off
  by_cases hoff : s.off = true
  · rw [if_pos hoff] at c1
    have HE : Hid (putRes s ws = (s, 8)) := Lib.hid (by unfold putRes; rw [if_pos hoff])
    have H := Lib.hid h
    clear hoff h hL hFG hfew
    go_enter Try.func23, Try.ntmps23
    go_wp2_with (go_at_call 40; refine c1.mono ?_; rintro e w' ⟨rfl, rfl⟩)
    go_ret
    exact ⟨_, by rw [HE.out]; rfl, by rw [HE.out]; exact ⟨d, g, ao, cp, rfl, H.out, rfl⟩, Grew.refl _ _⟩
  · rw [if_neg hoff] at c1
    have c2 := fault_d (cap := cap) hL h.sl
    by_cases hbad : faultErr s.n ws = 0
    · obtain ⟨n, hnn⟩ : ∃ n, s.n = n := ⟨_, rfl⟩
      have hb1 : badLen ws = false := by
        unfold faultErr at hbad
        by_cases b1 : badLen ws = true
        · rw [if_pos b1] at hbad; exact absurd hbad (by decide)
        · rw [Bool.not_eq_true] at b1; exact b1
      have hb2 : badAt n ws = false := by
        unfold faultErr at hbad
        rw [hb1, hnn, if_neg (by decide)] at hbad
        by_cases b1 : badAt n ws = true
        · rw [if_pos b1] at hbad; exact absurd hbad (by decide)
        · rw [Bool.not_eq_true] at b1; exact b1
      have HE : Hid (putRes s ws = putAll s ws) := Lib.hid (by unfold putRes; rw [if_neg hoff, hb1, hnn, hb2, if_neg (by decide), if_neg (by decide)])
      have HOK := Lib.hid (fun i x zs => elem_ok (i := i) (x := x) (zs := zs) hb1 hb2)
      have HWL := Lib.hid hL.1
      have hm := hL.2.1
      rw [hbad] at c2
      have HFG := Lib.hid hFG
      have HL0 := Lib.hid hL
      have HP0 : Hid (∀ w2, Below w.heap.size w w2 → Puts w d g (Foot d g ao s.n) G s po m ws n 0 w2) := Lib.hid (fun w2 hb => ⟨ao, cp, s, h.turn (fun k hk => hb.block k (h.lt hk)), hnn, rfl, fun k hk => by have := hfew k (by rw [hnn]; exact hk); omega, by rw [← hnn]; exact Grew.of_below hb, hL.later hb⟩)
      clear hoff h hL hFG hfew hbad hb1 hb2 hnn
      go_enter Try.func23, Try.ntmps23
      go_wp2_with (first
        | (go_at_call 40; refine c1.mono ?_; rintro e w' ⟨rfl, rfl⟩)
        | (go_at_call 41; refine c2.mono ?_; rintro e w2 ⟨rfl, hb2⟩; have HP := Lib.hid (HP0.out w2 hb2); clear hb2))
      clear c1 c2 HP0
      go_loopw [23] (fun iv wr => ∃ i : Nat, iv = .int .i64 (i : Int) ∧ i ≤ m ∧ Hid (Puts w d g (Foot d g ao s.n) G s po m ws n i wr)) (fun iv _ => m - (intOf iv).toNat)
      case atStart => exact ⟨0, rfl, Nat.zero_le _, HP⟩
      case round =>
        clear HP
        obtain ⟨i, rfl, hi, HP⟩ := hrel
        obtain ⟨ao1, cp1, s1, hD, hn1, hput, hfew, hG1, hLr⟩ := HP.out
        have HD := Lib.hid hD
        have HN1 := Lib.hid hn1
        have HPUT := Lib.hid hput
        have HFEW := Lib.hid hfew
        have HG1 := Lib.hid hG1
        have HLR := Lib.hid hLr
        by_cases hlt : i < m
        · obtain ⟨b, off, x, zs, ad, l, c, rfl, hGb, hbl, hp, e1, e2, hxr, hA, hGd⟩ := list_at hLr hlt
          have i1 : (i : Int) < (m : Int) := by omega
          obtain ⟨hz64, hx0, hxn⟩ := HOK.out i x zs hp
          have hl : l = 64 := by rw [← hA.1.1]; exact hz64
          subst hl
          obtain ⟨k, rfl⟩ : ∃ k : Nat, x = k := ⟨x.toNat, by omega⟩
          obtain ⟨bd, od, rfl, _⟩ := hA.1.2.2.2.resolve_left (by decide)
          have HBD : Hid (bd ≠ d) := Lib.hid (fun e => by
            have hg := hGd bd od none rfl (by decide)
            rw [e] at hg
            exact HFG.out d (Or.inl rfl) hg)
          have HA := Lib.hid hA
          have HZ := Lib.hid (And.intro hz64 hA.1.2.2.1)
          have HDR : Hid (ws.drop i = ((k : Int), zs) :: ws.drop (i + 1)) := Lib.hid (by
            have hlt' := (List.getElem?_eq_some_iff.1 hp).1
            rw [List.drop_eq_getElem_cons hlt', (List.getElem?_eq_some_iff.1 hp).2])
          have hkn : k < n := by omega
          clear hD hn1 hput hfew hG1 hLr HP hp hA hGb hbl hxr hGd hx0
          by_cases hz : s1.left = 0
          · have HPE : Hid (putAll s ws = (gone s1, 8)) := Lib.hid (by
              rw [HPUT.out, HDR.out]
              show (if s1.left = 0 then (gone s1, 8) else _) = _
              rw [if_pos hz])
            have HCH : Hid (∀ w2, DIs w2 d g ao1 cp1 s1 → Calls Try.prog 42 #[.pointer (some ⟨d, 0, none⟩)] w2 fun e w' => e = .returned (.bool false) ∧ DIs w' d g ao1 cp1 (gone s1) ∧ Grew (fun k => k = d) (fun k => k = d) w2 w') := Lib.hid (fun w2 h2 => by
              have c := holds_di h2
              rw [if_pos hz, decide_eq_false (by omega)] at c
              exact c)
            clear hz
            go_wp2_with (first
              | (refine wp_new54 rfl rfl (some 8) rfl ?_; intro n1 w1 hn1 hw1)
              | (refine wp_store54 rfl (.tmp 8) (.tmp 26) rfl rfl hn1 hw1 rfl (k : Int) (some ⟨bd, od, none⟩) 64 c rfl ?_; intro w2 g0 g1 hb2; have HD2 := Lib.hid (HD.out.turn (fun k hk => hb2.block k (HD.out.lt hk))); have HB2 := Lib.hid hb2; clear hw1 hn1 hb2)
              | (go_at_call 42; refine (HCH.out _ HD2.out).mono ?_; rintro e w3 ⟨rfl, hd3, hg3⟩; have HD3 := Lib.hid hd3; have HG3 := Lib.hid hg3; clear hd3 hg3))
            go_ret
            refine ⟨Foot d g ao1 n, by rw [HE.out, HPE.out]; rfl, by rw [HE.out, HPE.out]; exact ⟨d, g, ao1, cp1, rfl, HD3.out, by rw [show (gone s1).n = n from HN1.out]⟩, ?_⟩
            exact HG1.out.trans ((Grew.of_below HB2.out).trans (grew_in HG3.out (Or.inl rfl)))
          · have HPE : Hid (putAll s ws = putAll (addW (step1 s1) k zs) (ws.drop (i + 1))) := Lib.hid (by
              rw [HPUT.out, HDR.out]
              show (if s1.left = 0 then (gone s1, 8) else putAll (addW (step1 s1) (Int.toNat (k : Int)) zs) (ws.drop (i + 1))) = _
              rw [if_neg hz, Int.toNat_natCast])
            have HCH : Hid (∀ w2, DIs w2 d g ao1 cp1 s1 → Calls Try.prog 42 #[.pointer (some ⟨d, 0, none⟩)] w2 fun e w' => e = .returned (.bool true) ∧ DIs w' d g ao1 cp1 (step1 s1) ∧ Grew (fun k => k = d) (fun k => k = d) w2 w') := Lib.hid (fun w2 h2 => by
              have c := holds_di h2
              rw [if_neg hz, decide_eq_true hz] at c
              exact c)
            obtain ⟨L, hL⟩ : ∃ L, (s1.hist k).tail.length = L := ⟨_, rfl⟩
            have HLL := Lib.hid hL
            have i2 : (k : Int) < (n : Int) := hxn
            clear hz hL
            go_wp2_with (first
              | (refine wp_new54 rfl rfl (some 8) rfl ?_; intro n1 w1 hn1 hw1)
              | (refine wp_store54 rfl (.tmp 8) (.tmp 26) rfl rfl hn1 hw1 rfl (k : Int) (some ⟨bd, od, none⟩) 64 c rfl ?_; intro w2 g0 g1 hb2; have HD2 := Lib.hid (HD.out.turn (fun k hk => hb2.block k (HD.out.lt hk))); have HB2 := Lib.hid hb2; have HND : Hid (n1 ≠ d) := Lib.hid (by rw [hn1]; have := HD.out.lt (Or.inl rfl); omega); have HNS := Lib.hid hn1; clear hw1 hn1 hb2)
              | (go_at_call 42; refine (HCH.out _ HD2.out).mono ?_; rintro e w3 ⟨rfl, hd3, hg3⟩; have HD3 := Lib.hid hd3; have HG3 := Lib.hid hg3; have f0 := (cell_of_heap (p := ⟨n1, 0, none⟩) (hg3.2.2.2.2.1 n1 (World.block_lt_of_cell? _ _ g0) HND.out)).trans g0; have f1 := (cell_of_heap (p := ⟨n1, 1, none⟩) (hg3.2.2.2.2.1 n1 (World.block_lt_of_cell? _ _ g1) HND.out)).trans g1; have f2 := hd3.sl; rw [show (step1 s1).n = n from HN1.out] at f2; have f3 := (hd3.cells k (by rw [show (step1 s1).n = n from HN1.out]; exact hkn)).opn; rw [show ((step1 s1).hist k).tail.length = L from HLL.out] at f3; clear hd3 hg3 g0 g1))
            go_quiet (fail)
            go_wp2_with fail
            obtain ⟨V, hV⟩ : ∃ V, V = (w3.drewN nq).drew := ⟨_, rfl⟩
            have hbV : Below w3.heap.size w3 V := by rw [hV]; exact (below_drewN (Below.refl _ _) _).drew
            have hbA : Below w3.heap.size w3 (V.alloc (.cells (bys zs).toArray 81)) := hbV.alloc hbV.size _
            have f1v := cell_later hbV f1
            have f3v := cell_later hbV f3
            have f3b := cell_later hbA f3
            have HV := Lib.hid hV
            have hCk := HD3.out.cells k (by rw [show (step1 s1).n = n from HN1.out]; exact hkn)
            have HGV : Hid (g < (V.alloc (.cells (bys zs).toArray 81)).heap.size ∧ (Value.slice (ao1 k) L (cp1 k)).ownBlock ≠ some g) := Lib.hid ⟨Nat.lt_of_lt_of_le hCk.lt hbA.size, by rw [← HLL.out]; exact hCk.away⟩
            have HFB : Hid ((V.alloc (.cells (bys zs).toArray 81)).frozen? ⟨g, k * 65 + 64, none⟩ = false) := Lib.hid (by rw [hbA.frozen (p := ⟨g, k * 65 + 64, none⟩) hCk.lt]; exact HD3.out.frg _)
            have HOWN : Hid ((V.alloc (.cells (bys zs).toArray 81)).ownsRow 0 81 64 (.slice (ao1 k) L (cp1 k)) L (flat (s1.hist k).tail)) := Lib.hid (by rw [← HLL.out]; exact owns_turn hCk.row (fun b hb => hbA.block b (hCk.row.lt b hb).2))
            have HNEWS : Hid (∀ j u, (bys zs)[j]? = some u → (V.alloc (.cells (bys zs).toArray 81)).cell? ((⟨V.heap.size, 0, none⟩ : Addr).add j) = some u) := Lib.hid (fun j u hj => by
              rw [Go.WideShapes.add_plain, Nat.zero_add, World.cell?_alloc_new]
              simpa using hj)
            have hA2 := (HA.out.later HB2.out).grew HG3.out (fun b' o s e _ => by
              cases e
              have h1 := HA.out.1.2.2.2.resolve_left (by decide)
              obtain ⟨b1, o1, e1, hc1⟩ := h1
              cases e1
              exact fun e => HBD.out e)
            have HRV : Hid (V.rangeAt bd od (bys zs)) := Lib.hid (range_later hbV (data_range hA2))
            obtain ⟨i0, hi0, hz0, hz1, hz2⟩ := info_parts info65
            have HI := Lib.hid (And.intro hi0 (And.intro hz0 (And.intro hz1 hz2)))
            have hLb : L + 1 ≤ 1099511627776 := by
              have h1 := HFEW.out k hkn
              have h2 : (s1.hist k).tail.length = (s1.hist k).length - 1 := List.length_tail
              have h3 := HLL.out
              have h4 := HWL.out
              omega
            have HBV := Lib.hid (And.intro hbV hbA)
            clear f0 f1 f2 f3 hV hbV hbA hCk hA2 hi0 hz0 hz1 hz2
            refine wp_region_any (by kernel_rfl) ?_
            try (change wpAny _ _ _ _ _ _ _ (World.drew _))
            rw [← HV.out]
            refine wpAny_take (i := 0) (oi := ⟨some 39, _, _, _, _, _⟩) (v := ?_) rfl (by kernel_rfl) (by kernel_rfl) (by kernel_rfl) (fun _ _ _ h => h) (Or.inl ⟨by kernel_rfl, ?_⟩) ?_
            rotate_left 1
            · (intro w; go_simp); try (with_reducible rfl)
            try simp only [Act.put, List.setIfInBounds_toArray, List.set_cons_zero, List.set_cons_succ]
            refine wpAny_take (i := 1) (oi := ⟨some 40, _, _, _, _, _⟩) (v := ?_) rfl (by kernel_rfl) (by kernel_rfl) (by kernel_rfl) (fun _ _ _ h => h) (Or.inl ⟨by kernel_rfl, ?_⟩) ?_
            rotate_left 1
            · (intro w; go_simp); try (with_reducible rfl)
            try simp only [Act.put, List.setIfInBounds_toArray, List.set_cons_zero, List.set_cons_succ]
            refine wpAny_take (i := 2) (oi := ⟨some 41, _, _, _, _, _⟩) (v := ?_) rfl (by kernel_rfl) (by kernel_rfl) (by kernel_rfl) (fun _ _ _ h => h) (Or.inl ⟨by kernel_rfl, ?_⟩) ?_
            rotate_left 1
            · (intro w; go_simp); try (with_reducible rfl)
            try simp only [Act.put, List.setIfInBounds_toArray, List.set_cons_zero, List.set_cons_succ]
            refine wpAny_take (i := 3) (oi := ⟨some 42, _, _, _, _, _⟩) (v := ?_) rfl (by kernel_rfl) (by kernel_rfl) (by kernel_rfl) (fun _ _ _ h => h) (Or.inl ⟨by kernel_rfl, ?_⟩) ?_
            rotate_left 1
            · (intro w; go_simp); try (with_reducible rfl)
            try simp only [Act.put, List.setIfInBounds_toArray, List.set_cons_zero, List.set_cons_succ]
            refine wpAny_take (i := 5) (oi := ⟨some 44, _, _, _, _, _⟩) (v := ?_) rfl (by kernel_rfl) (by kernel_rfl) (by kernel_rfl) (fun _ _ _ h => h) (Or.inl ⟨by kernel_rfl, ?_⟩) ?_
            rotate_left 1
            · (intro w; go_simp); try (with_reducible rfl)
            try simp only [Act.put, List.setIfInBounds_toArray, List.set_cons_zero, List.set_cons_succ]
            refine wpAny_ready (rs := [4, 6]) (by kernel_rfl) (by simp) ?_
            refine AllReady.cons (o := ⟨some 43, _, _, _, _, _⟩) rfl (fun K hK => ?_) ?_
            · go_simp
              refine hK _ _ ?_
              clear hK K
              refine wpAny_ready (rs := [6]) (by kernel_rfl) (by simp) ?_
              refine AllReady.cons (o := ⟨some 45, _, _, _, _, _⟩) rfl (fun K hK => ?_) AllReady.nil
              go_simp
              refine hK _ _ ?_
              clear hK K
              refine wpAny_ready (rs := [7]) (by kernel_rfl) (by simp) ?_
              refine AllReady.cons (o := ⟨some 46, _, _, _, _, _⟩) rfl (fun K hK => ?_) AllReady.nil
              go_simp
              refine hK _ _ ?_
              clear hK K
              refine wpAny_ready (rs := [8]) (by kernel_rfl) (by simp) ?_
              refine AllReady.cons (o := ⟨some 47, _, _, _, _, _⟩) rfl (fun K hK => ?_) AllReady.nil
              refine step_load65 rfl (.tmp 46) rfl bd od rfl zs HRV.out HZ.out.1 ?_
              refine hK _ _ ?_
              clear hK K
              try simp only [Act.put, List.setIfInBounds_toArray, List.set_cons_zero, List.set_cons_succ]
              refine wpAny_ready (rs := [9]) (by kernel_rfl) (by simp) ?_
              refine AllReady.cons (o := ⟨some 48, _, _, _, _, _⟩) rfl (fun K hK => ?_) AllReady.nil
              refine step_build65 rfl (.tmp 47) rfl zs rfl HZ.out.1 _ rfl ?_
              refine hK _ _ ?_
              clear hK K
              try simp only [Act.put, List.setIfInBounds_toArray, List.set_cons_zero, List.set_cons_succ]
              refine wpAny_ready (rs := [10]) (by kernel_rfl) (by simp) ?_
              refine AllReady.cons (o := ⟨some 49, _, _, _, _, _⟩) rfl (fun K hK => ?_) AllReady.nil
              refine step_append_lies _ rfl (.tmp 43) (.tmp 48) 82 (by rfl) 0 81 i0 (.agg zero65) 64 64 u66 HI.out.1 HI.out.2.1 HI.out.2.2.1 HI.out.2.2.2 rfl (by decide) (.slice (ao1 k) L (cp1 k)) L (flat (s1.hist k).tail) (by rfl) HOWN.out ⟨V.heap.size, 0, none⟩ 1 1 (bys zs) (by rfl) (by rw [bys_length, HZ.out.1]) HNEWS.out (bys_one zs) (by decide) (by unfold maxLen; omega) (by omega) (Nat.zero_le _) _ rfl ?_
              intro g5 cap5 w5 hown5 hgrow5 hat5 hlt5
              have h45 : w5.heap[g]? = (V.alloc (.cells (bys zs).toArray 81)).heap[g]? := hgrow5.block g HGV.out.1 (fun e => HGV.out.2 e.symm)
              have f5 : w5.cell? ⟨g, k * 65 + 64, none⟩ = some (.slice (ao1 k) L (cp1 k)) := (cell_of_heap (p := ⟨g, k * 65 + 64, none⟩) h45).trans f3b
              have fr5 : w5.frozen? ⟨g, k * 65 + 64, none⟩ = false := (World.frozen?_of_block (w := V.alloc (.cells (bys zs).toArray 81)) (a := ⟨g, k * 65 + 64, none⟩) h45).trans HFB.out
              have HG5 := Lib.hid (And.intro hown5 (And.intro hgrow5 hat5))
              clear hown5 hgrow5 hat5 hlt5 h45
              refine hK _ _ ?_
              clear hK K
              try simp only [Act.put, List.setIfInBounds_toArray, List.set_cons_zero, List.set_cons_succ]
              refine wpAny_ready (rs := [11]) (by kernel_rfl) (by simp) ?_
              refine AllReady.cons (o := ⟨some 50, _, _, _, _, _⟩) rfl (fun K hK => ?_) AllReady.nil
              go_simp
              refine hK _ _ ?_
              clear hK K
              refine wpAny_ready (rs := [12]) (by kernel_rfl) (by simp) ?_
              refine AllReady.cons (o := ⟨some 51, _, _, _, _, _⟩) rfl (fun K hK => ?_) AllReady.nil
              go_simp
              refine hK _ _ ?_
              clear hK K
              refine wpAny_ready (rs := [13]) (by kernel_rfl) (by simp) ?_
              refine AllReady.cons (o := ⟨none, _, _, _, _, _⟩) rfl (fun K hK => ?_) AllReady.nil
              go_simp
              refine hK _ _ ?_
              clear hK K
              refine wpAny_done (by kernel_rfl) ?_ _
              go_simp
              go_wp2_with fail
              go_roundw
              case rel =>
                have e6 : (step1 s1).n = n := HN1.out
                have eL : ((step1 s1).hist k).tail.length = L := HLL.out
                obtain ⟨D6, G6⟩ := HD3.out.push (k := k) (g5 := g5) (cap5 := cap5) (H := (V.alloc (.cells (bys zs).toArray 81)).heap.size) (zs := zs) (by rw [e6]; exact hkn) HBV.out.2 HZ.out (by rw [eL]; exact HG5.out.1) (by rw [eL]; exact HG5.out.2.1) (by rw [eL]; exact HG5.out.2.2) HBV.out.2.size
                rw [eL] at D6 G6
                rw [e6] at G6
                have G7 := HG1.out.trans ((Grew.of_below HB2.out).trans ((grew_in (F := Foot d g ao1 n) HG3.out (Or.inl rfl)).trans G6))
                refine ⟨i + 1, by go_num, by omega, Lib.hid ⟨_, _, _, D6, HN1.out, HPE.out, fun k' hk' => ?_, G7, HL0.out.grew G7 HFG.out⟩⟩
                have h1 := HFEW.out k' hk'
                have h4 := HWL.out
                show (if k' = k then s1.hist k' ++ [zs] else s1.hist k').length + _ ≤ _
                by_cases ek : k' = k
                · rw [if_pos ek, List.length_append]
                  simp only [List.length_cons, List.length_nil]
                  omega
                · rw [if_neg ek]; omega
              case measure => simp [intOf]; omega
            refine AllReady.cons (o := ⟨some 45, _, _, _, _, _⟩) rfl (fun K hK => ?_) AllReady.nil
            go_simp
            refine hK _ _ ?_
            clear hK K
            refine wpAny_ready (rs := [4, 7]) (by kernel_rfl) (by simp) ?_
            refine AllReady.cons (o := ⟨some 43, _, _, _, _, _⟩) rfl (fun K hK => ?_) ?_
            · go_simp
              refine hK _ _ ?_
              clear hK K
              refine wpAny_ready (rs := [7]) (by kernel_rfl) (by simp) ?_
              refine AllReady.cons (o := ⟨some 46, _, _, _, _, _⟩) rfl (fun K hK => ?_) AllReady.nil
              go_simp
              refine hK _ _ ?_
              clear hK K
              refine wpAny_ready (rs := [8]) (by kernel_rfl) (by simp) ?_
              refine AllReady.cons (o := ⟨some 47, _, _, _, _, _⟩) rfl (fun K hK => ?_) AllReady.nil
              refine step_load65 rfl (.tmp 46) rfl bd od rfl zs HRV.out HZ.out.1 ?_
              refine hK _ _ ?_
              clear hK K
              try simp only [Act.put, List.setIfInBounds_toArray, List.set_cons_zero, List.set_cons_succ]
              refine wpAny_ready (rs := [9]) (by kernel_rfl) (by simp) ?_
              refine AllReady.cons (o := ⟨some 48, _, _, _, _, _⟩) rfl (fun K hK => ?_) AllReady.nil
              refine step_build65 rfl (.tmp 47) rfl zs rfl HZ.out.1 _ rfl ?_
              refine hK _ _ ?_
              clear hK K
              try simp only [Act.put, List.setIfInBounds_toArray, List.set_cons_zero, List.set_cons_succ]
              refine wpAny_ready (rs := [10]) (by kernel_rfl) (by simp) ?_
              refine AllReady.cons (o := ⟨some 49, _, _, _, _, _⟩) rfl (fun K hK => ?_) AllReady.nil
              refine step_append_lies _ rfl (.tmp 43) (.tmp 48) 82 (by rfl) 0 81 i0 (.agg zero65) 64 64 u66 HI.out.1 HI.out.2.1 HI.out.2.2.1 HI.out.2.2.2 rfl (by decide) (.slice (ao1 k) L (cp1 k)) L (flat (s1.hist k).tail) (by rfl) HOWN.out ⟨V.heap.size, 0, none⟩ 1 1 (bys zs) (by rfl) (by rw [bys_length, HZ.out.1]) HNEWS.out (bys_one zs) (by decide) (by unfold maxLen; omega) (by omega) (Nat.zero_le _) _ rfl ?_
              intro g5 cap5 w5 hown5 hgrow5 hat5 hlt5
              have h45 : w5.heap[g]? = (V.alloc (.cells (bys zs).toArray 81)).heap[g]? := hgrow5.block g HGV.out.1 (fun e => HGV.out.2 e.symm)
              have f5 : w5.cell? ⟨g, k * 65 + 64, none⟩ = some (.slice (ao1 k) L (cp1 k)) := (cell_of_heap (p := ⟨g, k * 65 + 64, none⟩) h45).trans f3b
              have fr5 : w5.frozen? ⟨g, k * 65 + 64, none⟩ = false := (World.frozen?_of_block (w := V.alloc (.cells (bys zs).toArray 81)) (a := ⟨g, k * 65 + 64, none⟩) h45).trans HFB.out
              have HG5 := Lib.hid (And.intro hown5 (And.intro hgrow5 hat5))
              clear hown5 hgrow5 hat5 hlt5 h45
              refine hK _ _ ?_
              clear hK K
              try simp only [Act.put, List.setIfInBounds_toArray, List.set_cons_zero, List.set_cons_succ]
              refine wpAny_ready (rs := [11]) (by kernel_rfl) (by simp) ?_
              refine AllReady.cons (o := ⟨some 50, _, _, _, _, _⟩) rfl (fun K hK => ?_) AllReady.nil
              go_simp
              refine hK _ _ ?_
              clear hK K
              refine wpAny_ready (rs := [12]) (by kernel_rfl) (by simp) ?_
              refine AllReady.cons (o := ⟨some 51, _, _, _, _, _⟩) rfl (fun K hK => ?_) AllReady.nil
              go_simp
              refine hK _ _ ?_
              clear hK K
              refine wpAny_ready (rs := [13]) (by kernel_rfl) (by simp) ?_
              refine AllReady.cons (o := ⟨none, _, _, _, _, _⟩) rfl (fun K hK => ?_) AllReady.nil
              go_simp
              refine hK _ _ ?_
              clear hK K
              refine wpAny_done (by kernel_rfl) ?_ _
              go_simp
              go_wp2_with fail
              go_roundw
              case rel =>
                have e6 : (step1 s1).n = n := HN1.out
                have eL : ((step1 s1).hist k).tail.length = L := HLL.out
                obtain ⟨D6, G6⟩ := HD3.out.push (k := k) (g5 := g5) (cap5 := cap5) (H := (V.alloc (.cells (bys zs).toArray 81)).heap.size) (zs := zs) (by rw [e6]; exact hkn) HBV.out.2 HZ.out (by rw [eL]; exact HG5.out.1) (by rw [eL]; exact HG5.out.2.1) (by rw [eL]; exact HG5.out.2.2) HBV.out.2.size
                rw [eL] at D6 G6
                rw [e6] at G6
                have G7 := HG1.out.trans ((Grew.of_below HB2.out).trans ((grew_in (F := Foot d g ao1 n) HG3.out (Or.inl rfl)).trans G6))
                refine ⟨i + 1, by go_num, by omega, Lib.hid ⟨_, _, _, D6, HN1.out, HPE.out, fun k' hk' => ?_, G7, HL0.out.grew G7 HFG.out⟩⟩
                have h1 := HFEW.out k' hk'
                have h4 := HWL.out
                show (if k' = k then s1.hist k' ++ [zs] else s1.hist k').length + _ ≤ _
                by_cases ek : k' = k
                · rw [if_pos ek, List.length_append]
                  simp only [List.length_cons, List.length_nil]
                  omega
                · rw [if_neg ek]; omega
              case measure => simp [intOf]; omega
            refine AllReady.cons (o := ⟨some 46, _, _, _, _, _⟩) rfl (fun K hK => ?_) AllReady.nil
            go_simp
            refine hK _ _ ?_
            clear hK K
            refine wpAny_ready (rs := [4, 8]) (by kernel_rfl) (by simp) ?_
            refine AllReady.cons (o := ⟨some 43, _, _, _, _, _⟩) rfl (fun K hK => ?_) ?_
            · go_simp
              refine hK _ _ ?_
              clear hK K
              refine wpAny_ready (rs := [8]) (by kernel_rfl) (by simp) ?_
              refine AllReady.cons (o := ⟨some 47, _, _, _, _, _⟩) rfl (fun K hK => ?_) AllReady.nil
              refine step_load65 rfl (.tmp 46) rfl bd od rfl zs HRV.out HZ.out.1 ?_
              refine hK _ _ ?_
              clear hK K
              try simp only [Act.put, List.setIfInBounds_toArray, List.set_cons_zero, List.set_cons_succ]
              refine wpAny_ready (rs := [9]) (by kernel_rfl) (by simp) ?_
              refine AllReady.cons (o := ⟨some 48, _, _, _, _, _⟩) rfl (fun K hK => ?_) AllReady.nil
              refine step_build65 rfl (.tmp 47) rfl zs rfl HZ.out.1 _ rfl ?_
              refine hK _ _ ?_
              clear hK K
              try simp only [Act.put, List.setIfInBounds_toArray, List.set_cons_zero, List.set_cons_succ]
              refine wpAny_ready (rs := [10]) (by kernel_rfl) (by simp) ?_
              refine AllReady.cons (o := ⟨some 49, _, _, _, _, _⟩) rfl (fun K hK => ?_) AllReady.nil
              refine step_append_lies _ rfl (.tmp 43) (.tmp 48) 82 (by rfl) 0 81 i0 (.agg zero65) 64 64 u66 HI.out.1 HI.out.2.1 HI.out.2.2.1 HI.out.2.2.2 rfl (by decide) (.slice (ao1 k) L (cp1 k)) L (flat (s1.hist k).tail) (by rfl) HOWN.out ⟨V.heap.size, 0, none⟩ 1 1 (bys zs) (by rfl) (by rw [bys_length, HZ.out.1]) HNEWS.out (bys_one zs) (by decide) (by unfold maxLen; omega) (by omega) (Nat.zero_le _) _ rfl ?_
              intro g5 cap5 w5 hown5 hgrow5 hat5 hlt5
              have h45 : w5.heap[g]? = (V.alloc (.cells (bys zs).toArray 81)).heap[g]? := hgrow5.block g HGV.out.1 (fun e => HGV.out.2 e.symm)
              have f5 : w5.cell? ⟨g, k * 65 + 64, none⟩ = some (.slice (ao1 k) L (cp1 k)) := (cell_of_heap (p := ⟨g, k * 65 + 64, none⟩) h45).trans f3b
              have fr5 : w5.frozen? ⟨g, k * 65 + 64, none⟩ = false := (World.frozen?_of_block (w := V.alloc (.cells (bys zs).toArray 81)) (a := ⟨g, k * 65 + 64, none⟩) h45).trans HFB.out
              have HG5 := Lib.hid (And.intro hown5 (And.intro hgrow5 hat5))
              clear hown5 hgrow5 hat5 hlt5 h45
              refine hK _ _ ?_
              clear hK K
              try simp only [Act.put, List.setIfInBounds_toArray, List.set_cons_zero, List.set_cons_succ]
              refine wpAny_ready (rs := [11]) (by kernel_rfl) (by simp) ?_
              refine AllReady.cons (o := ⟨some 50, _, _, _, _, _⟩) rfl (fun K hK => ?_) AllReady.nil
              go_simp
              refine hK _ _ ?_
              clear hK K
              refine wpAny_ready (rs := [12]) (by kernel_rfl) (by simp) ?_
              refine AllReady.cons (o := ⟨some 51, _, _, _, _, _⟩) rfl (fun K hK => ?_) AllReady.nil
              go_simp
              refine hK _ _ ?_
              clear hK K
              refine wpAny_ready (rs := [13]) (by kernel_rfl) (by simp) ?_
              refine AllReady.cons (o := ⟨none, _, _, _, _, _⟩) rfl (fun K hK => ?_) AllReady.nil
              go_simp
              refine hK _ _ ?_
              clear hK K
              refine wpAny_done (by kernel_rfl) ?_ _
              go_simp
              go_wp2_with fail
              go_roundw
              case rel =>
                have e6 : (step1 s1).n = n := HN1.out
                have eL : ((step1 s1).hist k).tail.length = L := HLL.out
                obtain ⟨D6, G6⟩ := HD3.out.push (k := k) (g5 := g5) (cap5 := cap5) (H := (V.alloc (.cells (bys zs).toArray 81)).heap.size) (zs := zs) (by rw [e6]; exact hkn) HBV.out.2 HZ.out (by rw [eL]; exact HG5.out.1) (by rw [eL]; exact HG5.out.2.1) (by rw [eL]; exact HG5.out.2.2) HBV.out.2.size
                rw [eL] at D6 G6
                rw [e6] at G6
                have G7 := HG1.out.trans ((Grew.of_below HB2.out).trans ((grew_in (F := Foot d g ao1 n) HG3.out (Or.inl rfl)).trans G6))
                refine ⟨i + 1, by go_num, by omega, Lib.hid ⟨_, _, _, D6, HN1.out, HPE.out, fun k' hk' => ?_, G7, HL0.out.grew G7 HFG.out⟩⟩
                have h1 := HFEW.out k' hk'
                have h4 := HWL.out
                show (if k' = k then s1.hist k' ++ [zs] else s1.hist k').length + _ ≤ _
                by_cases ek : k' = k
                · rw [if_pos ek, List.length_append]
                  simp only [List.length_cons, List.length_nil]
                  omega
                · rw [if_neg ek]; omega
              case measure => simp [intOf]; omega
            refine AllReady.cons (o := ⟨some 47, _, _, _, _, _⟩) rfl (fun K hK => ?_) AllReady.nil
            refine step_load65 rfl (.tmp 46) rfl bd od rfl zs HRV.out HZ.out.1 ?_
            refine hK _ _ ?_
            clear hK K
            try simp only [Act.put, List.setIfInBounds_toArray, List.set_cons_zero, List.set_cons_succ]
            refine wpAny_ready (rs := [4, 9]) (by kernel_rfl) (by simp) ?_
            refine AllReady.cons (o := ⟨some 43, _, _, _, _, _⟩) rfl (fun K hK => ?_) ?_
            · go_simp
              refine hK _ _ ?_
              clear hK K
              refine wpAny_ready (rs := [9]) (by kernel_rfl) (by simp) ?_
              refine AllReady.cons (o := ⟨some 48, _, _, _, _, _⟩) rfl (fun K hK => ?_) AllReady.nil
              refine step_build65 rfl (.tmp 47) rfl zs rfl HZ.out.1 _ rfl ?_
              refine hK _ _ ?_
              clear hK K
              try simp only [Act.put, List.setIfInBounds_toArray, List.set_cons_zero, List.set_cons_succ]
              refine wpAny_ready (rs := [10]) (by kernel_rfl) (by simp) ?_
              refine AllReady.cons (o := ⟨some 49, _, _, _, _, _⟩) rfl (fun K hK => ?_) AllReady.nil
              refine step_append_lies _ rfl (.tmp 43) (.tmp 48) 82 (by rfl) 0 81 i0 (.agg zero65) 64 64 u66 HI.out.1 HI.out.2.1 HI.out.2.2.1 HI.out.2.2.2 rfl (by decide) (.slice (ao1 k) L (cp1 k)) L (flat (s1.hist k).tail) (by rfl) HOWN.out ⟨V.heap.size, 0, none⟩ 1 1 (bys zs) (by rfl) (by rw [bys_length, HZ.out.1]) HNEWS.out (bys_one zs) (by decide) (by unfold maxLen; omega) (by omega) (Nat.zero_le _) _ rfl ?_
              intro g5 cap5 w5 hown5 hgrow5 hat5 hlt5
              have h45 : w5.heap[g]? = (V.alloc (.cells (bys zs).toArray 81)).heap[g]? := hgrow5.block g HGV.out.1 (fun e => HGV.out.2 e.symm)
              have f5 : w5.cell? ⟨g, k * 65 + 64, none⟩ = some (.slice (ao1 k) L (cp1 k)) := (cell_of_heap (p := ⟨g, k * 65 + 64, none⟩) h45).trans f3b
              have fr5 : w5.frozen? ⟨g, k * 65 + 64, none⟩ = false := (World.frozen?_of_block (w := V.alloc (.cells (bys zs).toArray 81)) (a := ⟨g, k * 65 + 64, none⟩) h45).trans HFB.out
              have HG5 := Lib.hid (And.intro hown5 (And.intro hgrow5 hat5))
              clear hown5 hgrow5 hat5 hlt5 h45
              refine hK _ _ ?_
              clear hK K
              try simp only [Act.put, List.setIfInBounds_toArray, List.set_cons_zero, List.set_cons_succ]
              refine wpAny_ready (rs := [11]) (by kernel_rfl) (by simp) ?_
              refine AllReady.cons (o := ⟨some 50, _, _, _, _, _⟩) rfl (fun K hK => ?_) AllReady.nil
              go_simp
              refine hK _ _ ?_
              clear hK K
              refine wpAny_ready (rs := [12]) (by kernel_rfl) (by simp) ?_
              refine AllReady.cons (o := ⟨some 51, _, _, _, _, _⟩) rfl (fun K hK => ?_) AllReady.nil
              go_simp
              refine hK _ _ ?_
              clear hK K
              refine wpAny_ready (rs := [13]) (by kernel_rfl) (by simp) ?_
              refine AllReady.cons (o := ⟨none, _, _, _, _, _⟩) rfl (fun K hK => ?_) AllReady.nil
              go_simp
              refine hK _ _ ?_
              clear hK K
              refine wpAny_done (by kernel_rfl) ?_ _
              go_simp
              go_wp2_with fail
              go_roundw
              case rel =>
                have e6 : (step1 s1).n = n := HN1.out
                have eL : ((step1 s1).hist k).tail.length = L := HLL.out
                obtain ⟨D6, G6⟩ := HD3.out.push (k := k) (g5 := g5) (cap5 := cap5) (H := (V.alloc (.cells (bys zs).toArray 81)).heap.size) (zs := zs) (by rw [e6]; exact hkn) HBV.out.2 HZ.out (by rw [eL]; exact HG5.out.1) (by rw [eL]; exact HG5.out.2.1) (by rw [eL]; exact HG5.out.2.2) HBV.out.2.size
                rw [eL] at D6 G6
                rw [e6] at G6
                have G7 := HG1.out.trans ((Grew.of_below HB2.out).trans ((grew_in (F := Foot d g ao1 n) HG3.out (Or.inl rfl)).trans G6))
                refine ⟨i + 1, by go_num, by omega, Lib.hid ⟨_, _, _, D6, HN1.out, HPE.out, fun k' hk' => ?_, G7, HL0.out.grew G7 HFG.out⟩⟩
                have h1 := HFEW.out k' hk'
                have h4 := HWL.out
                show (if k' = k then s1.hist k' ++ [zs] else s1.hist k').length + _ ≤ _
                by_cases ek : k' = k
                · rw [if_pos ek, List.length_append]
                  simp only [List.length_cons, List.length_nil]
                  omega
                · rw [if_neg ek]; omega
              case measure => simp [intOf]; omega
            refine AllReady.cons (o := ⟨some 48, _, _, _, _, _⟩) rfl (fun K hK => ?_) AllReady.nil
            refine step_build65 rfl (.tmp 47) rfl zs rfl HZ.out.1 _ rfl ?_
            refine hK _ _ ?_
            clear hK K
            try simp only [Act.put, List.setIfInBounds_toArray, List.set_cons_zero, List.set_cons_succ]
            refine wpAny_ready (rs := [4]) (by kernel_rfl) (by simp) ?_
            refine AllReady.cons (o := ⟨some 43, _, _, _, _, _⟩) rfl (fun K hK => ?_) AllReady.nil
            go_simp
            refine hK _ _ ?_
            clear hK K
            refine wpAny_ready (rs := [10]) (by kernel_rfl) (by simp) ?_
            refine AllReady.cons (o := ⟨some 49, _, _, _, _, _⟩) rfl (fun K hK => ?_) AllReady.nil
            refine step_append_lies _ rfl (.tmp 43) (.tmp 48) 82 (by rfl) 0 81 i0 (.agg zero65) 64 64 u66 HI.out.1 HI.out.2.1 HI.out.2.2.1 HI.out.2.2.2 rfl (by decide) (.slice (ao1 k) L (cp1 k)) L (flat (s1.hist k).tail) (by rfl) HOWN.out ⟨V.heap.size, 0, none⟩ 1 1 (bys zs) (by rfl) (by rw [bys_length, HZ.out.1]) HNEWS.out (bys_one zs) (by decide) (by unfold maxLen; omega) (by omega) (Nat.zero_le _) _ rfl ?_
            intro g5 cap5 w5 hown5 hgrow5 hat5 hlt5
            have h45 : w5.heap[g]? = (V.alloc (.cells (bys zs).toArray 81)).heap[g]? := hgrow5.block g HGV.out.1 (fun e => HGV.out.2 e.symm)
            have f5 : w5.cell? ⟨g, k * 65 + 64, none⟩ = some (.slice (ao1 k) L (cp1 k)) := (cell_of_heap (p := ⟨g, k * 65 + 64, none⟩) h45).trans f3b
            have fr5 : w5.frozen? ⟨g, k * 65 + 64, none⟩ = false := (World.frozen?_of_block (w := V.alloc (.cells (bys zs).toArray 81)) (a := ⟨g, k * 65 + 64, none⟩) h45).trans HFB.out
            have HG5 := Lib.hid (And.intro hown5 (And.intro hgrow5 hat5))
            clear hown5 hgrow5 hat5 hlt5 h45
            refine hK _ _ ?_
            clear hK K
            try simp only [Act.put, List.setIfInBounds_toArray, List.set_cons_zero, List.set_cons_succ]
            refine wpAny_ready (rs := [11]) (by kernel_rfl) (by simp) ?_
            refine AllReady.cons (o := ⟨some 50, _, _, _, _, _⟩) rfl (fun K hK => ?_) AllReady.nil
            go_simp
            refine hK _ _ ?_
            clear hK K
            refine wpAny_ready (rs := [12]) (by kernel_rfl) (by simp) ?_
            refine AllReady.cons (o := ⟨some 51, _, _, _, _, _⟩) rfl (fun K hK => ?_) AllReady.nil
            go_simp
            refine hK _ _ ?_
            clear hK K
            refine wpAny_ready (rs := [13]) (by kernel_rfl) (by simp) ?_
            refine AllReady.cons (o := ⟨none, _, _, _, _, _⟩) rfl (fun K hK => ?_) AllReady.nil
            go_simp
            refine hK _ _ ?_
            clear hK K
            refine wpAny_done (by kernel_rfl) ?_ _
            go_simp
            go_wp2_with fail
            go_roundw
            case rel =>
              have e6 : (step1 s1).n = n := HN1.out
              have eL : ((step1 s1).hist k).tail.length = L := HLL.out
              obtain ⟨D6, G6⟩ := HD3.out.push (k := k) (g5 := g5) (cap5 := cap5) (H := (V.alloc (.cells (bys zs).toArray 81)).heap.size) (zs := zs) (by rw [e6]; exact hkn) HBV.out.2 HZ.out (by rw [eL]; exact HG5.out.1) (by rw [eL]; exact HG5.out.2.1) (by rw [eL]; exact HG5.out.2.2) HBV.out.2.size
              rw [eL] at D6 G6
              rw [e6] at G6
              have G7 := HG1.out.trans ((Grew.of_below HB2.out).trans ((grew_in (F := Foot d g ao1 n) HG3.out (Or.inl rfl)).trans G6))
              refine ⟨i + 1, by go_num, by omega, Lib.hid ⟨_, _, _, D6, HN1.out, HPE.out, fun k' hk' => ?_, G7, HL0.out.grew G7 HFG.out⟩⟩
              have h1 := HFEW.out k' hk'
              have h4 := HWL.out
              show (if k' = k then s1.hist k' ++ [zs] else s1.hist k').length + _ ≤ _
              by_cases ek : k' = k
              · rw [if_pos ek, List.length_append]
                simp only [List.length_cons, List.length_nil]
                omega
              · rw [if_neg ek]; omega
            case measure => simp [intOf]; omega
        · have him : i = m := by omega
          subst him
          clear hD hn1 hput hfew hG1 hLr HP
          go_wp2_with fail
          go_ret
          have HPE : putAll s ws = (s1, 0) := by
            rw [HPUT.out, List.drop_of_length_le (by rw [HWL.out]; exact Nat.le_refl _)]
            rfl
          exact ⟨Foot d g ao1 n, by rw [HE.out, HPE]; rfl, by rw [HE.out, HPE]; exact ⟨d, g, ao1, cp1, rfl, HD.out, by rw [HN1.out]⟩, HG1.out⟩
    · obtain ⟨E, hE⟩ : ∃ E, faultErr s.n ws = E := ⟨_, rfl⟩
      have HE : Hid (putRes s ws = (s, E)) := Lib.hid (by
        rw [← hE]
        unfold putRes faultErr
        unfold faultErr at hbad
        rw [if_neg hoff]
        by_cases b1 : badLen ws = true
        · rw [if_pos b1, if_pos b1]
        · rw [if_neg b1, if_neg b1]
          by_cases b2 : badAt s.n ws = true
          · rw [if_pos b2, if_pos b2]
          · rw [if_neg b1, if_neg b2] at hbad
            exact absurd rfl hbad)
      rw [hE] at c2 hbad
      have hne : (E != 0) = true := by simp; exact hbad
      have H := Lib.hid h
      clear hoff h hL hFG hfew hbad hE
      go_enter Try.func23, Try.ntmps23
      go_wp2_with (first
        | (go_at_call 40; refine c1.mono ?_; rintro e w' ⟨rfl, rfl⟩)
        | (go_at_call 41; refine c2.mono ?_; rintro e w2 ⟨rfl, hb2⟩; have HB2 := Lib.hid hb2; clear hb2))
      go_ret
      exact ⟨_, by rw [HE.out]; rfl, by rw [HE.out]; exact ⟨d, g, ao, cp, rfl, H.out.turn (fun k hk => HB2.out.block k (H.out.lt hk)), rfl⟩, Grew.of_below HB2.out⟩

end Go.Proofs.Ytbnepjojfaeggaa

namespace Go.Proofs.Ytbnepjojfaeggaa
open Go.RowKit

theorem diskOk : DiskOk DI where
  lt := fun h => di_lt h
  kept := fun h hk _ => di_kept h hk
  new_no := new_no
  new_ok := new_ok
  get := fun n h hn => di_get n h hn
  put := fun G ao m cap ws h hL hFG hf => di_put G ao m cap ws h hL hFG hf
  barrier := fun h => di_barrier h
  fail := fun n h hn => di_fail n h hn
  restart := fun G ao m cap ks h hN hFG => di_restart G ao m cap ks h hN hFG
  opens := fun n h hn => di_open n h hn
  blocks := fun h => di_blocks h

theorem diskNil : DiskNil where
  get := fun n w _ => get_nil n w
  put := fun ao m cap w => (put_nil ao m cap w).mono fun _ _ ⟨h, e⟩ => ⟨h, e ▸ Below.refl _ _⟩
  barrier := fun w => (bar_nil w).mono fun _ _ ⟨h, e⟩ => ⟨h, e ▸ Below.refl _ _⟩
  fail := fun n w _ => (fail_nil n w).mono fun _ _ ⟨h, e⟩ => ⟨h, e ▸ Below.refl _ _⟩
  restart := fun ao m cap w => (res_nil ao m cap w).mono fun _ _ ⟨h, e⟩ => ⟨h, e ▸ Below.refl _ _⟩
  opens := fun n w _ => (open_nil n w).mono fun _ _ ⟨h, e⟩ => ⟨h, e ▸ Below.refl _ _⟩
  blocks := fun w => (blocks_nil w).mono fun _ _ ⟨h, e⟩ => ⟨h, e ▸ Below.refl _ _⟩

end Go.Proofs.Ytbnepjojfaeggaa
