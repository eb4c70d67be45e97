/-
  Proved here: what the landed journal's first answers.
  The conditions stand at each theorem.
-/
import Derived.Test.YtbnepjojfaeggaaJrRead
import Derived.StillTailTactics
namespace Go.Proofs.Ytbnepjojfaeggaa
open Go.RowKit
set_option linter.unusedVariables false
set_option linter.unusedSimpArgs false

/-- The error of a transaction's first block, on a disk of n blocks. -/
def firstErr (n q : Int) (ws : List (Int × List Int)) : Int := if ws.any (badW n) = true then 1 else if soundD ⟨q, ws.map Prod.fst⟩ = true then 0 else 1
def firstOut (n q : Int) (ws : List (Int × List Int)) : List Int := if ws.any (badW n) = true then [] else if soundD ⟨q, ws.map Prod.fst⟩ = true then begB ⟨q, ws.map Prod.fst⟩ else []

/-- Where the writes belong, so far, and zeros. -/
def toF (ws : List (Int × List Int)) (m i : Nat) : List Int := (ws.take i).map Prod.fst ++ List.replicate (m - i) 0
theorem toF_length {ws : List (Int × List Int)} {m i : Nat} (h : ws.length = m) (hi : i ≤ m) : (toF ws m i).length = m := by
  unfold toF; rw [List.length_append, List.length_map, List.length_take, List.length_replicate]; omega
theorem toF_at {ws : List (Int × List Int)} {m i : Nat} (h : ws.length = m) (hi : i < m) : (ints (toF ws m i))[i]? = some (.int .i64 0) := by
  refine ints_get ?_
  unfold toF
  rw [List.getElem?_append_right (by rw [List.length_map, List.length_take]; omega), List.length_map, List.length_take, List.getElem?_replicate, if_pos (by omega)]
theorem toF_step {ws : List (Int × List Int)} {m i : Nat} {x : Int} {zs : List Int} (h : ws.length = m) (hi : i < m) (hx : ws[i]? = some (x, zs)) : (toF ws m i).set i x = toF ws m (i + 1) := by
  unfold toF
  have h1 : ((ws.take i).map Prod.fst).length = i := by rw [List.length_map, List.length_take]; omega
  rw [List.set_append_right _ _ (by omega), h1, Nat.sub_self, show m - i = (m - (i + 1)) + 1 by omega, List.replicate_succ, List.set_cons_zero, List.take_add_one, hx]
  simp
theorem toF_end {ws : List (Int × List Int)} {m : Nat} (h : ws.length = m) : toF ws m m = ws.map Prod.fst := by
  unfold toF
  rw [Nat.sub_self, List.replicate_zero, List.append_nil, List.take_of_length_le (by omega)]

set_option maxRecDepth 100000 in
set_option maxHeartbeats 3200000 in
theorem first_any {w : World} {j a : Addr} {F G : Nat → Prop} {D : DM} {s : JS} {ao : Option Addr} {m cap : Nat} {ws : List (Int × List Int)} (hD : DI w a F D) (hJ : JI w j a G s) (hq : I64 s.seq) (hW : WIs w ao m ws) (hm : m ≤ 20) (hm1 : 1 ≤ m) :
    Calls Try.prog 48 #[.pointer (some j), .slice ao m cap] w fun e w' => ∃ v, e = .returned (.tuple #[v, .int .i64 (firstErr D.n s.seq ws)]) ∧ Fresh w' w.heap.size v (firstOut D.n s.seq ws) ∧ Below w.heap.size w w' := by
  obtain ⟨q, rfl, rfl, hv⟩ := hJ
  have HW := Lib.hid hW
  have HL := Lib.hid hW.1
  have HD := Lib.hid hD
  have HQ := Lib.hid hq
  have HV := Lib.hid hv
  clear hW hD hq hv
  have hmk := run_make_vals elemI w m (by omega)
  rw [show (Value.int .i64 0).cells = #[.int .i64 0] from rfl] at hmk
  have HM := Lib.hid (made_intsC w m)
  obtain ⟨g, hg⟩ : ∃ g, w.heap.size = g := ⟨_, rfl⟩
  obtain ⟨W1, hW1⟩ : ∃ W1, w.alloc (.cells (madeCells #[.int .i64 0] m) 3) = W1 := ⟨_, rfl⟩
  have HG : Hid (g < W1.heap.size) := Lib.hid (by rw [← hg, ← hW1]; simp)
  rw [hW1] at hmk HM
  rw [hg] at hmk HM
  have HGE := Lib.hid hg
  rw [hg]
  clear hW1 hg
  have H0 : Hid (OwnV g w g (ints (toF ws m 0)) W1) := Lib.hid (by unfold toF; rw [List.take_zero]; exact HM.out)
  obtain ⟨nb, hnb⟩ : ∃ nb : Nat, D.n = nb := ⟨_, rfl⟩
  go_enter Try.func48, Try.ntmps48
  go_wp2_with fail
  clear hmk HM
  go_loopw [16] (fun iv wr => ∃ i : Nat, iv = .int .i64 (i : Int) ∧ i ≤ m ∧ Hid ((ws.take i).any (badW D.n) = false) ∧ Hid (OwnV g w g (ints (toF ws m i)) wr ∧ g < wr.heap.size)) (fun iv _ => m - (intOf iv).toNat)
  case atStart => exact ⟨0, rfl, Nat.zero_le _, Lib.hid (by rw [List.take_zero]; rfl), Lib.hid ⟨H0.out, HG.out⟩⟩
  case round =>
    obtain ⟨i, rfl, hi, HB, HO⟩ := hrel
    have HBW : Hid (Below w.heap.size w wr) := Lib.hid (by rw [HGE.out]; exact HO.out.1.2.2.2)
    by_cases hlt : i < m
    · obtain ⟨wb, wf, x, zs, ad, l, c, rfl, hx, c0, hx64, c1, hA⟩ := HW.out.at hlt
      have d0 := cell_later HBW.out c0
      have d1 := cell_later HBW.out c1
      have hl : zs.length = l := hA.1.1
      have i1 : (i : Int) < (m : Int) := by omega
      have i0 : (0 : Int) ≤ (i : Int) := by omega
      have HX := Lib.hid (And.intro hx hx64)
      obtain ⟨W2, hW2⟩ : ∃ W2, wr.alloc (.cells #[.int .i64 x, .slice ad l c] 48) = W2 := ⟨_, rfl⟩
      have b2 : Below wr.heap.size wr W2 := by rw [← hW2]; exact (Below.refl _ _).alloc (Nat.le_refl _) _
      have hz := rc_new wr (.int .i64 x) (.slice ad l c) 48
      rw [hW2] at hz
      have HZ := Lib.hid hz
      have HB2 : Hid (Below w.heap.size w W2.drew) := Lib.hid (HBW.out.trans (b2.mono HBW.out.size)).drew
      have HD2 := Lib.hid (diskOk.later HD.out HB2.out)
      have m0 : W2.drew.cell? ⟨wr.heap.size, 0, none⟩ = some (.int .i64 x) := hz.1
      have m1 : W2.drew.cell? ⟨wr.heap.size, 1, none⟩ = some (.slice ad l c) := hz.2.1
      have mq : W2.drew.cell? ⟨q, 0, none⟩ = some (.pointer (some a)) := (HV.out.later HB2.out).1
      have HO2 : Hid (OwnV g w g (ints (toF ws m i)) W2.drew ∧ g < W2.drew.heap.size ∧ g < wr.heap.size) := Lib.hid ⟨HO.out.1.laterL b2.drew HO.out.2, Nat.lt_of_lt_of_le HO.out.2 b2.drew.size, HO.out.2⟩
      by_cases hb : badW D.n (x, zs) = true
      · have HE : Hid (firstErr D.n s.seq ws = 1 ∧ firstOut D.n s.seq ws = []) := Lib.hid (by
          have h1 : ws.any (badW D.n) = true := List.any_eq_true.2 ⟨_, List.mem_of_getElem? hx, hb⟩
          unfold firstErr firstOut
          rw [if_pos h1, if_pos h1]
          exact ⟨rfl, rfl⟩)
        unfold badW at hb
        rw [decide_eq_true_eq] at hb
        simp only [hl] at hb
        by_cases hge : (D.n : Int) ≤ x
        · clear hx c0 c1 hA hb hz b2 hx64
          have g1 : decide ((D.n : Int) ≤ x) = true := decide_eq_true hge
          go_wp2_with fail
          refine wp_region_held_drew (S := fun W => W.cell? ⟨wr.heap.size, 0, none⟩ = some (.int .i64 x) ∧ W.cell? ⟨q, 0, none⟩ = some (.pointer (some a)) ∧ W.cell? ⟨wr.heap.size, 1, none⟩ = some (.slice ad l c)) (by kernel_rfl) ⟨m0, mq, m1⟩ (fun hHeld => ?_)
          refine wpAnyH_take (i := 0) (oi := ⟨some 21, _, _, _, _, _⟩) (v := .pointer (some ⟨wr.heap.size, 0, none⟩)) rfl (by kernel_rfl) (by kernel_rfl) (by kernel_rfl) (fun _ _ _ h => h) (Or.inl ⟨by kernel_rfl, by intro w _; go_simp; (try omega)⟩) (by assumption) ?_
          try simp only [Act.put, List.setIfInBounds_toArray, List.set_cons_zero, List.set_cons_succ]
          refine wpAnyH_take (i := 1) (oi := ⟨some 22, _, _, _, _, _⟩) (v := .int .i64 x) rfl (by kernel_rfl) (by kernel_rfl) (by kernel_rfl) (fun _ _ _ h => h) (Or.inl ⟨by kernel_rfl, by intro w hSw; obtain ⟨s1, s2, s3⟩ := hSw; go_simp⟩) (by assumption) ?_
          try simp only [Act.put, List.setIfInBounds_toArray, List.set_cons_zero, List.set_cons_succ]
          refine wpAnyH_take (i := 2) (oi := ⟨some 23, _, _, _, _, _⟩) (v := .pointer (some ⟨q, 0, none⟩)) rfl (by kernel_rfl) (by kernel_rfl) (by kernel_rfl) (fun _ _ _ h => h) (Or.inl ⟨by kernel_rfl, fun w _ => rfl⟩) (by assumption) ?_
          try simp only [Act.put, List.setIfInBounds_toArray, List.set_cons_zero, List.set_cons_succ]
          refine wpAnyH_take (i := 3) (oi := ⟨some 24, _, _, _, _, _⟩) (v := .pointer (some ⟨q, 0, none⟩)) rfl (by kernel_rfl) (by kernel_rfl) (by kernel_rfl) (fun _ _ _ h => h) (Or.inl ⟨by kernel_rfl, by intro w _; go_simp; (try omega)⟩) (by assumption) ?_
          try simp only [Act.put, List.setIfInBounds_toArray, List.set_cons_zero, List.set_cons_succ]
          refine wpAnyH_take (i := 4) (oi := ⟨some 25, _, _, _, _, _⟩) (v := .pointer (some ⟨q, 0, none⟩)) rfl (by kernel_rfl) (by kernel_rfl) (by kernel_rfl) (fun _ _ _ h => h) (Or.inl ⟨by kernel_rfl, by intro w _; go_simp; (try omega)⟩) (by assumption) ?_
          try simp only [Act.put, List.setIfInBounds_toArray, List.set_cons_zero, List.set_cons_succ]
          refine wpAnyH_take (i := 5) (oi := ⟨some 26, _, _, _, _, _⟩) (v := .pointer (some a)) rfl (by kernel_rfl) (by kernel_rfl) (by kernel_rfl) (fun _ _ _ h => h) (Or.inl ⟨by kernel_rfl, by intro w hSw; obtain ⟨s1, s2, s3⟩ := hSw; go_simp⟩) (by assumption) ?_
          try simp only [Act.put, List.setIfInBounds_toArray, List.set_cons_zero, List.set_cons_succ]
          refine wpAnyH_ready (rs := [6]) (by kernel_rfl) (by simp) ?_
          refine AllReadyH.cons (o := ⟨some 27, _, _, _, _, _⟩) rfl (fun K hK => ?_) AllReadyH.nil
          go_simp
          go_at_call 54
          refine (diskOk.blocks HD2.out).mono ?_
          rintro e w3 ⟨rfl, hb3⟩
          have HB3 := Lib.hid hb3
          have t0 := cell_later hb3 m0
          have t1 := cell_later hb3 m1
          have tq := cell_later hb3 mq
          clear hb3
          refine hK.out _ _ ?_ (fun hHeld1 => ?_)
          · exact ⟨t0, tq, t1⟩
          clear hK K
          try simp only [Act.put, List.setIfInBounds_toArray, List.set_cons_zero, List.set_cons_succ]
          refine wpAnyH_take (i := 7) (oi := ⟨some 28, _, _, _, _, _⟩) (v := .bool true) rfl (by kernel_rfl) (by kernel_rfl) (by kernel_rfl) (fun _ _ _ h => h) (Or.inl ⟨by kernel_rfl, by intro w _; go_simp; (try omega)⟩) (by assumption) ?_
          try simp only [Act.put, List.setIfInBounds_toArray, List.set_cons_zero, List.set_cons_succ]
          refine wpAnyH_take (i := 8) (oi := ⟨some 29, _, _, _, _, _⟩) (v := .bool true) rfl (by kernel_rfl) (by kernel_rfl) (by kernel_rfl) (fun _ _ _ h => h) (Or.inl ⟨by kernel_rfl, fun w _ => rfl⟩) (by assumption) ?_
          try simp only [Act.put, List.setIfInBounds_toArray, List.set_cons_zero, List.set_cons_succ]
          refine wpAnyH_take (i := 9) (oi := ⟨some 30, _, _, _, _, _⟩) (v := undef) rfl (by kernel_rfl) (by kernel_rfl) (by kernel_rfl) (fun _ _ _ h => h) (Or.inr ⟨by kernel_rfl, rfl⟩) (by assumption) ?_
          try simp only [Act.put, List.setIfInBounds_toArray, List.set_cons_zero, List.set_cons_succ]
          refine wpAnyH_take (i := 10) (oi := ⟨some 31, _, _, _, _, _⟩) (v := undef) rfl (by kernel_rfl) (by kernel_rfl) (by kernel_rfl) (fun _ _ _ h => h) (Or.inr ⟨by kernel_rfl, rfl⟩) (by assumption) ?_
          try simp only [Act.put, List.setIfInBounds_toArray, List.set_cons_zero, List.set_cons_succ]
          refine wpAnyH_take (i := 11) (oi := ⟨some 32, _, _, _, _, _⟩) (v := undef) rfl (by kernel_rfl) (by kernel_rfl) (by kernel_rfl) (fun _ _ _ h => h) (Or.inr ⟨by kernel_rfl, rfl⟩) (by assumption) ?_
          try simp only [Act.put, List.setIfInBounds_toArray, List.set_cons_zero, List.set_cons_succ]
          refine wpAnyH_take (i := 12) (oi := ⟨some 33, _, _, _, _, _⟩) (v := undef) rfl (by kernel_rfl) (by kernel_rfl) (by kernel_rfl) (fun _ _ _ h => h) (Or.inr ⟨by kernel_rfl, rfl⟩) (by assumption) ?_
          try simp only [Act.put, List.setIfInBounds_toArray, List.set_cons_zero, List.set_cons_succ]
          refine wpAnyH_take (i := 13) (oi := ⟨some 34, _, _, _, _, _⟩) (v := .bool true) rfl (by kernel_rfl) (by kernel_rfl) (by kernel_rfl) (fun _ _ _ h => h) (Or.inl ⟨by kernel_rfl, by intro w _; go_simp; (try omega)⟩) (by assumption) ?_
          try simp only [Act.put, List.setIfInBounds_toArray, List.set_cons_zero, List.set_cons_succ]
          refine wpAnyH_done (by kernel_rfl) ?_ _
          go_wp2_with fail
          go_ret2
          exact ⟨.slice none 0 0, by rw [HE.out.1]; rfl, by rw [HE.out.2]; exact Fresh.nil _ _, HO2.out.1.2.2.2.trans (HB3.out.mono (Nat.le_of_lt HO2.out.2.1))⟩
        · have hl64 : ¬ l = 64 := by omega
          have hne : ((l : Int) != 64) = true := by simp; omega
          clear hx c0 c1 hA hb hz b2 hx64
          have g0 : decide ((D.n : Int) ≤ x) = false := decide_eq_false hge
          go_wp2_with fail
          refine wp_region_held_drew (S := fun W => W.cell? ⟨wr.heap.size, 0, none⟩ = some (.int .i64 x) ∧ W.cell? ⟨q, 0, none⟩ = some (.pointer (some a)) ∧ W.cell? ⟨wr.heap.size, 1, none⟩ = some (.slice ad l c)) (by kernel_rfl) ⟨m0, mq, m1⟩ (fun hHeld => ?_)
          refine wpAnyH_take (i := 0) (oi := ⟨some 21, _, _, _, _, _⟩) (v := .pointer (some ⟨wr.heap.size, 0, none⟩)) rfl (by kernel_rfl) (by kernel_rfl) (by kernel_rfl) (fun _ _ _ h => h) (Or.inl ⟨by kernel_rfl, by intro w _; go_simp; (try omega)⟩) (by assumption) ?_
          try simp only [Act.put, List.setIfInBounds_toArray, List.set_cons_zero, List.set_cons_succ]
          refine wpAnyH_take (i := 1) (oi := ⟨some 22, _, _, _, _, _⟩) (v := .int .i64 x) rfl (by kernel_rfl) (by kernel_rfl) (by kernel_rfl) (fun _ _ _ h => h) (Or.inl ⟨by kernel_rfl, by intro w hSw; obtain ⟨s1, s2, s3⟩ := hSw; go_simp⟩) (by assumption) ?_
          try simp only [Act.put, List.setIfInBounds_toArray, List.set_cons_zero, List.set_cons_succ]
          refine wpAnyH_take (i := 2) (oi := ⟨some 23, _, _, _, _, _⟩) (v := .pointer (some ⟨q, 0, none⟩)) rfl (by kernel_rfl) (by kernel_rfl) (by kernel_rfl) (fun _ _ _ h => h) (Or.inl ⟨by kernel_rfl, fun w _ => rfl⟩) (by assumption) ?_
          try simp only [Act.put, List.setIfInBounds_toArray, List.set_cons_zero, List.set_cons_succ]
          refine wpAnyH_take (i := 3) (oi := ⟨some 24, _, _, _, _, _⟩) (v := .pointer (some ⟨q, 0, none⟩)) rfl (by kernel_rfl) (by kernel_rfl) (by kernel_rfl) (fun _ _ _ h => h) (Or.inl ⟨by kernel_rfl, by intro w _; go_simp; (try omega)⟩) (by assumption) ?_
          try simp only [Act.put, List.setIfInBounds_toArray, List.set_cons_zero, List.set_cons_succ]
          refine wpAnyH_take (i := 4) (oi := ⟨some 25, _, _, _, _, _⟩) (v := .pointer (some ⟨q, 0, none⟩)) rfl (by kernel_rfl) (by kernel_rfl) (by kernel_rfl) (fun _ _ _ h => h) (Or.inl ⟨by kernel_rfl, by intro w _; go_simp; (try omega)⟩) (by assumption) ?_
          try simp only [Act.put, List.setIfInBounds_toArray, List.set_cons_zero, List.set_cons_succ]
          refine wpAnyH_take (i := 5) (oi := ⟨some 26, _, _, _, _, _⟩) (v := .pointer (some a)) rfl (by kernel_rfl) (by kernel_rfl) (by kernel_rfl) (fun _ _ _ h => h) (Or.inl ⟨by kernel_rfl, by intro w hSw; obtain ⟨s1, s2, s3⟩ := hSw; go_simp⟩) (by assumption) ?_
          try simp only [Act.put, List.setIfInBounds_toArray, List.set_cons_zero, List.set_cons_succ]
          refine wpAnyH_ready (rs := [6]) (by kernel_rfl) (by simp) ?_
          refine AllReadyH.cons (o := ⟨some 27, _, _, _, _, _⟩) rfl (fun K hK => ?_) AllReadyH.nil
          go_simp
          go_at_call 54
          refine (diskOk.blocks HD2.out).mono ?_
          rintro e w3 ⟨rfl, hb3⟩
          have HB3 := Lib.hid hb3
          have t0 := cell_later hb3 m0
          have t1 := cell_later hb3 m1
          have tq := cell_later hb3 mq
          clear hb3
          refine hK.out _ _ ?_ (fun hHeld1 => ?_)
          · exact ⟨t0, tq, t1⟩
          clear hK K
          try simp only [Act.put, List.setIfInBounds_toArray, List.set_cons_zero, List.set_cons_succ]
          refine wpAnyH_take (i := 7) (oi := ⟨some 28, _, _, _, _, _⟩) (v := .bool false) rfl (by kernel_rfl) (by kernel_rfl) (by kernel_rfl) (fun _ _ _ h => h) (Or.inl ⟨by kernel_rfl, by intro w _; go_simp; (try omega)⟩) (by assumption) ?_
          try simp only [Act.put, List.setIfInBounds_toArray, List.set_cons_zero, List.set_cons_succ]
          refine wpAnyH_take (i := 8) (oi := ⟨some 29, _, _, _, _, _⟩) (v := .bool false) rfl (by kernel_rfl) (by kernel_rfl) (by kernel_rfl) (fun _ _ _ h => h) (Or.inl ⟨by kernel_rfl, fun w _ => rfl⟩) (by assumption) ?_
          try simp only [Act.put, List.setIfInBounds_toArray, List.set_cons_zero, List.set_cons_succ]
          refine wpAnyH_take (i := 9) (oi := ⟨some 30, _, _, _, _, _⟩) (v := .pointer (some ⟨wr.heap.size, 1, none⟩)) rfl (by kernel_rfl) (by kernel_rfl) (by kernel_rfl) (fun _ _ _ h => h) (Or.inl ⟨by kernel_rfl, by intro w _; go_simp; (try omega)⟩) (by assumption) ?_
          try simp only [Act.put, List.setIfInBounds_toArray, List.set_cons_zero, List.set_cons_succ]
          refine wpAnyH_take (i := 10) (oi := ⟨some 31, _, _, _, _, _⟩) (v := .slice ad l c) rfl (by kernel_rfl) (by kernel_rfl) (by kernel_rfl) (fun _ _ _ h => h) (Or.inl ⟨by kernel_rfl, by intro w hSw; obtain ⟨s1, s2, s3⟩ := hSw; go_simp⟩) (by assumption) ?_
          try simp only [Act.put, List.setIfInBounds_toArray, List.set_cons_zero, List.set_cons_succ]
          refine wpAnyH_take (i := 11) (oi := ⟨some 32, _, _, _, _, _⟩) (v := .int .i64 (l : Int)) rfl (by kernel_rfl) (by kernel_rfl) (by kernel_rfl) (fun _ _ _ h => h) (Or.inl ⟨by kernel_rfl, by intro w _; go_simp; (try omega)⟩) (by assumption) ?_
          try simp only [Act.put, List.setIfInBounds_toArray, List.set_cons_zero, List.set_cons_succ]
          refine wpAnyH_take (i := 12) (oi := ⟨some 33, _, _, _, _, _⟩) (v := .bool true) rfl (by kernel_rfl) (by kernel_rfl) (by kernel_rfl) (fun _ _ _ h => h) (Or.inl ⟨by kernel_rfl, by intro w _; go_simp; (try omega)⟩) (by assumption) ?_
          try simp only [Act.put, List.setIfInBounds_toArray, List.set_cons_zero, List.set_cons_succ]
          refine wpAnyH_take (i := 13) (oi := ⟨some 34, _, _, _, _, _⟩) (v := .bool true) rfl (by kernel_rfl) (by kernel_rfl) (by kernel_rfl) (fun _ _ _ h => h) (Or.inl ⟨by kernel_rfl, by intro w _; go_simp; (try omega)⟩) (by assumption) ?_
          try simp only [Act.put, List.setIfInBounds_toArray, List.set_cons_zero, List.set_cons_succ]
          refine wpAnyH_done (by kernel_rfl) ?_ _
          go_wp2_with fail
          go_ret2
          exact ⟨.slice none 0 0, by rw [HE.out.1]; rfl, by rw [HE.out.2]; exact Fresh.nil _ _, HO2.out.1.2.2.2.trans (HB3.out.mono (Nat.le_of_lt HO2.out.2.1))⟩
      · have HN : Hid ((ws.take (i + 1)).any (badW D.n) = false) := Lib.hid (by
          rw [List.take_add_one, hx, List.any_append, HB.out]
          simpa using hb)
        unfold badW at hb
        rw [decide_eq_true_eq] at hb
        simp only [hl] at hb
        have h64 : l = 64 := by omega
        have hge : ¬ (D.n : Int) ≤ x := fun h => hb (Or.inr h)
        subst h64
        have g0 : decide ((D.n : Int) ≤ x) = false := decide_eq_false hge
        clear hx c0 c1 hA hb hz b2 hx64
        go_wp2_with fail
        refine wp_region_held_drew (S := fun W => W.cell? ⟨wr.heap.size, 0, none⟩ = some (.int .i64 x) ∧ W.cell? ⟨q, 0, none⟩ = some (.pointer (some a)) ∧ W.cell? ⟨wr.heap.size, 1, none⟩ = some (.slice ad 64 c)) (by kernel_rfl) ⟨m0, mq, m1⟩ (fun hHeld => ?_)
        refine wpAnyH_take (i := 0) (oi := ⟨some 21, _, _, _, _, _⟩) (v := .pointer (some ⟨wr.heap.size, 0, none⟩)) rfl (by kernel_rfl) (by kernel_rfl) (by kernel_rfl) (fun _ _ _ h => h) (Or.inl ⟨by kernel_rfl, by intro w _; go_simp; (try omega)⟩) (by assumption) ?_
        try simp only [Act.put, List.setIfInBounds_toArray, List.set_cons_zero, List.set_cons_succ]
        refine wpAnyH_take (i := 1) (oi := ⟨some 22, _, _, _, _, _⟩) (v := .int .i64 x) rfl (by kernel_rfl) (by kernel_rfl) (by kernel_rfl) (fun _ _ _ h => h) (Or.inl ⟨by kernel_rfl, by intro w hSw; obtain ⟨s1, s2, s3⟩ := hSw; go_simp⟩) (by assumption) ?_
        try simp only [Act.put, List.setIfInBounds_toArray, List.set_cons_zero, List.set_cons_succ]
        refine wpAnyH_take (i := 2) (oi := ⟨some 23, _, _, _, _, _⟩) (v := .pointer (some ⟨q, 0, none⟩)) rfl (by kernel_rfl) (by kernel_rfl) (by kernel_rfl) (fun _ _ _ h => h) (Or.inl ⟨by kernel_rfl, fun w _ => rfl⟩) (by assumption) ?_
        try simp only [Act.put, List.setIfInBounds_toArray, List.set_cons_zero, List.set_cons_succ]
        refine wpAnyH_take (i := 3) (oi := ⟨some 24, _, _, _, _, _⟩) (v := .pointer (some ⟨q, 0, none⟩)) rfl (by kernel_rfl) (by kernel_rfl) (by kernel_rfl) (fun _ _ _ h => h) (Or.inl ⟨by kernel_rfl, by intro w _; go_simp; (try omega)⟩) (by assumption) ?_
        try simp only [Act.put, List.setIfInBounds_toArray, List.set_cons_zero, List.set_cons_succ]
        refine wpAnyH_take (i := 4) (oi := ⟨some 25, _, _, _, _, _⟩) (v := .pointer (some ⟨q, 0, none⟩)) rfl (by kernel_rfl) (by kernel_rfl) (by kernel_rfl) (fun _ _ _ h => h) (Or.inl ⟨by kernel_rfl, by intro w _; go_simp; (try omega)⟩) (by assumption) ?_
        try simp only [Act.put, List.setIfInBounds_toArray, List.set_cons_zero, List.set_cons_succ]
        refine wpAnyH_take (i := 5) (oi := ⟨some 26, _, _, _, _, _⟩) (v := .pointer (some a)) rfl (by kernel_rfl) (by kernel_rfl) (by kernel_rfl) (fun _ _ _ h => h) (Or.inl ⟨by kernel_rfl, by intro w hSw; obtain ⟨s1, s2, s3⟩ := hSw; go_simp⟩) (by assumption) ?_
        try simp only [Act.put, List.setIfInBounds_toArray, List.set_cons_zero, List.set_cons_succ]
        refine wpAnyH_ready (rs := [6]) (by kernel_rfl) (by simp) ?_
        refine AllReadyH.cons (o := ⟨some 27, _, _, _, _, _⟩) rfl (fun K hK => ?_) AllReadyH.nil
        go_simp
        go_at_call 54
        refine (diskOk.blocks HD2.out).mono ?_
        rintro e w3 ⟨rfl, hb3⟩
        have HB3 := Lib.hid hb3
        have t0 := cell_later hb3 m0
        have t1 := cell_later hb3 m1
        have tq := cell_later hb3 mq
        have HO3 := Lib.hid (And.intro (HO2.out.1.laterL hb3 HO2.out.2.1) (Nat.lt_of_lt_of_le HO2.out.2.1 hb3.size))
        have e4 := HO3.out.1.1 i _ (toF_at HL.out hlt)
        have f4 := HO3.out.1.2.1 i
        clear hb3
        refine hK.out _ _ ?_ (fun hHeld1 => ?_)
        · exact ⟨t0, tq, t1⟩
        clear hK K
        try simp only [Act.put, List.setIfInBounds_toArray, List.set_cons_zero, List.set_cons_succ]
        refine wpAnyH_take (i := 7) (oi := ⟨some 28, _, _, _, _, _⟩) (v := .bool false) rfl (by kernel_rfl) (by kernel_rfl) (by kernel_rfl) (fun _ _ _ h => h) (Or.inl ⟨by kernel_rfl, by intro w _; go_simp; (try omega)⟩) (by assumption) ?_
        try simp only [Act.put, List.setIfInBounds_toArray, List.set_cons_zero, List.set_cons_succ]
        refine wpAnyH_take (i := 8) (oi := ⟨some 29, _, _, _, _, _⟩) (v := .bool false) rfl (by kernel_rfl) (by kernel_rfl) (by kernel_rfl) (fun _ _ _ h => h) (Or.inl ⟨by kernel_rfl, fun w _ => rfl⟩) (by assumption) ?_
        try simp only [Act.put, List.setIfInBounds_toArray, List.set_cons_zero, List.set_cons_succ]
        refine wpAnyH_take (i := 9) (oi := ⟨some 30, _, _, _, _, _⟩) (v := .pointer (some ⟨wr.heap.size, 1, none⟩)) rfl (by kernel_rfl) (by kernel_rfl) (by kernel_rfl) (fun _ _ _ h => h) (Or.inl ⟨by kernel_rfl, by intro w _; go_simp; (try omega)⟩) (by assumption) ?_
        try simp only [Act.put, List.setIfInBounds_toArray, List.set_cons_zero, List.set_cons_succ]
        refine wpAnyH_take (i := 10) (oi := ⟨some 31, _, _, _, _, _⟩) (v := .slice ad 64 c) rfl (by kernel_rfl) (by kernel_rfl) (by kernel_rfl) (fun _ _ _ h => h) (Or.inl ⟨by kernel_rfl, by intro w hSw; obtain ⟨s1, s2, s3⟩ := hSw; go_simp⟩) (by assumption) ?_
        try simp only [Act.put, List.setIfInBounds_toArray, List.set_cons_zero, List.set_cons_succ]
        refine wpAnyH_take (i := 11) (oi := ⟨some 32, _, _, _, _, _⟩) (v := .int .i64 ((64 : Nat) : Int)) rfl (by kernel_rfl) (by kernel_rfl) (by kernel_rfl) (fun _ _ _ h => h) (Or.inl ⟨by kernel_rfl, by intro w _; go_simp; (try omega)⟩) (by assumption) ?_
        try simp only [Act.put, List.setIfInBounds_toArray, List.set_cons_zero, List.set_cons_succ]
        refine wpAnyH_take (i := 12) (oi := ⟨some 33, _, _, _, _, _⟩) (v := .bool false) rfl (by kernel_rfl) (by kernel_rfl) (by kernel_rfl) (fun _ _ _ h => h) (Or.inl ⟨by kernel_rfl, by intro w _; go_simp; (try omega)⟩) (by assumption) ?_
        try simp only [Act.put, List.setIfInBounds_toArray, List.set_cons_zero, List.set_cons_succ]
        refine wpAnyH_take (i := 13) (oi := ⟨some 34, _, _, _, _, _⟩) (v := .bool false) rfl (by kernel_rfl) (by kernel_rfl) (by kernel_rfl) (fun _ _ _ h => h) (Or.inl ⟨by kernel_rfl, by intro w _; go_simp; (try omega)⟩) (by assumption) ?_
        try simp only [Act.put, List.setIfInBounds_toArray, List.set_cons_zero, List.set_cons_succ]
        refine wpAnyH_done (by kernel_rfl) ?_ _
        go_wp2_with fail
        go_roundw
        case rel => exact ⟨i + 1, by go_num, by omega, HN, Lib.hid ⟨by rw [← toF_step HL.out hlt HX.out.1, ints_set]; exact HO3.out.1.store (by rw [ints_length, toF_length HL.out (by omega)]; exact hlt), by simpa using HO3.out.2⟩⟩
        case measure => simp [intOf]; omega
    · obtain rfl : i = m := by omega
      have hall : ws.take i = ws := List.take_of_length_le (by rw [HL.out]; exact Nat.le_refl _)
      have hb := HB.out
      rw [hall] at hb
      have hI : IArg wr (some ⟨g, 0, none⟩) i i (ws.map Prod.fst) := by
        have h1 := HO.out.1
        rw [toF_end HL.out] at h1
        have := iarg_of_range (cap := i) (own_range h1) (by
          intro x hx
          obtain ⟨p, hp, rfl⟩ := List.mem_map.1 hx
          obtain ⟨k, hk, rfl⟩ := List.mem_iff_getElem.1 hp
          obtain ⟨_, _, a, zs, _, _, _, _, hx', _, ha, _⟩ := HW.out.at (i := k) (by rw [← HL.out]; exact hk)
          rw [List.getElem?_eq_getElem hk] at hx'
          have e := Option.some.inj hx'
          show I64 (ws[k]).1
          rw [e]
          exact ha) (by rw [List.length_map, HL.out]; omega) (by rw [List.length_map, HL.out]; exact Nat.le_refl _)
        rwa [List.length_map, HL.out] at this
      have cB := lBegin_any s.seq HQ.out hI
      obtain ⟨_, _, v2, _, _⟩ := HV.out.later HBW.out
      have HN : Hid (firstErr D.n s.seq ws = (if soundD ⟨s.seq, ws.map Prod.fst⟩ = true then 0 else 1) ∧ firstOut D.n s.seq ws = if soundD ⟨s.seq, ws.map Prod.fst⟩ = true then begB ⟨s.seq, ws.map Prod.fst⟩ else []) := Lib.hid (by
        unfold firstErr firstOut
        exact ⟨if_neg (by rw [hb]; decide), if_neg (by rw [hb]; decide)⟩)
      unfold begOut begErr at cB
      clear hall hb hI
      cases hs : soundD ⟨s.seq, ws.map Prod.fst⟩ with
      | true =>
        rw [hs] at cB HN
        rw [if_pos rfl, if_pos rfl] at cB HN
        go_wp2_with (go_at_call 63; refine cB.mono ?_; rintro e w5 ⟨v5, rfl, hf5, hb5⟩; obtain ⟨a5, c5, rfl, hA5⟩ := fresh_form hf5; have HF5 := Lib.hid hf5; have HB5 := Lib.hid hb5; clear hf5 hb5 hA5)
        go_ret2
        exact ⟨_, by rw [HN.out.1]; rfl, by rw [HN.out.2]; exact HF5.out.mono (Nat.le_of_lt HO.out.2), HO.out.1.2.2.2.trans (HB5.out.mono (Nat.le_of_lt HO.out.2))⟩
      | false =>
        rw [hs] at cB HN
        rw [if_neg (by decide), if_neg (by decide)] at cB HN
        go_wp2_with (go_at_call 63; refine cB.mono ?_; rintro e w5 ⟨v5, rfl, hf5, hb5⟩; obtain ⟨a5, c5, rfl, hA5⟩ := fresh_form hf5; have HB5 := Lib.hid hb5; clear hf5 hb5 hA5)
        go_ret2
        exact ⟨.slice none 0 0, by rw [HN.out.1]; rfl, by rw [HN.out.2]; exact Fresh.nil _ _, HO.out.1.2.2.2.trans (HB5.out.mono (Nat.le_of_lt HO.out.2))⟩

end Go.Proofs.Ytbnepjojfaeggaa
