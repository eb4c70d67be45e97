/-
  Proved here: what the document's own Put of layer 16 answers.
  The conditions stand at each theorem.
-/
import Derived.Test.YtbnepjojfaeggaaRef16C
namespace Go.Proofs.Ytbnepjojfaeggaa
open Go.RowKit
set_option linter.unusedVariables false
set_option linter.unusedSimpArgs false

theorem elemSR : ElemR 34 9 (.string ByteArray.empty) 1 16 := ⟨Try.underlying34, by kernel_rfl, rfl, by decide, by decide⟩

/-- Blocks with a write put over them; with all of a list. -/
def putS1 (xs : List ByteArray) (p : Int × List Int) : List ByteArray := if 0 ≤ p.1 ∧ p.1 < (xs.length : Int) then xs.set p.1.toNat (str p.2) else xs
def putS (xs : List ByteArray) (ws : List (Int × List Int)) : List ByteArray := ws.foldl putS1 xs
theorem putS1_length (xs : List ByteArray) (p : Int × List Int) : (putS1 xs p).length = xs.length := by unfold putS1; split; exact List.length_set; rfl
theorem putS_length (ws : List (Int × List Int)) : ∀ xs : List ByteArray, (putS xs ws).length = xs.length := by
  induction ws with
  | nil => exact fun _ => rfl
  | cons p r ih => intro xs; show (putS (putS1 xs p) r).length = _; rw [ih, putS1_length]
theorem putS_take (xs : List ByteArray) {ws : List (Int × List Int)} {i : Nat} {p : Int × List Int} (h : ws[i]? = some p) : putS xs (ws.take (i + 1)) = putS1 (putS xs (ws.take i)) p := by
  unfold putS
  rw [List.take_add_one, h, List.foldl_append]
  rfl

theorem ownV_form {base : Nat} {w0 w : World} {e : TypeId} {v : Value} {n : Nat} {xs : List Value} (h : w.ownsRow base e 1 v n xs) (hn : 0 < n) (hb : Below base w0 w) : ∃ g c, v = .slice (some ⟨g, 0, none⟩) n c ∧ n ≤ c ∧ OwnV base w0 g xs w := by
  rcases h.2 with ⟨_, h0⟩ | ⟨g, cap, cur, hv, hg, _, hc, _⟩
  · omega
  · rw [hv] at h
    exact ⟨g, cap, hv, hc, fun j x hj => by
      have e := h.cells (g := g) rfl j x hj
      rwa [Go.WideShapes.add_plain, Nat.zero_add] at e, fun j => h.frozenAt j, hg, hb⟩

set_option maxRecDepth 100000 in
set_option maxHeartbeats 3200000 in
theorem RPut_any {w : World} {ao bo : Option Addr} {m c1 k c2 : Nat} {xs : List ByteArray} {ws : List (Int × List Int)} (hX : SIs w ao m xs) (hm : 1 ≤ m ∧ m ≤ 100000) (hW : WIs w bo k ws) :
    Calls Try.prog 11 #[.slice ao m c1, .slice bo k c2] w fun e w' => ∃ g c, e = .returned (.slice (some ⟨g, 0, none⟩) m c) ∧ m ≤ c ∧ OwnV w.heap.size w g (strs (putS xs ws)) w' := by
  have HX := Lib.hid hX
  have HW := Lib.hid hW
  have HLX := Lib.hid hX.len
  have HLW := Lib.hid hW.1
  have hbk := hW.2.1
  have HM := Lib.hid hm
  obtain ⟨xb, xo, rfl, hxc⟩ := hX.2.2.resolve_left (by omega)
  have hnews : ∀ j u, (strs xs)[j]? = some u → (w.alloc (.cells #[] 9)).cell? ((⟨xb, xo, none⟩ : Addr).add j) = some u := fun j u hj => by
    rw [Go.WideShapes.add_plain]
    exact cell_later ((Below.refl _ _).alloc (Nat.le_refl _) _) (hxc j u hj)
  have HNW := Lib.hid hnews
  have HOM := Lib.hid (World.ownsRow_made (base := w.heap.size) (e := 9) (size := 1) w #[] 0 (Nat.le_refl _) (by decide) rfl)
  have B0 : Hid (Below w.heap.size w (w.alloc (.cells #[] 9))) := Lib.hid ((Below.refl _ _).alloc (Nat.le_refl _) _)
  have H1 : Hid (∀ u ∈ strs xs, u.oneCell' = true) := Lib.hid (fun u hu => by unfold strs at hu; obtain ⟨s, _, rfl⟩ := List.mem_map.1 hu; rfl)
  clear hX hW hxc hnews
  go_enter Try.func11, Try.ntmps11
  go_wp2_with (refine wp_append_at elemSR rfl (.tmp 7) (.tmp 8) rfl w.heap.size 0 _ [] rfl HOM.out ⟨xb, xo, none⟩ m c1 (strs xs) (by rw [strs_length, HLX.out, Nat.mul_one]) (by omega) rfl HNW.out H1.out (by omega) (by simp) ?_; intro v1 w1 hown1 _ hb1 _; rw [Nat.zero_add, List.nil_append] at hown1; obtain ⟨g, c, rfl, hgc, hO1⟩ := ownV_form (w0 := w) hown1 (by omega) (B0.out.trans hb1); have HGC := Lib.hid hgc; have HO1 : Hid (OwnV w.heap.size w g (strs (putS xs (ws.take 0))) w1) := Lib.hid (by rw [List.take_zero]; exact hO1); clear hown1 hb1 hgc hO1)
  have HGL : Hid (w.heap.size ≤ g) := Lib.hid HO1.out.2.2.1
  go_loopw [6] (fun iv wr => ∃ i : Nat, iv = .int .i64 (i : Int) ∧ i ≤ k ∧ Hid (OwnV w.heap.size w g (strs (putS xs (ws.take i))) wr)) (fun iv _ => k - (intOf iv).toNat)
  case atStart => exact ⟨0, rfl, Nat.zero_le _, HO1⟩
  case round =>
    obtain ⟨i, rfl, hi, HO⟩ := hrel
    have BR : Hid (Below w.heap.size w wr) := Lib.hid HO.out.2.2.2
    by_cases hlt : i < k
    · obtain ⟨wb, wf, a, zs, ad, l, c3, rfl, hx, h1, ha, h2, hA⟩ := HW.out.at hlt
      have d1 := cell_later BR.out h1
      have d2 := cell_later BR.out h2
      have i1 : (i : Int) < (k : Int) := by omega
      have i0 : (0 : Int) ≤ (i : Int) := by omega
      have hst := putS_take xs hx
      have hlen : (putS xs (ws.take i)).length = m := by rw [putS_length, HLX.out]
      have hAr := hA.later BR.out
      by_cases hin : 0 ≤ a ∧ a < (m : Int)
      · obtain ⟨p, rfl⟩ : ∃ p : Nat, a = (p : Int) := ⟨a.toNat, by omega⟩
        have hp : p < m := by omega
        have p1 : (p : Int) < (m : Int) := hin.2
        have p0 : (0 : Int) ≤ (p : Int) := hin.1
        have HS : Hid (OwnV w.heap.size w g (strs (putS xs (ws.take (i + 1)))) (wr.drew.setCell ⟨g, p, none⟩ (.string (str zs)))) := Lib.hid (by
          rw [hst]
          unfold putS1
          rw [hlen, if_pos hin, strs_set, Int.toNat_natCast]
          exact HO.out.drew.store (by rw [strs_length, hlen]; exact hp))
        obtain ⟨u, hu⟩ : ∃ u, (putS xs (ws.take i))[p]? = some u := ⟨_, List.getElem?_eq_getElem (by omega)⟩
        have e4 : wr.cell? ⟨g, p, none⟩ = some (.string u) := HO.out.1 p _ (strs_get hu)
        have f4 := HO.out.2.1 p
        have k2 := str_bytes (cap := c3) (hAr.later (Below.refl _ _).drew).1
        have HWB : Hid (wb ≠ g) := Lib.hid (by have h5 := World.block_lt_of_cell? _ _ h1; have h6 := HGL.out; simp only at h5; omega)
        have dS : ∀ u, (wr.drew.setCell ⟨g, p, none⟩ u).cell? ⟨wb, wf + i * 2, none⟩ = some (.int .i64 (p : Int)) ∧ (wr.drew.setCell ⟨g, p, none⟩ u).cell? ⟨wb, wf + i * 2 + 1, none⟩ = some (.slice ad l c3) := fun u => by
          rw [World.cell?_setCell_other (h := by intro e; exact HWB.out (congrArg Addr.block e).symm), World.cell?_setCell_other (h := by intro e; exact HWB.out (congrArg Addr.block e).symm)]; exact ⟨d1, d2⟩
        clear hx h1 h2 hA hAr hst hlen hu hin
        go_wp2_with fail
        refine wp_region_held_drew (S := fun W => W.cell? ⟨wb, wf + i * 2, none⟩ = some (.int .i64 (p : Int)) ∧ W.cell? ⟨wb, wf + i * 2 + 1, none⟩ = some (.slice ad l c3)) (by kernel_rfl) ⟨d1, d2⟩ (fun hHeld => ?_)
        refine wpAnyH_take (i := 0) (oi := ⟨some 32, _, _, _, _, _⟩) (v := .slice (some ⟨g, 0, none⟩) m c) rfl (by kernel_rfl) (by kernel_rfl) (by kernel_rfl) (fun _ _ _ h => h) (Or.inl ⟨by kernel_rfl, fun w _ => rfl⟩) (by assumption) ?_
        try simp only [Act.put, List.setIfInBounds_toArray, List.set_cons_zero, List.set_cons_succ]
        refine wpAnyH_take (i := 1) (oi := ⟨some 33, _, _, _, _, _⟩) (v := .slice (some ⟨wb, wf, none⟩) k c2) rfl (by kernel_rfl) (by kernel_rfl) (by kernel_rfl) (fun _ _ _ h => h) (Or.inl ⟨by kernel_rfl, fun w _ => rfl⟩) (by assumption) ?_
        try simp only [Act.put, List.setIfInBounds_toArray, List.set_cons_zero, List.set_cons_succ]
        refine wpAnyH_take (i := 2) (oi := ⟨some 34, _, _, _, _, _⟩) (v := .int .i64 (i : Int)) rfl (by kernel_rfl) (by kernel_rfl) (by kernel_rfl) (fun _ _ _ h => h) (Or.inl ⟨by kernel_rfl, fun w _ => rfl⟩) (by assumption) ?_
        try simp only [Act.put, List.setIfInBounds_toArray, List.set_cons_zero, List.set_cons_succ]
        refine wpAnyH_take (i := 3) (oi := ⟨some 35, _, _, _, _, _⟩) (v := .pointer (some ⟨wb, wf + i * 2, none⟩)) rfl (by kernel_rfl) (by kernel_rfl) (by kernel_rfl) (fun _ _ _ h => h) (Or.inl ⟨by kernel_rfl, by intro w _; go_simp; (try omega)⟩) (by assumption) ?_
        try simp only [Act.put, List.setIfInBounds_toArray, List.set_cons_zero, List.set_cons_succ]
        refine wpAnyH_take (i := 4) (oi := ⟨some 36, _, _, _, _, _⟩) (v := .pointer (some ⟨wb, wf + i * 2, none⟩)) rfl (by kernel_rfl) (by kernel_rfl) (by kernel_rfl) (fun _ _ _ h => h) (Or.inl ⟨by kernel_rfl, by intro w _; go_simp; (try omega)⟩) (by assumption) ?_
        try simp only [Act.put, List.setIfInBounds_toArray, List.set_cons_zero, List.set_cons_succ]
        refine wpAnyH_take (i := 5) (oi := ⟨some 37, _, _, _, _, _⟩) (v := .int .i64 (p : Int)) rfl (by kernel_rfl) (by kernel_rfl) (by kernel_rfl) (fun _ _ _ h => h) (Or.inl ⟨by kernel_rfl, by intro w hSw; obtain ⟨s1, s2⟩ := hSw; go_simp⟩) (by assumption) ?_
        try simp only [Act.put, List.setIfInBounds_toArray, List.set_cons_zero, List.set_cons_succ]
        refine wpAnyH_take (i := 6) (oi := ⟨some 38, _, _, _, _, _⟩) (v := .slice (some ⟨wb, wf, none⟩) k c2) rfl (by kernel_rfl) (by kernel_rfl) (by kernel_rfl) (fun _ _ _ h => h) (Or.inl ⟨by kernel_rfl, fun w _ => rfl⟩) (by assumption) ?_
        try simp only [Act.put, List.setIfInBounds_toArray, List.set_cons_zero, List.set_cons_succ]
        refine wpAnyH_take (i := 7) (oi := ⟨some 39, _, _, _, _, _⟩) (v := .int .i64 (i : Int)) rfl (by kernel_rfl) (by kernel_rfl) (by kernel_rfl) (fun _ _ _ h => h) (Or.inl ⟨by kernel_rfl, fun w _ => rfl⟩) (by assumption) ?_
        try simp only [Act.put, List.setIfInBounds_toArray, List.set_cons_zero, List.set_cons_succ]
        refine wpAnyH_take (i := 8) (oi := ⟨some 40, _, _, _, _, _⟩) (v := .pointer (some ⟨wb, wf + i * 2, none⟩)) rfl (by kernel_rfl) (by kernel_rfl) (by kernel_rfl) (fun _ _ _ h => h) (Or.inl ⟨by kernel_rfl, by intro w _; go_simp; (try omega)⟩) (by assumption) ?_
        try simp only [Act.put, List.setIfInBounds_toArray, List.set_cons_zero, List.set_cons_succ]
        refine wpAnyH_take (i := 9) (oi := ⟨some 41, _, _, _, _, _⟩) (v := .pointer (some ⟨wb, wf + i * 2 + 1, none⟩)) rfl (by kernel_rfl) (by kernel_rfl) (by kernel_rfl) (fun _ _ _ h => h) (Or.inl ⟨by kernel_rfl, by intro w _; go_simp; (try omega)⟩) (by assumption) ?_
        try simp only [Act.put, List.setIfInBounds_toArray, List.set_cons_zero, List.set_cons_succ]
        refine wpAnyH_take (i := 10) (oi := ⟨some 42, _, _, _, _, _⟩) (v := .slice ad l c3) rfl (by kernel_rfl) (by kernel_rfl) (by kernel_rfl) (fun _ _ _ h => h) (Or.inl ⟨by kernel_rfl, by intro w hSw; obtain ⟨s1, s2⟩ := hSw; go_simp⟩) (by assumption) ?_
        try simp only [Act.put, List.setIfInBounds_toArray, List.set_cons_zero, List.set_cons_succ]
        refine wpAnyH_ready (rs := [11]) (by kernel_rfl) (by simp) ?_
        refine AllReadyH.cons (o := ⟨some 43, _, _, _, _, _⟩) rfl (fun K hK => ?_) AllReadyH.nil
        go_simp
        refine hK.out _ _ ?_ (fun hHeld1 => ?_)
        · exact ⟨d1, d2⟩
        clear hK K
        try simp only [Act.put, List.setIfInBounds_toArray, List.set_cons_zero, List.set_cons_succ]
        refine wpAnyH_take (i := 12) (oi := ⟨some 44, _, _, _, _, _⟩) (v := .pointer (some ⟨g, p, none⟩)) rfl (by kernel_rfl) (by kernel_rfl) (by kernel_rfl) (fun _ _ _ h => h) (Or.inl ⟨by kernel_rfl, by intro w _; go_simp; (try omega)⟩) (by assumption) ?_
        try simp only [Act.put, List.setIfInBounds_toArray, List.set_cons_zero, List.set_cons_succ]
        refine wpAnyH_ready (rs := [13]) (by kernel_rfl) (by simp) ?_
        refine AllReadyH.cons (o := ⟨none, _, _, _, _, _⟩) rfl (fun K hK => ?_) AllReadyH.nil
        go_simp
        refine hK.out _ _ ?_ (fun hHeld2 => ?_)
        · exact dS _
        clear hK K
        try simp only [Act.put, List.setIfInBounds_toArray, List.set_cons_zero, List.set_cons_succ]
        refine wpAnyH_done (by kernel_rfl) ?_ _
        go_wp2_with fail
        go_roundw
        case rel => exact ⟨i + 1, by go_num, by omega, HS⟩
        case measure => simp [intOf]; omega
      · have HS : Hid (OwnV w.heap.size w g (strs (putS xs (ws.take (i + 1)))) wr) := Lib.hid (by
          rw [hst]
          unfold putS1
          rw [hlen, if_neg hin]
          exact HO.out)
        clear hx h1 h2 hA hAr hst hlen
        by_cases h0 : 0 ≤ a
        · have hm2 : ¬ a < (m : Int) := fun h => hin ⟨h0, h⟩
          clear hin
          go_wp2_with fail
          go_roundw
          case rel => exact ⟨i + 1, by go_num, by omega, HS⟩
          case measure => simp [intOf]; omega
        · clear hin
          go_wp2_with fail
          go_roundw
          case rel => exact ⟨i + 1, by go_num, by omega, HS⟩
          case measure => simp [intOf]; omega
    · obtain rfl : i = k := by omega
      have ho := HO.out
      rw [List.take_of_length_le (by rw [HLW.out]; exact Nat.le_refl _)] at ho
      have HOF := Lib.hid ho
      clear ho
      go_wp2_with fail
      go_ret
      exact ⟨g, c, rfl, HGC.out, HOF.out⟩

end Go.Proofs.Ytbnepjojfaeggaa
