/-
  Proved here: the numbers of the blocks that a chart's pages lie in (own).
  The conditions stand at each theorem.
-/
import Derived.Test.YtdbkhhmadefccaaTrSplit
import Derived.Test.YtdbkhhmadefccaaTrNeed
import Derived.Lib.SliceRun
namespace Go.Proofs.Ytdbkhhmadefccaa
open Go.RowKit
set_option linter.unusedVariables false
set_option linter.unusedSimpArgs false

theorem own1_any (x : Int) (w : World) : Calls Try.prog 46 #[.int .i64 x] w fun e w' => e = .returned (.bool (decide (x = 0))) ∧ w = w' := by
  have e1 : (x == 0) = decide (x = 0) := by
    by_cases h : x = 0
    · rw [decide_eq_true h]; simpa using h
    · rw [decide_eq_false h]; simpa using h
  go_enter Try.func46, Try.ntmps46
  go_wp2_with fail
  go_ret
  exact ⟨by rw [← e1]; rfl, rfl⟩

theorem nz_take {zs : List Int} {j : Nat} {x : Int} (h : zs[j]? = some x) : nzL (zs.take (j + 1)) = nzL (zs.take j) ++ (if x = 0 then [] else [x]) := by
  rw [List.take_add_one, h, nz_append]
  unfold nzL nzB
  by_cases hx : x = 0
  · simp [hx]
  · simp [hx]

theorem nz_le (l : List Int) : (nzL l).length ≤ l.length := List.length_filter_le ..

set_option maxRecDepth 100000 in
set_option maxHeartbeats 1600000 in
/-- The first 0. -/
theorem index0_any {b n cap : Nat} {zs : List Int} {w : World} (hn : zs.length = n) (hc : w.rangeAt b 0 (ints zs)) (hb : n ≤ 1000) :
    Calls Try.prog 56 #[.slice (some ⟨b, 0, none⟩) n cap, .func (.func 46) #[] #[]] w fun e w' => (∃ r : Int, e = .returned (.int .i64 r) ∧ ((r = -1 ∧ (0 : Int) ∉ zs) ∨ ∃ k : Nat, r = (k : Int) ∧ k < n ∧ zs[k]? = some 0 ∧ (0 : Int) ∉ zs.take k)) ∧ w = w' := by
  have HC := Lib.hid hc
  have HN := Lib.hid hn
  clear hc hn
  go_enter Try.func56, Try.ntmps56
  go_wp2_with fail
  go_loopw [8] (fun iv wr => ∃ i : Nat, iv = .int .i64 (i : Int) ∧ i ≤ n ∧ Hid (w = wr) ∧ Hid ((0 : Int) ∉ zs.take i)) (fun iv _ => n - (intOf iv).toNat)
  case atStart => exact ⟨0, rfl, Nat.zero_le _, Lib.hid rfl, Lib.hid (by simp)⟩
  case round =>
    obtain ⟨i, rfl, hi, HW, HQ⟩ := hrel
    by_cases hlt : i < n
    · obtain ⟨x, hx⟩ : ∃ x, zs[i]? = some x := ⟨_, List.getElem?_eq_getElem (by rw [HN.out]; exact hlt)⟩
      have d1 : wr.cell? ⟨b, i, none⟩ = some (.int .i64 x) := by
        have := HC.out i _ (ints_get hx)
        rw [Nat.zero_add] at this
        rw [← HW.out]; exact this
      have i1 : (i : Int) < (n : Int) := by omega
      have cF := own1_any x wr
      have HX := Lib.hid hx
      clear hx
      by_cases hz : x = 0
      · subst hz
        rw [decide_eq_true rfl] at cF
        go_wp2_with (go_at_call 46; refine cF.mono ?_; rintro e w3 ⟨rfl, rfl⟩)
        go_ret
        exact ⟨⟨(i : Int), rfl, Or.inr ⟨i, rfl, hlt, HX.out, HQ.out⟩⟩, HW.out⟩
      · have HQ2 : Hid ((0 : Int) ∉ zs.take (i + 1)) := Lib.hid (by
          rw [List.take_add_one, HX.out]
          intro h
          rcases List.mem_append.1 h with h | h
          · exact HQ.out h
          · exact hz (by simp at h; exact h.symm))
        rw [decide_eq_false hz] at cF
        clear hz
        go_wp2_with (go_at_call 46; refine cF.mono ?_; rintro e w3 ⟨rfl, rfl⟩)
        go_roundw
        case rel => exact ⟨i + 1, by go_num, by omega, HW, HQ2⟩
        case measure => simp [intOf]; omega
    · obtain rfl : i = n := by omega
      have HQ2 : Hid ((0 : Int) ∉ zs) := Lib.hid (by have := HQ.out; rwa [← HN.out, List.take_length] at this)
      go_wp2_with fail
      go_ret
      exact ⟨⟨-1, rfl, Or.inl ⟨rfl, HQ2.out⟩⟩, HW.out⟩

theorem wp_clear_run {ops : Array Oper} {rest : List Oper} {o : Oper} {a : Act} {Q : Exit → Act → World → Prop} {w : World} (hgd : o.guard = none) (x : Operand) (t : TypeId)
    (ho : o.op = .call { callee := .builtin .clear, args := #[x], argTypes := #[t] }) (v v' : Value) (w' : World) (hx : a.eval x = v) (hr : ∀ ty, (Builtin.clear_ #[t] ty #[v]).run Try.prog w = .ok v' w')
    (h : wpList Try.prog ops Q rest (a.put o.dst v') w') : wpList Try.prog ops Q (o :: rest) a w := by
  refine wpList_plain hgd fun K hK => ?_
  unfold Oper.wp
  simp [execOp, ho, resolve, invoke, builtin, hx, hr, Result.andThen]
  exact hK _ _ h

/-- A list from which zeros are being struck: what is kept stands ahead, what was not looked at as it was. -/
def Striking (base : Nat) (w0 : World) (b : Nat) (zs : List Int) (i j : Nat) (wr : World) : Prop :=
  ∃ C : List Int, OwnV base w0 b (ints C) wr ∧ C.length = zs.length ∧ C.take i = nzL (zs.take j) ∧ C.drop j = zs.drop j

theorem nz_none {l : List Int} (h : (0 : Int) ∉ l) : nzL l = l := by
  unfold nzL
  rw [List.filter_eq_self]
  intro x hx
  unfold nzB
  exact decide_eq_true (fun e => h (e ▸ hx))

theorem Striking.keep {base b i j : Nat} {w0 wr : World} {zs : List Int} {x : Int} (h : Striking base w0 b zs i j wr) (hj : zs[j]? = some x) (hx : x ≠ 0) (hij : i < j) : Striking base w0 b zs (i + 1) (j + 1) (wr.setCell ⟨b, i, none⟩ (.int .i64 x)) := by
  obtain ⟨C, h1, h2, h3, h4⟩ := h
  have hjl := (List.getElem?_eq_some_iff.1 hj).1
  have hs := h1.store (k := i) (y := .int .i64 x) (by rw [ints_length]; omega)
  rw [← ints_set] at hs
  refine ⟨C.set i x, hs, by rw [List.length_set, h2], ?_, ?_⟩
  · rw [nz_take hj, if_neg hx, ← h3, List.take_add_one, List.getElem?_set_self (by omega), List.take_set_of_le (Nat.le_refl _)]
    rfl
  · rw [List.drop_set_of_lt (by omega), ← List.drop_drop, h4, List.drop_drop]

theorem Striking.skip {base b i j : Nat} {w0 wr : World} {zs : List Int} (h : Striking base w0 b zs i j wr) (hj : zs[j]? = some 0) : Striking base w0 b zs i (j + 1) wr := by
  obtain ⟨C, h1, h2, h3, h4⟩ := h
  refine ⟨C, h1, h2, by rw [nz_take hj, if_pos rfl, List.append_nil]; exact h3, by rw [← List.drop_drop, h4, List.drop_drop]⟩

theorem Striking.at {base b i j : Nat} {w0 wr : World} {zs : List Int} {x : Int} (h : Striking base w0 b zs i j wr) (hj : zs[j]? = some x) : wr.cell? ⟨b, j, none⟩ = some (.int .i64 x) := by
  obtain ⟨C, h1, h2, h3, h4⟩ := h
  have e : C[j]? = some x := by
    have e1 : (C.drop j)[0]? = C[j]? := by rw [List.getElem?_drop, Nat.add_zero]
    have e2 : (zs.drop j)[0]? = zs[j]? := by rw [List.getElem?_drop, Nat.add_zero]
    rw [← e1, h4, e2, hj]
  exact h1.1 j _ (ints_get e)

theorem Striking.cell {base b i j k : Nat} {w0 wr : World} {zs : List Int} (h : Striking base w0 b zs i j wr) (hk : k < zs.length) : ∃ y, wr.cell? ⟨b, k, none⟩ = some (.int .i64 y) ∧ wr.frozen? ⟨b, k, none⟩ = false := by
  obtain ⟨C, h1, h2, _, _⟩ := h
  exact ⟨_, h1.1 k _ (ints_get (List.getElem?_eq_getElem (by omega))), h1.2.1 k⟩

theorem first_zero {zs : List Int} (h : (0 : Int) ∈ zs) : ∃ k, k < zs.length ∧ zs[k]? = some 0 ∧ (0 : Int) ∉ zs.take k := by
  induction zs with
  | nil => cases h
  | cons x r ih =>
    by_cases hx : x = 0
    · exact ⟨0, by simp, by rw [hx]; rfl, by simp⟩
    · obtain ⟨k, h1, h2, h3⟩ := ih ((List.mem_cons.1 h).resolve_left (fun e => hx e.symm))
      refine ⟨k + 1, by simpa using h1, h2, ?_⟩
      rw [List.take_succ_cons]
      intro hm
      rcases List.mem_cons.1 hm with e | e
      · exact hx e.symm
      · exact h3 e

theorem zero_at {zs : List Int} {i k : Nat} (hi : zs[i]? = some 0) (h : (0 : Int) ∉ zs.take k) : k ≤ i := by
  rcases Nat.lt_or_ge i k with hlt | hge
  · exact absurd (List.mem_of_getElem? (i := i) (by rw [List.getElem?_take, if_pos hlt]; exact hi)) h
  · exact hge

theorem nzL_i64 {l : List Int} (h : ∀ z ∈ l, I64 z) : ∀ z ∈ nzL l, I64 z := fun z hz => h z (List.mem_filter.1 hz).1

/-- The end: what is kept. -/
theorem Striking.done {base b i : Nat} {w0 wr : World} {zs : List Int} {m cap : Nat} (h : Striking base w0 b zs i zs.length wr) (hm : i + m = zs.length) (hi : i = (nzL zs).length) (hc : zs.length ≤ cap) (hz : ∀ z ∈ zs, I64 z) (hb : zs.length ≤ 1000) (hk : Keeps b wr (wr.setCells b i (List.replicate m (.int .i64 0)))) :
    FreshI (wr.setCells b i (List.replicate m (.int .i64 0))) base (.slice (some ⟨b, 0, none⟩) i cap) (nzL zs) ∧ Below base w0 (wr.setCells b i (List.replicate m (.int .i64 0))) := by
  obtain ⟨C, h1, h2, h3, h4⟩ := h
  rw [List.take_length] at h3
  have e : List.replicate m (Value.int .i64 0) = ints (List.replicate m 0) := by unfold ints; simp
  have h5 := h1.fillI (List.replicate m 0) C i wr (by rw [List.length_replicate]; omega)
  rw [e]
  have hr := own_part h5 0 i
  have e2 : ((lay C i (List.replicate m 0)).drop 0).take i = nzL zs := by
    rw [List.drop_zero, lay_eq _ _ _ (by rw [List.length_replicate]; omega), List.append_assoc, List.take_append_of_le_length (by rw [List.length_take]; omega), List.take_take, Nat.min_self, h3]
  rw [e2] at hr
  have hA := iarg_of_range (cap := cap) hr (nzL_i64 hz) (by have := nz_le zs; omega) (by omega)
  refine ⟨⟨some ⟨b, 0, none⟩, cap, by rw [← hi], by rw [← hi] at hA ⊢; exact hA, Or.inr ⟨b, 0, rfl, h1.2.2.1⟩⟩, h5.2.2.2⟩

set_option maxRecDepth 100000 in
set_option maxHeartbeats 6400000 in
theorem delete0_any {base b n cap : Nat} {zs : List Int} {w0 w : World} (hn : zs.length = n) (hO : OwnV base w0 b (ints zs) w) (hz : ∀ z ∈ zs, I64 z) (hb : n ≤ 1000) (hc : n ≤ cap) :
    Calls Try.prog 44 #[.slice (some ⟨b, 0, none⟩) n cap, .func (.func 46) #[] #[]] w fun e w' => ∃ v, e = .returned v ∧ FreshI w' base v (nzL zs) ∧ Below base w0 w' := by
  have cI := index0_any (cap := cap) hn (own_range hO) hb
  have HO := Lib.hid hO
  have HZ := Lib.hid hz
  have HN := Lib.hid hn
  by_cases h0 : (0 : Int) ∈ zs
  · obtain ⟨k, k1, k2, k3⟩ := first_zero h0
    have cI2 : Calls Try.prog 56 #[.slice (some ⟨b, 0, none⟩) n cap, .func (.func 46) #[] #[]] w fun e w' => e = .returned (.int .i64 (k : Int)) ∧ w = w' := cI.mono (fun e w' h => by
      obtain ⟨⟨r, he, hr⟩, hw⟩ := h
      refine ⟨?_, hw⟩
      rw [he]
      rcases hr with ⟨_, hr⟩ | ⟨k', rfl, _, q2, q3⟩
      · exact absurd h0 hr
      · have h1 := zero_at k2 q3
        have h2 := zero_at q2 k3
        rw [show k' = k by omega])
    have HS0 : Hid (Striking base w0 b zs k (k + 1) w) := Lib.hid ⟨zs, hO, rfl, by rw [nz_take k2, if_pos rfl, List.append_nil, nz_none k3], rfl⟩
    have HE0 : Hid (k = (nzL (zs.take (k + 1))).length) := Lib.hid (by rw [nz_take k2, if_pos rfl, List.append_nil, nz_none k3, List.length_take]; omega)
    have hkn : k + 1 ≤ n := by omega
    have kw : wrap64 ((k : Int) + 1) = ((k + 1 : Nat) : Int) := by unfold wrap64; omega
    have kne : ((k : Int) == -1) = false := by simp
    clear cI hO hz h0 k1 k2 k3 hn
    go_enter Try.func44, Try.ntmps44
    go_wp2_with (go_at_call 56; refine cI2.mono ?_; rintro e w2 ⟨rfl, rfl⟩)
    go_loopw [5, 6] (fun iv jv wr => ∃ i j : Nat, iv = .int .i64 (i : Int) ∧ jv = .int .i64 (j : Int) ∧ (i < j ∧ j ≤ n) ∧ Hid (i = (nzL (zs.take j)).length) ∧ Hid (Striking base w0 b zs i j wr)) (fun _ jv _ => n - (intOf jv).toNat)
    case atStart => exact ⟨k, k + 1, rfl, by first | rfl | go_num, ⟨Nat.lt_succ_self _, hkn⟩, HE0, HS0⟩
    case round =>
      obtain ⟨i, j, rfl, rfl, ⟨hij, hjn⟩, HE, HS⟩ := hrel
      by_cases hlt : j < n
      · obtain ⟨x, hx⟩ : ∃ x, zs[j]? = some x := ⟨_, List.getElem?_eq_getElem (by rw [HN.out]; exact hlt)⟩
        have d1 := HS.out.at hx
        obtain ⟨y, d2, d3⟩ := HS.out.cell (k := i) (by rw [HN.out]; omega)
        have j1 : (j : Int) < (n : Int) := by omega
        have i1 : (i : Int) < (n : Int) := by omega
        have i2 : i < n := by omega
        have cF := own1_any x wr
        have HX := Lib.hid hx
        have HT := Lib.hid (nz_take hx)
        clear hx
        by_cases hz0 : x = 0
        · subst hz0
          rw [decide_eq_true rfl] at cF
          have HE2 : Hid (i = (nzL (zs.take (j + 1))).length) := Lib.hid (by rw [HT.out, if_pos rfl, List.append_nil]; exact HE.out)
          go_wp2_with (go_at_call 46; refine cF.mono ?_; rintro e w3 ⟨rfl, rfl⟩)
          go_roundw
          case rel => exact ⟨i, j + 1, rfl, by go_num, ⟨by omega, by omega⟩, HE2, Lib.hid (HS.out.skip HX.out)⟩
          case measure => simp [intOf]; omega
        · rw [decide_eq_false hz0] at cF
          have HE2 : Hid (i + 1 = (nzL (zs.take (j + 1))).length) := Lib.hid (by rw [HT.out, if_neg hz0, List.length_append, ← HE.out]; rfl)
          have HNZ := Lib.hid hz0
          clear hz0
          go_wp2_with (go_at_call 46; refine cF.mono ?_; rintro e w3 ⟨rfl, rfl⟩)
          go_roundw
          case rel => exact ⟨i + 1, j + 1, by go_num, by go_num, ⟨by omega, by omega⟩, HE2, Lib.hid (HS.out.keep HX.out HNZ.out hij)⟩
          case measure => simp [intOf]; omega
      · obtain rfl : j = n := by omega
        have hS := HS.out
        have hE := HE.out
        have hN := HN.out
        rw [← hN, List.take_length] at hE
        rw [← hN] at hS
        obtain ⟨m, hm⟩ : ∃ m, j - i = m := ⟨_, rfl⟩
        obtain ⟨z0, zc⟩ : (∀ w, (zeroValue 3).run Try.prog w = .ok (.int .i64 0) w) ∧ (Value.int .i64 0).cells = #[Value.int .i64 0] := ⟨fun w => by kernel_rfl, rfl⟩
        have HCL : Hid (∀ ty, (Builtin.clear_ #[22] ty #[.slice (some ⟨b, i, none⟩) m (cap - i)]).run Try.prog wr = .ok (.tuple #[]) (wr.setCells b i (List.replicate m (.int .i64 0)))) := Lib.hid (fun ty => Lib.run_clear_slice wr 22 3 ty (.int .i64 0) Try.underlying22 z0 zc rfl b i m (cap - i) (by omega) (fun t ht => by
          obtain ⟨y, d2, d3⟩ := hS.cell (k := i + t) (by omega)
          rw [d2]; rfl) (fun t ht => by
          obtain ⟨y, d2, d3⟩ := hS.cell (k := i + t) (by omega)
          exact d3))
        have HD := Lib.hid (hS.done (m := m) (cap := cap) (by omega) hE (by omega) HZ.out (by omega) (Keeps.sets _ _ _ _))
        have ci : ¬ cap = i := by omega
        have i1 : (i : Int) ≤ (j : Int) := by omega
        have i2 : (i : Int) ≤ (cap : Int) := by omega
        have i3 : i ≤ j := by omega
        have i4 : i ≤ cap := by omega
        clear hS hE hN z0 zc
        go_wp2_with (refine wp_clear_run rfl (.tmp 38) 22 rfl _ _ _ (by rw [← hm]; rfl) HCL.out ?_)
        go_ret
        exact ⟨_, rfl, HD.out.1, HD.out.2⟩
  · have cI2 : Calls Try.prog 56 #[.slice (some ⟨b, 0, none⟩) n cap, .func (.func 46) #[] #[]] w fun e w' => e = .returned (.int .i64 (-1)) ∧ w = w' := cI.mono (fun e w' h => by
      obtain ⟨⟨r, he, hr⟩, hw⟩ := h
      refine ⟨?_, hw⟩
      rw [he]
      rcases hr with ⟨rfl, _⟩ | ⟨k', _, _, q2, _⟩
      · rfl
      · exact absurd (List.mem_of_getElem? q2) h0)
    have HE : Hid (nzL zs = zs) := Lib.hid (nz_none h0)
    have HF : Hid (FreshI w base (.slice (some ⟨b, 0, none⟩) n cap) zs) := Lib.hid (by
      have hA := iarg_of_range (cap := cap) (own_range hO) hz (by omega) (by omega)
      rw [hn] at hA
      exact ⟨_, cap, by rw [hn], by rw [hn]; exact hA, Or.inr ⟨b, 0, rfl, hO.2.2.1⟩⟩)
    clear cI hO hz h0 hn
    go_enter Try.func44, Try.ntmps44
    go_wp2_with (go_at_call 56; refine cI2.mono ?_; rintro e w2 ⟨rfl, rfl⟩)
    go_ret
    exact ⟨_, rfl, by rw [HE.out]; exact HF.out, HO.out.2.2.2⟩

/-! ### The copy -/

set_option maxHeartbeats 800000 in
theorem cloneI_any (ad : Addr) (len cap : Nat) (zs : List Int) (w : World) (hA : IArg w (some ad) len cap zs) (hl : len ≤ 1000) :
    Calls Try.prog 45 #[.slice (some ad) len cap] w fun e w' => ∃ v, e = .returned v ∧ w'.ownsRow w.heap.size 3 1 v len (ints zs) ∧ Below w.heap.size w w' := by
  have HN := Lib.hid (hA.later ((Below.refl _ _).alloc (Nat.le_refl _) (.cells #[] 3))).news
  have HL := Lib.hid hA.len
  have HO : Hid ((w.alloc (.cells #[] 3)).ownsRow w.heap.size 3 1 (.slice (some ⟨w.heap.size, 0, none⟩) 0 0) 0 []) := Lib.hid (World.ownsRow_made (base := w.heap.size) (e := 3) (size := 1) w #[] 0 (Nat.le_refl _) (by decide) rfl)
  have HB : Hid (Below w.heap.size w (w.alloc (.cells #[] 3))) := Lib.hid ((Below.refl _ _).alloc (Nat.le_refl _) _)
  have hnil := fun (w : World) => Lib.run_eql_slice_nil (P := Try.prog) w 22 3 (some ad) len cap 0 0 Try.underlying22
  clear hA
  go_enter Try.func45, Try.ntmps45
  go_wp2_with (refine wp_append_r elemIR rfl (.tmp 5) (.tmp 6) rfl w.heap.size 0 _ [] rfl HO.out ad len cap (ints zs) (by rw [ints_length, HL.out, Nat.mul_one]) rfl HN.out (ints_one zs) (by omega) (by simp) ?_; intro v1 w1 hown1 hg1 hb1; have HO1 := Lib.hid hown1; have HB1 := Lib.hid (HB.out.trans hb1); clear hown1 hg1 hb1)
  go_ret
  exact ⟨v1, rfl, by have := HO1.out; rwa [Nat.zero_add, List.nil_append] at this, HB1.out⟩

theorem own_of_row {w0 w : World} {base n : Nat} {v : Value} {zs : List Int} (h : w.ownsRow base 3 1 v n (ints zs)) (hn : 0 < n) (hb : Below base w0 w) : ∃ g cap, v = .slice (some ⟨g, 0, none⟩) n cap ∧ n ≤ cap ∧ OwnV base w0 g (ints zs) w := by
  obtain ⟨g, cap, hv, hg, _⟩ := h.form hn
  have hcap : n ≤ cap := by
    rcases h.2 with ⟨h1, h'⟩ | ⟨g', cap', cur, h1, _, _, hc, _⟩
    · omega
    · rw [hv] at h1
      simp only [Value.slice.injEq, Option.some.injEq, Addr.mk.injEq, and_true, true_and] at h1
      omega
  rw [hv] at h
  refine ⟨g, cap, hv, hcap, fun j x hj => ?_, fun j => h.frozenAt j, hg, hb⟩
  have := h.cells (g := g) rfl j x hj
  rw [Go.WideShapes.add_plain] at this
  simpa using this

set_option maxRecDepth 100000 in
set_option maxHeartbeats 1600000 in
theorem ownC_any (g : Nat) (L : List Int) (w : World) (hC : ChartAt w g L) (hz : ∀ z ∈ L, I64 z) : Calls Try.prog 33 #[.pointer (some ⟨g, 0, none⟩)] w fun e w' => ∃ v, e = .returned v ∧ FreshI w' w.heap.size v (nzL ((L.drop 154).take 5)) ∧ Below w.heap.size w w' := by
  have hl : ((L.drop 154).take 5).length = 5 := by rw [List.length_take, List.length_drop, hC.1]; decide
  have hzz : ∀ z ∈ (L.drop 154).take 5, I64 z := fun z h => hz z (List.mem_of_mem_drop (List.mem_of_mem_take h))
  have hA := iarg_of_range (cap := 5) (range_part hC.2 154 5) hzz (by omega) (by omega)
  rw [hl] at hA
  generalize (L.drop 154).take 5 = A at *
  have cC := cloneI_any ⟨g, 154, none⟩ 5 5 A w hA (by decide)
  have HL := Lib.hid hl
  have HZ := Lib.hid hzz
  clear hC hz hA hl hzz
  go_enter Try.func33, Try.ntmps33
  go_wp2_with (first
    | (go_at_call 45; refine cC.mono ?_; rintro e w2 ⟨v, rfl, ho, hb⟩; obtain ⟨b, cb, rfl, hcb, hO⟩ := own_of_row ho (by decide) hb; have HO := Lib.hid hO; have HCB := Lib.hid hcb; clear ho hb hcb hO)
    | (go_at_call 44; refine (delete0_any HL.out HO.out HZ.out (by decide) HCB.out).mono ?_; rintro e w3 ⟨v, rfl, hf, hb⟩; have HF := Lib.hid hf; have HB := Lib.hid hb; clear hf hb))
  go_ret
  exact ⟨_, rfl, HF.out, HB.out⟩

end Go.Proofs.Ytdbkhhmadefccaa
