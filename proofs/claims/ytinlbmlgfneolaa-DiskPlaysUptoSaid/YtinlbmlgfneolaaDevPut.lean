/-
  Proved here: what Put of the landed disk makes of it.
  The conditions stand at each theorem.
-/
import Derived.Test.YtinlbmlgfneolaaDevPush
import Derived.Deep.RegionLaw
import Derived.Great.BuildSlice
import Derived.Deep.QuietTactic
import Derived.BigQuiet
namespace Go.Proofs.Ytinlbmlgfneolaa
open Go.RowKit
set_option linter.unusedVariables false
set_option linter.unusedSimpArgs false

set_option maxHeartbeats 400000 in
theorem put_nil (ao : Option Addr) (m cap : Nat) (w : World) : Calls Try.prog 11 #[.pointer none, .slice ao m cap] w fun e w' => e = .returned (.int .i64 1) ∧ w = w' := by
  have c := ready_nil w
  go_enter Try.func11, Try.ntmps11
  go_wp2_with (go_at_call 22; refine c.mono ?_; rintro e w' ⟨rfl, rfl⟩)
  go_ret
  exact ⟨rfl, rfl⟩

theorem alloc54 (w : World) : (Instr.alloc 54 true (.tuple #[])).run Try.prog w = .ok (.pointer (some ⟨w.heap.size, 0, none⟩)) (w.alloc (.cells #[.int .i64 0, .slice none 0 0] 54)) := by
  rfl
theorem i54 (x : Int) (ad : Option Addr) (l c : Nat) : (Try.prog.info? 54).map (·.size) = some (#[Value.int .i64 x, .slice ad l c] : Array Value).size := by
  show _ = some 2
  kernel_rfl
theorem p54 (x : Int) (ad : Option Addr) (l c : Nat) : (#[Value.int .i64 x, .slice ad l c] : Array Value).all (·.oneCell') = true := all_oneCell_toArray (cs := [Value.int .i64 x, .slice ad l c]) (by simp [Value.oneCell'])

section
variable {ops : Array Oper} {rest : List Oper} {o : Oper} {a : Act} {w : World} {Q : Exit → Act → World → Prop}

/-- A new variable of a write. -/
theorem wp_new54 (hg : o.guard = none) (ho : o.op = .alloc 54) (dst : Option Tmp) (hd : o.dst = dst)
    (h : ∀ n1 w1, n1 = w.heap.size → w1 = w.alloc (.cells #[.int .i64 0, .slice none 0 0] 54) → wpList Try.prog ops Q rest (a.put dst (.pointer (some ⟨n1, 0, none⟩))) w1) : wpList Try.prog ops Q (o :: rest) a w := by
  subst hd
  refine wpList_plain hg fun K hK => ?_
  unfold Oper.wp execOp
  simp only [ho, Sem.run_bind, alloc54, Sem.run_pure, Result.andThen_ok]
  exact hK _ _ (h _ _ rfl rfl)

/-- A write goes into it. -/
theorem wp_store54 (hg : o.guard = none) (x y : Operand) (ho : o.op = .store 54 x y) (hd : o.dst = none) {w0 : World} {n1 : Nat} (hn : n1 = w0.heap.size) (hw : w = w0.alloc (.cells #[.int .i64 0, .slice none 0 0] 54)) (hx : a.eval x = .pointer (some ⟨n1, 0, none⟩))
    (k : Int) (ad : Option Addr) (l c : Nat) (hy : a.eval y = .agg #[.int .i64 k, .slice ad l c])
    (h : ∀ w2, w2.cell? ⟨n1, 0, none⟩ = some (.int .i64 k) → w2.cell? ⟨n1, 1, none⟩ = some (.slice ad l c) → Below w0.heap.size w0 w2 → wpList Try.prog ops Q rest (a.put none undef) w2) : wpList Try.prog ops Q (o :: rest) a w := by
  have ht : w.there n1 0 (#[Value.int .i64 k, .slice ad l c] : Array Value).size := by
    rw [hw, hn]
    intro j hj
    refine ⟨?_, by rw [World.frozen?_alloc_mark]; simp⟩
    rw [Nat.zero_add, World.cell?_alloc_new]
    match j, hj with
    | 0, _ => rfl
    | 1, _ => rfl
  have hs := World.rangeAt_setCells_same w n1 0 [Value.int .i64 k, .slice ad l c] ht
  refine wpList_store_mid hg 54 x y ho n1 0 #[.int .i64 k, .slice ad l c] hx hy ht (i54 _ _ _ _) (p54 _ _ _ _) ?_
  rw [hd]
  refine h _ (hs 0 _ rfl) (hs 1 _ rfl) ?_
  exact below_setCells _ (by rw [hn]; exact Nat.le_refl _) _ _ _ (by rw [hw]; exact (Below.refl _ _).alloc (Nat.le_refl _) _)
end

section
variable {ops : Array Oper} {o : Oper} {a : Act} {w : World} {K : Act → World → Prop} {Q : Exit → Act → World → Prop} {E : Prop}

/-- A load of a block, as one step of a region that draws. -/
theorem step_load65 (hg : o.guard = none) (x : Operand) (ho : o.op = .load 65 x) (b off : Nat) (hx : a.eval x = .pointer (some ⟨b, off, none⟩)) (c : List Int) (hr : w.rangeAt b off (bys c)) (hc : c.length = 64)
    (hK : K (a.put o.dst (.agg (bys c).toArray)) w) : if Region.wanted o (yielded ops a.tmps) = true then Oper.wp Try.prog o a w K Q else E := by
  rw [if_pos (by simp [Region.wanted, hg])]
  exact wp_load_mid _ x ho b off hx (bys c) _ hr u65 rfl (i65 hc) hK

theorem fill65 {c : List Int} (hc : c.length = 64) (cells : Array Value) (h : cells.size = 64) : Instr.fill (fun i => some (i * 64, 64)) cells [(0, Value.agg (bys c).toArray)] = some (bys c).toArray := by
  have h64 : (bys c).length = 64 := by rw [bys_length, hc]
  have h1 := Great.fill_whole (s := 64) (by decide) [Value.agg (bys c).toArray] cells (fun v hv => by
    rw [List.mem_singleton.1 hv]
    show (bys c).toArray.size = 64
    simp [h64]) (by rw [h]; rfl)
  have e : ([Value.agg (bys c).toArray].flatMap fun v => v.cells.toList) = bys c := by simp [Value.cells]
  rw [e] at h1
  exact h1

theorem info65 : (Try.prog.info? 65).map (fun i => (i.zero, i.size, i.bytes)) = some (some (.agg zero65), 64, 64) := by kernel_rfl

/-- '[]block{x}', as one step of a region that draws. -/
theorem step_build65 (hg : o.guard = none) (x : Operand) (ho : o.op = .buildSlice 66 1 #[(0, x)]) (c : List Int) (hx : a.eval x = .agg (bys c).toArray) (hc : c.length = 64) (H : Nat) (hH : w.heap.size = H)
    (hK : K (a.put o.dst (.slice (some ⟨H, 0, none⟩) 1 1)) (w.alloc (.cells (bys c).toArray 65))) : if Region.wanted o (yielded ops a.tmps) = true then Oper.wp Try.prog o a w K Q else E := by
  subst hH
  rw [if_pos (by simp [Region.wanted, hg])]
  obtain ⟨i0, hi, hz0, hz1, hz2⟩ := info_parts info65
  refine wp_buildSlice _ 65 1 _ ho (bys c).toArray i0 (.agg zero65) u66 hi hz0 (by rw [hz1]; decide) (by rw [hz1]; decide) ?_ hK
  rw [hz1]
  have e : (#[((0 : Nat), x)].map fun (i, x) => (i, a.eval x)).toList = [(0, Value.agg (bys c).toArray)] := by simp [hx]
  rw [e]
  exact fill65 hc _ (by simp)
end

/-- The loop of Put behind i rounds. -/
def Puts (w0 : World) (d g : Nat) (F G : Nat → Prop) (s : DM) (po : Option Addr) (m : Nat) (ws : List (Int × List Int)) (n i : Nat) (wr : World) : Prop :=
  ∃ ao cp s1, DIs wr d g ao cp s1 ∧ s1.n = n ∧ putAll s ws = putAll s1 (ws.drop i) ∧ (∀ k, k < n → (s1.hist k).length + (ws.length - i) ≤ 1099511627776) ∧ Grew F (Foot d g ao n) w0 wr ∧ ListIs wr G po m ws

theorem elem_ok {ws : List (Int × List Int)} {n i : Nat} {x : Int} {zs : List Int} (h1 : badLen ws = false) (h2 : badAt n ws = false) (h : ws[i]? = some (x, zs)) : zs.length = 64 ∧ 0 ≤ x ∧ x < n := by
  have hm := List.mem_of_getElem? h
  unfold badLen at h1
  unfold badAt at h2
  rw [List.any_eq_false] at h1 h2
  have a1 := h1 _ hm
  have a2 := h2 _ hm
  simp at a1 a2
  exact ⟨a1, a2.1, a2.2⟩

theorem data_range {w : World} {bd od l c : Nat} {zs : List Int} (h : Arg w (some ⟨bd, od, none⟩) l c zs) : w.rangeAt bd od (bys zs) := by
  intro j v hv
  have h1 := bts_news h.1 rfl j v hv
  rw [Go.WideShapes.add_plain] at h1
  exact h1

set_option maxRecDepth 100000 in
set_option maxHeartbeats 3200000 in
theorem di_put {w : World} {a : Addr} {F : Nat → Prop} {s : DM} (G : Nat → Prop) (po : Option Addr) (m cap : Nat) (ws : List (Int × List Int)) (h : DI w a F s) (hL : ListIs w G po m ws) (hFG : ∀ k, F k → ¬ G k) (hfew : ∀ k, k < s.n → (s.hist k).length + ws.length ≤ 1099511627776) :
    Calls Try.prog 11 #[.pointer (some a), .slice po m cap] w fun e w' => ∃ F', e = .returned (.int .i64 (putRes s ws).2) ∧ DI w' a F' (putRes s ws).1 ∧ Grew F F' w w' := by
  obtain ⟨d, g, ao, cp, rfl, h, rfl⟩ := h
  have c1 := ready_d h.off
  by_cases hoff : s.off = true
  · rw [if_pos hoff] at c1
    have HE : Hid (putRes s ws = (s, 8)) := Lib.hid (by unfold putRes; rw [if_pos hoff])
    have H := Lib.hid h
    clear hoff h hL hFG hfew
    go_enter Try.func11, Try.ntmps11
    go_wp2_with (go_at_call 22; refine c1.mono ?_; rintro e w' ⟨rfl, rfl⟩)
    go_ret
    exact ⟨_, by rw [HE.out]; rfl, by rw [HE.out]; exact ⟨d, g, ao, cp, rfl, H.out, rfl⟩, Grew.refl _ _⟩
  · rw [if_neg hoff] at c1
    have c2 := fault_d (cap := cap) hL h.sl
    by_cases hbad : faultErr s.n ws = 0
    · obtain ⟨n, hnn⟩ : ∃ n, s.n = n := ⟨_, rfl⟩
      have hb1 : badLen ws = false := by
        unfold faultErr at hbad
        by_cases b1 : badLen ws = true
        · rw [if_pos b1] at hbad; exact absurd hbad (by decide)
        · rw [Bool.not_eq_true] at b1; exact b1
      have hb2 : badAt n ws = false := by
        unfold faultErr at hbad
        rw [hb1, hnn, if_neg (by decide)] at hbad
        by_cases b1 : badAt n ws = true
        · rw [if_pos b1] at hbad; exact absurd hbad (by decide)
        · rw [Bool.not_eq_true] at b1; exact b1
      have HE : Hid (putRes s ws = putAll s ws) := Lib.hid (by unfold putRes; rw [if_neg hoff, hb1, hnn, hb2, if_neg (by decide), if_neg (by decide)])
      have HOK := Lib.hid (fun i x zs => elem_ok (i := i) (x := x) (zs := zs) hb1 hb2)
      have HWL := Lib.hid hL.1
      have hm := hL.2.1
      rw [hbad] at c2
      have HFG := Lib.hid hFG
      have HL0 := Lib.hid hL
      have HP0 : Hid (∀ w2, Below w.heap.size w w2 → Puts w d g (Foot d g ao s.n) G s po m ws n 0 w2) := Lib.hid (fun w2 hb => ⟨ao, cp, s, h.turn (fun k hk => hb.block k (h.lt hk)), hnn, rfl, fun k hk => by have := hfew k (by rw [hnn]; exact hk); omega, by rw [← hnn]; exact Grew.of_below hb, hL.later hb⟩)
      clear hoff h hL hFG hfew hbad hb1 hb2 hnn
      go_enter Try.func11, Try.ntmps11
      go_wp2_with (first
        | (go_at_call 22; refine c1.mono ?_; rintro e w' ⟨rfl, rfl⟩)
        | (go_at_call 23; refine c2.mono ?_; rintro e w2 ⟨rfl, hb2⟩; have HP := Lib.hid (HP0.out w2 hb2); clear hb2))
      clear c1 c2 HP0
      go_loopw [23] (fun iv wr => ∃ i : Nat, iv = .int .i64 (i : Int) ∧ i ≤ m ∧ Hid (Puts w d g (Foot d g ao s.n) G s po m ws n i wr)) (fun iv _ => m - (intOf iv).toNat)
      case atStart => exact ⟨0, rfl, Nat.zero_le _, HP⟩
      case round =>
        clear HP
        obtain ⟨i, rfl, hi, HP⟩ := hrel
        obtain ⟨ao1, cp1, s1, hD, hn1, hput, hfew, hG1, hLr⟩ := HP.out
        have HD := Lib.hid hD
        have HN1 := Lib.hid hn1
        have HPUT := Lib.hid hput
        have HFEW := Lib.hid hfew
        have HG1 := Lib.hid hG1
        have HLR := Lib.hid hLr
        by_cases hlt : i < m
        · obtain ⟨b, off, x, zs, ad, l, c, rfl, hGb, hbl, hp, e1, e2, hxr, hA, hGd⟩ := list_at hLr hlt
          have i1 : (i : Int) < (m : Int) := by omega
          obtain ⟨hz64, hx0, hxn⟩ := HOK.out i x zs hp
          have hl : l = 64 := by rw [← hA.1.1]; exact hz64
          subst hl
          obtain ⟨k, rfl⟩ : ∃ k : Nat, x = k := ⟨x.toNat, by omega⟩
          obtain ⟨bd, od, rfl, _⟩ := hA.1.2.2.2.resolve_left (by decide)
          have HBD : Hid (bd ≠ d) := Lib.hid (fun e => by
            have hg := hGd bd od none rfl (by decide)
            rw [e] at hg
            exact HFG.out d (Or.inl rfl) hg)
          have HA := Lib.hid hA
          have HZ := Lib.hid (And.intro hz64 hA.1.2.2.1)
          have HDR : Hid (ws.drop i = ((k : Int), zs) :: ws.drop (i + 1)) := Lib.hid (by
            have hlt' := (List.getElem?_eq_some_iff.1 hp).1
            rw [List.drop_eq_getElem_cons hlt', (List.getElem?_eq_some_iff.1 hp).2])
          have hkn : k < n := by omega
          clear hD hn1 hput hfew hG1 hLr HP hp hA hGb hbl hxr hGd hx0
          by_cases hz : s1.left = 0
          · have HPE : Hid (putAll s ws = (gone s1, 8)) := Lib.hid (by
              rw [HPUT.out, HDR.out]
              show (if s1.left = 0 then (gone s1, 8) else _) = _
              rw [if_pos hz])
            have HCH : Hid (∀ w2, DIs w2 d g ao1 cp1 s1 → Calls Try.prog 24 #[.pointer (some ⟨d, 0, none⟩)] w2 fun e w' => e = .returned (.bool false) ∧ DIs w' d g ao1 cp1 (gone s1) ∧ Grew (fun k => k = d) (fun k => k = d) w2 w') := Lib.hid (fun w2 h2 => by
              have c := holds_di h2
              rw [if_pos hz, decide_eq_false (by omega)] at c
              exact c)
            clear hz
            go_wp2_with (first
              | (refine wp_new54 rfl rfl (some 8) rfl ?_; intro n1 w1 hn1 hw1)
              | (refine wp_store54 rfl (.tmp 8) (.tmp 26) rfl rfl hn1 hw1 rfl (k : Int) (some ⟨bd, od, none⟩) 64 c rfl ?_; intro w2 g0 g1 hb2; have HD2 := Lib.hid (HD.out.turn (fun k hk => hb2.block k (HD.out.lt hk))); have HB2 := Lib.hid hb2; clear hw1 hn1 hb2)
              | (go_at_call 24; refine (HCH.out _ HD2.out).mono ?_; rintro e w3 ⟨rfl, hd3, hg3⟩; have HD3 := Lib.hid hd3; have HG3 := Lib.hid hg3; clear hd3 hg3))
            go_ret
            refine ⟨Foot d g ao1 n, by rw [HE.out, HPE.out]; rfl, by rw [HE.out, HPE.out]; exact ⟨d, g, ao1, cp1, rfl, HD3.out, by rw [show (gone s1).n = n from HN1.out]⟩, ?_⟩
            exact HG1.out.trans ((Grew.of_below HB2.out).trans (grew_in HG3.out (Or.inl rfl)))
          · have HPE : Hid (putAll s ws = putAll (addW (step1 s1) k zs) (ws.drop (i + 1))) := Lib.hid (by
              rw [HPUT.out, HDR.out]
              show (if s1.left = 0 then (gone s1, 8) else putAll (addW (step1 s1) (Int.toNat (k : Int)) zs) (ws.drop (i + 1))) = _
              rw [if_neg hz, Int.toNat_natCast])
            have HCH : Hid (∀ w2, DIs w2 d g ao1 cp1 s1 → Calls Try.prog 24 #[.pointer (some ⟨d, 0, none⟩)] w2 fun e w' => e = .returned (.bool true) ∧ DIs w' d g ao1 cp1 (step1 s1) ∧ Grew (fun k => k = d) (fun k => k = d) w2 w') := Lib.hid (fun w2 h2 => by
              have c := holds_di h2
              rw [if_neg hz, decide_eq_true hz] at c
              exact c)
            obtain ⟨L, hL⟩ : ∃ L, (s1.hist k).tail.length = L := ⟨_, rfl⟩
            have HLL := Lib.hid hL
            have i2 : (k : Int) < (n : Int) := hxn
            clear hz hL
            go_wp2_with (first
              | (refine wp_new54 rfl rfl (some 8) rfl ?_; intro n1 w1 hn1 hw1)
              | (refine wp_store54 rfl (.tmp 8) (.tmp 26) rfl rfl hn1 hw1 rfl (k : Int) (some ⟨bd, od, none⟩) 64 c rfl ?_; intro w2 g0 g1 hb2; have HD2 := Lib.hid (HD.out.turn (fun k hk => hb2.block k (HD.out.lt hk))); have HB2 := Lib.hid hb2; have HND : Hid (n1 ≠ d) := Lib.hid (by rw [hn1]; have := HD.out.lt (Or.inl rfl); omega); have HNS := Lib.hid hn1; clear hw1 hn1 hb2)
              | (go_at_call 24; refine (HCH.out _ HD2.out).mono ?_; rintro e w3 ⟨rfl, hd3, hg3⟩; have HD3 := Lib.hid hd3; have HG3 := Lib.hid hg3; have f0 := (cell_of_heap (p := ⟨n1, 0, none⟩) (hg3.2.2.2.2.1 n1 (World.block_lt_of_cell? _ _ g0) HND.out)).trans g0; have f1 := (cell_of_heap (p := ⟨n1, 1, none⟩) (hg3.2.2.2.2.1 n1 (World.block_lt_of_cell? _ _ g1) HND.out)).trans g1; have f2 := hd3.sl; rw [show (step1 s1).n = n from HN1.out] at f2; have f3 := (hd3.cells k (by rw [show (step1 s1).n = n from HN1.out]; exact hkn)).opn; rw [show ((step1 s1).hist k).tail.length = L from HLL.out] at f3; clear hd3 hg3 g0 g1))
            go_quiet (fail)
            go_wp2_with fail
            obtain ⟨V, hV⟩ : ∃ V, V = (w3.drewN nq).drew := ⟨_, rfl⟩
            have hbV : Below w3.heap.size w3 V := by rw [hV]; exact (below_drewN (Below.refl _ _) _).drew
            have hbA : Below w3.heap.size w3 (V.alloc (.cells (bys zs).toArray 65)) := hbV.alloc hbV.size _
            have f1v := cell_later hbV f1
            have f3v := cell_later hbV f3
            have f3b := cell_later hbA f3
            have HV := Lib.hid hV
            have hCk := HD3.out.cells k (by rw [show (step1 s1).n = n from HN1.out]; exact hkn)
            have HGV : Hid (g < (V.alloc (.cells (bys zs).toArray 65)).heap.size ∧ (Value.slice (ao1 k) L (cp1 k)).ownBlock ≠ some g) := Lib.hid ⟨Nat.lt_of_lt_of_le hCk.lt hbA.size, by rw [← HLL.out]; exact hCk.away⟩
            have HFB : Hid ((V.alloc (.cells (bys zs).toArray 65)).frozen? ⟨g, k * 65 + 64, none⟩ = false) := Lib.hid (by rw [hbA.frozen (p := ⟨g, k * 65 + 64, none⟩) hCk.lt]; exact HD3.out.frg _)
            have HOWN : Hid ((V.alloc (.cells (bys zs).toArray 65)).ownsRow 0 65 64 (.slice (ao1 k) L (cp1 k)) L (flat (s1.hist k).tail)) := Lib.hid (by rw [← HLL.out]; exact owns_turn hCk.row (fun b hb => hbA.block b (hCk.row.lt b hb).2))
            have HNEWS : Hid (∀ j u, (bys zs)[j]? = some u → (V.alloc (.cells (bys zs).toArray 65)).cell? ((⟨V.heap.size, 0, none⟩ : Addr).add j) = some u) := Lib.hid (fun j u hj => by
              rw [Go.WideShapes.add_plain, Nat.zero_add, World.cell?_alloc_new]
              simpa using hj)
            have hA2 := (HA.out.later HB2.out).grew HG3.out (fun b' o s e _ => by
              cases e
              have h1 := HA.out.1.2.2.2.resolve_left (by decide)
              obtain ⟨b1, o1, e1, hc1⟩ := h1
              cases e1
              exact fun e => HBD.out e)
            have HRV : Hid (V.rangeAt bd od (bys zs)) := Lib.hid (range_later hbV (data_range hA2))
            obtain ⟨i0, hi0, hz0, hz1, hz2⟩ := info_parts info65
            have HI := Lib.hid (And.intro hi0 (And.intro hz0 (And.intro hz1 hz2)))
            have hLb : L + 1 ≤ 1099511627776 := by
              have h1 := HFEW.out k hkn
              have h2 : (s1.hist k).tail.length = (s1.hist k).length - 1 := List.length_tail
              have h3 := HLL.out
              have h4 := HWL.out
              omega
            have HBV := Lib.hid (And.intro hbV hbA)
            clear f0 f1 f2 f3 hV hbV hbA hCk hA2 hi0 hz0 hz1 hz2
            refine wp_region_any (by kernel_rfl) ?_
            try (change wpAny _ _ _ _ _ _ _ (World.drew _))
            rw [← HV.out]
            refine wpAny_take (i := 0) (oi := ⟨some 39, _, _, _, _, _⟩) (v := ?_) rfl (by kernel_rfl) (by kernel_rfl) (by kernel_rfl) (fun _ _ _ h => h) (Or.inl ⟨by kernel_rfl, ?_⟩) ?_
            rotate_left 1
            · (intro w; go_simp); try (with_reducible rfl)
            try simp only [Act.put, List.setIfInBounds_toArray, List.set_cons_zero, List.set_cons_succ]
            refine wpAny_take (i := 1) (oi := ⟨some 40, _, _, _, _, _⟩) (v := ?_) rfl (by kernel_rfl) (by kernel_rfl) (by kernel_rfl) (fun _ _ _ h => h) (Or.inl ⟨by kernel_rfl, ?_⟩) ?_
            rotate_left 1
            · (intro w; go_simp); try (with_reducible rfl)
            try simp only [Act.put, List.setIfInBounds_toArray, List.set_cons_zero, List.set_cons_succ]
            refine wpAny_take (i := 2) (oi := ⟨some 41, _, _, _, _, _⟩) (v := ?_) rfl (by kernel_rfl) (by kernel_rfl) (by kernel_rfl) (fun _ _ _ h => h) (Or.inl ⟨by kernel_rfl, ?_⟩) ?_
            rotate_left 1
            · (intro w; go_simp); try (with_reducible rfl)
            try simp only [Act.put, List.setIfInBounds_toArray, List.set_cons_zero, List.set_cons_succ]
            refine wpAny_take (i := 3) (oi := ⟨some 42, _, _, _, _, _⟩) (v := ?_) rfl (by kernel_rfl) (by kernel_rfl) (by kernel_rfl) (fun _ _ _ h => h) (Or.inl ⟨by kernel_rfl, ?_⟩) ?_
            rotate_left 1
            · (intro w; go_simp); try (with_reducible rfl)
            try simp only [Act.put, List.setIfInBounds_toArray, List.set_cons_zero, List.set_cons_succ]
            refine wpAny_take (i := 5) (oi := ⟨some 44, _, _, _, _, _⟩) (v := ?_) rfl (by kernel_rfl) (by kernel_rfl) (by kernel_rfl) (fun _ _ _ h => h) (Or.inl ⟨by kernel_rfl, ?_⟩) ?_
            rotate_left 1
            · (intro w; go_simp); try (with_reducible rfl)
            try simp only [Act.put, List.setIfInBounds_toArray, List.set_cons_zero, List.set_cons_succ]
            refine wpAny_ready (rs := [4, 6]) (by kernel_rfl) (by simp) ?_
            refine AllReady.cons (o := ⟨some 43, _, _, _, _, _⟩) rfl (fun K hK => ?_) ?_
            · go_simp
              refine hK _ _ ?_
              clear hK K
              refine wpAny_ready (rs := [6]) (by kernel_rfl) (by simp) ?_
              refine AllReady.cons (o := ⟨some 45, _, _, _, _, _⟩) rfl (fun K hK => ?_) AllReady.nil
              go_simp
              refine hK _ _ ?_
              clear hK K
              refine wpAny_ready (rs := [7]) (by kernel_rfl) (by simp) ?_
              refine AllReady.cons (o := ⟨some 46, _, _, _, _, _⟩) rfl (fun K hK => ?_) AllReady.nil
              go_simp
              refine hK _ _ ?_
              clear hK K
              refine wpAny_ready (rs := [8]) (by kernel_rfl) (by simp) ?_
              refine AllReady.cons (o := ⟨some 47, _, _, _, _, _⟩) rfl (fun K hK => ?_) AllReady.nil
              refine step_load65 rfl (.tmp 46) rfl bd od rfl zs HRV.out HZ.out.1 ?_
              refine hK _ _ ?_
              clear hK K
              try simp only [Act.put, List.setIfInBounds_toArray, List.set_cons_zero, List.set_cons_succ]
              refine wpAny_ready (rs := [9]) (by kernel_rfl) (by simp) ?_
              refine AllReady.cons (o := ⟨some 48, _, _, _, _, _⟩) rfl (fun K hK => ?_) AllReady.nil
              refine step_build65 rfl (.tmp 47) rfl zs rfl HZ.out.1 _ rfl ?_
              refine hK _ _ ?_
              clear hK K
              try simp only [Act.put, List.setIfInBounds_toArray, List.set_cons_zero, List.set_cons_succ]
              refine wpAny_ready (rs := [10]) (by kernel_rfl) (by simp) ?_
              refine AllReady.cons (o := ⟨some 49, _, _, _, _, _⟩) rfl (fun K hK => ?_) AllReady.nil
              refine step_append_lies _ rfl (.tmp 43) (.tmp 48) 66 (by rfl) 0 65 i0 (.agg zero65) 64 64 u66 HI.out.1 HI.out.2.1 HI.out.2.2.1 HI.out.2.2.2 rfl (by decide) (.slice (ao1 k) L (cp1 k)) L (flat (s1.hist k).tail) (by rfl) HOWN.out ⟨V.heap.size, 0, none⟩ 1 1 (bys zs) (by rfl) (by rw [bys_length, HZ.out.1]) HNEWS.out (bys_one zs) (by decide) (by unfold maxLen; omega) (by omega) (Nat.zero_le _) _ rfl ?_
              intro g5 cap5 w5 hown5 hgrow5 hat5 hlt5
              have h45 : w5.heap[g]? = (V.alloc (.cells (bys zs).toArray 65)).heap[g]? := hgrow5.block g HGV.out.1 (fun e => HGV.out.2 e.symm)
              have f5 : w5.cell? ⟨g, k * 65 + 64, none⟩ = some (.slice (ao1 k) L (cp1 k)) := (cell_of_heap (p := ⟨g, k * 65 + 64, none⟩) h45).trans f3b
              have fr5 : w5.frozen? ⟨g, k * 65 + 64, none⟩ = false := (World.frozen?_of_block (w := V.alloc (.cells (bys zs).toArray 65)) (a := ⟨g, k * 65 + 64, none⟩) h45).trans HFB.out
              have HG5 := Lib.hid (And.intro hown5 (And.intro hgrow5 hat5))
              clear hown5 hgrow5 hat5 hlt5 h45
              refine hK _ _ ?_
              clear hK K
              try simp only [Act.put, List.setIfInBounds_toArray, List.set_cons_zero, List.set_cons_succ]
              refine wpAny_ready (rs := [11]) (by kernel_rfl) (by simp) ?_
              refine AllReady.cons (o := ⟨some 50, _, _, _, _, _⟩) rfl (fun K hK => ?_) AllReady.nil
              go_simp
              refine hK _ _ ?_
              clear hK K
              refine wpAny_ready (rs := [12]) (by kernel_rfl) (by simp) ?_
              refine AllReady.cons (o := ⟨some 51, _, _, _, _, _⟩) rfl (fun K hK => ?_) AllReady.nil
              go_simp
              refine hK _ _ ?_
              clear hK K
              refine wpAny_ready (rs := [13]) (by kernel_rfl) (by simp) ?_
              refine AllReady.cons (o := ⟨none, _, _, _, _, _⟩) rfl (fun K hK => ?_) AllReady.nil
              go_simp
              refine hK _ _ ?_
              clear hK K
              refine wpAny_done (by kernel_rfl) ?_ _
              go_simp
              go_wp2_with fail
              go_roundw
              case rel =>
                have e6 : (step1 s1).n = n := HN1.out
                have eL : ((step1 s1).hist k).tail.length = L := HLL.out
                obtain ⟨D6, G6⟩ := HD3.out.push (k := k) (g5 := g5) (cap5 := cap5) (H := (V.alloc (.cells (bys zs).toArray 65)).heap.size) (zs := zs) (by rw [e6]; exact hkn) HBV.out.2 HZ.out (by rw [eL]; exact HG5.out.1) (by rw [eL]; exact HG5.out.2.1) (by rw [eL]; exact HG5.out.2.2) HBV.out.2.size
                rw [eL] at D6 G6
                rw [e6] at G6
                have G7 := HG1.out.trans ((Grew.of_below HB2.out).trans ((grew_in (F := Foot d g ao1 n) HG3.out (Or.inl rfl)).trans G6))
                refine ⟨i + 1, by go_num, by omega, Lib.hid ⟨_, _, _, D6, HN1.out, HPE.out, fun k' hk' => ?_, G7, HL0.out.grew G7 HFG.out⟩⟩
                have h1 := HFEW.out k' hk'
                have h4 := HWL.out
                show (if k' = k then s1.hist k' ++ [zs] else s1.hist k').length + _ ≤ _
                by_cases ek : k' = k
                · rw [if_pos ek, List.length_append]
                  simp only [List.length_cons, List.length_nil]
                  omega
                · rw [if_neg ek]; omega
              case measure => simp [intOf]; omega
            refine AllReady.cons (o := ⟨some 45, _, _, _, _, _⟩) rfl (fun K hK => ?_) AllReady.nil
            go_simp
            refine hK _ _ ?_
            clear hK K
            refine wpAny_ready (rs := [4, 7]) (by kernel_rfl) (by simp) ?_
            refine AllReady.cons (o := ⟨some 43, _, _, _, _, _⟩) rfl (fun K hK => ?_) ?_
            · go_simp
              refine hK _ _ ?_
              clear hK K
              refine wpAny_ready (rs := [7]) (by kernel_rfl) (by simp) ?_
              refine AllReady.cons (o := ⟨some 46, _, _, _, _, _⟩) rfl (fun K hK => ?_) AllReady.nil
              go_simp
              refine hK _ _ ?_
              clear hK K
              refine wpAny_ready (rs := [8]) (by kernel_rfl) (by simp) ?_
              refine AllReady.cons (o := ⟨some 47, _, _, _, _, _⟩) rfl (fun K hK => ?_) AllReady.nil
              refine step_load65 rfl (.tmp 46) rfl bd od rfl zs HRV.out HZ.out.1 ?_
              refine hK _ _ ?_
              clear hK K
              try simp only [Act.put, List.setIfInBounds_toArray, List.set_cons_zero, List.set_cons_succ]
              refine wpAny_ready (rs := [9]) (by kernel_rfl) (by simp) ?_
              refine AllReady.cons (o := ⟨some 48, _, _, _, _, _⟩) rfl (fun K hK => ?_) AllReady.nil
              refine step_build65 rfl (.tmp 47) rfl zs rfl HZ.out.1 _ rfl ?_
              refine hK _ _ ?_
              clear hK K
              try simp only [Act.put, List.setIfInBounds_toArray, List.set_cons_zero, List.set_cons_succ]
              refine wpAny_ready (rs := [10]) (by kernel_rfl) (by simp) ?_
              refine AllReady.cons (o := ⟨some 49, _, _, _, _, _⟩) rfl (fun K hK => ?_) AllReady.nil
              refine step_append_lies _ rfl (.tmp 43) (.tmp 48) 66 (by rfl) 0 65 i0 (.agg zero65) 64 64 u66 HI.out.1 HI.out.2.1 HI.out.2.2.1 HI.out.2.2.2 rfl (by decide) (.slice (ao1 k) L (cp1 k)) L (flat (s1.hist k).tail) (by rfl) HOWN.out ⟨V.heap.size, 0, none⟩ 1 1 (bys zs) (by rfl) (by rw [bys_length, HZ.out.1]) HNEWS.out (bys_one zs) (by decide) (by unfold maxLen; omega) (by omega) (Nat.zero_le _) _ rfl ?_
              intro g5 cap5 w5 hown5 hgrow5 hat5 hlt5
              have h45 : w5.heap[g]? = (V.alloc (.cells (bys zs).toArray 65)).heap[g]? := hgrow5.block g HGV.out.1 (fun e => HGV.out.2 e.symm)
              have f5 : w5.cell? ⟨g, k * 65 + 64, none⟩ = some (.slice (ao1 k) L (cp1 k)) := (cell_of_heap (p := ⟨g, k * 65 + 64, none⟩) h45).trans f3b
              have fr5 : w5.frozen? ⟨g, k * 65 + 64, none⟩ = false := (World.frozen?_of_block (w := V.alloc (.cells (bys zs).toArray 65)) (a := ⟨g, k * 65 + 64, none⟩) h45).trans HFB.out
              have HG5 := Lib.hid (And.intro hown5 (And.intro hgrow5 hat5))
              clear hown5 hgrow5 hat5 hlt5 h45
              refine hK _ _ ?_
              clear hK K
              try simp only [Act.put, List.setIfInBounds_toArray, List.set_cons_zero, List.set_cons_succ]
              refine wpAny_ready (rs := [11]) (by kernel_rfl) (by simp) ?_
              refine AllReady.cons (o := ⟨some 50, _, _, _, _, _⟩) rfl (fun K hK => ?_) AllReady.nil
              go_simp
              refine hK _ _ ?_
              clear hK K
              refine wpAny_ready (rs := [12]) (by kernel_rfl) (by simp) ?_
              refine AllReady.cons (o := ⟨some 51, _, _, _, _, _⟩) rfl (fun K hK => ?_) AllReady.nil
              go_simp
              refine hK _ _ ?_
              clear hK K
              refine wpAny_ready (rs := [13]) (by kernel_rfl) (by simp) ?_
              refine AllReady.cons (o := ⟨none, _, _, _, _, _⟩) rfl (fun K hK => ?_) AllReady.nil
              go_simp
              refine hK _ _ ?_
              clear hK K
              refine wpAny_done (by kernel_rfl) ?_ _
              go_simp
              go_wp2_with fail
              go_roundw
              case rel =>
                have e6 : (step1 s1).n = n := HN1.out
                have eL : ((step1 s1).hist k).tail.length = L := HLL.out
                obtain ⟨D6, G6⟩ := HD3.out.push (k := k) (g5 := g5) (cap5 := cap5) (H := (V.alloc (.cells (bys zs).toArray 65)).heap.size) (zs := zs) (by rw [e6]; exact hkn) HBV.out.2 HZ.out (by rw [eL]; exact HG5.out.1) (by rw [eL]; exact HG5.out.2.1) (by rw [eL]; exact HG5.out.2.2) HBV.out.2.size
                rw [eL] at D6 G6
                rw [e6] at G6
                have G7 := HG1.out.trans ((Grew.of_below HB2.out).trans ((grew_in (F := Foot d g ao1 n) HG3.out (Or.inl rfl)).trans G6))
                refine ⟨i + 1, by go_num, by omega, Lib.hid ⟨_, _, _, D6, HN1.out, HPE.out, fun k' hk' => ?_, G7, HL0.out.grew G7 HFG.out⟩⟩
                have h1 := HFEW.out k' hk'
                have h4 := HWL.out
                show (if k' = k then s1.hist k' ++ [zs] else s1.hist k').length + _ ≤ _
                by_cases ek : k' = k
                · rw [if_pos ek, List.length_append]
                  simp only [List.length_cons, List.length_nil]
                  omega
                · rw [if_neg ek]; omega
              case measure => simp [intOf]; omega
            refine AllReady.cons (o := ⟨some 46, _, _, _, _, _⟩) rfl (fun K hK => ?_) AllReady.nil
            go_simp
            refine hK _ _ ?_
            clear hK K
            refine wpAny_ready (rs := [4, 8]) (by kernel_rfl) (by simp) ?_
            refine AllReady.cons (o := ⟨some 43, _, _, _, _, _⟩) rfl (fun K hK => ?_) ?_
            · go_simp
              refine hK _ _ ?_
              clear hK K
              refine wpAny_ready (rs := [8]) (by kernel_rfl) (by simp) ?_
              refine AllReady.cons (o := ⟨some 47, _, _, _, _, _⟩) rfl (fun K hK => ?_) AllReady.nil
              refine step_load65 rfl (.tmp 46) rfl bd od rfl zs HRV.out HZ.out.1 ?_
              refine hK _ _ ?_
              clear hK K
              try simp only [Act.put, List.setIfInBounds_toArray, List.set_cons_zero, List.set_cons_succ]
              refine wpAny_ready (rs := [9]) (by kernel_rfl) (by simp) ?_
              refine AllReady.cons (o := ⟨some 48, _, _, _, _, _⟩) rfl (fun K hK => ?_) AllReady.nil
              refine step_build65 rfl (.tmp 47) rfl zs rfl HZ.out.1 _ rfl ?_
              refine hK _ _ ?_
              clear hK K
              try simp only [Act.put, List.setIfInBounds_toArray, List.set_cons_zero, List.set_cons_succ]
              refine wpAny_ready (rs := [10]) (by kernel_rfl) (by simp) ?_
              refine AllReady.cons (o := ⟨some 49, _, _, _, _, _⟩) rfl (fun K hK => ?_) AllReady.nil
              refine step_append_lies _ rfl (.tmp 43) (.tmp 48) 66 (by rfl) 0 65 i0 (.agg zero65) 64 64 u66 HI.out.1 HI.out.2.1 HI.out.2.2.1 HI.out.2.2.2 rfl (by decide) (.slice (ao1 k) L (cp1 k)) L (flat (s1.hist k).tail) (by rfl) HOWN.out ⟨V.heap.size, 0, none⟩ 1 1 (bys zs) (by rfl) (by rw [bys_length, HZ.out.1]) HNEWS.out (bys_one zs) (by decide) (by unfold maxLen; omega) (by omega) (Nat.zero_le _) _ rfl ?_
              intro g5 cap5 w5 hown5 hgrow5 hat5 hlt5
              have h45 : w5.heap[g]? = (V.alloc (.cells (bys zs).toArray 65)).heap[g]? := hgrow5.block g HGV.out.1 (fun e => HGV.out.2 e.symm)
              have f5 : w5.cell? ⟨g, k * 65 + 64, none⟩ = some (.slice (ao1 k) L (cp1 k)) := (cell_of_heap (p := ⟨g, k * 65 + 64, none⟩) h45).trans f3b
              have fr5 : w5.frozen? ⟨g, k * 65 + 64, none⟩ = false := (World.frozen?_of_block (w := V.alloc (.cells (bys zs).toArray 65)) (a := ⟨g, k * 65 + 64, none⟩) h45).trans HFB.out
              have HG5 := Lib.hid (And.intro hown5 (And.intro hgrow5 hat5))
              clear hown5 hgrow5 hat5 hlt5 h45
              refine hK _ _ ?_
              clear hK K
              try simp only [Act.put, List.setIfInBounds_toArray, List.set_cons_zero, List.set_cons_succ]
              refine wpAny_ready (rs := [11]) (by kernel_rfl) (by simp) ?_
              refine AllReady.cons (o := ⟨some 50, _, _, _, _, _⟩) rfl (fun K hK => ?_) AllReady.nil
              go_simp
              refine hK _ _ ?_
              clear hK K
              refine wpAny_ready (rs := [12]) (by kernel_rfl) (by simp) ?_
              refine AllReady.cons (o := ⟨some 51, _, _, _, _, _⟩) rfl (fun K hK => ?_) AllReady.nil
              go_simp
              refine hK _ _ ?_
              clear hK K
              refine wpAny_ready (rs := [13]) (by kernel_rfl) (by simp) ?_
              refine AllReady.cons (o := ⟨none, _, _, _, _, _⟩) rfl (fun K hK => ?_) AllReady.nil
              go_simp
              refine hK _ _ ?_
              clear hK K
              refine wpAny_done (by kernel_rfl) ?_ _
              go_simp
              go_wp2_with fail
              go_roundw
              case rel =>
                have e6 : (step1 s1).n = n := HN1.out
                have eL : ((step1 s1).hist k).tail.length = L := HLL.out
                obtain ⟨D6, G6⟩ := HD3.out.push (k := k) (g5 := g5) (cap5 := cap5) (H := (V.alloc (.cells (bys zs).toArray 65)).heap.size) (zs := zs) (by rw [e6]; exact hkn) HBV.out.2 HZ.out (by rw [eL]; exact HG5.out.1) (by rw [eL]; exact HG5.out.2.1) (by rw [eL]; exact HG5.out.2.2) HBV.out.2.size
                rw [eL] at D6 G6
                rw [e6] at G6
                have G7 := HG1.out.trans ((Grew.of_below HB2.out).trans ((grew_in (F := Foot d g ao1 n) HG3.out (Or.inl rfl)).trans G6))
                refine ⟨i + 1, by go_num, by omega, Lib.hid ⟨_, _, _, D6, HN1.out, HPE.out, fun k' hk' => ?_, G7, HL0.out.grew G7 HFG.out⟩⟩
                have h1 := HFEW.out k' hk'
                have h4 := HWL.out
                show (if k' = k then s1.hist k' ++ [zs] else s1.hist k').length + _ ≤ _
                by_cases ek : k' = k
                · rw [if_pos ek, List.length_append]
                  simp only [List.length_cons, List.length_nil]
                  omega
                · rw [if_neg ek]; omega
              case measure => simp [intOf]; omega
            refine AllReady.cons (o := ⟨some 47, _, _, _, _, _⟩) rfl (fun K hK => ?_) AllReady.nil
            refine step_load65 rfl (.tmp 46) rfl bd od rfl zs HRV.out HZ.out.1 ?_
            refine hK _ _ ?_
            clear hK K
            try simp only [Act.put, List.setIfInBounds_toArray, List.set_cons_zero, List.set_cons_succ]
            refine wpAny_ready (rs := [4, 9]) (by kernel_rfl) (by simp) ?_
            refine AllReady.cons (o := ⟨some 43, _, _, _, _, _⟩) rfl (fun K hK => ?_) ?_
            · go_simp
              refine hK _ _ ?_
              clear hK K
              refine wpAny_ready (rs := [9]) (by kernel_rfl) (by simp) ?_
              refine AllReady.cons (o := ⟨some 48, _, _, _, _, _⟩) rfl (fun K hK => ?_) AllReady.nil
              refine step_build65 rfl (.tmp 47) rfl zs rfl HZ.out.1 _ rfl ?_
              refine hK _ _ ?_
              clear hK K
              try simp only [Act.put, List.setIfInBounds_toArray, List.set_cons_zero, List.set_cons_succ]
              refine wpAny_ready (rs := [10]) (by kernel_rfl) (by simp) ?_
              refine AllReady.cons (o := ⟨some 49, _, _, _, _, _⟩) rfl (fun K hK => ?_) AllReady.nil
              refine step_append_lies _ rfl (.tmp 43) (.tmp 48) 66 (by rfl) 0 65 i0 (.agg zero65) 64 64 u66 HI.out.1 HI.out.2.1 HI.out.2.2.1 HI.out.2.2.2 rfl (by decide) (.slice (ao1 k) L (cp1 k)) L (flat (s1.hist k).tail) (by rfl) HOWN.out ⟨V.heap.size, 0, none⟩ 1 1 (bys zs) (by rfl) (by rw [bys_length, HZ.out.1]) HNEWS.out (bys_one zs) (by decide) (by unfold maxLen; omega) (by omega) (Nat.zero_le _) _ rfl ?_
              intro g5 cap5 w5 hown5 hgrow5 hat5 hlt5
              have h45 : w5.heap[g]? = (V.alloc (.cells (bys zs).toArray 65)).heap[g]? := hgrow5.block g HGV.out.1 (fun e => HGV.out.2 e.symm)
              have f5 : w5.cell? ⟨g, k * 65 + 64, none⟩ = some (.slice (ao1 k) L (cp1 k)) := (cell_of_heap (p := ⟨g, k * 65 + 64, none⟩) h45).trans f3b
              have fr5 : w5.frozen? ⟨g, k * 65 + 64, none⟩ = false := (World.frozen?_of_block (w := V.alloc (.cells (bys zs).toArray 65)) (a := ⟨g, k * 65 + 64, none⟩) h45).trans HFB.out
              have HG5 := Lib.hid (And.intro hown5 (And.intro hgrow5 hat5))
              clear hown5 hgrow5 hat5 hlt5 h45
              refine hK _ _ ?_
              clear hK K
              try simp only [Act.put, List.setIfInBounds_toArray, List.set_cons_zero, List.set_cons_succ]
              refine wpAny_ready (rs := [11]) (by kernel_rfl) (by simp) ?_
              refine AllReady.cons (o := ⟨some 50, _, _, _, _, _⟩) rfl (fun K hK => ?_) AllReady.nil
              go_simp
              refine hK _ _ ?_
              clear hK K
              refine wpAny_ready (rs := [12]) (by kernel_rfl) (by simp) ?_
              refine AllReady.cons (o := ⟨some 51, _, _, _, _, _⟩) rfl (fun K hK => ?_) AllReady.nil
              go_simp
              refine hK _ _ ?_
              clear hK K
              refine wpAny_ready (rs := [13]) (by kernel_rfl) (by simp) ?_
              refine AllReady.cons (o := ⟨none, _, _, _, _, _⟩) rfl (fun K hK => ?_) AllReady.nil
              go_simp
              refine hK _ _ ?_
              clear hK K
              refine wpAny_done (by kernel_rfl) ?_ _
              go_simp
              go_wp2_with fail
              go_roundw
              case rel =>
                have e6 : (step1 s1).n = n := HN1.out
                have eL : ((step1 s1).hist k).tail.length = L := HLL.out
                obtain ⟨D6, G6⟩ := HD3.out.push (k := k) (g5 := g5) (cap5 := cap5) (H := (V.alloc (.cells (bys zs).toArray 65)).heap.size) (zs := zs) (by rw [e6]; exact hkn) HBV.out.2 HZ.out (by rw [eL]; exact HG5.out.1) (by rw [eL]; exact HG5.out.2.1) (by rw [eL]; exact HG5.out.2.2) HBV.out.2.size
                rw [eL] at D6 G6
                rw [e6] at G6
                have G7 := HG1.out.trans ((Grew.of_below HB2.out).trans ((grew_in (F := Foot d g ao1 n) HG3.out (Or.inl rfl)).trans G6))
                refine ⟨i + 1, by go_num, by omega, Lib.hid ⟨_, _, _, D6, HN1.out, HPE.out, fun k' hk' => ?_, G7, HL0.out.grew G7 HFG.out⟩⟩
                have h1 := HFEW.out k' hk'
                have h4 := HWL.out
                show (if k' = k then s1.hist k' ++ [zs] else s1.hist k').length + _ ≤ _
                by_cases ek : k' = k
                · rw [if_pos ek, List.length_append]
                  simp only [List.length_cons, List.length_nil]
                  omega
                · rw [if_neg ek]; omega
              case measure => simp [intOf]; omega
            refine AllReady.cons (o := ⟨some 48, _, _, _, _, _⟩) rfl (fun K hK => ?_) AllReady.nil
            refine step_build65 rfl (.tmp 47) rfl zs rfl HZ.out.1 _ rfl ?_
            refine hK _ _ ?_
            clear hK K
            try simp only [Act.put, List.setIfInBounds_toArray, List.set_cons_zero, List.set_cons_succ]
            refine wpAny_ready (rs := [4]) (by kernel_rfl) (by simp) ?_
            refine AllReady.cons (o := ⟨some 43, _, _, _, _, _⟩) rfl (fun K hK => ?_) AllReady.nil
            go_simp
            refine hK _ _ ?_
            clear hK K
            refine wpAny_ready (rs := [10]) (by kernel_rfl) (by simp) ?_
            refine AllReady.cons (o := ⟨some 49, _, _, _, _, _⟩) rfl (fun K hK => ?_) AllReady.nil
            refine step_append_lies _ rfl (.tmp 43) (.tmp 48) 66 (by rfl) 0 65 i0 (.agg zero65) 64 64 u66 HI.out.1 HI.out.2.1 HI.out.2.2.1 HI.out.2.2.2 rfl (by decide) (.slice (ao1 k) L (cp1 k)) L (flat (s1.hist k).tail) (by rfl) HOWN.out ⟨V.heap.size, 0, none⟩ 1 1 (bys zs) (by rfl) (by rw [bys_length, HZ.out.1]) HNEWS.out (bys_one zs) (by decide) (by unfold maxLen; omega) (by omega) (Nat.zero_le _) _ rfl ?_
            intro g5 cap5 w5 hown5 hgrow5 hat5 hlt5
            have h45 : w5.heap[g]? = (V.alloc (.cells (bys zs).toArray 65)).heap[g]? := hgrow5.block g HGV.out.1 (fun e => HGV.out.2 e.symm)
            have f5 : w5.cell? ⟨g, k * 65 + 64, none⟩ = some (.slice (ao1 k) L (cp1 k)) := (cell_of_heap (p := ⟨g, k * 65 + 64, none⟩) h45).trans f3b
            have fr5 : w5.frozen? ⟨g, k * 65 + 64, none⟩ = false := (World.frozen?_of_block (w := V.alloc (.cells (bys zs).toArray 65)) (a := ⟨g, k * 65 + 64, none⟩) h45).trans HFB.out
            have HG5 := Lib.hid (And.intro hown5 (And.intro hgrow5 hat5))
            clear hown5 hgrow5 hat5 hlt5 h45
            refine hK _ _ ?_
            clear hK K
            try simp only [Act.put, List.setIfInBounds_toArray, List.set_cons_zero, List.set_cons_succ]
            refine wpAny_ready (rs := [11]) (by kernel_rfl) (by simp) ?_
            refine AllReady.cons (o := ⟨some 50, _, _, _, _, _⟩) rfl (fun K hK => ?_) AllReady.nil
            go_simp
            refine hK _ _ ?_
            clear hK K
            refine wpAny_ready (rs := [12]) (by kernel_rfl) (by simp) ?_
            refine AllReady.cons (o := ⟨some 51, _, _, _, _, _⟩) rfl (fun K hK => ?_) AllReady.nil
            go_simp
            refine hK _ _ ?_
            clear hK K
            refine wpAny_ready (rs := [13]) (by kernel_rfl) (by simp) ?_
            refine AllReady.cons (o := ⟨none, _, _, _, _, _⟩) rfl (fun K hK => ?_) AllReady.nil
            go_simp
            refine hK _ _ ?_
            clear hK K
            refine wpAny_done (by kernel_rfl) ?_ _
            go_simp
            go_wp2_with fail
            go_roundw
            case rel =>
              have e6 : (step1 s1).n = n := HN1.out
              have eL : ((step1 s1).hist k).tail.length = L := HLL.out
              obtain ⟨D6, G6⟩ := HD3.out.push (k := k) (g5 := g5) (cap5 := cap5) (H := (V.alloc (.cells (bys zs).toArray 65)).heap.size) (zs := zs) (by rw [e6]; exact hkn) HBV.out.2 HZ.out (by rw [eL]; exact HG5.out.1) (by rw [eL]; exact HG5.out.2.1) (by rw [eL]; exact HG5.out.2.2) HBV.out.2.size
              rw [eL] at D6 G6
              rw [e6] at G6
              have G7 := HG1.out.trans ((Grew.of_below HB2.out).trans ((grew_in (F := Foot d g ao1 n) HG3.out (Or.inl rfl)).trans G6))
              refine ⟨i + 1, by go_num, by omega, Lib.hid ⟨_, _, _, D6, HN1.out, HPE.out, fun k' hk' => ?_, G7, HL0.out.grew G7 HFG.out⟩⟩
              have h1 := HFEW.out k' hk'
              have h4 := HWL.out
              show (if k' = k then s1.hist k' ++ [zs] else s1.hist k').length + _ ≤ _
              by_cases ek : k' = k
              · rw [if_pos ek, List.length_append]
                simp only [List.length_cons, List.length_nil]
                omega
              · rw [if_neg ek]; omega
            case measure => simp [intOf]; omega
        · have him : i = m := by omega
          subst him
          clear hD hn1 hput hfew hG1 hLr HP
          go_wp2_with fail
          go_ret
          have HPE : putAll s ws = (s1, 0) := by
            rw [HPUT.out, List.drop_of_length_le (by rw [HWL.out]; exact Nat.le_refl _)]
            rfl
          exact ⟨Foot d g ao1 n, by rw [HE.out, HPE]; rfl, by rw [HE.out, HPE]; exact ⟨d, g, ao1, cp1, rfl, HD.out, by rw [HN1.out]⟩, HG1.out⟩
    · obtain ⟨E, hE⟩ : ∃ E, faultErr s.n ws = E := ⟨_, rfl⟩
      have HE : Hid (putRes s ws = (s, E)) := Lib.hid (by
        rw [← hE]
        unfold putRes faultErr
        unfold faultErr at hbad
        rw [if_neg hoff]
        by_cases b1 : badLen ws = true
        · rw [if_pos b1, if_pos b1]
        · rw [if_neg b1, if_neg b1]
          by_cases b2 : badAt s.n ws = true
          · rw [if_pos b2, if_pos b2]
          · rw [if_neg b1, if_neg b2] at hbad
            exact absurd rfl hbad)
      rw [hE] at c2 hbad
      have hne : (E != 0) = true := by simp; exact hbad
      have H := Lib.hid h
      clear hoff h hL hFG hfew hbad hE
      go_enter Try.func11, Try.ntmps11
      go_wp2_with (first
        | (go_at_call 22; refine c1.mono ?_; rintro e w' ⟨rfl, rfl⟩)
        | (go_at_call 23; refine c2.mono ?_; rintro e w2 ⟨rfl, hb2⟩; have HB2 := Lib.hid hb2; clear hb2))
      go_ret
      exact ⟨_, by rw [HE.out]; rfl, by rw [HE.out]; exact ⟨d, g, ao, cp, rfl, H.out.turn (fun k hk => HB2.out.block k (H.out.lt hk)), rfl⟩, Grew.of_below HB2.out⟩

end Go.Proofs.Ytinlbmlgfneolaa
