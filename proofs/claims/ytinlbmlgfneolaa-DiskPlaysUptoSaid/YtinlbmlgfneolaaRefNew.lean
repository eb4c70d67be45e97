/-
  Proved here: what New of the document's own disk makes.
  The conditions stand at each theorem.
-/
import Derived.Test.YtinlbmlgfneolaaRefGet
import Derived.Test.YtinlbmlgfneolaaVals
namespace Go.Proofs.Ytinlbmlgfneolaa
open Go.RowKit
set_option linter.unusedVariables false

theorem infoStr : (Try.prog.info? 9).map (fun i => (i.zero, i.size, i.bytes)) = some (some (.string ByteArray.empty), 1, 16) := by kernel_rfl
theorem infoRow : (Try.prog.info? 43).map (fun i => (i.zero, i.size, i.bytes)) = some (some (.slice none 0 0), 1, 24) := by kernel_rfl

/-- The document's disk in the making: jl texts, jo rows. -/
structure RN (base : Nat) (w0 : World) (d jl jo : Nat) (vl vo : Value) (wr : World) : Prop where
  c0 : wr.cell? ⟨d, 0, none⟩ = some vl
  c1 : wr.cell? ⟨d, 1, none⟩ = some vo
  c2 : wr.cell? ⟨d, 2, none⟩ = some (.int .i64 (-1))
  c3 : wr.cell? ⟨d, 3, none⟩ = some (.bool false)
  fr : ∀ k, wr.frozen? ⟨d, k, none⟩ = false
  rl : wr.ownsRow base 9 1 vl jl (List.replicate jl (.string (str zeros64)))
  ro : wr.ownsRow base 43 1 vo jo (List.replicate jo (.slice none 0 0))
  nl : vl.ownBlock ≠ some d
  no : vo.ownBlock ≠ some d
  bd : base ≤ d
  bel : Below base w0 wr

theorem RN.dlt {base : Nat} {w0 : World} {d jl jo : Nat} {vl vo : Value} {wr : World} (h : RN base w0 d jl jo vl vo wr) : d < wr.heap.size := World.block_lt_of_cell? _ _ h.c0

theorem RN.pushL {base : Nat} {w0 : World} {d jl jo : Nat} {vl vo : Value} {wr V2 w5 : World} {g5 cap5 : Nat} (h : RN base w0 d jl jo vl vo wr) (hb : Below wr.heap.size wr V2)
    (ho : w5.ownsRow base 9 1 (.slice (some ⟨g5, 0, none⟩) (jl + 1) cap5) (jl + 1) (List.replicate (jl + 1) (.string (str zeros64)))) (hg : V2.grownBy w5 vl.ownBlock) (hat : vl.ownBlock = some g5 ∨ g5 = V2.heap.size) :
    RN base w0 d (jl + 1) jo (.slice (some ⟨g5, 0, none⟩) (jl + 1) cap5) vo (w5.setCell ⟨d, 0, none⟩ (.slice (some ⟨g5, 0, none⟩) (jl + 1) cap5)) := by
  have hd := h.dlt
  have hd5 : w5.heap[d]? = wr.heap[d]? := by rw [hg.block d (Nat.lt_of_lt_of_le hd hb.size) (fun e => h.nl e.symm), hb.block d hd]
  have hc : ∀ j, w5.cell? ⟨d, j, none⟩ = wr.cell? ⟨d, j, none⟩ := fun j => cell_of_heap (p := ⟨d, j, none⟩) hd5
  have hgd : g5 ≠ d := by
    rcases hat with e | e
    · intro e'; exact h.nl (by rw [e, e'])
    · have := hb.size; omega
  have hbase : base ≤ wr.heap.size := Nat.le_of_lt (Nat.lt_of_le_of_lt h.bd hd)
  refine ⟨World.cell?_setCell_same _ _ _ (by rw [hc]; exact h.c0), ?_, ?_, ?_, fun k => ?_, owns_turn ho (fun k hk => ?_), owns_turn h.ro (fun k hk => ?_), by simp [Value.ownBlock]; exact hgd, h.no, h.bd, ?_⟩
  · rw [World.cell?_setCell_other (h := ne_off (by decide)), hc]; exact h.c1
  · rw [World.cell?_setCell_other (h := ne_off (by decide)), hc]; exact h.c2
  · rw [World.cell?_setCell_other (h := ne_off (by decide)), hc]; exact h.c3
  · rw [World.frozen?_setCell, World.frozen?_of_block (w := wr) (a := ⟨d, k, none⟩) hd5]; exact h.fr k
  · simp [Value.ownBlock] at hk
    rw [Below.heap_setCell _ _ _ _ (fun e => hgd (hk.trans e))]
  · have hkl := (h.ro.lt k hk).2
    rw [Below.heap_setCell _ _ _ _ (fun e => h.no (hk.trans (congrArg some e))), hg.block k (Nat.lt_of_lt_of_le hkl hb.size) (fun e => ?_), hb.block k hkl]
    rcases owns_ne h.ro h.rl (by decide) with h0 | h0
    · rw [h0] at hk; cases hk
    · exact h0 (hk.trans e)
  · exact ((h.bel.trans (hb.mono hbase)).grown hg (Nat.le_trans hbase hb.size) (fun k hk => (h.rl.lt k hk).1)).setCell (p := ⟨d, 0, none⟩) h.bd _

theorem RN.pushO {base : Nat} {w0 : World} {d jl jo : Nat} {vl vo : Value} {wr V2 w5 : World} {g5 cap5 : Nat} (h : RN base w0 d jl jo vl vo wr) (hb : Below wr.heap.size wr V2)
    (ho : w5.ownsRow base 43 1 (.slice (some ⟨g5, 0, none⟩) (jo + 1) cap5) (jo + 1) (List.replicate (jo + 1) (.slice none 0 0))) (hg : V2.grownBy w5 vo.ownBlock) (hat : vo.ownBlock = some g5 ∨ g5 = V2.heap.size) :
    RN base w0 d jl (jo + 1) vl (.slice (some ⟨g5, 0, none⟩) (jo + 1) cap5) (w5.setCell ⟨d, 1, none⟩ (.slice (some ⟨g5, 0, none⟩) (jo + 1) cap5)) := by
  have hd := h.dlt
  have hd5 : w5.heap[d]? = wr.heap[d]? := by rw [hg.block d (Nat.lt_of_lt_of_le hd hb.size) (fun e => h.no e.symm), hb.block d hd]
  have hc : ∀ j, w5.cell? ⟨d, j, none⟩ = wr.cell? ⟨d, j, none⟩ := fun j => cell_of_heap (p := ⟨d, j, none⟩) hd5
  have hgd : g5 ≠ d := by
    rcases hat with e | e
    · intro e'; exact h.no (by rw [e, e'])
    · have := hb.size; omega
  have hbase : base ≤ wr.heap.size := Nat.le_of_lt (Nat.lt_of_le_of_lt h.bd hd)
  refine ⟨?_, World.cell?_setCell_same _ _ _ (by rw [hc]; exact h.c1), ?_, ?_, fun k => ?_, owns_turn h.rl (fun k hk => ?_), owns_turn ho (fun k hk => ?_), h.nl, by simp [Value.ownBlock]; exact hgd, h.bd, ?_⟩
  · rw [World.cell?_setCell_other (h := ne_off (by decide)), hc]; exact h.c0
  · rw [World.cell?_setCell_other (h := ne_off (by decide)), hc]; exact h.c2
  · rw [World.cell?_setCell_other (h := ne_off (by decide)), hc]; exact h.c3
  · rw [World.frozen?_setCell, World.frozen?_of_block (w := wr) (a := ⟨d, k, none⟩) hd5]; exact h.fr k
  · have hkl := (h.rl.lt k hk).2
    rw [Below.heap_setCell _ _ _ _ (fun e => h.nl (hk.trans (congrArg some e))), hg.block k (Nat.lt_of_lt_of_le hkl hb.size) (fun e => ?_), hb.block k hkl]
    rcases owns_ne h.rl h.ro (by decide) with h0 | h0
    · rw [h0] at hk; cases hk
    · exact h0 (hk.trans e)
  · simp [Value.ownBlock] at hk
    rw [Below.heap_setCell _ _ _ _ (fun e => hgd (hk.trans e))]
  · exact ((h.bel.trans (hb.mono hbase)).grown hg (Nat.le_trans hbase hb.size) (fun k hk => (h.ro.lt k hk).1)).setCell (p := ⟨d, 1, none⟩) h.bd _

theorem RN.begun (w : World) : RN w.heap.size w w.heap.size 0 0 (.slice none 0 0) (.slice none 0 0) (w.alloc (.cells #[.slice none 0 0, .slice none 0 0, .int .i64 (-1), .bool false] 46)) := by
  refine ⟨?_, ?_, ?_, ?_, fun k => ?_, ⟨rfl, Or.inl ⟨rfl, rfl⟩⟩, ⟨rfl, Or.inl ⟨rfl, rfl⟩⟩, by simp [Value.ownBlock], by simp [Value.ownBlock], Nat.le_refl _, (Below.refl _ _).alloc (Nat.le_refl _) _⟩
  · rw [World.cell?_alloc_new]; rfl
  · rw [World.cell?_alloc_new]; rfl
  · rw [World.cell?_alloc_new]; rfl
  · rw [World.cell?_alloc_new]; rfl
  · rw [World.frozen?_alloc_mark]; simp

theorem RN.done {base : Nat} {w0 : World} {d n : Nat} {vl vo : Value} {wr : World} (h : RN base w0 d n n vl vo wr) (h1 : 1 ≤ n) (h2 : n ≤ 480) : ∃ F, RI wr ⟨d, 0, none⟩ F (freshD n) ∧ ∀ k, F k → base ≤ k := by
  obtain ⟨gl, cl, rfl, hbl, _⟩ := h.rl.form (by omega)
  obtain ⟨go, co, rfl, hbo, _⟩ := h.ro.form (by omega)
  have hlo : gl ≠ go := by
    rcases owns_ne h.rl h.ro (by decide) with h0 | h0
    · simp [Value.ownBlock] at h0
    · simpa [Value.ownBlock] using h0
  have hdl : d ≠ gl := by intro e; exact h.nl (by simp [Value.ownBlock, e])
  have hdo : d ≠ go := by intro e; exact h.no (by simp [Value.ownBlock, e])
  refine ⟨RFoot d gl go (fun _ => none) n, ⟨d, gl, go, cl, co, fun _ => none, fun _ => 0, rfl, ⟨hdl, hdo, hlo, h1, h2, fresh_ok n, h.c0, h.c1, ⟨-1, h.c2, by decide, Or.inl ⟨by decide, rfl⟩⟩, h.c3, h.fr, fun j => h.rl.frozenAt j, fun j => h.ro.frozenAt j, fun k hk => ?_, (fun k _ e => by cases e), fun i j _ _ _ => Or.inl rfl⟩, rfl⟩, fun k hk => ?_⟩
  · have hk' : k < n := hk
    refine ⟨?_, ?_, ⟨rfl, Or.inl ⟨rfl, rfl⟩⟩, by simp [Value.ownBlock], by simp [Value.ownBlock]⟩
    · show wr.cell? ⟨gl, k, none⟩ = some (.string (str zeros64))
      have := h.rl.cells rfl k (.string (str zeros64)) (by rw [List.getElem?_replicate, if_pos hk'])
      rw [Go.WideShapes.add_plain] at this
      simpa using this
    · show wr.cell? ⟨go, k, none⟩ = some (.slice none 0 0)
      have := h.ro.cells rfl k (.slice none 0 0) (by rw [List.getElem?_replicate, if_pos hk'])
      rw [Go.WideShapes.add_plain] at this
      simpa using this
  · rcases hk with rfl | rfl | rfl | ⟨i, _, e⟩
    · exact h.bd
    · exact hbl
    · exact hbo
    · cases e

set_option maxRecDepth 100000 in
set_option maxHeartbeats 3200000 in
theorem ri_new (n : Nat) (w : World) (h1 : 1 ≤ n) (h2 : n ≤ 480) : Calls Try.prog 10 #[.int .i64 n] w fun e w' => ∃ a F, e = .returned (.pointer (some a)) ∧ RI w' a F (freshD n) ∧ (∀ k, F k → w.heap.size ≤ k) ∧ Below w.heap.size w w' := by
  have HB := Lib.hid (RN.begun w)
  obtain ⟨d, hd⟩ : ∃ d, d = w.heap.size := ⟨_, rfl⟩
  generalize hw1 : w.alloc (.cells #[.slice none 0 0, .slice none 0 0, .int .i64 (-1), .bool false] 46) = w1 at *
  have HW1 := Lib.hid hw1
  have HR0 : Hid (∃ vl vo, RN w.heap.size w d 0 0 vl vo w1) := Lib.hid ⟨_, _, by rw [hd]; exact HB.out⟩
  have HDD := Lib.hid hd
  clear hw1 hd HB
  go_enter Try.func10, Try.ntmps10
  go_wp2_with fail
  rw [HW1.out, ← HDD.out]
  go_loopw [4] (fun iv wr => ∃ j : Nat, iv = .int .i64 (j : Int) ∧ j ≤ n ∧ Hid (∃ vl vo, RN w.heap.size w d j j vl vo wr)) (fun iv _ => n - (intOf iv).toNat)
  case atStart => exact ⟨0, rfl, Nat.zero_le _, HR0⟩
  case round =>
    clear HR0
    obtain ⟨j, rfl, hj, HR⟩ := hrel
    obtain ⟨vl, vo, hR⟩ := HR.out
    have HRN := Lib.hid hR
    by_cases hlt : j < n
    · have z1 : (j : Int) < (n : Int) := by omega
      obtain ⟨V, hV⟩ : ∃ V, V = wr.drew := ⟨_, rfl⟩
      have hbV : Below wr.heap.size wr V := by rw [hV]; exact (Below.refl _ _).drew
      have HV := Lib.hid hV
      obtain ⟨S, hS⟩ : ∃ S, S = str zeros64 := ⟨_, rfl⟩
      have HS := Lib.hid hS
      have hmk := run_make_bytes V 64 (by decide)
      rw [show ((64 : Nat) : Int) = 64 from rfl] at hmk
      have hcv := str_bytes (cap := 64) (made_arg V 64 (by decide)).1
      rw [show List.replicate 64 (0 : Int) = zeros64 from rfl, ← hS] at hcv
      have hbV1 : Below wr.heap.size wr (V.alloc (.cells (madeCells #[.int .u8 0] 64) 5)) := hbV.alloc hbV.size _
      obtain ⟨gm, hgm⟩ : ∃ gm, gm = V.heap.size := ⟨_, rfl⟩
      rw [← hgm] at hmk hcv
      generalize V.alloc (.cells (madeCells #[.int .u8 0] 64) 5) = V1 at *
      have hbV2 : Below wr.heap.size wr (V1.alloc (.cells #[.string S] 9)) := hbV1.alloc hbV1.size _
      have k0 := cell_later hbV hR.c0
      have k1 := cell_later hbV1 hR.c0
      have k2 := cell_later hbV2 hR.c0
      have HBV := Lib.hid hbV2
      have HDV : Hid (d < (V1.alloc (.cells #[.string S] 9)).heap.size ∧ vl.ownBlock ≠ some d) := Lib.hid ⟨Nat.lt_of_lt_of_le hR.dlt hbV2.size, hR.nl⟩
      have HFB : Hid ((V1.alloc (.cells #[.string S] 9)).frozen? ⟨d, 0, none⟩ = false) := Lib.hid (by rw [hbV2.frozen (p := ⟨d, 0, none⟩) hR.dlt]; exact hR.fr 0)
      have HOWN : Hid ((V1.alloc (.cells #[.string S] 9)).ownsRow w.heap.size 9 1 vl j (List.replicate j (.string (str zeros64)))) := Lib.hid (owns_later hR.rl hbV2)
      have HNEWS : Hid (∀ x u, [Value.string S][x]? = some u → (V1.alloc (.cells #[.string S] 9)).cell? ((⟨V1.heap.size, 0, none⟩ : Addr).add x) = some u) := Lib.hid (World.news_of_block (cs := #[.string S]) (heap_alloc_new _ _))
      have HVB : Hid (w.heap.size ≤ (V1.alloc (.cells #[.string S] 9)).heap.size) := Lib.hid (by have h1 := hR.bel.size; have h2 := hbV2.size; omega)
      obtain ⟨i0, hi0, hz0, hz1, hz2⟩ := info_parts infoStr
      have HI := Lib.hid (And.intro hi0 (And.intro hz0 (And.intro hz1 hz2)))
      obtain ⟨i1, hi1, hy0, hy1, hy2⟩ := info_parts infoRow
      have HI1 := Lib.hid (And.intro hi1 (And.intro hy0 (And.intro hy1 hy2)))
      have HGM := Lib.hid hgm
      clear hR hV hbV hS hbV1 hbV2 hi0 hz0 hz1 hz2 hi1 hy0 hy1 hy2 HR hgm
      go_wp2_with fail
      refine wp_region_any (by kernel_rfl) ?_
      try (change wpAny _ _ _ _ _ _ _ (World.drew _))
      rw [← HV.out]
      refine wpAny_take (i := 0) (oi := ⟨some 12, _, _, _, _, _⟩) (v := ?_) rfl (by kernel_rfl) (by kernel_rfl) (by kernel_rfl) (fun _ _ _ h => h) (Or.inl ⟨by kernel_rfl, ?_⟩) ?_
      rotate_left 1
      · (intro w; go_simp); try (with_reducible rfl)
      try simp only [Act.put, List.setIfInBounds_toArray, List.set_cons_zero, List.set_cons_succ]
      refine wpAny_take (i := 1) (oi := ⟨some 13, _, _, _, _, _⟩) (v := ?_) rfl (by kernel_rfl) (by kernel_rfl) (by kernel_rfl) (fun _ _ _ h => h) (Or.inl ⟨by kernel_rfl, ?_⟩) ?_
      rotate_left 1
      · (intro w; go_simp); try (with_reducible rfl)
      try simp only [Act.put, List.setIfInBounds_toArray, List.set_cons_zero, List.set_cons_succ]
      refine wpAny_take (i := 2) (oi := ⟨some 14, _, _, _, _, _⟩) (v := ?_) rfl (by kernel_rfl) (by kernel_rfl) (by kernel_rfl) (fun _ _ _ h => h) (Or.inl ⟨by kernel_rfl, ?_⟩) ?_
      rotate_left 1
      · (intro w; go_simp); try (with_reducible rfl)
      try simp only [Act.put, List.setIfInBounds_toArray, List.set_cons_zero, List.set_cons_succ]
      refine wpAny_take (i := 3) (oi := ⟨some 15, _, _, _, _, _⟩) (v := ?_) rfl (by kernel_rfl) (by kernel_rfl) (by kernel_rfl) (fun _ _ _ h => h) (Or.inl ⟨by kernel_rfl, ?_⟩) ?_
      rotate_left 1
      · (intro w; go_simp); try (with_reducible rfl)
      try simp only [Act.put, List.setIfInBounds_toArray, List.set_cons_zero, List.set_cons_succ]
      refine wpAny_ready (rs := [4, 5]) (by kernel_rfl) (by simp) ?_
      refine AllReady.cons (o := ⟨some 16, _, _, _, _, _⟩) rfl (fun K hK => ?_) ?_
      · go_simp
        refine hK _ _ ?_
        clear hK K
        refine wpAny_ready (rs := [5]) (by kernel_rfl) (by simp) ?_
        refine AllReady.cons (o := ⟨some 17, _, _, _, _, _⟩) rfl (fun K hK => ?_) AllReady.nil
        go_simp
        refine hK _ _ ?_
        clear hK K
        refine wpAny_ready (rs := [6]) (by kernel_rfl) (by simp) ?_
        refine AllReady.cons (o := ⟨some 18, _, _, _, _, _⟩) rfl (fun K hK => ?_) AllReady.nil
        go_simp
        refine hK _ _ ?_
        clear hK K
        refine wpAny_ready (rs := [7]) (by kernel_rfl) (by simp) ?_
        refine AllReady.cons (o := ⟨some 19, _, _, _, _, _⟩) rfl (fun K hK => ?_) AllReady.nil
        go_simp
        refine hK _ _ ?_
        clear hK K
        refine wpAny_ready (rs := [8]) (by kernel_rfl) (by simp) ?_
        refine AllReady.cons (o := ⟨some 20, _, _, _, _, _⟩) rfl (fun K hK => ?_) AllReady.nil
        refine step_append_lies _ rfl (.tmp 16) (.tmp 19) 43 (by rfl) w.heap.size 9 i0 (.string ByteArray.empty) 1 16 Try.underlying43 HI.out.1 HI.out.2.1 HI.out.2.2.1 HI.out.2.2.2 rfl (by decide) vl j (List.replicate j (.string (str zeros64))) (by rfl) HOWN.out ⟨V1.heap.size, 0, none⟩ 1 1 [.string S] (by rfl) rfl HNEWS.out (by simp [Value.oneCell']) (by decide) (by unfold maxLen; omega) (by omega) HVB.out _ rfl ?_
        intro g5 cap5 w5 hown5 hgrow5 hat5 hlt5
        have h45 : w5.heap[d]? = (V1.alloc (.cells #[.string S] 9)).heap[d]? := hgrow5.block d HDV.out.1 (fun e => HDV.out.2 e.symm)
        have f5 : w5.cell? ⟨d, 0, none⟩ = some vl := (cell_of_heap (p := ⟨d, 0, none⟩) h45).trans k2
        have fr5 : w5.frozen? ⟨d, 0, none⟩ = false := (World.frozen?_of_block (w := V1.alloc (.cells #[.string S] 9)) (a := ⟨d, 0, none⟩) h45).trans HFB.out
        have HG5 := Lib.hid (And.intro hown5 (And.intro hgrow5 hat5))
        clear hown5 hgrow5 hat5 hlt5 h45
        refine hK _ _ ?_
        clear hK K
        try simp only [Act.put, List.setIfInBounds_toArray, List.set_cons_zero, List.set_cons_succ]
        refine wpAny_ready (rs := [9]) (by kernel_rfl) (by simp) ?_
        refine AllReady.cons (o := ⟨some 21, _, _, _, _, _⟩) rfl (fun K hK => ?_) AllReady.nil
        go_simp
        refine hK _ _ ?_
        clear hK K
        refine wpAny_ready (rs := [10]) (by kernel_rfl) (by simp) ?_
        refine AllReady.cons (o := ⟨some 22, _, _, _, _, _⟩) rfl (fun K hK => ?_) AllReady.nil
        go_simp
        refine hK _ _ ?_
        clear hK K
        refine wpAny_ready (rs := [11]) (by kernel_rfl) (by simp) ?_
        refine AllReady.cons (o := ⟨none, _, _, _, _, _⟩) rfl (fun K hK => ?_) AllReady.nil
        go_simp
        refine hK _ _ ?_
        clear hK K
        refine wpAny_done (by kernel_rfl) ?_ _
        go_simp
        have HR6 : Hid (RN w.heap.size w d (j + 1) j (.slice (some ⟨g5, 0, none⟩) (j + 1) cap5) vo (w5.setCell ⟨d, 0, none⟩ (.slice (some ⟨g5, 0, none⟩) (j + 1) cap5))) := Lib.hid (HRN.out.pushL HBV.out (by have h := HG5.out.1; rw [HS.out, ← List.replicate_succ'] at h; exact h) HG5.out.2.1 HG5.out.2.2)
        generalize w5.setCell ⟨d, 0, none⟩ (.slice (some ⟨g5, 0, none⟩) (j + 1) cap5) = W6 at *
        have q1 := HR6.out.c1
        have HOW6 : Hid ((W6.alloc (.cells #[.slice none 0 0] 43)).ownsRow w.heap.size 43 1 vo j (List.replicate j (.slice none 0 0))) := Lib.hid (HR6.out.ro.alloc _)
        have HN6 : Hid (∀ x u, [Value.slice none 0 0][x]? = some u → (W6.alloc (.cells #[.slice none 0 0] 43)).cell? ((⟨W6.heap.size, 0, none⟩ : Addr).add x) = some u) := Lib.hid (World.news_of_block (cs := #[.slice none 0 0]) (heap_alloc_new _ _))
        have HB6 : Hid (w.heap.size ≤ (W6.alloc (.cells #[.slice none 0 0] 43)).heap.size) := Lib.hid (by have := HR6.out.bel.size; simp; omega)
        have HD6 : Hid (d < (W6.alloc (.cells #[.slice none 0 0] 43)).heap.size ∧ vo.ownBlock ≠ some d) := Lib.hid ⟨by have h : d < W6.heap.size := World.block_lt_of_cell? _ _ q1; simp; omega, HR6.out.no⟩
        have q1a : (W6.alloc (.cells #[.slice none 0 0] 43)).cell? ⟨d, 1, none⟩ = some vo := cell_later ((Below.refl _ _).alloc (Nat.le_refl _) _) q1
        have q1f : (W6.alloc (.cells #[.slice none 0 0] 43)).frozen? ⟨d, 1, none⟩ = false := by rw [((Below.refl _ _).alloc (Nat.le_refl _) _ : Below W6.heap.size W6 _).frozen (p := ⟨d, 1, none⟩) (World.block_lt_of_cell? _ _ q1)]; exact HR6.out.fr 1
        have HQ := Lib.hid (And.intro q1a q1f)
        clear f5 fr5 q1a q1f k0 k1 k2 HG5
        go_wp2_with (at_builtin; refine wpList_append_lies _ rfl (.tmp 27) (.tmp 28) 44 rfl w.heap.size 43 i1 (.slice none 0 0) 1 24 Try.underlying44 HI1.out.1 HI1.out.2.1 HI1.out.2.2.1 HI1.out.2.2.2 rfl (by decide) vo j (List.replicate j (.slice none 0 0)) rfl HOW6.out ⟨W6.heap.size, 0, none⟩ 1 1 [.slice none 0 0] rfl rfl HN6.out (by simp [Value.oneCell']) (by decide) (by unfold maxLen; omega) (by omega) HB6.out _ rfl ?_; intro g7 cap7 w7 hown7 hgrow7 hat7 hlt7; have h67 : w7.heap[d]? = (W6.alloc (.cells #[.slice none 0 0] 43)).heap[d]? := hgrow7.block d HD6.out.1 (fun e => HD6.out.2 e.symm); have f7 : w7.cell? ⟨d, 1, none⟩ = some vo := (cell_of_heap (p := ⟨d, 1, none⟩) h67).trans HQ.out.1; have fr7 : w7.frozen? ⟨d, 1, none⟩ = false := (World.frozen?_of_block (w := W6.alloc (.cells #[.slice none 0 0] 43)) (a := ⟨d, 1, none⟩) h67).trans HQ.out.2; have HG7 := Lib.hid (And.intro hown7 (And.intro hgrow7 hat7)); clear hown7 hgrow7 hat7 hlt7 h67)
        go_roundw
        case rel => exact ⟨j + 1, by go_num, by omega, Lib.hid ⟨_, _, HR6.out.pushO ((Below.refl _ _).alloc (Nat.le_refl _) _) (by have h := HG7.out.1; rw [← List.replicate_succ'] at h; exact h) HG7.out.2.1 HG7.out.2.2⟩⟩
        case measure => simp [intOf]; omega
      refine AllReady.cons (o := ⟨some 17, _, _, _, _, _⟩) rfl (fun K hK => ?_) AllReady.nil
      go_simp
      refine hK _ _ ?_
      clear hK K
      refine wpAny_ready (rs := [4, 6]) (by kernel_rfl) (by simp) ?_
      refine AllReady.cons (o := ⟨some 16, _, _, _, _, _⟩) rfl (fun K hK => ?_) ?_
      · go_simp
        refine hK _ _ ?_
        clear hK K
        refine wpAny_ready (rs := [6]) (by kernel_rfl) (by simp) ?_
        refine AllReady.cons (o := ⟨some 18, _, _, _, _, _⟩) rfl (fun K hK => ?_) AllReady.nil
        go_simp
        refine hK _ _ ?_
        clear hK K
        refine wpAny_ready (rs := [7]) (by kernel_rfl) (by simp) ?_
        refine AllReady.cons (o := ⟨some 19, _, _, _, _, _⟩) rfl (fun K hK => ?_) AllReady.nil
        go_simp
        refine hK _ _ ?_
        clear hK K
        refine wpAny_ready (rs := [8]) (by kernel_rfl) (by simp) ?_
        refine AllReady.cons (o := ⟨some 20, _, _, _, _, _⟩) rfl (fun K hK => ?_) AllReady.nil
        refine step_append_lies _ rfl (.tmp 16) (.tmp 19) 43 (by rfl) w.heap.size 9 i0 (.string ByteArray.empty) 1 16 Try.underlying43 HI.out.1 HI.out.2.1 HI.out.2.2.1 HI.out.2.2.2 rfl (by decide) vl j (List.replicate j (.string (str zeros64))) (by rfl) HOWN.out ⟨V1.heap.size, 0, none⟩ 1 1 [.string S] (by rfl) rfl HNEWS.out (by simp [Value.oneCell']) (by decide) (by unfold maxLen; omega) (by omega) HVB.out _ rfl ?_
        intro g5 cap5 w5 hown5 hgrow5 hat5 hlt5
        have h45 : w5.heap[d]? = (V1.alloc (.cells #[.string S] 9)).heap[d]? := hgrow5.block d HDV.out.1 (fun e => HDV.out.2 e.symm)
        have f5 : w5.cell? ⟨d, 0, none⟩ = some vl := (cell_of_heap (p := ⟨d, 0, none⟩) h45).trans k2
        have fr5 : w5.frozen? ⟨d, 0, none⟩ = false := (World.frozen?_of_block (w := V1.alloc (.cells #[.string S] 9)) (a := ⟨d, 0, none⟩) h45).trans HFB.out
        have HG5 := Lib.hid (And.intro hown5 (And.intro hgrow5 hat5))
        clear hown5 hgrow5 hat5 hlt5 h45
        refine hK _ _ ?_
        clear hK K
        try simp only [Act.put, List.setIfInBounds_toArray, List.set_cons_zero, List.set_cons_succ]
        refine wpAny_ready (rs := [9]) (by kernel_rfl) (by simp) ?_
        refine AllReady.cons (o := ⟨some 21, _, _, _, _, _⟩) rfl (fun K hK => ?_) AllReady.nil
        go_simp
        refine hK _ _ ?_
        clear hK K
        refine wpAny_ready (rs := [10]) (by kernel_rfl) (by simp) ?_
        refine AllReady.cons (o := ⟨some 22, _, _, _, _, _⟩) rfl (fun K hK => ?_) AllReady.nil
        go_simp
        refine hK _ _ ?_
        clear hK K
        refine wpAny_ready (rs := [11]) (by kernel_rfl) (by simp) ?_
        refine AllReady.cons (o := ⟨none, _, _, _, _, _⟩) rfl (fun K hK => ?_) AllReady.nil
        go_simp
        refine hK _ _ ?_
        clear hK K
        refine wpAny_done (by kernel_rfl) ?_ _
        go_simp
        have HR6 : Hid (RN w.heap.size w d (j + 1) j (.slice (some ⟨g5, 0, none⟩) (j + 1) cap5) vo (w5.setCell ⟨d, 0, none⟩ (.slice (some ⟨g5, 0, none⟩) (j + 1) cap5))) := Lib.hid (HRN.out.pushL HBV.out (by have h := HG5.out.1; rw [HS.out, ← List.replicate_succ'] at h; exact h) HG5.out.2.1 HG5.out.2.2)
        generalize w5.setCell ⟨d, 0, none⟩ (.slice (some ⟨g5, 0, none⟩) (j + 1) cap5) = W6 at *
        have q1 := HR6.out.c1
        have HOW6 : Hid ((W6.alloc (.cells #[.slice none 0 0] 43)).ownsRow w.heap.size 43 1 vo j (List.replicate j (.slice none 0 0))) := Lib.hid (HR6.out.ro.alloc _)
        have HN6 : Hid (∀ x u, [Value.slice none 0 0][x]? = some u → (W6.alloc (.cells #[.slice none 0 0] 43)).cell? ((⟨W6.heap.size, 0, none⟩ : Addr).add x) = some u) := Lib.hid (World.news_of_block (cs := #[.slice none 0 0]) (heap_alloc_new _ _))
        have HB6 : Hid (w.heap.size ≤ (W6.alloc (.cells #[.slice none 0 0] 43)).heap.size) := Lib.hid (by have := HR6.out.bel.size; simp; omega)
        have HD6 : Hid (d < (W6.alloc (.cells #[.slice none 0 0] 43)).heap.size ∧ vo.ownBlock ≠ some d) := Lib.hid ⟨by have h : d < W6.heap.size := World.block_lt_of_cell? _ _ q1; simp; omega, HR6.out.no⟩
        have q1a : (W6.alloc (.cells #[.slice none 0 0] 43)).cell? ⟨d, 1, none⟩ = some vo := cell_later ((Below.refl _ _).alloc (Nat.le_refl _) _) q1
        have q1f : (W6.alloc (.cells #[.slice none 0 0] 43)).frozen? ⟨d, 1, none⟩ = false := by rw [((Below.refl _ _).alloc (Nat.le_refl _) _ : Below W6.heap.size W6 _).frozen (p := ⟨d, 1, none⟩) (World.block_lt_of_cell? _ _ q1)]; exact HR6.out.fr 1
        have HQ := Lib.hid (And.intro q1a q1f)
        clear f5 fr5 q1a q1f k0 k1 k2 HG5
        go_wp2_with (at_builtin; refine wpList_append_lies _ rfl (.tmp 27) (.tmp 28) 44 rfl w.heap.size 43 i1 (.slice none 0 0) 1 24 Try.underlying44 HI1.out.1 HI1.out.2.1 HI1.out.2.2.1 HI1.out.2.2.2 rfl (by decide) vo j (List.replicate j (.slice none 0 0)) rfl HOW6.out ⟨W6.heap.size, 0, none⟩ 1 1 [.slice none 0 0] rfl rfl HN6.out (by simp [Value.oneCell']) (by decide) (by unfold maxLen; omega) (by omega) HB6.out _ rfl ?_; intro g7 cap7 w7 hown7 hgrow7 hat7 hlt7; have h67 : w7.heap[d]? = (W6.alloc (.cells #[.slice none 0 0] 43)).heap[d]? := hgrow7.block d HD6.out.1 (fun e => HD6.out.2 e.symm); have f7 : w7.cell? ⟨d, 1, none⟩ = some vo := (cell_of_heap (p := ⟨d, 1, none⟩) h67).trans HQ.out.1; have fr7 : w7.frozen? ⟨d, 1, none⟩ = false := (World.frozen?_of_block (w := W6.alloc (.cells #[.slice none 0 0] 43)) (a := ⟨d, 1, none⟩) h67).trans HQ.out.2; have HG7 := Lib.hid (And.intro hown7 (And.intro hgrow7 hat7)); clear hown7 hgrow7 hat7 hlt7 h67)
        go_roundw
        case rel => exact ⟨j + 1, by go_num, by omega, Lib.hid ⟨_, _, HR6.out.pushO ((Below.refl _ _).alloc (Nat.le_refl _) _) (by have h := HG7.out.1; rw [← List.replicate_succ'] at h; exact h) HG7.out.2.1 HG7.out.2.2⟩⟩
        case measure => simp [intOf]; omega
      refine AllReady.cons (o := ⟨some 18, _, _, _, _, _⟩) rfl (fun K hK => ?_) AllReady.nil
      go_simp
      refine hK _ _ ?_
      clear hK K
      refine wpAny_ready (rs := [4, 7]) (by kernel_rfl) (by simp) ?_
      refine AllReady.cons (o := ⟨some 16, _, _, _, _, _⟩) rfl (fun K hK => ?_) ?_
      · go_simp
        refine hK _ _ ?_
        clear hK K
        refine wpAny_ready (rs := [7]) (by kernel_rfl) (by simp) ?_
        refine AllReady.cons (o := ⟨some 19, _, _, _, _, _⟩) rfl (fun K hK => ?_) AllReady.nil
        go_simp
        refine hK _ _ ?_
        clear hK K
        refine wpAny_ready (rs := [8]) (by kernel_rfl) (by simp) ?_
        refine AllReady.cons (o := ⟨some 20, _, _, _, _, _⟩) rfl (fun K hK => ?_) AllReady.nil
        refine step_append_lies _ rfl (.tmp 16) (.tmp 19) 43 (by rfl) w.heap.size 9 i0 (.string ByteArray.empty) 1 16 Try.underlying43 HI.out.1 HI.out.2.1 HI.out.2.2.1 HI.out.2.2.2 rfl (by decide) vl j (List.replicate j (.string (str zeros64))) (by rfl) HOWN.out ⟨V1.heap.size, 0, none⟩ 1 1 [.string S] (by rfl) rfl HNEWS.out (by simp [Value.oneCell']) (by decide) (by unfold maxLen; omega) (by omega) HVB.out _ rfl ?_
        intro g5 cap5 w5 hown5 hgrow5 hat5 hlt5
        have h45 : w5.heap[d]? = (V1.alloc (.cells #[.string S] 9)).heap[d]? := hgrow5.block d HDV.out.1 (fun e => HDV.out.2 e.symm)
        have f5 : w5.cell? ⟨d, 0, none⟩ = some vl := (cell_of_heap (p := ⟨d, 0, none⟩) h45).trans k2
        have fr5 : w5.frozen? ⟨d, 0, none⟩ = false := (World.frozen?_of_block (w := V1.alloc (.cells #[.string S] 9)) (a := ⟨d, 0, none⟩) h45).trans HFB.out
        have HG5 := Lib.hid (And.intro hown5 (And.intro hgrow5 hat5))
        clear hown5 hgrow5 hat5 hlt5 h45
        refine hK _ _ ?_
        clear hK K
        try simp only [Act.put, List.setIfInBounds_toArray, List.set_cons_zero, List.set_cons_succ]
        refine wpAny_ready (rs := [9]) (by kernel_rfl) (by simp) ?_
        refine AllReady.cons (o := ⟨some 21, _, _, _, _, _⟩) rfl (fun K hK => ?_) AllReady.nil
        go_simp
        refine hK _ _ ?_
        clear hK K
        refine wpAny_ready (rs := [10]) (by kernel_rfl) (by simp) ?_
        refine AllReady.cons (o := ⟨some 22, _, _, _, _, _⟩) rfl (fun K hK => ?_) AllReady.nil
        go_simp
        refine hK _ _ ?_
        clear hK K
        refine wpAny_ready (rs := [11]) (by kernel_rfl) (by simp) ?_
        refine AllReady.cons (o := ⟨none, _, _, _, _, _⟩) rfl (fun K hK => ?_) AllReady.nil
        go_simp
        refine hK _ _ ?_
        clear hK K
        refine wpAny_done (by kernel_rfl) ?_ _
        go_simp
        have HR6 : Hid (RN w.heap.size w d (j + 1) j (.slice (some ⟨g5, 0, none⟩) (j + 1) cap5) vo (w5.setCell ⟨d, 0, none⟩ (.slice (some ⟨g5, 0, none⟩) (j + 1) cap5))) := Lib.hid (HRN.out.pushL HBV.out (by have h := HG5.out.1; rw [HS.out, ← List.replicate_succ'] at h; exact h) HG5.out.2.1 HG5.out.2.2)
        generalize w5.setCell ⟨d, 0, none⟩ (.slice (some ⟨g5, 0, none⟩) (j + 1) cap5) = W6 at *
        have q1 := HR6.out.c1
        have HOW6 : Hid ((W6.alloc (.cells #[.slice none 0 0] 43)).ownsRow w.heap.size 43 1 vo j (List.replicate j (.slice none 0 0))) := Lib.hid (HR6.out.ro.alloc _)
        have HN6 : Hid (∀ x u, [Value.slice none 0 0][x]? = some u → (W6.alloc (.cells #[.slice none 0 0] 43)).cell? ((⟨W6.heap.size, 0, none⟩ : Addr).add x) = some u) := Lib.hid (World.news_of_block (cs := #[.slice none 0 0]) (heap_alloc_new _ _))
        have HB6 : Hid (w.heap.size ≤ (W6.alloc (.cells #[.slice none 0 0] 43)).heap.size) := Lib.hid (by have := HR6.out.bel.size; simp; omega)
        have HD6 : Hid (d < (W6.alloc (.cells #[.slice none 0 0] 43)).heap.size ∧ vo.ownBlock ≠ some d) := Lib.hid ⟨by have h : d < W6.heap.size := World.block_lt_of_cell? _ _ q1; simp; omega, HR6.out.no⟩
        have q1a : (W6.alloc (.cells #[.slice none 0 0] 43)).cell? ⟨d, 1, none⟩ = some vo := cell_later ((Below.refl _ _).alloc (Nat.le_refl _) _) q1
        have q1f : (W6.alloc (.cells #[.slice none 0 0] 43)).frozen? ⟨d, 1, none⟩ = false := by rw [((Below.refl _ _).alloc (Nat.le_refl _) _ : Below W6.heap.size W6 _).frozen (p := ⟨d, 1, none⟩) (World.block_lt_of_cell? _ _ q1)]; exact HR6.out.fr 1
        have HQ := Lib.hid (And.intro q1a q1f)
        clear f5 fr5 q1a q1f k0 k1 k2 HG5
        go_wp2_with (at_builtin; refine wpList_append_lies _ rfl (.tmp 27) (.tmp 28) 44 rfl w.heap.size 43 i1 (.slice none 0 0) 1 24 Try.underlying44 HI1.out.1 HI1.out.2.1 HI1.out.2.2.1 HI1.out.2.2.2 rfl (by decide) vo j (List.replicate j (.slice none 0 0)) rfl HOW6.out ⟨W6.heap.size, 0, none⟩ 1 1 [.slice none 0 0] rfl rfl HN6.out (by simp [Value.oneCell']) (by decide) (by unfold maxLen; omega) (by omega) HB6.out _ rfl ?_; intro g7 cap7 w7 hown7 hgrow7 hat7 hlt7; have h67 : w7.heap[d]? = (W6.alloc (.cells #[.slice none 0 0] 43)).heap[d]? := hgrow7.block d HD6.out.1 (fun e => HD6.out.2 e.symm); have f7 : w7.cell? ⟨d, 1, none⟩ = some vo := (cell_of_heap (p := ⟨d, 1, none⟩) h67).trans HQ.out.1; have fr7 : w7.frozen? ⟨d, 1, none⟩ = false := (World.frozen?_of_block (w := W6.alloc (.cells #[.slice none 0 0] 43)) (a := ⟨d, 1, none⟩) h67).trans HQ.out.2; have HG7 := Lib.hid (And.intro hown7 (And.intro hgrow7 hat7)); clear hown7 hgrow7 hat7 hlt7 h67)
        go_roundw
        case rel => exact ⟨j + 1, by go_num, by omega, Lib.hid ⟨_, _, HR6.out.pushO ((Below.refl _ _).alloc (Nat.le_refl _) _) (by have h := HG7.out.1; rw [← List.replicate_succ'] at h; exact h) HG7.out.2.1 HG7.out.2.2⟩⟩
        case measure => simp [intOf]; omega
      refine AllReady.cons (o := ⟨some 19, _, _, _, _, _⟩) rfl (fun K hK => ?_) AllReady.nil
      go_simp
      refine hK _ _ ?_
      clear hK K
      refine wpAny_ready (rs := [4]) (by kernel_rfl) (by simp) ?_
      refine AllReady.cons (o := ⟨some 16, _, _, _, _, _⟩) rfl (fun K hK => ?_) AllReady.nil
      go_simp
      refine hK _ _ ?_
      clear hK K
      refine wpAny_ready (rs := [8]) (by kernel_rfl) (by simp) ?_
      refine AllReady.cons (o := ⟨some 20, _, _, _, _, _⟩) rfl (fun K hK => ?_) AllReady.nil
      refine step_append_lies _ rfl (.tmp 16) (.tmp 19) 43 (by rfl) w.heap.size 9 i0 (.string ByteArray.empty) 1 16 Try.underlying43 HI.out.1 HI.out.2.1 HI.out.2.2.1 HI.out.2.2.2 rfl (by decide) vl j (List.replicate j (.string (str zeros64))) (by rfl) HOWN.out ⟨V1.heap.size, 0, none⟩ 1 1 [.string S] (by rfl) rfl HNEWS.out (by simp [Value.oneCell']) (by decide) (by unfold maxLen; omega) (by omega) HVB.out _ rfl ?_
      intro g5 cap5 w5 hown5 hgrow5 hat5 hlt5
      have h45 : w5.heap[d]? = (V1.alloc (.cells #[.string S] 9)).heap[d]? := hgrow5.block d HDV.out.1 (fun e => HDV.out.2 e.symm)
      have f5 : w5.cell? ⟨d, 0, none⟩ = some vl := (cell_of_heap (p := ⟨d, 0, none⟩) h45).trans k2
      have fr5 : w5.frozen? ⟨d, 0, none⟩ = false := (World.frozen?_of_block (w := V1.alloc (.cells #[.string S] 9)) (a := ⟨d, 0, none⟩) h45).trans HFB.out
      have HG5 := Lib.hid (And.intro hown5 (And.intro hgrow5 hat5))
      clear hown5 hgrow5 hat5 hlt5 h45
      refine hK _ _ ?_
      clear hK K
      try simp only [Act.put, List.setIfInBounds_toArray, List.set_cons_zero, List.set_cons_succ]
      refine wpAny_ready (rs := [9]) (by kernel_rfl) (by simp) ?_
      refine AllReady.cons (o := ⟨some 21, _, _, _, _, _⟩) rfl (fun K hK => ?_) AllReady.nil
      go_simp
      refine hK _ _ ?_
      clear hK K
      refine wpAny_ready (rs := [10]) (by kernel_rfl) (by simp) ?_
      refine AllReady.cons (o := ⟨some 22, _, _, _, _, _⟩) rfl (fun K hK => ?_) AllReady.nil
      go_simp
      refine hK _ _ ?_
      clear hK K
      refine wpAny_ready (rs := [11]) (by kernel_rfl) (by simp) ?_
      refine AllReady.cons (o := ⟨none, _, _, _, _, _⟩) rfl (fun K hK => ?_) AllReady.nil
      go_simp
      refine hK _ _ ?_
      clear hK K
      refine wpAny_done (by kernel_rfl) ?_ _
      go_simp
      have HR6 : Hid (RN w.heap.size w d (j + 1) j (.slice (some ⟨g5, 0, none⟩) (j + 1) cap5) vo (w5.setCell ⟨d, 0, none⟩ (.slice (some ⟨g5, 0, none⟩) (j + 1) cap5))) := Lib.hid (HRN.out.pushL HBV.out (by have h := HG5.out.1; rw [HS.out, ← List.replicate_succ'] at h; exact h) HG5.out.2.1 HG5.out.2.2)
      generalize w5.setCell ⟨d, 0, none⟩ (.slice (some ⟨g5, 0, none⟩) (j + 1) cap5) = W6 at *
      have q1 := HR6.out.c1
      have HOW6 : Hid ((W6.alloc (.cells #[.slice none 0 0] 43)).ownsRow w.heap.size 43 1 vo j (List.replicate j (.slice none 0 0))) := Lib.hid (HR6.out.ro.alloc _)
      have HN6 : Hid (∀ x u, [Value.slice none 0 0][x]? = some u → (W6.alloc (.cells #[.slice none 0 0] 43)).cell? ((⟨W6.heap.size, 0, none⟩ : Addr).add x) = some u) := Lib.hid (World.news_of_block (cs := #[.slice none 0 0]) (heap_alloc_new _ _))
      have HB6 : Hid (w.heap.size ≤ (W6.alloc (.cells #[.slice none 0 0] 43)).heap.size) := Lib.hid (by have := HR6.out.bel.size; simp; omega)
      have HD6 : Hid (d < (W6.alloc (.cells #[.slice none 0 0] 43)).heap.size ∧ vo.ownBlock ≠ some d) := Lib.hid ⟨by have h : d < W6.heap.size := World.block_lt_of_cell? _ _ q1; simp; omega, HR6.out.no⟩
      have q1a : (W6.alloc (.cells #[.slice none 0 0] 43)).cell? ⟨d, 1, none⟩ = some vo := cell_later ((Below.refl _ _).alloc (Nat.le_refl _) _) q1
      have q1f : (W6.alloc (.cells #[.slice none 0 0] 43)).frozen? ⟨d, 1, none⟩ = false := by rw [((Below.refl _ _).alloc (Nat.le_refl _) _ : Below W6.heap.size W6 _).frozen (p := ⟨d, 1, none⟩) (World.block_lt_of_cell? _ _ q1)]; exact HR6.out.fr 1
      have HQ := Lib.hid (And.intro q1a q1f)
      clear f5 fr5 q1a q1f k0 k1 k2 HG5
      go_wp2_with (at_builtin; refine wpList_append_lies _ rfl (.tmp 27) (.tmp 28) 44 rfl w.heap.size 43 i1 (.slice none 0 0) 1 24 Try.underlying44 HI1.out.1 HI1.out.2.1 HI1.out.2.2.1 HI1.out.2.2.2 rfl (by decide) vo j (List.replicate j (.slice none 0 0)) rfl HOW6.out ⟨W6.heap.size, 0, none⟩ 1 1 [.slice none 0 0] rfl rfl HN6.out (by simp [Value.oneCell']) (by decide) (by unfold maxLen; omega) (by omega) HB6.out _ rfl ?_; intro g7 cap7 w7 hown7 hgrow7 hat7 hlt7; have h67 : w7.heap[d]? = (W6.alloc (.cells #[.slice none 0 0] 43)).heap[d]? := hgrow7.block d HD6.out.1 (fun e => HD6.out.2 e.symm); have f7 : w7.cell? ⟨d, 1, none⟩ = some vo := (cell_of_heap (p := ⟨d, 1, none⟩) h67).trans HQ.out.1; have fr7 : w7.frozen? ⟨d, 1, none⟩ = false := (World.frozen?_of_block (w := W6.alloc (.cells #[.slice none 0 0] 43)) (a := ⟨d, 1, none⟩) h67).trans HQ.out.2; have HG7 := Lib.hid (And.intro hown7 (And.intro hgrow7 hat7)); clear hown7 hgrow7 hat7 hlt7 h67)
      go_roundw
      case rel => exact ⟨j + 1, by go_num, by omega, Lib.hid ⟨_, _, HR6.out.pushO ((Below.refl _ _).alloc (Nat.le_refl _) _) (by have h := HG7.out.1; rw [← List.replicate_succ'] at h; exact h) HG7.out.2.1 HG7.out.2.2⟩⟩
      case measure => simp [intOf]; omega
    · have hjn : j = n := by omega
      subst hjn
      have HD := Lib.hid (hR.done h1 h2)
      have HBL := Lib.hid hR.bel
      clear hR HR
      go_wp2_with fail
      go_ret
      obtain ⟨F, hF, hb⟩ := HD.out
      exact ⟨⟨d, 0, none⟩, F, rfl, hF, hb, HBL.out⟩

end Go.Proofs.Ytinlbmlgfneolaa
