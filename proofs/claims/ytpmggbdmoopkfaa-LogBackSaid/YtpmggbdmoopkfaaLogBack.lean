/-
  Proved here: what was written into a log is read as it was; of a log that answers as the document says. No other conditions.
-/
import Derived.Test.YtpmggbdmoopkfaaLogInts
import Derived.Test.YtpmggbdmoopkfaaLogLand
import Derived.WalkKit
namespace Go.Proofs.Ytpmggbdmoopkfaa.logBack
open Go.ChangeShapes Go.WideShapes Go.ChangeAt Go.RowKit
open Go.ChangeMaps (open_string shut_string)
set_option linter.unusedVariables false
set_option linter.unusedSimpArgs false

set_option maxRecDepth 100000 in
set_option maxHeartbeats 6400000 in
theorem walk (n0 : Int) (a0 : Option Addr) (len0 cap0 : Nat) (z0 : List Int) (a1 : Int) (a2 : Int) (w : World) (w0 : I64 n0 ∧ IArg w a0 len0 cap0 z0 ∧ cap0 ≤ 17592186043904) (w1 : (Lit.int .i64 a1).wf = true) (w2 : (Lit.int .i64 a2).wf = true) :
    Calls Try.prog 6 #[.agg #[.int .i64 n0, .slice a0 len0 cap0], .int .i64 a1, .int .i64 a2] w fun e w' => e = .returned (.bool true) ∧ Below w.heap.size w w' := by
  have HI := Lib.hid w0
  have H1 := Lib.hid (And.intro (wf_i64 w1) (wf_i64 w2))
  clear w0 w1 w2
  have cL := fun W (hW : Below w.heap.size w W) => logOk.beg n0 HI.out.1 (HI.out.2.1.later hW)
  have cF := fun W => logOk.fin a1 a2 W H1.out.1 H1.out.2
  have cA := fun W => awake15 logOk W
  obtain ⟨W0, hW0⟩ : ∃ W0, w.alloc (.cells #[.int .i64 n0, .slice a0 len0 cap0] 24) = W0 := ⟨_, rfl⟩
  have B0 : Hid (Below w.heap.size w W0) := Lib.hid (by rw [← hW0]; exact (Below.refl _ _).alloc (Nat.le_refl _) _)
  have x0 : W0.cell? ⟨w.heap.size, 0, none⟩ = some (.int .i64 n0) := by rw [← hW0, World.cell?_alloc_new]; rfl
  have x1 : W0.cell? ⟨w.heap.size, 1, none⟩ = some (.slice a0 len0 cap0) := by rw [← hW0, World.cell?_alloc_new]; rfl
  have hl0 : z0.length = len0 := HI.out.2.1.len
  have HEND : Hid ((endErr a1 a2 = 2) ∨ (endErr a1 a2 = 0 ∧ getEndErr (endOut a1 a2) = 0 ∧ getEndSeq (endOut a1 a2) = a1 ∧ getEndCount (endOut a1 a2) = a2 ∧ getBegErr (endOut a1 a2) = 2)) := Lib.hid (by
    by_cases h : okEnd a1 a2 = true
    · right
      obtain ⟨r1, r2⟩ := read_end h
      unfold endErr endOut getEndErr getEndSeq getEndCount getBegErr
      rw [if_pos h, if_pos h, if_pos (is_end h), if_pos (is_end h), if_pos (is_end h), end_not_beg (is_end h)]
      exact ⟨rfl, rfl, r1, r2, rfl⟩
    · left
      unfold endErr
      rw [if_neg h])
  have HBEG : Hid ((begErr ⟨n0, z0⟩ = 2) ∨ (begErr ⟨n0, z0⟩ = 0 ∧ getBegErr (begOut ⟨n0, z0⟩) = 0 ∧ getBeg (begOut ⟨n0, z0⟩) = ⟨n0, z0⟩ ∧ getEndErr (begOut ⟨n0, z0⟩) = 2)) := Lib.hid (by
    by_cases h : soundD ⟨n0, z0⟩ = true
    · right
      unfold begErr begOut getBegErr getBeg getEndErr
      rw [if_pos h, if_pos h, if_pos (is_beg h), if_pos (is_beg h), read_beg h, beg_not_end (is_beg h)]
      exact ⟨rfl, rfl, rfl, rfl⟩
    · left
      unfold begErr
      rw [if_neg h])
  generalize begOut ⟨n0, z0⟩ = O at *
  generalize begErr ⟨n0, z0⟩ = E at *
  generalize endOut a1 a2 = P at *
  generalize endErr a1 a2 = F at *
  rcases HBEG.out with hb | ⟨hb, e1, e2, e3⟩ <;> rcases HEND.out with he | ⟨he, f1, f2, f3, f4⟩
  · subst hb
    subst he
    go_enter Try.func6, Try.ntmps6
    go_wp2_with (first
      | (go_at_call 15; refine (cF _).mono ?_; rintro e w8 ⟨v8, rfl, ⟨ao8, p8, rfl, hA8, _⟩, hb8⟩; have BC := Lib.hid (BC.out.trans (hb8.mono BC.out.size)); have A8 := Lib.hid hA8; clear hb8 hA8)
      | (go_at_call 9; refine (cL _ B0.out).mono ?_; rintro e w3 ⟨v3, rfl, ⟨ao3, p3, rfl, hA3, _⟩, hb3⟩; have BC := Lib.hid (B0.out.trans (hb3.mono B0.out.size)); have y0 := cell_later hb3 x0; have y1 := cell_later hb3 x1; have A3 := Lib.hid hA3; clear hb3 hA3)
      | (go_at_call 13; refine (cA _).mono ?_; rintro e w11 ⟨rfl, hb11⟩; have BC := Lib.hid (BC.out.trans (hb11.mono BC.out.size)); clear hb11))
    go_ret
    exact ⟨rfl, BC.out⟩
  · subst hb
    subst he
    go_enter Try.func6, Try.ntmps6
    go_wp2_with (first
      | (go_at_call 11; refine (logOk.begs ao8 P.length p8 P _ A9.out).mono ?_; rw [f4]; rintro e w10 ⟨v10, rfl, ⟨ao10, p10, rfl, hI10, _⟩, hb10⟩; obtain ⟨W10, hW10⟩ : ∃ W, w10.alloc (.cells #[.int .i64 (getBeg P).seq, .slice ao10 (getBeg P).to.length p10] 24) = W := ⟨_, rfl⟩; have BC : Hid (Below w.heap.size w W10) := Lib.hid (by rw [← hW10]; exact (BC.out.trans (hb10.mono BC.out.size)).alloc (BC.out.trans (hb10.mono BC.out.size)).size _); clear hI10 hb10)
      | (go_at_call 17; refine (logOk.fins ao8 P.length p8 P _ A8.out).mono ?_; rw [f1, f2, f3]; rintro e w9 ⟨rfl, hb9⟩; have BC := Lib.hid (BC.out.trans (hb9.mono BC.out.size)); have A9 := Lib.hid (A8.out.later hb9); clear hb9)
      | (go_at_call 15; refine (cF _).mono ?_; rintro e w8 ⟨v8, rfl, ⟨ao8, p8, rfl, hA8, _⟩, hb8⟩; have BC := Lib.hid (BC.out.trans (hb8.mono BC.out.size)); have A8 := Lib.hid hA8; clear hb8 hA8)
      | (go_at_call 9; refine (cL _ B0.out).mono ?_; rintro e w3 ⟨v3, rfl, ⟨ao3, p3, rfl, hA3, _⟩, hb3⟩; have BC := Lib.hid (B0.out.trans (hb3.mono B0.out.size)); have y0 := cell_later hb3 x0; have y1 := cell_later hb3 x1; have A3 := Lib.hid hA3; clear hb3 hA3)
      | (go_at_call 13; refine (cA _).mono ?_; rintro e w11 ⟨rfl, hb11⟩; have BC := Lib.hid (BC.out.trans (hb11.mono BC.out.size)); clear hb11))
    go_ret
    exact ⟨rfl, BC.out⟩
  · subst hb
    subst he
    go_enter Try.func6, Try.ntmps6
    go_wp2_with (first
      | (go_at_call 13; refine (cA _).mono ?_; rintro e w11 ⟨rfl, hb11⟩; have BC := Lib.hid (BC.out.trans (hb11.mono BC.out.size)); clear hb11)
      | (go_at_call 15; refine (cF _).mono ?_; rintro e w8 ⟨v8, rfl, ⟨ao8, p8, rfl, hA8, _⟩, hb8⟩; have BC := Lib.hid (BC.out.trans (hb8.mono BC.out.size)); have A8 := Lib.hid hA8; clear hb8 hA8)
      | (go_at_call 14; refine cI.mono ?_; rintro e w7 ⟨rfl, hb7⟩; have BC := Lib.hid (BC.out.trans (hb7.mono BC.out.size)); clear hb7)
      | (go_at_call 17; refine (logOk.fins ao3 O.length p3 O _ A5.out).mono ?_; rw [e3]; rintro e w6 ⟨rfl, hb6⟩; have BC := Lib.hid (BC.out.trans (hb6.mono BC.out.size)); have y0 := cell_later hb6 y0; have y1 := cell_later hb6 y1; have s0 := cell_later hb6 s0; have s1 := cell_later hb6 s1; have cI := ints15_any (I5.out.later hb6) (HI.out.2.1.later BC.out); rw [decide_eq_true (rfl : z0 = z0)] at cI; clear hb6)
      | (go_at_call 11; refine (logOk.begs ao3 O.length p3 O w3 A3.out).mono ?_; rw [e1, e2]; rintro e w5 ⟨v5, rfl, ⟨ao5, p5, rfl, hI5, _⟩, hb5⟩; simp only [hl0] at hI5 ⊢; obtain ⟨W5, hW5⟩ : ∃ W, w5.alloc (.cells #[.int .i64 n0, .slice ao5 len0 p5] 24) = W := ⟨_, rfl⟩; have b5 : Below w3.heap.size w3 W5 := (by rw [← hW5]; exact hb5.alloc hb5.size _); have BC := Lib.hid (BC.out.trans (b5.mono BC.out.size)); have s0 : W5.cell? ⟨w5.heap.size, 0, none⟩ = some (.int .i64 n0) := (by rw [← hW5, World.cell?_alloc_new]; rfl); have s1 : W5.cell? ⟨w5.heap.size, 1, none⟩ = some (.slice ao5 len0 p5) := (by rw [← hW5, World.cell?_alloc_new]; rfl); have I5 : Hid (IArg W5 ao5 len0 p5 z0) := Lib.hid (by rw [← hW5]; exact hI5.later ((Below.refl _ _).alloc (Nat.le_refl _) _)); have A5 := Lib.hid (A3.out.later b5); have y0 := cell_later b5 y0; have y1 := cell_later b5 y1; clear hI5 hb5 b5)
      | (go_at_call 9; refine (cL _ B0.out).mono ?_; rintro e w3 ⟨v3, rfl, ⟨ao3, p3, rfl, hA3, _⟩, hb3⟩; have BC := Lib.hid (B0.out.trans (hb3.mono B0.out.size)); have y0 := cell_later hb3 x0; have y1 := cell_later hb3 x1; have A3 := Lib.hid hA3; clear hb3 hA3))
    go_ret
    exact ⟨rfl, BC.out⟩
  · subst hb
    subst he
    go_enter Try.func6, Try.ntmps6
    go_wp2_with (first
      | (go_at_call 11; refine (logOk.begs ao8 P.length p8 P _ A9.out).mono ?_; rw [f4]; rintro e w10 ⟨v10, rfl, ⟨ao10, p10, rfl, hI10, _⟩, hb10⟩; obtain ⟨W10, hW10⟩ : ∃ W, w10.alloc (.cells #[.int .i64 (getBeg P).seq, .slice ao10 (getBeg P).to.length p10] 24) = W := ⟨_, rfl⟩; have BC : Hid (Below w.heap.size w W10) := Lib.hid (by rw [← hW10]; exact (BC.out.trans (hb10.mono BC.out.size)).alloc (BC.out.trans (hb10.mono BC.out.size)).size _); clear hI10 hb10)
      | (go_at_call 17; refine (logOk.fins ao8 P.length p8 P _ A8.out).mono ?_; rw [f1, f2, f3]; rintro e w9 ⟨rfl, hb9⟩; have BC := Lib.hid (BC.out.trans (hb9.mono BC.out.size)); have A9 := Lib.hid (A8.out.later hb9); clear hb9)
      | (go_at_call 13; refine (cA _).mono ?_; rintro e w11 ⟨rfl, hb11⟩; have BC := Lib.hid (BC.out.trans (hb11.mono BC.out.size)); clear hb11)
      | (go_at_call 15; refine (cF _).mono ?_; rintro e w8 ⟨v8, rfl, ⟨ao8, p8, rfl, hA8, _⟩, hb8⟩; have BC := Lib.hid (BC.out.trans (hb8.mono BC.out.size)); have A8 := Lib.hid hA8; clear hb8 hA8)
      | (go_at_call 14; refine cI.mono ?_; rintro e w7 ⟨rfl, hb7⟩; have BC := Lib.hid (BC.out.trans (hb7.mono BC.out.size)); clear hb7)
      | (go_at_call 17; refine (logOk.fins ao3 O.length p3 O _ A5.out).mono ?_; rw [e3]; rintro e w6 ⟨rfl, hb6⟩; have BC := Lib.hid (BC.out.trans (hb6.mono BC.out.size)); have y0 := cell_later hb6 y0; have y1 := cell_later hb6 y1; have s0 := cell_later hb6 s0; have s1 := cell_later hb6 s1; have cI := ints15_any (I5.out.later hb6) (HI.out.2.1.later BC.out); rw [decide_eq_true (rfl : z0 = z0)] at cI; clear hb6)
      | (go_at_call 11; refine (logOk.begs ao3 O.length p3 O w3 A3.out).mono ?_; rw [e1, e2]; rintro e w5 ⟨v5, rfl, ⟨ao5, p5, rfl, hI5, _⟩, hb5⟩; simp only [hl0] at hI5 ⊢; obtain ⟨W5, hW5⟩ : ∃ W, w5.alloc (.cells #[.int .i64 n0, .slice ao5 len0 p5] 24) = W := ⟨_, rfl⟩; have b5 : Below w3.heap.size w3 W5 := (by rw [← hW5]; exact hb5.alloc hb5.size _); have BC := Lib.hid (BC.out.trans (b5.mono BC.out.size)); have s0 : W5.cell? ⟨w5.heap.size, 0, none⟩ = some (.int .i64 n0) := (by rw [← hW5, World.cell?_alloc_new]; rfl); have s1 : W5.cell? ⟨w5.heap.size, 1, none⟩ = some (.slice ao5 len0 p5) := (by rw [← hW5, World.cell?_alloc_new]; rfl); have I5 : Hid (IArg W5 ao5 len0 p5 z0) := Lib.hid (by rw [← hW5]; exact hI5.later ((Below.refl _ _).alloc (Nat.le_refl _) _)); have A5 := Lib.hid (A3.out.later b5); have y0 := cell_later b5 y0; have y1 := cell_later b5 y1; clear hI5 hb5 b5)
      | (go_at_call 9; refine (cL _ B0.out).mono ?_; rintro e w3 ⟨v3, rfl, ⟨ao3, p3, rfl, hA3, _⟩, hb3⟩; have BC := Lib.hid (B0.out.trans (hb3.mono B0.out.size)); have y0 := cell_later hb3 x0; have y1 := cell_later hb3 x1; have A3 := Lib.hid hA3; clear hb3 hA3))
    go_ret
    exact ⟨rfl, BC.out⟩

/-! ### The law's step -/
set_option maxRecDepth 100000 in
theorem lifted (os : Os) (started : os.Started) (H : Type) (enc : TypeId × Value → H) :
    ReturnsInHanded {} Try.checked os 6 .any (Rows.logBackSpec.pre6 enc Try.prog Try.f6 Rows.logBackRow.domain false) (Rows.logBackSpec.post enc Try.prog Try.f6 false true false false) := by
  refine returnsInHanded_of_change_sized (C := Try.checked) own started (by kernel_rfl) Try.func6
    (ChangeSpec.witness6 (enc := enc) (C := Try.checked) false ⟨#[], #[.agg #[.int .i64 0, .slice none 0 0], .int .i64 0, .int .i64 0], []⟩ 8 (by kernel_rfl) (by kernel_rfl) (by kernel_rfl) (by kernel_rfl)) ?_
  intro W base args ds gs before hval0 hW hcnd hsz0 _
  have hsz : (DataW.weightsEach Try.prog (Try.f6.params.toList ++ Rows.logBackSpec.plain.varTypes Try.prog) (ds ++ gs)).all (· ≤ reachBytes) = true := hsz0
  clear hsz0
  have hval : ∀ (j : Nat) t v, Try.f6.params[j]? = some t → args[j]? = some v → Value.okWide Try.prog W .any base t v := hval0
  have hW' := hW
  obtain ⟨p, q, hA0, hV, rfl, hfz, hnd⟩ := hW
  have hA : DataW.TrodAll enc Try.prog W 0 (fun _ => true) true Try.f6.params.toList args.toList ds p := hA0
  rw [Try.params6] at hA hval hsz
  obtain ⟨v0, vs0, d0, ds0, p0, q0, hargs, rfl, rfl, h0, r0⟩ := trodAll_cons hA
  obtain ⟨v1, vs1, d1, ds1, p1, q1, rfl, rfl, rfl, h1, r1⟩ := trodAll_cons r0
  obtain ⟨v2, vs2, d2, ds2, p2, q2, rfl, rfl, rfl, h2, r2⟩ := trodAll_cons r1
  obtain ⟨rfl, rfl, rfl⟩ := trodAll_nil r2
  obtain rfl : args = #[v0, v1, v2] := by cases args; simp_all
  obtain ⟨rfl, rfl⟩ := trodVars_none hV
  have k0 := h0
  have lt0 : ∀ x ∈ p0, x.block < W.heap.size := by obtain ⟨m, hm⟩ := k0; exact DataW.trod_lt m _ _ _ hm
  obtain ⟨n0, a0, len0, cap0, z0, rfl, w0⟩ := open_desc (hval 0 24 v0 rfl rfl) h0 (weights_ofT hsz (j := 0) rfl rfl)
  have k1 := h1
  have lt1 : ∀ x ∈ p1, x.block < W.heap.size := by obtain ⟨m, hm⟩ := k1; exact DataW.trod_lt m _ _ _ hm
  obtain ⟨a1, rfl, _, _, w1⟩ := open_int Try.underlying3 (hval 1 3 v1 rfl rfl) h1
  have k2 := h2
  have lt2 : ∀ x ∈ p2, x.block < W.heap.size := by obtain ⟨m, hm⟩ := k2; exact DataW.trod_lt m _ _ _ hm
  obtain ⟨a2, rfl, _, _, w2⟩ := open_int Try.underlying3 (hval 2 3 v2 rfl rfl) h2
  clear hA0 hval0
  refine (walk n0 a0 len0 cap0 z0 a1 a2 W w0 w1 w2).mono fun e W' ⟨he, bel⟩ => ?_
  subst he
  exact ⟨_, rfl, _, _, _, [], _, [], hW', trodAll_mk1 (shut_bool Try.underlying4 _), (trodAll_cons_mk (Below.trod laidOut (by kernel_rfl) (of_decide_eq_true (by kernel_rfl)) k0 bel lt0) (trodAll_cons_mk (Below.trod laidOut (by kernel_rfl) (of_decide_eq_true (by kernel_rfl)) k1 bel lt1) (trodAll_cons_mk (Below.trod laidOut (by kernel_rfl) (of_decide_eq_true (by kernel_rfl)) k2 bel lt2) trodAll_mk0))), rfl, bel.frame _, fun h => by cases h⟩

theorem over : Rows.logBackRow.holds Try.pinned (OpenSpec.ofChange Rows.logBackSpec) :=
  OpenClaim.holds_of_wide 6 Try.f6 rfl rfl rfl rfl rfl rfl rfl ⟨rfl, rfl, rfl, rfl, rfl⟩ rfl rfl rfl rfl rfl (by kernel_rfl) Try.func6 (by kernel_rfl)
    (of_decide_eq_true (by kernel_rfl)) (by unfold Func.isWrapper; first | (rw [if_pos (by decide +kernel)]; kernel_rfl) | (rw [if_neg (by decide +kernel)]; exact ⟨rfl, rfl⟩))
    (fun os started H enc _ => lifted os started H enc)

/-- The statement. -/
theorem proved : Rows.LogBackSaid := over
end Go.Proofs.Ytpmggbdmoopkfaa.logBack
