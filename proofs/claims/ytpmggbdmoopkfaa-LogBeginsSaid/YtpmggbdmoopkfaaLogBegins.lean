/-
  Proved here: any descriptor is made a block, and any block read, as the document says; of a log that answers so. No other conditions.
-/
import Derived.Test.YtpmggbdmoopkfaaLogInts
import Derived.Test.YtpmggbdmoopkfaaLogLand
import Derived.WalkKit
namespace Go.Proofs.Ytpmggbdmoopkfaa.logBegins
open Go.ChangeShapes Go.WideShapes Go.ChangeAt Go.RowKit
open Go.ChangeMaps (open_string shut_string)
set_option linter.unusedVariables false
set_option linter.unusedSimpArgs false

set_option maxRecDepth 100000 in
set_option maxHeartbeats 6400000 in
theorem walk (n0 : Int) (a0 : Option Addr) (len0 cap0 : Nat) (z0 : List Int) (a1 : Option Addr) (len1 cap1 : Nat) (z1 : List Int) (w : World) (w0 : I64 n0 ∧ IArg w a0 len0 cap0 z0 ∧ cap0 ≤ 17592186043904) (w1 : IsRow .u8 w a1 len1 cap1 z1) (rch1 : cap1 ≤ 140737488351232) :
    Calls Try.prog 3 #[.agg #[.int .i64 n0, .slice a0 len0 cap0], .slice a1 len1 cap1] w fun e w' => e = .returned (.bool true) ∧ Below w.heap.size w w' := by
  have A1 := w1.arg rch1
  have HA1 := Lib.hid A1
  have HI := Lib.hid w0
  clear A1 w0 w1 rch1
  generalize z1.take len1 = zs at HA1
  have cL := fun W (hW : Below w.heap.size w W) => logOk.beg n0 HI.out.1 (HI.out.2.1.later hW)
  have cR := fun W (hW : Below w.heap.size w W) => RBegin_any n0 (HI.out.2.1.later hW)
  have cM := fun W (hW : Below w.heap.size w W) => logOk.begs _ _ cap1 _ W (HA1.out.later hW)
  have cN := fun W (hW : Below w.heap.size w W) => RBegins_any a1 len1 cap1 zs W (HA1.out.later hW).1
  have cA := fun W => awake15 logOk W
  have HEq := Lib.hid (str_eq (l := begOut ⟨n0, z0⟩) (m := begOut ⟨n0, z0⟩))
  generalize begOut ⟨n0, z0⟩ = O at *
  generalize begErr ⟨n0, z0⟩ = E at *
  generalize getBegErr zs = eE at *
  generalize getBeg zs = D at *
  obtain ⟨dq, to⟩ := D
  obtain ⟨W0, hW0⟩ : ∃ W0, w.alloc (.cells #[.int .i64 n0, .slice a0 len0 cap0] 24) = W0 := ⟨_, rfl⟩
  have B0 : Hid (Below w.heap.size w W0) := Lib.hid (by rw [← hW0]; exact (Below.refl _ _).alloc (Nat.le_refl _) _)
  have x0 : W0.cell? ⟨w.heap.size, 0, none⟩ = some (.int .i64 n0) := by rw [← hW0, World.cell?_alloc_new]; rfl
  have x1 : W0.cell? ⟨w.heap.size, 1, none⟩ = some (.slice a0 len0 cap0) := by rw [← hW0, World.cell?_alloc_new]; rfl
  go_enter Try.func3, Try.ntmps3
  go_wp2_with (first
    | (go_at_call 9; refine (cL _ B0.out).mono ?_; rintro e w3 ⟨v3, rfl, hf3, hb3⟩; have B3 := Lib.hid (B0.out.trans (hb3.mono B0.out.size)); have F3 := Lib.hid hf3; have y0 := cell_later hb3 x0; have y1 := cell_later hb3 x1; clear hf3 hb3)
    | (go_at_call 10; refine (cR _ B3.out).mono ?_; rintro e w4 ⟨v4, rfl, hf4, hb4⟩; have B4 := Lib.hid (B3.out.trans (hb4.mono B3.out.size)); have F4 := Lib.hid hf4; have G3 := Lib.hid (F3.out.later hb4); clear hf4 hb4)
    | (go_at_call 11; refine (cM _ B4.out).mono ?_; rintro e w5 ⟨v5, rfl, ⟨ao5, p5, rfl, hI5, _⟩, hb5⟩; obtain ⟨W5, hW5⟩ : ∃ W, w5.alloc (.cells #[.int .i64 dq, .slice ao5 to.length p5] 24) = W := ⟨_, rfl⟩; have b5 : Below w4.heap.size w4 W5 := (by rw [← hW5]; exact hb5.alloc hb5.size _); have B5 := Lib.hid (B4.out.trans (b5.mono B4.out.size)); have s0 : W5.cell? ⟨w5.heap.size, 0, none⟩ = some (.int .i64 dq) := (by rw [← hW5, World.cell?_alloc_new]; rfl); have s1 : W5.cell? ⟨w5.heap.size, 1, none⟩ = some (.slice ao5 to.length p5) := (by rw [← hW5, World.cell?_alloc_new]; rfl); have I5 : Hid (IArg W5 ao5 to.length p5 to) := Lib.hid (by rw [← hW5]; exact hI5.later ((Below.refl _ _).alloc (Nat.le_refl _) _)); have G3 := Lib.hid (G3.out.later b5); have F4 := Lib.hid (F4.out.later b5); clear hI5 hb5 b5)
    | (go_at_call 12; refine (cN _ B5.out).mono ?_; rintro e w6 ⟨v6, rfl, ⟨ao6, p6, rfl, hI6, _⟩, hb6⟩; obtain ⟨W6, hW6⟩ : ∃ W, w6.alloc (.cells #[.int .i64 dq, .slice ao6 to.length p6] 24) = W := ⟨_, rfl⟩; have b6 : Below W5.heap.size W5 W6 := (by rw [← hW6]; exact hb6.alloc hb6.size _); have B6 := Lib.hid (B5.out.trans (b6.mono B5.out.size)); have t0 : W6.cell? ⟨w6.heap.size, 0, none⟩ = some (.int .i64 dq) := (by rw [← hW6, World.cell?_alloc_new]; rfl); have t1 : W6.cell? ⟨w6.heap.size, 1, none⟩ = some (.slice ao6 to.length p6) := (by rw [← hW6, World.cell?_alloc_new]; rfl); have I6 : Hid (IArg W6 ao6 to.length p6 to) := Lib.hid (by rw [← hW6]; exact hI6.later ((Below.refl _ _).alloc (Nat.le_refl _) _)); have G3 := Lib.hid (G3.out.later b6); have F4 := Lib.hid (F4.out.later b6); have s0 := cell_later b6 s0; have s1 := cell_later b6 s1; have I5 := Lib.hid (I5.out.later b6); clear hI6 hb6 b6)
    | (go_at_call 13; refine (cA _).mono ?_; rintro e w7 ⟨rfl, hb7⟩; have B7 := Lib.hid (B6.out.trans (hb7.mono B6.out.size)); have k1 := fresh_str (G3.out.later hb7); have k2 := fresh_str (F4.out.later hb7); have s0 := cell_later hb7 s0; have s1 := cell_later hb7 s1; have t0 := cell_later hb7 t0; have t1 := cell_later hb7 t1; have cI := ints15_any (I5.out.later hb7) (I6.out.later hb7); rw [decide_eq_true (rfl : to = to)] at cI; clear hb7)
    | (go_at_call 14; refine cI.mono ?_; rintro e w8 ⟨rfl, hb8⟩; have B8 := Lib.hid (B7.out.trans (hb8.mono B7.out.size)); clear hb8))
  go_ret
  exact ⟨rfl, B8.out⟩

/-! ### The law's step -/
set_option maxRecDepth 100000 in
theorem lifted (os : Os) (started : os.Started) (H : Type) (enc : TypeId × Value → H) :
    ReturnsInHanded {} Try.checked os 3 .any (Rows.logBeginsSpec.pre6 enc Try.prog Try.f3 Rows.logBeginsRow.domain false) (Rows.logBeginsSpec.post enc Try.prog Try.f3 false true false false) := by
  refine returnsInHanded_of_change_sized (C := Try.checked) own started (by kernel_rfl) Try.func3
    (ChangeSpec.witness6 (enc := enc) (C := Try.checked) false ⟨#[], #[.agg #[.int .i64 0, .slice none 0 0], .slice none 0 0], []⟩ 8 (by kernel_rfl) (by kernel_rfl) (by kernel_rfl) (by kernel_rfl)) ?_
  intro W base args ds gs before hval0 hW hcnd hsz0 _
  have hsz : (DataW.weightsEach Try.prog (Try.f3.params.toList ++ Rows.logBeginsSpec.plain.varTypes Try.prog) (ds ++ gs)).all (· ≤ reachBytes) = true := hsz0
  clear hsz0
  have hval : ∀ (j : Nat) t v, Try.f3.params[j]? = some t → args[j]? = some v → Value.okWide Try.prog W .any base t v := hval0
  have hW' := hW
  obtain ⟨p, q, hA0, hV, rfl, hfz, hnd⟩ := hW
  have hA : DataW.TrodAll enc Try.prog W 0 (fun _ => true) true Try.f3.params.toList args.toList ds p := hA0
  rw [Try.params3] at hA hval hsz
  obtain ⟨v0, vs0, d0, ds0, p0, q0, hargs, rfl, rfl, h0, r0⟩ := trodAll_cons hA
  obtain ⟨v1, vs1, d1, ds1, p1, q1, rfl, rfl, rfl, h1, r1⟩ := trodAll_cons r0
  obtain ⟨rfl, rfl, rfl⟩ := trodAll_nil r1
  obtain rfl : args = #[v0, v1] := by cases args; simp_all
  obtain ⟨rfl, rfl⟩ := trodVars_none hV
  have k0 := h0
  have lt0 : ∀ x ∈ p0, x.block < W.heap.size := by obtain ⟨m, hm⟩ := k0; exact DataW.trod_lt m _ _ _ hm
  obtain ⟨n0, a0, len0, cap0, z0, rfl, w0⟩ := open_desc (hval 0 24 v0 rfl rfl) h0 (weights_ofT hsz (j := 0) rfl rfl)
  have k1 := h1
  have lt1 : ∀ x ∈ p1, x.block < W.heap.size := by obtain ⟨m, hm⟩ := k1; exact DataW.trod_lt m _ _ _ hm
  obtain ⟨a1, len1, cap1, rfl⟩ := okWide_slice Try.underlying25 (hval 1 25 v1 rfl rfl)
  obtain ⟨z1, w1, rch1⟩ := open_bytes k1 (fun e s hd => sized_slice hsz (j := 1) (t := 25) (e := 5) rfl (by rw [hd]; rfl) Try.underlying25)
  clear hA0 hval0
  refine (walk n0 a0 len0 cap0 z0 a1 len1 cap1 z1 W w0 w1 rch1).mono fun e W' ⟨he, bel⟩ => ?_
  subst he
  exact ⟨_, rfl, _, _, _, [], _, [], hW', trodAll_mk1 (shut_bool Try.underlying4 _), (trodAll_cons_mk (Below.trod laidOut (by kernel_rfl) (of_decide_eq_true (by kernel_rfl)) k0 bel lt0) (trodAll_cons_mk (Below.trod laidOut (by kernel_rfl) (of_decide_eq_true (by kernel_rfl)) k1 bel lt1) trodAll_mk0)), rfl, bel.frame _, fun h => by cases h⟩

theorem over : Rows.logBeginsRow.holds Try.pinned (OpenSpec.ofChange Rows.logBeginsSpec) :=
  OpenClaim.holds_of_wide 3 Try.f3 rfl rfl rfl rfl rfl rfl rfl ⟨rfl, rfl, rfl, rfl, rfl⟩ rfl rfl rfl rfl rfl (by kernel_rfl) Try.func3 (by kernel_rfl)
    (of_decide_eq_true (by kernel_rfl)) (by unfold Func.isWrapper; first | (rw [if_pos (by decide +kernel)]; kernel_rfl) | (rw [if_neg (by decide +kernel)]; exact ⟨rfl, rfl⟩))
    (fun os started H enc _ => lifted os started H enc)

/-- The statement. -/
theorem proved : Rows.LogBeginsSaid := over
end Go.Proofs.Ytpmggbdmoopkfaa.logBegins
