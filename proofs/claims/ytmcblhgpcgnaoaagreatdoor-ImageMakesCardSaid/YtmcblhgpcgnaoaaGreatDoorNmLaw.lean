/-
  Proved here: an empty volume of any size is made as the document says, and no other. No other conditions.
-/
import Derived.Test.YtmcblhgpcgnaoaaGreatDoorNm15
import Derived.Test.YtmcblhgpcgnaoaaGreatDoorNm16
import Derived.Test.YtmcblhgpcgnaoaaGreatDoorNm17
import Derived.Test.YtmcblhgpcgnaoaaGreatDoorCards
import Derived.Test.YtmcblhgpcgnaoaaGreatDoorTie
import Derived.WalkKit
import Derived.ProofKit
import Derived.OpenShut
import Derived.Deep.DeepHandedRow
import Derived.Lay
import Derived.MakeChecks
namespace Go.Proofs.YtmcblhgpcgnaoaaGreatDoor.imageMakes
open Go.ChangeShapes Go.WideShapes Go.ChangeAt Go.RowKit
open Go.ChangeMaps (open_string shut_string)
set_option linter.unusedVariables false
set_option linter.unusedSimpArgs false

set_option maxRecDepth 100000 in
set_option maxHeartbeats 3200000 in
theorem walk (a0 : Int) (a1 : Int) (w : World) (w0 : (Lit.int .i64 a0).wf = true) (w1 : (Lit.int .i64 a1).wf = true) :
    Calls Tryz.prog 3 #[.int .i64 a0, .int .i64 a1] w fun e w' => e = .returned (.bool true) ∧ Below w.heap.size w w' := by
  by_cases hin : (64 ≤ a0 ∧ a0 ≤ 480) ∧ (a1 = 1 ∨ a1 = 2)
  · obtain ⟨⟨h1, h2⟩, h3⟩ := hin
    obtain ⟨n, rfl⟩ : ∃ n : Nat, a0 = (n : Int) := ⟨a0.toNat, by omega⟩
    have hf : 1 ≤ a1 ∧ a1 ≤ 2 := by omega
    have hn1 : 64 ≤ n := by omega
    have hn2 : n ≤ 480 := by omega
    have HM := Lib.hid (makes_ok n a1 w hn1 hn2 hf)
    have HE := Lib.hid (fun W => REmpty17_any (f := a1) W hn1 hn2 hf)
    have HBL := Lib.hid (fun (W : World) (a : Addr) (F : Nat → Prop) (h : ImgI W a F ⟨emptyP n a1, emptyP n a1, emptyP n a1⟩) => iblocks_empty h hn1)
    have HSU := Lib.hid (fun (W : World) (a : Addr) (F : Nat → Prop) (h : ImgI W a F ⟨emptyP n a1, emptyP n a1, emptyP n a1⟩) => isuper_empty h hn1 hn2 hf)
    have HFR := Lib.hid (fun (W : World) (a : Addr) (F : Nat → Prop) (h : ImgI W a F ⟨emptyP n a1, emptyP n a1, emptyP n a1⟩) => ifree_empty h hn1 hn2 hf)
    have HCH := Lib.hid (fun (W : World) (a : Addr) (F : Nat → Prop) (h : ImgI W a F ⟨emptyP n a1, emptyP n a1, emptyP n a1⟩) => ichanges_none h rfl)
    have c1 : (64 : Int) ≤ (n : Int) := by omega
    have c2 : (n : Int) ≤ 480 := by omega
    have c3 : n ≤ 480 := hn2
    have hfld : ∀ (v0 v1 v2 v3 v4 : Value) (w : World), (Instr.field 32 (.agg #[v0, v1, v2, v3, v4]) 0).run Tryz.prog w = .ok v0 w := fun _ _ _ _ _ _ => by kernel_rfl
    clear hf hn1 hn2 h1 h2 w0 w1
    rcases h3 with rfl | rfl
    all_goals
      go_enter Tryz.func3, Tryz.ntmps3
      go_wp2_with (first
        | (go_at_call 11; refine HM.out.mono ?_; rintro e w1 ⟨a, F, rfl, hI, hF, hb⟩; have H1 := Lib.hid (And.intro hI (And.intro hF hb)); clear hI hF hb HM)
        | (go_at_call 12; refine (awake17_any _).mono ?_; rintro e w2 ⟨rfl, hb⟩; have H2 := Lib.hid (And.intro (H1.out.1.later hb) (H1.out.2.2.trans (hb.mono H1.out.2.2.size))); clear hb)
        | (go_at_call 14; refine (HBL.out _ _ _ H2.out.1).mono ?_; rintro e w3 ⟨bo, bc, rfl, hr, hb⟩; have H3 := Lib.hid (And.intro (H2.out.1.later hb) (H2.out.2.trans (hb.mono H2.out.2.size))); have HR3 := Lib.hid hr; clear hb hr HBL)
        | (go_at_call 15; refine (HE.out _).mono ?_; rintro e w4 ⟨eo, ec, rfl, hr, hb⟩; have H4 := Lib.hid (And.intro (H3.out.1.later hb) (H3.out.2.trans (hb.mono H3.out.2.size))); have HR4 := Lib.hid (And.intro (HR3.out.later hb) hr); clear hb hr HE)
        | (go_at_call 13; refine (RSame17_any _ HR4.out.1 HR4.out.2 (by omega)).mono ?_; rw [show decide (emptyP n _ = emptyP n _) = true from decide_eq_true rfl]; rintro e w5 ⟨rfl, hb⟩; have H5 := Lib.hid (And.intro (H4.out.1.later hb) (H4.out.2.trans (hb.mono H4.out.2.size))); clear hb)
        | (go_at_call 16; refine (HSU.out _ _ _ H5.out.1).mono ?_; rintro e w6 ⟨rfl, hb⟩; have H6 := Lib.hid (And.intro (H5.out.1.later hb) (H5.out.2.trans (hb.mono H5.out.2.size))); clear hb HSU)
        | (go_at_call 17; refine (HFR.out _ _ _ H6.out.1).mono ?_; rintro e w7 ⟨rfl, hb⟩; have H7 := Lib.hid (And.intro (H6.out.1.later hb) (H6.out.2.trans (hb.mono H6.out.2.size))); clear hb HFR)
        | (go_at_call 18; refine (HCH.out _ _ _ H7.out.1).mono ?_; rintro e w8 ⟨rfl, hb⟩; have H8 := Lib.hid (H7.out.2.trans (hb.mono H7.out.2.size)); clear hb HCH))
      go_ret
      exact ⟨rfl, H8.out⟩
  · have hno : inI a0 64 480 = false ∨ inI a1 1 2 = false := by
      by_cases h1 : 64 ≤ a0 ∧ a0 ≤ 480
      · exact Or.inr (decide_eq_false (fun h => hin ⟨h1, by omega⟩))
      · exact Or.inl (decide_eq_false h1)
    have HM := Lib.hid (makes_no a0 a1 w hno)
    clear hno
    have hway : a0 < 64 ∨ (64 ≤ a0 ∧ 480 < a0) ∨ ((64 ≤ a0 ∧ a0 ≤ 480) ∧ (a1 != 1) = true ∧ (a1 != 2) = true) := by
      by_cases q1 : a0 < 64
      · exact Or.inl q1
      · by_cases q2 : 480 < a0
        · exact Or.inr (Or.inl ⟨by omega, q2⟩)
        · refine Or.inr (Or.inr ⟨⟨by omega, by omega⟩, ?_, ?_⟩) <;> (simp; intro q3; exact hin ⟨⟨by omega, by omega⟩, by omega⟩)
    clear hin w0 w1
    rcases hway with q1 | ⟨q1, q2⟩ | ⟨⟨q1, q2⟩, q3, q4⟩
    all_goals
      go_enter Tryz.func3, Tryz.ntmps3
      go_wp2_with (first
        | (go_at_call 11; refine HM.out.mono ?_; rintro e w1 ⟨rfl, rfl⟩)
        | (go_at_call 12; refine (awake17_any _).mono ?_; rintro e w2 ⟨rfl, hb⟩; have H2 := Lib.hid hb; clear hb))
      go_ret
      exact ⟨rfl, H2.out⟩

/-! ### The law's step -/
set_option maxRecDepth 100000 in
theorem contract (H : Type) (enc : TypeId × Value → H) (W : World) (base : Nat) (args : Array Value) (ds gs : List (DataW H)) (before : List MemPlace)
    (hval0 : ∀ (j : Nat) t v, Tryz.f3.params[j]? = some t → args[j]? = some v → Value.okWide Tryz.prog W .any base t v)
    (hW : DataW.Whole enc Tryz.prog Tryz.f3.params.toList Rows.imageMakesSpec.vars false W args.toList ds gs before)
    (hsz0 : (DataW.weightsEach Tryz.prog (Tryz.f3.params.toList ++ (OpenSpec.ofChange Rows.imageMakesSpec).bare.plain.varTypes Tryz.prog) (ds ++ gs)).all (· ≤ reachBytes) = true) :
    Calls Tryz.prog 3 args W fun e W' => ∃ v, e = .returned v ∧ Rows.imageMakesSpec.post enc Tryz.prog Tryz.f3 false true false false W args v W' := by
  have hsz : (DataW.weightsEach Tryz.prog (Tryz.f3.params.toList ++ Rows.imageMakesSpec.plain.varTypes Tryz.prog) (ds ++ gs)).all (· ≤ reachBytes) = true := hsz0
  clear hsz0
  have hval : ∀ (j : Nat) t v, Tryz.f3.params[j]? = some t → args[j]? = some v → Value.okWide Tryz.prog W .any base t v := hval0
  have hW' := hW
  obtain ⟨p, q, hA0, hV, rfl, hfz, hnd⟩ := hW
  have hA : DataW.TrodAll enc Tryz.prog W 0 (fun _ => true) true Tryz.f3.params.toList args.toList ds p := hA0
  rw [Tryz.params3] at hA hval hsz
  obtain ⟨v0, vs0, d0, ds0, p0, q0, hargs, rfl, rfl, h0, r0⟩ := trodAll_cons hA
  obtain ⟨v1, vs1, d1, ds1, p1, q1, rfl, rfl, rfl, h1, r1⟩ := trodAll_cons r0
  obtain ⟨rfl, rfl, rfl⟩ := trodAll_nil r1
  obtain rfl : args = #[v0, v1] := by cases args; simp_all
  obtain ⟨rfl, rfl⟩ := trodVars_none hV
  have k0 := h0
  have lt0 : ∀ x ∈ p0, x.block < W.heap.size := by obtain ⟨m, hm⟩ := k0; exact DataW.trod_lt m _ _ _ hm
  obtain ⟨a0, rfl, _, _, w0⟩ := open_int Tryz.underlying3 (hval 0 3 v0 rfl rfl) h0
  have k1 := h1
  have lt1 : ∀ x ∈ p1, x.block < W.heap.size := by obtain ⟨m, hm⟩ := k1; exact DataW.trod_lt m _ _ _ hm
  obtain ⟨a1, rfl, _, _, w1⟩ := open_int Tryz.underlying3 (hval 1 3 v1 rfl rfl) h1
  clear hA0 hval0
  refine (walk a0 a1 W w0 w1).mono fun e W' ⟨he, bel⟩ => ?_
  subst he
  exact ⟨_, rfl, _, _, _, [], _, [], hW', trodAll_mk1 (shut_bool Tryz.underlying4 _), (trodAll_cons_mk (Below.trod laidOut (by kernel_rfl) (of_decide_eq_true (by kernel_rfl)) k0 bel lt0) (trodAll_cons_mk (Below.trod laidOut (by kernel_rfl) (of_decide_eq_true (by kernel_rfl)) k1 bel lt1) trodAll_mk0)), rfl, bel.frame _, fun h => by cases h⟩

noncomputable def laidWorld (os : Os) : World := World.laidAll Tryz.prog os Rows.imageMakesRow.laid
theorem laid_met (os : Os) : laidMetH Tryz.prog Rows.imageMakesRow.laid ((laidWorld os).forCall (fun _ _ => 0) ⟨#[], #[.int .i64 0, .int .i64 0], []⟩).memory := by
  rw [MakeChecks.laidMetH_plain _ _ _ (by kernel_rfl)]
  exact laidMet_laidAll _ (by kernel_rfl) (by kernel_rfl)

set_option maxRecDepth 100000 in
theorem lifted (os : Os) (started : os.Started) (H : Type) (enc : TypeId × Value → H) (F : Stop.Interp) :
    ReturnsInHanded {} Tryz.checked os 3 .any ((OpenSpec.ofChange Rows.imageMakesSpec).preRow enc Tryz.prog Tryz.f3 Rows.imageMakesRow.domain false Rows.imageMakesRow.laid) (((OpenSpec.ofChange Rows.imageMakesSpec).at F).post enc Tryz.prog Tryz.f3 false true false false) := by
  obtain ⟨x, hx⟩ : ∃ x, DataW.whole enc Tryz.prog ((laidWorld os).forCall (fun _ _ => 0) ⟨#[], #[.int .i64 0, .int .i64 0], []⟩).memory Tryz.f3.params.toList Rows.imageMakesSpec.vars false #[.int .i64 0, .int .i64 0].toList 8 = some x := Option.isSome_iff_exists.1 (by kernel_rfl)
  refine returnsInHanded_of_row (C := Tryz.checked) (s := OpenSpec.ofChange Rows.imageMakesSpec) own started (by kernel_rfl) Tryz.func3
    (witness_row_at (enc := enc) (C := Tryz.checked) false (laidWorld os) #[.int .i64 0, .int .i64 0] (World.laidAll_os _ _ _) (by kernel_rfl) (by kernel_rfl) (by kernel_rfl)
      (OpenSpec.preRow_of_cond 8 hx (by kernel_rfl) (fun k hk => by cases hk) (by kernel_rfl) (laid_met os))) ?_
  intro W base args ds gs before hval hW _ _ hsz _ _ _
  exact contract H enc W base args ds gs before hval hW hsz

theorem said : Rows.ImageMakesSaid :=
  OpenClaim.holds_of_cond 3 Tryz.f3 rfl rfl rfl rfl rfl rfl rfl ⟨rfl, rfl, rfl, rfl, rfl⟩ rfl rfl rfl rfl rfl (by kernel_rfl) Tryz.func3 closed
    (of_decide_eq_true (by kernel_rfl)) (by unfold Func.isWrapper; first | (rw [if_pos (by decide +kernel)]; kernel_rfl) | (rw [if_neg (by decide +kernel)]; exact ⟨rfl, rfl⟩))
    (fun os started H enc _ F => by rw [OpenClaim.pre_eq_preRow]; exact lifted os started H enc F)

theorem plain (f : FuncId) (fn : Func) (hf : Tryz.pinned.checked.prog.funcNamed "drydock/drydocklaw17.ImageMakes" = some f) (hfn : Tryz.pinned.checked.prog.funcs[f]? = some fn) :
    false = Tryz.pinned.checked.prog.looks [] ∧ ∀ (j : Nat) t, fn.params[j]? = some t → Tryz.pinned.checked.prog.wantsStandIn t = false := by
  obtain rfl : f = 3 := Option.some.inj ((show Tryz.prog.funcNamed "drydock/drydocklaw17.ImageMakes" = some 3 by kernel_rfl).symm.trans hf) |>.symm
  obtain rfl : fn = Tryz.f3 := (Option.some.inj (Tryz.func3.symm.trans hfn)).symm
  refine ⟨by kernel_rfl, fun j t ht => ?_⟩
  rw [Tryz.params3] at ht
  match j, ht with
  | 0, ht =>
    obtain rfl : 3 = t := Option.some.inj ht
    exact (show Tryz.prog.wantsStandIn 3 = false by kernel_rfl)
  | 1, ht =>
    obtain rfl : 3 = t := Option.some.inj ht
    exact (show Tryz.prog.wantsStandIn 3 = false by kernel_rfl)
  | _ + 2, ht => simp at ht

/-- The card. -/
theorem proved : Rows.ImageMakesCardSaid :=
  Claim7.holds_tied_plain_at .later [] _ _ _ _ said (fun _ h => by cases h) (by kernel_rfl) (fun _ h => by cases h) imageMakes_row_tie rfl ⟨rfl, rfl⟩ (by kernel_rfl) rfl plain (by kernel_rfl)
end Go.Proofs.YtmcblhgpcgnaoaaGreatDoor.imageMakes

