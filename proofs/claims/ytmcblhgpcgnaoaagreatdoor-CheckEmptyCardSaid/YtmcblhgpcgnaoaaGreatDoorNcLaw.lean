/-
  Proved here: an empty volume of any size is sound. No other conditions.
-/
import Derived.Test.YtmcblhgpcgnaoaaGreatDoorNc18
import Derived.Test.YtmcblhgpcgnaoaaGreatDoorNc19
import Derived.Test.YtmcblhgpcgnaoaaGreatDoorNc17
import Derived.Test.YtmcblhgpcgnaoaaGreatDoorCards
import Derived.Test.YtmcblhgpcgnaoaaGreatDoorTie
import Derived.WalkKit
import Derived.ProofKit
import Derived.OpenShut
import Derived.Deep.DeepHandedRow
import Derived.Lay
import Derived.MakeChecks
namespace Go.Proofs.YtmcblhgpcgnaoaaGreatDoor.checkEmpty
open Go.ChangeShapes Go.WideShapes Go.ChangeAt Go.RowKit
open Go.ChangeMaps (open_string shut_string)
set_option linter.unusedVariables false
set_option linter.unusedSimpArgs false

set_option maxRecDepth 100000 in
set_option maxHeartbeats 1600000 in
theorem awake18_any (w : World) : Calls Tryz.prog 36 #[] w fun e w' => e = .returned (.bool true) ∧ Below w.heap.size w w' := by
  have HE2 := Lib.hid (fun W => REmpty17_any (n := 70) (f := 2) W (by decide) (by decide) (by decide))
  have HE1 := Lib.hid (fun W => REmpty17_any (n := 70) (f := 1) W (by decide) (by decide) (by decide))
  have HC := Lib.hid (fun (W : World) (ao : Option Addr) (c : Nat) (h : RowsIn W ao 70 c (emptyP 70 2)) => check_empty W h (by decide) (by decide) (by decide))
  have HU := Lib.hid (fun (W : World) (ao : Option Addr) (c : Nat) (h : RowsIn W ao 70 c (emptyP 70 1)) => used_empty W h (by decide) (by decide) (by decide))
  rw [show ((70 : Nat) : Int) = 70 from rfl] at HE1 HE2
  go_enter Tryz.func36, Tryz.ntmps36
  go_wp2_with (first
    | (go_at_call 15; refine (HE2.out _).mono ?_; rintro e w1 ⟨eo, ec, rfl, hr, hb⟩; have HR1 := Lib.hid hr; have H1 := Lib.hid hb; clear hr hb HE2)
    | (go_at_call 37; refine (HC.out _ _ _ HR1.out).mono ?_; rintro e w2 ⟨rfl, hb⟩; have H2 := Lib.hid (H1.out.trans (hb.mono H1.out.size)); clear hb HC HR1)
    | (go_at_call 15; refine (HE1.out _).mono ?_; rintro e w3 ⟨fo, fc, rfl, hr, hb⟩; have HR3 := Lib.hid hr; have H3 := Lib.hid (H2.out.trans (hb.mono H2.out.size)); clear hr hb HE1)
    | (go_at_call 38; refine (HU.out _ _ _ HR3.out).mono ?_; rintro e w4 ⟨g, cap, rfl, hc, hcap, hb⟩; have H4 := Lib.hid (H3.out.trans (hb.mono H3.out.size)); clear hb HU HR3))
  go_ret
  exact ⟨rfl, H4.out⟩

set_option maxRecDepth 100000 in
set_option maxHeartbeats 3200000 in
theorem walk (a0 : Int) (b1 : Bool) (w : World) (w0 : (Lit.int .u16 a0).wf = true)  :
    Calls Tryz.prog 9 #[.int .u16 a0, .bool b1] w fun e w' => e = .returned (.bool true) ∧ Below w.heap.size w w' := by
  have hw0 := wf_u16 w0
  obtain ⟨n, hn, h1, h2⟩ : ∃ n : Nat, a0 % 417 + 64 = (n : Int) ∧ 64 ≤ n ∧ n ≤ 480 := ⟨(a0 % 417 + 64).toNat, by omega, by omega, by omega⟩
  obtain ⟨q, hq⟩ : ∃ q, a0 % 417 = q := ⟨_, rfl⟩
  have ht : Int.tmod a0 417 = q := by rw [← hq]; exact Int.tmod_eq_emod_of_nonneg hw0.1
  have hq2 : 0 ≤ q ∧ q ≤ 416 := by omega
  rw [hq] at hn
  clear w0
  have HF : Hid ((if b1 then (2 : Int) else 1) = 2 ∨ (if b1 then (2 : Int) else 1) = 1) := Lib.hid (by cases b1 <;> decide)
  obtain ⟨f, hfv⟩ : ∃ f : Int, (if b1 then (2 : Int) else 1) = f := ⟨_, rfl⟩
  have hf : 1 ≤ f ∧ f ≤ 2 := by rcases HF.out with h | h <;> omega
  have HM := Lib.hid (makes_ok n f w h1 h2 hf)
  have HBL := Lib.hid (fun (W : World) (a : Addr) (F : Nat → Prop) (h : ImgI W a F ⟨emptyP n f, emptyP n f, emptyP n f⟩) => iblocks_empty h h1)
  have HC := Lib.hid (fun (W : World) (ao : Option Addr) (c : Nat) (h : RowsIn W ao n c (emptyP n f)) => check_empty W h h1 h2 hf)
  have HU := Lib.hid (fun (W : World) (ao : Option Addr) (c : Nat) (h : RowsIn W ao n c (emptyP n f)) => used_empty W h h1 h2 hf)
  clear hw0 HF hf
  cases b1
  all_goals
    first | (obtain rfl : 1 = f := hfv) | (obtain rfl : 2 = f := hfv)
    go_enter Tryz.func9, Tryz.ntmps9
    go_wp2_with (first
      | (go_at_call 11; refine HM.out.mono ?_; rintro e w1 ⟨a, F, rfl, hI, hF, hb⟩; have H1 := Lib.hid (And.intro hI hb); clear hI hF hb HM)
      | (go_at_call 36; refine (awake18_any _).mono ?_; rintro e w2 ⟨rfl, hb⟩; have H2 := Lib.hid (And.intro (H1.out.1.later hb) (H1.out.2.trans (hb.mono H1.out.2.size))); clear hb)
      | (go_at_call 37; refine (HC.out _ _ _ HR3.out).mono ?_; rintro e w4 ⟨rfl, hb⟩; have H4 := Lib.hid (And.intro (H3.out.1.later hb) (H3.out.2.trans (hb.mono H3.out.2.size))); clear hb HC)
      | (go_at_call 38; refine (HU.out _ _ _ HR5.out).mono ?_; rintro e w6 ⟨g, gc, rfl, hc, hcap, hb⟩; have H6 := Lib.hid (H5.out.trans (hb.mono H5.out.size)); clear hb HU)
      | (go_at_call 14; refine (HBL.out _ _ _ H4.out.1).mono ?_; rintro e w5 ⟨co, cc, rfl, hr, hb⟩; have H5 := Lib.hid (H4.out.2.trans (hb.mono H4.out.2.size)); have HR5 := Lib.hid hr; clear hb hr)
      | (go_at_call 14; refine (HBL.out _ _ _ H2.out.1).mono ?_; rintro e w3 ⟨bo, bc, rfl, hr, hb⟩; have H3 := Lib.hid (And.intro (H2.out.1.later hb) (H2.out.2.trans (hb.mono H2.out.2.size))); have HR3 := Lib.hid hr; clear hb hr))
    go_ret
    exact ⟨rfl, H6.out⟩

/-! ### The law's step -/
set_option maxRecDepth 100000 in
theorem contract (H : Type) (enc : TypeId × Value → H) (W : World) (base : Nat) (args : Array Value) (ds gs : List (DataW H)) (before : List MemPlace)
    (hval0 : ∀ (j : Nat) t v, Tryz.f9.params[j]? = some t → args[j]? = some v → Value.okWide Tryz.prog W .any base t v)
    (hW : DataW.Whole enc Tryz.prog Tryz.f9.params.toList Rows.checkEmptySpec.vars false W args.toList ds gs before)
    (hsz0 : (DataW.weightsEach Tryz.prog (Tryz.f9.params.toList ++ (OpenSpec.ofChange Rows.checkEmptySpec).bare.plain.varTypes Tryz.prog) (ds ++ gs)).all (· ≤ reachBytes) = true) :
    Calls Tryz.prog 9 args W fun e W' => ∃ v, e = .returned v ∧ Rows.checkEmptySpec.post enc Tryz.prog Tryz.f9 false true false false W args v W' := by
  have hsz : (DataW.weightsEach Tryz.prog (Tryz.f9.params.toList ++ Rows.checkEmptySpec.plain.varTypes Tryz.prog) (ds ++ gs)).all (· ≤ reachBytes) = true := hsz0
  clear hsz0
  have hval : ∀ (j : Nat) t v, Tryz.f9.params[j]? = some t → args[j]? = some v → Value.okWide Tryz.prog W .any base t v := hval0
  have hW' := hW
  obtain ⟨p, q, hA0, hV, rfl, hfz, hnd⟩ := hW
  have hA : DataW.TrodAll enc Tryz.prog W 0 (fun _ => true) true Tryz.f9.params.toList args.toList ds p := hA0
  rw [Tryz.params9] at hA hval hsz
  obtain ⟨v0, vs0, d0, ds0, p0, q0, hargs, rfl, rfl, h0, r0⟩ := trodAll_cons hA
  obtain ⟨v1, vs1, d1, ds1, p1, q1, rfl, rfl, rfl, h1, r1⟩ := trodAll_cons r0
  obtain ⟨rfl, rfl, rfl⟩ := trodAll_nil r1
  obtain rfl : args = #[v0, v1] := by cases args; simp_all
  obtain ⟨rfl, rfl⟩ := trodVars_none hV
  have k0 := h0
  have lt0 : ∀ x ∈ p0, x.block < W.heap.size := by obtain ⟨m, hm⟩ := k0; exact DataW.trod_lt m _ _ _ hm
  obtain ⟨a0, rfl, _, _, w0⟩ := open_int Tryz.underlying61 (hval 0 61 v0 rfl rfl) h0
  have k1 := h1
  have lt1 : ∀ x ∈ p1, x.block < W.heap.size := by obtain ⟨m, hm⟩ := k1; exact DataW.trod_lt m _ _ _ hm
  obtain ⟨b1, rfl, _, _⟩ := open_bool Tryz.underlying4 (hval 1 4 v1 rfl rfl) h1
  clear hA0 hval0
  refine (walk a0 b1 W w0 ).mono fun e W' ⟨he, bel⟩ => ?_
  subst he
  exact ⟨_, rfl, _, _, _, [], _, [], hW', trodAll_mk1 (shut_bool Tryz.underlying4 _), (trodAll_cons_mk (Below.trod laidOut (by kernel_rfl) (of_decide_eq_true (by kernel_rfl)) k0 bel lt0) (trodAll_cons_mk (Below.trod laidOut (by kernel_rfl) (of_decide_eq_true (by kernel_rfl)) k1 bel lt1) trodAll_mk0)), rfl, bel.frame _, fun h => by cases h⟩

noncomputable def laidWorld (os : Os) : World := World.laidAll Tryz.prog os Rows.checkEmptyRow.laid
theorem laid_met (os : Os) : laidMetH Tryz.prog Rows.checkEmptyRow.laid ((laidWorld os).forCall (fun _ _ => 0) ⟨#[], #[.int .u16 0, .bool false], []⟩).memory := by
  rw [MakeChecks.laidMetH_plain _ _ _ (by kernel_rfl)]
  exact laidMet_laidAll _ (by kernel_rfl) (by kernel_rfl)

set_option maxRecDepth 100000 in
theorem lifted (os : Os) (started : os.Started) (H : Type) (enc : TypeId × Value → H) (F : Stop.Interp) :
    ReturnsInHanded {} Tryz.checked os 9 .any ((OpenSpec.ofChange Rows.checkEmptySpec).preRow enc Tryz.prog Tryz.f9 Rows.checkEmptyRow.domain false Rows.checkEmptyRow.laid) (((OpenSpec.ofChange Rows.checkEmptySpec).at F).post enc Tryz.prog Tryz.f9 false true false false) := by
  obtain ⟨x, hx⟩ : ∃ x, DataW.whole enc Tryz.prog ((laidWorld os).forCall (fun _ _ => 0) ⟨#[], #[.int .u16 0, .bool false], []⟩).memory Tryz.f9.params.toList Rows.checkEmptySpec.vars false #[.int .u16 0, .bool false].toList 8 = some x := Option.isSome_iff_exists.1 (by kernel_rfl)
  refine returnsInHanded_of_row (C := Tryz.checked) (s := OpenSpec.ofChange Rows.checkEmptySpec) own started (by kernel_rfl) Tryz.func9
    (witness_row_at (enc := enc) (C := Tryz.checked) false (laidWorld os) #[.int .u16 0, .bool false] (World.laidAll_os _ _ _) (by kernel_rfl) (by kernel_rfl) (by kernel_rfl)
      (OpenSpec.preRow_of_cond 8 hx (by kernel_rfl) (fun k hk => by cases hk) (by kernel_rfl) (laid_met os))) ?_
  intro W base args ds gs before hval hW _ _ hsz _ _ _
  exact contract H enc W base args ds gs before hval hW hsz

theorem said : Rows.CheckEmptySaid :=
  OpenClaim.holds_of_cond 9 Tryz.f9 rfl rfl rfl rfl rfl rfl rfl ⟨rfl, rfl, rfl, rfl, rfl⟩ rfl rfl rfl rfl rfl (by kernel_rfl) Tryz.func9 closed
    (of_decide_eq_true (by kernel_rfl)) (by unfold Func.isWrapper; first | (rw [if_pos (by decide +kernel)]; kernel_rfl) | (rw [if_neg (by decide +kernel)]; exact ⟨rfl, rfl⟩))
    (fun os started H enc _ F => by rw [OpenClaim.pre_eq_preRow]; exact lifted os started H enc F)

theorem plain (f : FuncId) (fn : Func) (hf : Tryz.pinned.checked.prog.funcNamed "drydock/drydocklaw18.CheckEmpty" = some f) (hfn : Tryz.pinned.checked.prog.funcs[f]? = some fn) :
    false = Tryz.pinned.checked.prog.looks [] ∧ ∀ (j : Nat) t, fn.params[j]? = some t → Tryz.pinned.checked.prog.wantsStandIn t = false := by
  obtain rfl : f = 9 := Option.some.inj ((show Tryz.prog.funcNamed "drydock/drydocklaw18.CheckEmpty" = some 9 by kernel_rfl).symm.trans hf) |>.symm
  obtain rfl : fn = Tryz.f9 := (Option.some.inj (Tryz.func9.symm.trans hfn)).symm
  refine ⟨by kernel_rfl, fun j t ht => ?_⟩
  rw [Tryz.params9] at ht
  match j, ht with
  | 0, ht =>
    obtain rfl : 61 = t := Option.some.inj ht
    exact (show Tryz.prog.wantsStandIn 61 = false by kernel_rfl)
  | 1, ht =>
    obtain rfl : 4 = t := Option.some.inj ht
    exact (show Tryz.prog.wantsStandIn 4 = false by kernel_rfl)
  | _ + 2, ht => simp at ht

/-- The card. -/
theorem proved : Rows.CheckEmptyCardSaid :=
  Claim7.holds_tied_plain_at .later [] _ _ _ _ said (fun _ h => by cases h) (by kernel_rfl) (fun _ h => by cases h) checkEmpty_row_tie rfl ⟨rfl, rfl⟩ (by kernel_rfl) rfl plain (by kernel_rfl)
end Go.Proofs.YtmcblhgpcgnaoaaGreatDoor.checkEmpty

