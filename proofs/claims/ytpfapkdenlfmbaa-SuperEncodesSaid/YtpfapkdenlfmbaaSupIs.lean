/-
  Proved here: what the landed super's four calls answer (supOk): the two that read, and all.
  No conditions but those that each theorem names.
-/
import Derived.Test.YtpfapkdenlfmbaaSupEnc
namespace Go.Proofs.Ytpfapkdenlfmbaa
open Go.RowKit
set_option linter.unusedVariables false
set_option linter.unusedSimpArgs false

set_option maxHeartbeats 3200000 in
theorem shead_any (ao : Option Addr) (len cap : Nat) (zs : List Int) (w : World) (hA : Arg w ao len cap zs) : Calls Try.prog 14 #[.slice ao len cap] w fun e w' => e = .returned (.tuple #[(getHead zs).val, .int .i64 (getHeadErr zs)]) ∧ Below w.heap.size w w' := by
  have HA := Lib.hid hA
  have HZ : Hid (∀ j, j < 2 → (#[.int .i64 0, .int .i64 0] : Array Value)[j]? = some (.int .i64 0)) := Lib.hid (fun j hj => by
    match j, hj with
    | 0, _ | 1, _ => rfl)
  have HI : Hid ((gotHead zs).in64) := Lib.hid (by
    unfold gotHead PHead.in64
    exact ⟨getOut_in hA.1.2.2.1 (by decide) (by decide), getOut_in hA.1.2.2.1 (by decide) (by decide)⟩)
  have cP := fun (W : World) => headPlaces_any (w.heap.size + 1) W
  have HR : Hid (∀ W, Rd w (w.heap.size + 1 + 1) (w.heap.size + 1) headPs 2 zs 0 W → w.heap.size + 1 < W.heap.size → Calls Try.prog 24 #[.slice ao len cap, .slice (some ⟨w.heap.size + 1 + 1, 0, none⟩) (2 : Nat) (2 : Nat)] W fun e w' => e = .returned (.tuple #[]) ∧ Rd w (w.heap.size + 1 + 1) (w.heap.size + 1) headPs 2 zs 2 w' ∧ W.heap.size ≤ w'.heap.size ∧ ∀ b, b < W.heap.size → b ≠ w.heap.size + 1 → w'.heap[b]? = W.heap[b]?) :=
    Lib.hid (fun W hR hg => read_any ao len cap zs (w.heap.size + 1 + 1) (w.heap.size + 1) 2 headPs w W HA.out rfl (by decide) small_head (by omega) hg (by omega) hR)
  have cE := fun (W : World) => sput_any (gotHead zs) W HI.out
  have HG : Hid (gotHead zs = gotHead zs) := Lib.hid rfl
  clear hA
  rcases head_ways zs with ⟨hs, hb, hg, he⟩ | ⟨hs, hb, hg, he⟩ | ⟨hs, hg, he⟩
  · unfold headOut headErr at cE
    rw [hs] at cE
    have HE := Lib.hid (And.intro hg he)
    rw [if_pos rfl, if_pos rfl] at cE
    generalize headBlock (gotHead zs) = O at *
    have HD : Hid (decide (O = zs) = true) := Lib.hid (decide_eq_true hb)
    clear hs hg he hb
    unfold gotHead PHead.val at cE
    go_enter Try.func14, Try.ntmps14
    go_wp2_with (first
      | (go_at_call 23; refine (cP _).mono ?_; rintro e w3 ⟨rfl, hp3, hb3⟩; have H3 := Lib.hid (dec_begun (zs := zs) HZ.out hp3 hb3); clear hp3 hb3)
      | (go_at_call 24; refine (HR.out _ H3.out.1 H3.out.2.2.2).mono ?_; rintro e w4 ⟨rfl, hr4, hs4, hk4⟩; have H4 := Lib.hid (And.intro hr4 (And.intro hs4 hk4)); have q0 := (dec_read H3.out.2 hr4 hs4 hk4 (Below.refl _ _)).2.2.1 0 (by decide); have q1 := (dec_read H3.out.2 hr4 hs4 hk4 (Below.refl _ _)).2.2.1 1 (by decide); clear hr4 hs4 hk4)
      | (go_at_call 9; refine (cE _).mono ?_; rintro e w5 ⟨v5, rfl, hf5, hb5⟩; obtain ⟨a5, c5, rfl, hA5⟩ := fresh_form hf5; clear q0 q1; have q0 := (dec_read H3.out.2 H4.out.1 H4.out.2.1 H4.out.2.2 hb5).2.2.1 0 (by decide); have z0 := (dec_read H3.out.2 H4.out.1 H4.out.2.1 H4.out.2.2 hb5).1 0 (by decide); have f0 := (dec_read H3.out.2 H4.out.1 H4.out.2.1 H4.out.2.2 hb5).2.1 0; have q1 := (dec_read H3.out.2 H4.out.1 H4.out.2.1 H4.out.2.2 hb5).2.2.1 1 (by decide); have z1 := (dec_read H3.out.2 H4.out.1 H4.out.2.1 H4.out.2.2 hb5).1 1 (by decide); have f1 := (dec_read H3.out.2 H4.out.1 H4.out.2.1 H4.out.2.2 hb5).2.1 1; have A5 := Lib.hid hA5; have B5 := Lib.hid (dec_read H3.out.2 H4.out.1 H4.out.2.1 H4.out.2.2 hb5).2.2.2; clear hf5 hb5 hA5)
      | (go_at_call 25; refine (bytesEq_any a5 ao _ c5 len cap O zs _ A5.out.1 (HA.out.later B5.out).1).mono ?_; rintro e w6 ⟨rfl, rfl⟩; rw [HD.out]))
    refine bodyPost_ret (v := .tuple #[(getHead zs).val, .int .i64 (getHeadErr zs)]) ?_ rfl ⟨rfl, ((B5.out.setCell (Nat.le_refl _) _).setCell (Nat.le_refl _) _)⟩
    rw [HE.out.1, HE.out.2, results_cell_tmp rfl]
    go_simp
    try rfl
  · unfold headOut headErr at cE
    rw [hs] at cE
    have HE := Lib.hid (And.intro hg he)
    rw [if_pos rfl, if_pos rfl] at cE
    generalize headBlock (gotHead zs) = O at *
    have HD : Hid (decide (O = zs) = false) := Lib.hid (decide_eq_false hb)
    clear hs hg he hb
    unfold gotHead PHead.val at cE
    go_enter Try.func14, Try.ntmps14
    go_wp2_with (first
      | (go_at_call 23; refine (cP _).mono ?_; rintro e w3 ⟨rfl, hp3, hb3⟩; have H3 := Lib.hid (dec_begun (zs := zs) HZ.out hp3 hb3); clear hp3 hb3)
      | (go_at_call 24; refine (HR.out _ H3.out.1 H3.out.2.2.2).mono ?_; rintro e w4 ⟨rfl, hr4, hs4, hk4⟩; have H4 := Lib.hid (And.intro hr4 (And.intro hs4 hk4)); have q0 := (dec_read H3.out.2 hr4 hs4 hk4 (Below.refl _ _)).2.2.1 0 (by decide); have q1 := (dec_read H3.out.2 hr4 hs4 hk4 (Below.refl _ _)).2.2.1 1 (by decide); clear hr4 hs4 hk4)
      | (go_at_call 9; refine (cE _).mono ?_; rintro e w5 ⟨v5, rfl, hf5, hb5⟩; obtain ⟨a5, c5, rfl, hA5⟩ := fresh_form hf5; clear q0 q1; have q0 := (dec_read H3.out.2 H4.out.1 H4.out.2.1 H4.out.2.2 hb5).2.2.1 0 (by decide); have z0 := (dec_read H3.out.2 H4.out.1 H4.out.2.1 H4.out.2.2 hb5).1 0 (by decide); have f0 := (dec_read H3.out.2 H4.out.1 H4.out.2.1 H4.out.2.2 hb5).2.1 0; have q1 := (dec_read H3.out.2 H4.out.1 H4.out.2.1 H4.out.2.2 hb5).2.2.1 1 (by decide); have z1 := (dec_read H3.out.2 H4.out.1 H4.out.2.1 H4.out.2.2 hb5).1 1 (by decide); have f1 := (dec_read H3.out.2 H4.out.1 H4.out.2.1 H4.out.2.2 hb5).2.1 1; have A5 := Lib.hid hA5; have B5 := Lib.hid (dec_read H3.out.2 H4.out.1 H4.out.2.1 H4.out.2.2 hb5).2.2.2; clear hf5 hb5 hA5)
      | (go_at_call 25; refine (bytesEq_any a5 ao _ c5 len cap O zs _ A5.out.1 (HA.out.later B5.out).1).mono ?_; rintro e w6 ⟨rfl, rfl⟩; rw [HD.out]))
    refine bodyPost_ret (v := .tuple #[(getHead zs).val, .int .i64 (getHeadErr zs)]) ?_ rfl ⟨rfl, ((B5.out.setCell (Nat.le_refl _) _).setCell (Nat.le_refl _) _)⟩
    rw [HE.out.1, HE.out.2, results_cell_tmp rfl]
    go_simp
    try rfl
  · unfold headOut headErr at cE
    rw [hs] at cE
    have HE := Lib.hid (And.intro hg he)
    rw [if_neg (by decide), if_neg (by decide)] at cE
    clear hs hg he
    unfold gotHead PHead.val at cE
    go_enter Try.func14, Try.ntmps14
    go_wp2_with (first
      | (go_at_call 23; refine (cP _).mono ?_; rintro e w3 ⟨rfl, hp3, hb3⟩; have H3 := Lib.hid (dec_begun (zs := zs) HZ.out hp3 hb3); clear hp3 hb3)
      | (go_at_call 24; refine (HR.out _ H3.out.1 H3.out.2.2.2).mono ?_; rintro e w4 ⟨rfl, hr4, hs4, hk4⟩; have H4 := Lib.hid (And.intro hr4 (And.intro hs4 hk4)); have q0 := (dec_read H3.out.2 hr4 hs4 hk4 (Below.refl _ _)).2.2.1 0 (by decide); have q1 := (dec_read H3.out.2 hr4 hs4 hk4 (Below.refl _ _)).2.2.1 1 (by decide); clear hr4 hs4 hk4)
      | (go_at_call 9; refine (cE _).mono ?_; rintro e w5 ⟨v5, rfl, hf5, hb5⟩; obtain ⟨a5, c5, rfl, hA5⟩ := fresh_form hf5; clear q0 q1; have q0 := (dec_read H3.out.2 H4.out.1 H4.out.2.1 H4.out.2.2 hb5).2.2.1 0 (by decide); have z0 := (dec_read H3.out.2 H4.out.1 H4.out.2.1 H4.out.2.2 hb5).1 0 (by decide); have f0 := (dec_read H3.out.2 H4.out.1 H4.out.2.1 H4.out.2.2 hb5).2.1 0; have q1 := (dec_read H3.out.2 H4.out.1 H4.out.2.1 H4.out.2.2 hb5).2.2.1 1 (by decide); have z1 := (dec_read H3.out.2 H4.out.1 H4.out.2.1 H4.out.2.2 hb5).1 1 (by decide); have f1 := (dec_read H3.out.2 H4.out.1 H4.out.2.1 H4.out.2.2 hb5).2.1 1; have A5 := Lib.hid hA5; have B5 := Lib.hid (dec_read H3.out.2 H4.out.1 H4.out.2.1 H4.out.2.2 hb5).2.2.2; clear hf5 hb5 hA5))
    refine bodyPost_ret (v := .tuple #[(getHead zs).val, .int .i64 (getHeadErr zs)]) ?_ rfl ⟨rfl, ((B5.out.setCell (Nat.le_refl _) _).setCell (Nat.le_refl _) _)⟩
    rw [HE.out.1, HE.out.2, results_cell_tmp rfl]
    go_simp
    try rfl

set_option maxHeartbeats 3200000 in
theorem sdec_any (ao : Option Addr) (len cap : Nat) (zs : List Int) (w : World) (hA : Arg w ao len cap zs) : Calls Try.prog 12 #[.slice ao len cap] w fun e w' => e = .returned (.tuple #[(getSup zs).val, .int .i64 (getSupErr zs)]) ∧ Below w.heap.size w w' := by
  have HA := Lib.hid hA
  have HZ : Hid (∀ j, j < 5 → (#[.int .i64 0, .int .i64 0, .int .i64 0, .int .i64 0, .int .i64 0] : Array Value)[j]? = some (.int .i64 0)) := Lib.hid (fun j hj => by
    match j, hj with
    | 0, _ | 1, _ | 2, _ | 3, _ | 4, _ => rfl)
  have HI : Hid ((gotSup zs).in64) := Lib.hid (by
    unfold gotSup PSup.in64
    exact ⟨getOut_in hA.1.2.2.1 (by decide) (by decide), getOut_in hA.1.2.2.1 (by decide) (by decide), getOut_in hA.1.2.2.1 (by decide) (by decide), getOut_in hA.1.2.2.1 (by decide) (by decide), getOut_in hA.1.2.2.1 (by decide) (by decide)⟩)
  have cP := fun (W : World) => superPlaces_any (w.heap.size + 1) W
  have HR : Hid (∀ W, Rd w (w.heap.size + 1 + 1) (w.heap.size + 1) supPs 5 zs 0 W → w.heap.size + 1 < W.heap.size → Calls Try.prog 24 #[.slice ao len cap, .slice (some ⟨w.heap.size + 1 + 1, 0, none⟩) (5 : Nat) (5 : Nat)] W fun e w' => e = .returned (.tuple #[]) ∧ Rd w (w.heap.size + 1 + 1) (w.heap.size + 1) supPs 5 zs 5 w' ∧ W.heap.size ≤ w'.heap.size ∧ ∀ b, b < W.heap.size → b ≠ w.heap.size + 1 → w'.heap[b]? = W.heap[b]?) :=
    Lib.hid (fun W hR hg => read_any ao len cap zs (w.heap.size + 1 + 1) (w.heap.size + 1) 5 supPs w W HA.out rfl (by decide) small_sup (by omega) hg (by omega) hR)
  have cE := fun (W : World) => senc_any (gotSup zs) W HI.out
  have HG : Hid (gotSup zs = gotSup zs) := Lib.hid rfl
  clear hA
  rcases sup_ways zs with ⟨hs, hb, hg, he⟩ | ⟨hs, hb, hg, he⟩ | ⟨hs, hg, he⟩
  · unfold supOut supErr at cE
    rw [hs] at cE
    have HE := Lib.hid (And.intro hg he)
    rw [if_pos rfl, if_pos rfl] at cE
    generalize supBlock (gotSup zs) = O at *
    have HD : Hid (decide (O = zs) = true) := Lib.hid (decide_eq_true hb)
    clear hs hg he hb
    unfold gotSup PSup.val at cE
    go_enter Try.func12, Try.ntmps12
    go_wp2_with (first
      | (go_at_call 18; refine (cP _).mono ?_; rintro e w3 ⟨rfl, hp3, hb3⟩; have H3 := Lib.hid (dec_begun (zs := zs) HZ.out hp3 hb3); clear hp3 hb3)
      | (go_at_call 24; refine (HR.out _ H3.out.1 H3.out.2.2.2).mono ?_; rintro e w4 ⟨rfl, hr4, hs4, hk4⟩; have H4 := Lib.hid (And.intro hr4 (And.intro hs4 hk4)); have q0 := (dec_read H3.out.2 hr4 hs4 hk4 (Below.refl _ _)).2.2.1 0 (by decide); have q1 := (dec_read H3.out.2 hr4 hs4 hk4 (Below.refl _ _)).2.2.1 1 (by decide); have q2 := (dec_read H3.out.2 hr4 hs4 hk4 (Below.refl _ _)).2.2.1 2 (by decide); have q3 := (dec_read H3.out.2 hr4 hs4 hk4 (Below.refl _ _)).2.2.1 3 (by decide); have q4 := (dec_read H3.out.2 hr4 hs4 hk4 (Below.refl _ _)).2.2.1 4 (by decide); clear hr4 hs4 hk4)
      | (go_at_call 7; refine (cE _).mono ?_; rintro e w5 ⟨v5, rfl, hf5, hb5⟩; obtain ⟨a5, c5, rfl, hA5⟩ := fresh_form hf5; clear q0 q1 q2 q3 q4; have q0 := (dec_read H3.out.2 H4.out.1 H4.out.2.1 H4.out.2.2 hb5).2.2.1 0 (by decide); have z0 := (dec_read H3.out.2 H4.out.1 H4.out.2.1 H4.out.2.2 hb5).1 0 (by decide); have f0 := (dec_read H3.out.2 H4.out.1 H4.out.2.1 H4.out.2.2 hb5).2.1 0; have q1 := (dec_read H3.out.2 H4.out.1 H4.out.2.1 H4.out.2.2 hb5).2.2.1 1 (by decide); have z1 := (dec_read H3.out.2 H4.out.1 H4.out.2.1 H4.out.2.2 hb5).1 1 (by decide); have f1 := (dec_read H3.out.2 H4.out.1 H4.out.2.1 H4.out.2.2 hb5).2.1 1; have q2 := (dec_read H3.out.2 H4.out.1 H4.out.2.1 H4.out.2.2 hb5).2.2.1 2 (by decide); have z2 := (dec_read H3.out.2 H4.out.1 H4.out.2.1 H4.out.2.2 hb5).1 2 (by decide); have f2 := (dec_read H3.out.2 H4.out.1 H4.out.2.1 H4.out.2.2 hb5).2.1 2; have q3 := (dec_read H3.out.2 H4.out.1 H4.out.2.1 H4.out.2.2 hb5).2.2.1 3 (by decide); have z3 := (dec_read H3.out.2 H4.out.1 H4.out.2.1 H4.out.2.2 hb5).1 3 (by decide); have f3 := (dec_read H3.out.2 H4.out.1 H4.out.2.1 H4.out.2.2 hb5).2.1 3; have q4 := (dec_read H3.out.2 H4.out.1 H4.out.2.1 H4.out.2.2 hb5).2.2.1 4 (by decide); have z4 := (dec_read H3.out.2 H4.out.1 H4.out.2.1 H4.out.2.2 hb5).1 4 (by decide); have f4 := (dec_read H3.out.2 H4.out.1 H4.out.2.1 H4.out.2.2 hb5).2.1 4; have A5 := Lib.hid hA5; have B5 := Lib.hid (dec_read H3.out.2 H4.out.1 H4.out.2.1 H4.out.2.2 hb5).2.2.2; clear hf5 hb5 hA5)
      | (go_at_call 25; refine (bytesEq_any a5 ao _ c5 len cap O zs _ A5.out.1 (HA.out.later B5.out).1).mono ?_; rintro e w6 ⟨rfl, rfl⟩; rw [HD.out]))
    refine bodyPost_ret (v := .tuple #[(getSup zs).val, .int .i64 (getSupErr zs)]) ?_ rfl ⟨rfl, (((((B5.out.setCell (Nat.le_refl _) _).setCell (Nat.le_refl _) _).setCell (Nat.le_refl _) _).setCell (Nat.le_refl _) _).setCell (Nat.le_refl _) _)⟩
    rw [HE.out.1, HE.out.2, results_cell_tmp rfl]
    go_simp
    try rfl
  · unfold supOut supErr at cE
    rw [hs] at cE
    have HE := Lib.hid (And.intro hg he)
    rw [if_pos rfl, if_pos rfl] at cE
    generalize supBlock (gotSup zs) = O at *
    have HD : Hid (decide (O = zs) = false) := Lib.hid (decide_eq_false hb)
    clear hs hg he hb
    unfold gotSup PSup.val at cE
    go_enter Try.func12, Try.ntmps12
    go_wp2_with (first
      | (go_at_call 18; refine (cP _).mono ?_; rintro e w3 ⟨rfl, hp3, hb3⟩; have H3 := Lib.hid (dec_begun (zs := zs) HZ.out hp3 hb3); clear hp3 hb3)
      | (go_at_call 24; refine (HR.out _ H3.out.1 H3.out.2.2.2).mono ?_; rintro e w4 ⟨rfl, hr4, hs4, hk4⟩; have H4 := Lib.hid (And.intro hr4 (And.intro hs4 hk4)); have q0 := (dec_read H3.out.2 hr4 hs4 hk4 (Below.refl _ _)).2.2.1 0 (by decide); have q1 := (dec_read H3.out.2 hr4 hs4 hk4 (Below.refl _ _)).2.2.1 1 (by decide); have q2 := (dec_read H3.out.2 hr4 hs4 hk4 (Below.refl _ _)).2.2.1 2 (by decide); have q3 := (dec_read H3.out.2 hr4 hs4 hk4 (Below.refl _ _)).2.2.1 3 (by decide); have q4 := (dec_read H3.out.2 hr4 hs4 hk4 (Below.refl _ _)).2.2.1 4 (by decide); clear hr4 hs4 hk4)
      | (go_at_call 7; refine (cE _).mono ?_; rintro e w5 ⟨v5, rfl, hf5, hb5⟩; obtain ⟨a5, c5, rfl, hA5⟩ := fresh_form hf5; clear q0 q1 q2 q3 q4; have q0 := (dec_read H3.out.2 H4.out.1 H4.out.2.1 H4.out.2.2 hb5).2.2.1 0 (by decide); have z0 := (dec_read H3.out.2 H4.out.1 H4.out.2.1 H4.out.2.2 hb5).1 0 (by decide); have f0 := (dec_read H3.out.2 H4.out.1 H4.out.2.1 H4.out.2.2 hb5).2.1 0; have q1 := (dec_read H3.out.2 H4.out.1 H4.out.2.1 H4.out.2.2 hb5).2.2.1 1 (by decide); have z1 := (dec_read H3.out.2 H4.out.1 H4.out.2.1 H4.out.2.2 hb5).1 1 (by decide); have f1 := (dec_read H3.out.2 H4.out.1 H4.out.2.1 H4.out.2.2 hb5).2.1 1; have q2 := (dec_read H3.out.2 H4.out.1 H4.out.2.1 H4.out.2.2 hb5).2.2.1 2 (by decide); have z2 := (dec_read H3.out.2 H4.out.1 H4.out.2.1 H4.out.2.2 hb5).1 2 (by decide); have f2 := (dec_read H3.out.2 H4.out.1 H4.out.2.1 H4.out.2.2 hb5).2.1 2; have q3 := (dec_read H3.out.2 H4.out.1 H4.out.2.1 H4.out.2.2 hb5).2.2.1 3 (by decide); have z3 := (dec_read H3.out.2 H4.out.1 H4.out.2.1 H4.out.2.2 hb5).1 3 (by decide); have f3 := (dec_read H3.out.2 H4.out.1 H4.out.2.1 H4.out.2.2 hb5).2.1 3; have q4 := (dec_read H3.out.2 H4.out.1 H4.out.2.1 H4.out.2.2 hb5).2.2.1 4 (by decide); have z4 := (dec_read H3.out.2 H4.out.1 H4.out.2.1 H4.out.2.2 hb5).1 4 (by decide); have f4 := (dec_read H3.out.2 H4.out.1 H4.out.2.1 H4.out.2.2 hb5).2.1 4; have A5 := Lib.hid hA5; have B5 := Lib.hid (dec_read H3.out.2 H4.out.1 H4.out.2.1 H4.out.2.2 hb5).2.2.2; clear hf5 hb5 hA5)
      | (go_at_call 25; refine (bytesEq_any a5 ao _ c5 len cap O zs _ A5.out.1 (HA.out.later B5.out).1).mono ?_; rintro e w6 ⟨rfl, rfl⟩; rw [HD.out]))
    refine bodyPost_ret (v := .tuple #[(getSup zs).val, .int .i64 (getSupErr zs)]) ?_ rfl ⟨rfl, (((((B5.out.setCell (Nat.le_refl _) _).setCell (Nat.le_refl _) _).setCell (Nat.le_refl _) _).setCell (Nat.le_refl _) _).setCell (Nat.le_refl _) _)⟩
    rw [HE.out.1, HE.out.2, results_cell_tmp rfl]
    go_simp
    try rfl
  · unfold supOut supErr at cE
    rw [hs] at cE
    have HE := Lib.hid (And.intro hg he)
    rw [if_neg (by decide), if_neg (by decide)] at cE
    clear hs hg he
    unfold gotSup PSup.val at cE
    go_enter Try.func12, Try.ntmps12
    go_wp2_with (first
      | (go_at_call 18; refine (cP _).mono ?_; rintro e w3 ⟨rfl, hp3, hb3⟩; have H3 := Lib.hid (dec_begun (zs := zs) HZ.out hp3 hb3); clear hp3 hb3)
      | (go_at_call 24; refine (HR.out _ H3.out.1 H3.out.2.2.2).mono ?_; rintro e w4 ⟨rfl, hr4, hs4, hk4⟩; have H4 := Lib.hid (And.intro hr4 (And.intro hs4 hk4)); have q0 := (dec_read H3.out.2 hr4 hs4 hk4 (Below.refl _ _)).2.2.1 0 (by decide); have q1 := (dec_read H3.out.2 hr4 hs4 hk4 (Below.refl _ _)).2.2.1 1 (by decide); have q2 := (dec_read H3.out.2 hr4 hs4 hk4 (Below.refl _ _)).2.2.1 2 (by decide); have q3 := (dec_read H3.out.2 hr4 hs4 hk4 (Below.refl _ _)).2.2.1 3 (by decide); have q4 := (dec_read H3.out.2 hr4 hs4 hk4 (Below.refl _ _)).2.2.1 4 (by decide); clear hr4 hs4 hk4)
      | (go_at_call 7; refine (cE _).mono ?_; rintro e w5 ⟨v5, rfl, hf5, hb5⟩; obtain ⟨a5, c5, rfl, hA5⟩ := fresh_form hf5; clear q0 q1 q2 q3 q4; have q0 := (dec_read H3.out.2 H4.out.1 H4.out.2.1 H4.out.2.2 hb5).2.2.1 0 (by decide); have z0 := (dec_read H3.out.2 H4.out.1 H4.out.2.1 H4.out.2.2 hb5).1 0 (by decide); have f0 := (dec_read H3.out.2 H4.out.1 H4.out.2.1 H4.out.2.2 hb5).2.1 0; have q1 := (dec_read H3.out.2 H4.out.1 H4.out.2.1 H4.out.2.2 hb5).2.2.1 1 (by decide); have z1 := (dec_read H3.out.2 H4.out.1 H4.out.2.1 H4.out.2.2 hb5).1 1 (by decide); have f1 := (dec_read H3.out.2 H4.out.1 H4.out.2.1 H4.out.2.2 hb5).2.1 1; have q2 := (dec_read H3.out.2 H4.out.1 H4.out.2.1 H4.out.2.2 hb5).2.2.1 2 (by decide); have z2 := (dec_read H3.out.2 H4.out.1 H4.out.2.1 H4.out.2.2 hb5).1 2 (by decide); have f2 := (dec_read H3.out.2 H4.out.1 H4.out.2.1 H4.out.2.2 hb5).2.1 2; have q3 := (dec_read H3.out.2 H4.out.1 H4.out.2.1 H4.out.2.2 hb5).2.2.1 3 (by decide); have z3 := (dec_read H3.out.2 H4.out.1 H4.out.2.1 H4.out.2.2 hb5).1 3 (by decide); have f3 := (dec_read H3.out.2 H4.out.1 H4.out.2.1 H4.out.2.2 hb5).2.1 3; have q4 := (dec_read H3.out.2 H4.out.1 H4.out.2.1 H4.out.2.2 hb5).2.2.1 4 (by decide); have z4 := (dec_read H3.out.2 H4.out.1 H4.out.2.1 H4.out.2.2 hb5).1 4 (by decide); have f4 := (dec_read H3.out.2 H4.out.1 H4.out.2.1 H4.out.2.2 hb5).2.1 4; have A5 := Lib.hid hA5; have B5 := Lib.hid (dec_read H3.out.2 H4.out.1 H4.out.2.1 H4.out.2.2 hb5).2.2.2; clear hf5 hb5 hA5))
    refine bodyPost_ret (v := .tuple #[(getSup zs).val, .int .i64 (getSupErr zs)]) ?_ rfl ⟨rfl, (((((B5.out.setCell (Nat.le_refl _) _).setCell (Nat.le_refl _) _).setCell (Nat.le_refl _) _).setCell (Nat.le_refl _) _).setCell (Nat.le_refl _) _)⟩
    rw [HE.out.1, HE.out.2, results_cell_tmp rfl]
    go_simp
    try rfl

/-- What the landed super answers. -/
theorem supOk : SupOk := ⟨senc_any, sdec_any, sput_any, shead_any⟩

end Go.Proofs.Ytpfapkdenlfmbaa
