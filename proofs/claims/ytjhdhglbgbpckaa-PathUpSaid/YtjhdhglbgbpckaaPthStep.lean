/-
  Proved here: where a part leads to from names, as the landed path answers it.
  The conditions stand at each theorem.
-/
import Derived.Test.YtjhdhglbgbpckaaPthClone
namespace Go.Proofs.Ytjhdhglbgbpckaa
open Go.RowKit
set_option linter.unusedVariables false
set_option linter.unusedSimpArgs false

/-- Where a part leads to: names on, or what is wrong. -/
def StepTo (ns : List ByteArray) (part : ByteArray) (err : Int) (ns2 : List ByteArray) : Prop :=
  (err = 0 ∧ ns2.length ≤ 16 ∧ ∀ Q, foldP (ns.map bytesOf) (bytesOf part :: Q) = foldP (ns2.map bytesOf) Q) ∨ ((err = 9 ∨ err = 11) ∧ ns2 = [] ∧ ∀ Q, foldP (ns.map bytesOf) (bytesOf part :: Q) = (err, []))
def StepHanded (base : Nat) (ns : List ByteArray) (part : ByteArray) (w : World) (e : Ending) (w' : World) : Prop :=
  ∃ v err ns2, e = .returned (.tuple #[v, .int .i64 err]) ∧ StepTo ns part err ns2 ∧ w'.ownsRow base 9 1 v ns2.length (strs ns2) ∧ Below base w w'

theorem owns_later_s {w w' : World} {base n sz : Nat} {e : TypeId} {v : Value} {xs : List Value} (h : w.ownsRow base e sz v n xs) (hb : Below w.heap.size w w') : w'.ownsRow base e sz v n xs :=
  h.kept (row := none) ⟨hb.os, hb.tape, hb.output, hb.size, fun k hk _ => hb.block k hk⟩ (by cases v.ownBlock <;> simp)

set_option maxRecDepth 100000 in
set_option maxHeartbeats 1600000 in
theorem step_any (base : Nat) (v : Value) (ns : List ByteArray) (part : ByteArray) (w : World) (hO : w.ownsRow base 9 1 v ns.length (strs ns)) (hbase : base ≤ w.heap.size) (hn : ns.length ≤ 16) (hp : part.size ≤ 140737488351232) :
    Calls Try.prog 19 #[v, .string part] w (StepHanded base ns part w) := by
  obtain ⟨ao, cap, rfl⟩ := owns_shape_s hO
  have t0 := str_is part ByteArray.empty
  have t1 := str_is part dot1
  have t2 := str_is part dot2
  rw [show ByteArray.empty.toList = [] from by rw [Go.ByteArray.toList_eq]; rfl] at t0
  rw [show dot1.toList = [46] from by rw [Go.ByteArray.toList_eq]; rfl] at t1
  rw [show dot2.toList = [46, 46] from by rw [Go.ByteArray.toList_eq]; rfl] at t2
  have HO := Lib.hid hO
  clear hO
  by_cases h0 : part = ByteArray.empty
  · have HT : Hid (StepTo ns part 0 ns) := Lib.hid (Or.inl ⟨rfl, hn, fun Q => end_none (Or.inl h0)⟩)
    rw [decide_eq_true h0] at t0
    clear h0 t1 t2
    go_enter Try.func19, Try.ntmps19
    go_wp2_with fail
    go_ret2
    exact ⟨_, _, _, rfl, HT.out, HO.out, Below.refl _ _⟩
  · rw [decide_eq_false h0] at t0
    by_cases h1 : part = dot1
    · have HT : Hid (StepTo ns part 0 ns) := Lib.hid (Or.inl ⟨rfl, hn, fun Q => end_none (Or.inr h1)⟩)
      rw [decide_eq_true h1] at t1
      clear h0 h1 t2
      go_enter Try.func19, Try.ntmps19
      go_wp2_with fail
      go_ret2
      exact ⟨_, _, _, rfl, HT.out, HO.out, Below.refl _ _⟩
    · rw [decide_eq_false h1] at t1
      by_cases h2 : part = dot2
      · have HT : Hid (StepTo ns part 0 ns.dropLast) := Lib.hid (Or.inl ⟨rfl, by rw [List.length_dropLast]; omega, fun Q => by rw [h2]; exact end_up⟩)
        rw [decide_eq_true h2] at t2
        clear h0 h1 h2
        by_cases hn0 : ns.length = 0
        · have hd : ns.dropLast = ns := by rw [List.length_eq_zero_iff.1 hn0]; rfl
          rw [hd] at HT
          clear hd
          have n0 : (ns.length : Int) = 0 := by omega
          have HO3 : Hid (w.ownsRow base 9 1 (.slice ao 0 cap) ns.length (strs ns)) := Lib.hid (by have h := HO.out; rwa [hn0] at h ⊢)
          go_enter Try.func19, Try.ntmps19
          go_wp2_with fail
          go_ret2
          exact ⟨_, _, _, rfl, HT.out, HO3.out, Below.refl _ _⟩
        · obtain ⟨q, hq⟩ : ∃ q, ns.length = q + 1 := ⟨ns.length - 1, by omega⟩
          have HO2 := Lib.hid (owns_drop HO.out hq)
          have q1 : (0 : Int) ≤ (ns.length : Int) - 1 := by omega
          have q2 : (ns.length : Int) - 1 = (q : Int) := by omega
          have q3 : (q : Int) ≤ (cap : Int) := by have := HO.out.2; have := owns_cap HO.out; omega
          have q4 : (0 : Int) ≤ (q : Int) := by omega
          obtain ⟨g, rfl⟩ := owns_some HO.out (by omega)
          clear hq
          go_enter Try.func19, Try.ntmps19
          go_wp2_with fail
          go_ret2
          exact ⟨_, _, _, rfl, HT.out, HO2.out, Below.refl _ _⟩
      · rw [decide_eq_false h2] at t2
        have c := fun W => nameless_any part W hp
        obtain ⟨N, hN⟩ : ∃ N, named part = N := ⟨_, rfl⟩
        rw [hN] at c
        cases N with
        | false =>
          have HT : Hid (StepTo ns part 9 []) := Lib.hid (Or.inr ⟨Or.inl rfl, rfl, fun Q => end_bad h0 h1 h2 hN⟩)
          clear h0 h1 h2 hN
          go_enter Try.func19, Try.ntmps19
          go_wp2_with (go_at_call 22; refine (c _).mono ?_; rintro e w2 ⟨rfl, rfl⟩)
          go_ret2
          exact ⟨_, _, _, rfl, HT.out, owns_nil_s _ _ _ _, Below.refl _ _⟩
        | true =>
          by_cases h16 : ns.length = 16
          · have HT : Hid (StepTo ns part 11 []) := Lib.hid (Or.inr ⟨Or.inr rfl, rfl, fun Q => end_full h0 h1 h2 hN h16⟩)
            have h16i : (ns.length : Int) = 16 := by omega
            clear h0 h1 h2 hN
            go_enter Try.func19, Try.ntmps19
            go_wp2_with (go_at_call 22; refine (c _).mono ?_; rintro e w2 ⟨rfl, rfl⟩)
            go_ret2
            exact ⟨_, _, _, rfl, HT.out, owns_nil_s _ _ _ _, Below.refl _ _⟩
          · have HT : Hid (StepTo ns part 0 (ns ++ [part])) := Lib.hid (Or.inl ⟨rfl, by rw [List.length_append, List.length_cons, List.length_nil]; omega, fun Q => end_name hN h16⟩)
            have h16i : ((ns.length : Int) == 16) = false := by simp; omega
            have cC := fun W => Clone_any part W hp
            clear h0 h1 h2 hN
            go_enter Try.func19, Try.ntmps19
            go_wp2_with (first
              | (at_builtin; refine wp_append_one elemS rfl (.tmp 30) (.tmp 33) rfl base ns.length _ _ rfl (HO2.out.alloc _) ⟨w3.heap.size, 0, none⟩ 1 _ rfl (one_cell_new _ _ _) rfl rfl (by omega) (by rw [World.size_alloc]; exact Nat.le_succ_of_le (Nat.le_trans hbase HB3.out.size)) ?_; intro v5 w5 hown5 hb5; have HO5 := Lib.hid hown5; have HB5 := Lib.hid ((HB3.out.mono hbase).trans (((Below.refl _ _).alloc (Nat.le_trans hbase HB3.out.size) _).trans hb5)); clear hown5 hb5)
              | (go_at_call 27; refine (cC _).mono ?_; rintro e w3 ⟨rfl, hb3⟩; have HB3 := Lib.hid hb3; have HO2 := Lib.hid (owns_later_s HO.out hb3); clear hb3)
              | (go_at_call 22; refine (c _).mono ?_; rintro e w2 ⟨rfl, rfl⟩))
            go_ret2
            exact ⟨_, _, _, rfl, HT.out, by rw [List.length_append, strs_append]; exact HO5.out, HB5.out⟩

end Go.Proofs.Ytjhdhglbgbpckaa
