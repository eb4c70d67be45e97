/-
  Proved here: the names of a path, as the landed path answers them.
  The conditions stand at each theorem.
-/
import Derived.Test.YtjhdhglbgbpckaaPthAgain
namespace Go.Proofs.Ytjhdhglbgbpckaa
open Go.RowKit
set_option linter.unusedVariables false
set_option linter.unusedSimpArgs false

/-- What holds at the label: names so far, and what is still to be read. -/
def AtPart (J : Int × List (List Int)) (base : Nat) (w : World) (v : Value) (ns : List ByteArray) (r : ByteArray) (w' : World) : Prop :=
  ns.length ≤ 16 ∧ r.size ≤ 140737488351232 ∧ J = foldP (ns.map bytesOf) (partsW (bytesOf r)) ∧ w'.ownsRow base 9 1 v ns.length (strs ns) ∧ Below base w w'

def sizeS : Value → Nat
  | .string s => s.size
  | _ => 0

theorem step_bad {ns ns2 : List ByteArray} {part : ByteArray} {err : Int} {Q : List (List Int)} {J : Int × List (List Int)} (hJ : J = foldP (ns.map bytesOf) (bytesOf part :: Q)) (h : StepTo ns part err ns2) (he : ¬ err = 0) : J = (err, []) := by
  rcases h with ⟨h0, _⟩ | ⟨_, _, h⟩
  · exact absurd h0 he
  · rw [hJ]; exact h Q
theorem step_good {ns ns2 : List ByteArray} {part : ByteArray} {err : Int} {Q : List (List Int)} {J : Int × List (List Int)} (hJ : J = foldP (ns.map bytesOf) (bytesOf part :: Q)) (h : StepTo ns part err ns2) (he : err = 0) : ns2.length ≤ 16 ∧ J = foldP (ns2.map bytesOf) Q := by
  rcases h with ⟨_, h1, h⟩ | ⟨h0, _⟩
  · exact ⟨h1, by rw [hJ]; exact h Q⟩
  · omega

theorem cut_smaller {r p q : ByteArray} (h : bytesOf r = bytesOf p ++ 47 :: bytesOf q) : q.size < r.size ∧ p.size ≤ r.size := by
  have := congrArg List.length h
  rw [List.length_append, List.length_cons, bytesOf_length, bytesOf_length, bytesOf_length] at this
  omega

set_option maxRecDepth 100000 in
set_option maxHeartbeats 3200000 in
theorem Split_any (s : ByteArray) (w : World) (hs : s.size ≤ 140737488351232) :
    Calls Try.prog 9 #[.string s] w fun e w' => ∃ v, e = .returned (.tuple #[v, .int .i64 (splitW (bytesOf s)).1]) ∧ OutS w' w.heap.size v (splitW (bytesOf s)).2 ∧ Below w.heap.size w w' := by
  obtain ⟨J, hJ⟩ : ∃ J, splitW (bytesOf s) = J := ⟨_, rfl⟩
  rw [hJ]
  have HJ := Lib.hid hJ
  clear hJ
  have HEr : Hid (1024 < s.size → J = (11, [])) := Lib.hid (fun h => by rw [← HJ.out]; unfold splitW; rw [bytesOf_length, if_pos h])
  have HEf : Hid (¬ 1024 < s.size → (¬ ∃ t, bytesOf s = 47 :: t) → J = (2, [])) := Lib.hid (fun h h2 => by
    rw [← HJ.out]
    unfold splitW
    rw [bytesOf_length, if_neg h]
    cases hb : bytesOf s with
    | nil => rfl
    | cons c r =>
      show (if c = 47 then foldP [] (partsW r) else (2, [])) = _
      rw [if_neg (fun e => h2 ⟨r, by rw [hb, e]⟩)])
  have HEb : Hid (¬ 1024 < s.size → ∀ t, bytesOf s = 47 :: t → J = foldP [] (partsW t)) := Lib.hid (fun h t h2 => by
    rw [← HJ.out]
    unfold splitW
    rw [bytesOf_length, if_neg h, h2]
    show (if (47 : Int) = 47 then foldP [] (partsW t) else (2, [])) = _
    rw [if_pos rfl])
  clear HJ
  go_enter Try.func9, Try.ntmps9
  go_wp2_with fail
  refine wp_scope_again 0 (fun a' w' => ∃ (v : Value) (ns : List ByteArray) (r : ByteArray) (u5 u7 u8 u9 u10 u11 u12 u13 u14 u15 u16 u17 u18 u19 u20 u21 u22 u23 u24 u25 u26 u27 u28 u29 u30 u31 u32 u33 u34 u35 u36 : Value), a' = { tmps := #[.string s, undef, .slice none 0 0, .int .i64 0, .string r, u5, v, u7, u8, u9, u10, u11, u12, u13, u14, u15, u16, u17, u18, u19, u20, u21, u22, u23, u24, u25, u26, u27, u28, u29, u30, u31, u32, u33, u34, u35, u36], defers := [] } ∧ Hid (AtPart J w.heap.size w v ns r w')) (fun a' _ => sizeS (a'.tmps.getD 4 undef)) rfl ?_ ?_
  · intro hpass
    by_cases h1024 : 1024 < s.size
    · have i1 : (1024 : Int) < (s.size : Int) := by omega
      have HE := Lib.hid (HEr.out h1024)
      go_wp2_with fail
      simp only [Exit.jump]
      go_ret2
      exact ⟨_, by rw [HE.out]; rfl, by rw [HE.out]; exact outS_nil _ _, Below.refl _ _⟩
    · have i1 : ¬ (1024 : Int) < (s.size : Int) := by omega
      have c := CutPrefix_any s w hs
      by_cases hb : ∃ t, bytesOf s = 47 :: t
      · have cY : Calls Try.prog 17 #[.string s, .string ⟨#[47]⟩] w fun e w' => (∃ r, e = .returned (.tuple #[.string r, .bool true]) ∧ bytesOf s = 47 :: bytesOf r) ∧ Below w.heap.size w w' := c.mono (by
          rintro e w' ⟨⟨r, m, rfl, hp⟩, hb2⟩
          rcases hp with ⟨rfl, h⟩ | ⟨rfl, h⟩
          · exact ⟨⟨r, rfl, h⟩, hb2⟩
          · obtain ⟨t, ht⟩ := hb; exact absurd ht (h t))
        have HEb2 := Lib.hid (HEb.out h1024)
        clear c hb h1024
        go_wp2_with (go_at_call 17; refine cY.mono ?_; rintro e w2 ⟨⟨r, rfl, hp⟩, hb⟩; have HP := Lib.hid hp; have HB := Lib.hid hb; clear hp hb)
        go_step3
        rename_i hK0
        refine hK0 _ _ (hpass _ _ ?_)
        refine ⟨_, [], r, _, _, _, _, _, _, _, _, _, _, _, _, _, _, _, _, _, _, _, _, _, _, _, _, _, _, _, _, _, _, _, rfl, Lib.hid ⟨by decide, ?_, HEb2.out _ HP.out, owns_nil_s _ _ _ _, HB.out⟩⟩
        have := congrArg List.length HP.out
        rw [List.length_cons, bytesOf_length, bytesOf_length] at this
        omega
      · have cN : Calls Try.prog 17 #[.string s, .string ⟨#[47]⟩] w fun e w' => (∃ r, e = .returned (.tuple #[.string r, .bool false])) ∧ Below w.heap.size w w' := c.mono (by
          rintro e w' ⟨⟨r, m, rfl, hp⟩, hb2⟩
          rcases hp with ⟨rfl, h⟩ | ⟨rfl, h⟩
          · exact absurd ⟨_, h⟩ hb
          · exact ⟨⟨r, rfl⟩, hb2⟩)
        have HE := Lib.hid (HEf.out h1024 hb)
        clear c hb h1024
        go_wp2_with (go_at_call 17; refine cN.mono ?_; rintro e w2 ⟨⟨r, rfl⟩, hb⟩; have HB := Lib.hid hb; clear hb)
        simp only [Exit.jump]
        go_ret2
        exact ⟨_, by rw [HE.out]; rfl, by rw [HE.out]; exact outS_nil _ _, HB.out⟩
  · rintro a' w' ⟨v, ns, r, u5, u7, u8, u9, u10, u11, u12, u13, u14, u15, u16, u17, u18, u19, u20, u21, u22, u23, u24, u25, u26, u27, u28, u29, u30, u31, u32, u33, u34, u35, u36, rfl, HA⟩
    obtain ⟨hns, hr, hJ, hO, hB⟩ := HA.out
    have HO := Lib.hid hO
    have HB := Lib.hid hB
    have HJ := Lib.hid hJ
    have HS := Lib.hid hB.size
    have c := Cut_any r w' hr
    clear HA hO hB hJ HEr HEf HEb
    by_cases h47 : ∀ z ∈ bytesOf r, z ≠ 47
    · have cN : Calls Try.prog 18 #[.string r, .string ⟨#[47]⟩] w' fun e w'' => (∃ q, e = .returned (.tuple #[.string r, .string q, .bool false])) ∧ Below w'.heap.size w' w'' := c.mono (by
        rintro e w'' ⟨⟨p, q, m, rfl, hp⟩, hb2⟩
        rcases hp with ⟨rfl, rfl, h⟩ | ⟨rfl, h, _⟩
        · exact ⟨⟨q, rfl⟩, hb2⟩
        · exact absurd rfl (h47 47 (by rw [h]; simp)))
      have HJ2 : Hid (J = foldP (ns.map bytesOf) (bytesOf r :: [])) := Lib.hid (by rw [HJ.out, parts_plain h47])
      have cS := fun W (h : Below w'.heap.size w' W) => step_any w.heap.size v ns r W (owns_later_s HO.out h) (Nat.le_trans HS.out h.size) hns hr
      clear c h47
      go_wp2_with (first
        | (go_at_call 19; refine (cS _ HB2.out).mono ?_; rintro e w3 ⟨v3, err, ns3, rfl, ht3, ho3, hb3⟩; have HT3 := Lib.hid ht3; have HO3 := Lib.hid ho3; have HB3 := Lib.hid ((HB.out.trans (HB2.out.mono HS.out)).trans hb3); clear ht3 ho3 hb3)
        | (go_at_call 18; refine cN.mono ?_; rintro e w2 ⟨⟨q, rfl⟩, hb2⟩; have HB2 := Lib.hid hb2; clear hb2))
      · rename_i hE
        have HE := Lib.hid (step_bad HJ2.out HT3.out (by simpa using hE))
        simp only [Exit.jump]
        go_ret2
        exact ⟨_, by rw [HE.out]; rfl, by rw [HE.out]; exact outS_nil _ _, HB3.out⟩
      · rename_i hE
        have HE := Lib.hid (step_good HJ2.out HT3.out (by simpa using hE)).2
        simp only [Exit.jump]
        go_ret2
        exact ⟨_, by rw [HE.out]; rfl, by rw [HE.out]; exact ⟨ns3, HO3.out, rfl⟩, HB3.out⟩
    · have cY : Calls Try.prog 18 #[.string r, .string ⟨#[47]⟩] w' fun e w'' => (∃ p q, e = .returned (.tuple #[.string p, .string q, .bool true]) ∧ bytesOf r = bytesOf p ++ 47 :: bytesOf q ∧ ∀ z ∈ bytesOf p, z ≠ 47) ∧ Below w'.heap.size w' w'' := c.mono (by
        rintro e w'' ⟨⟨p, q, m, rfl, hp⟩, hb2⟩
        rcases hp with ⟨rfl, rfl, h⟩ | ⟨rfl, h⟩
        · exact absurd h h47
        · exact ⟨⟨p, q, rfl, h⟩, hb2⟩)
      have cS := fun (p : ByteArray) (hp : p.size ≤ 140737488351232) W (h : Below w'.heap.size w' W) => step_any w.heap.size v ns p W (owns_later_s HO.out h) (Nat.le_trans HS.out h.size) hns hp
      clear c h47
      go_wp2_with (first
        | (go_at_call 19; refine (cS _ HPz.out _ HB2.out).mono ?_; rintro e w3 ⟨v3, err, ns3, rfl, ht3, ho3, hb3⟩; have HT3 := Lib.hid ht3; have HO3 := Lib.hid ho3; have HB3 := Lib.hid ((HB.out.trans (HB2.out.mono HS.out)).trans hb3); clear ht3 ho3 hb3)
        | (go_at_call 18; refine cY.mono ?_; rintro e w2 ⟨⟨p, q, rfl, hp1, hp2⟩, hb2⟩; have HB2 := Lib.hid hb2; have HZ := Lib.hid (cut_smaller hp1); have HJ2 : Hid (J = foldP (ns.map bytesOf) (bytesOf p :: partsW (bytesOf q))) := Lib.hid (by rw [HJ.out, hp1, parts_append, parts_plain hp2]; rfl); have HPz := Lib.hid (Nat.le_trans HZ.out.2 hr); clear hb2 hp1 hp2))
      · rename_i hE
        have HE := Lib.hid (step_bad HJ2.out HT3.out (by simpa using hE))
        simp only [Exit.jump]
        go_ret2
        exact ⟨_, by rw [HE.out]; rfl, by rw [HE.out]; exact outS_nil _ _, HB3.out⟩
      · have hE : (err != 0) = false := by assumption
        have HE := Lib.hid (step_good HJ2.out HT3.out (by simpa using hE))
        go_step3
        exact ⟨rfl, ⟨⟨v3, ns3, q, _, _, _, _, _, _, _, _, _, _, _, _, _, _, _, _, _, _, _, _, _, _, _, _, _, _, _, _, _, _, _, rfl, Lib.hid ⟨HE.out.1, by have := HZ.out.1; omega, HE.out.2, HO3.out, HB3.out⟩⟩, HZ.out.1⟩⟩

end Go.Proofs.Ytjhdhglbgbpckaa
