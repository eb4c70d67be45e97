/-
  Proved here: what the document's own Home and Sound of a log answer.
  The conditions stand at each theorem.
-/
import Derived.Test.YtpmggbdmoopkfaaLogF
import Derived.Test.YtpmggbdmoopkfaaInts
import Derived.Deep.QuietTactic
import Derived.BigQuiet
namespace Go.Proofs.Ytpmggbdmoopkfaa
open Go.RowKit
set_option linter.unusedVariables false
set_option linter.unusedSimpArgs false

set_option maxHeartbeats 800000 in
theorem RHome_any (n : Int) (w : World) : Calls Try.prog 44 #[.int .i64 n] w fun e w' => e = .returned (.bool (homeB n)) ∧ w = w' := by
  by_cases h0 : n < 0
  · rw [show homeB n = false from decide_eq_false (by omega)]
    go_enter Try.func44, Try.ntmps44
    go_wp2_with fail
    go_ret
    exact ⟨rfl, rfl⟩
  · by_cases h1 : 480 ≤ n
    · rw [show homeB n = false from decide_eq_false (by omega)]
      go_enter Try.func44, Try.ntmps44
      go_wp2_with fail
      go_ret
      exact ⟨rfl, rfl⟩
    · by_cases h2 : n = 1
      · subst h2
        go_enter Try.func44, Try.ntmps44
        go_wp2_with fail
        go_ret
        exact ⟨rfl, rfl⟩
      · have b2 : (n != 1) = true := by simpa using h2
        have b3 : (n == 1) = false := by simpa using h2
        by_cases h3 : n < 19
        · rw [show homeB n = true from decide_eq_true (by omega)]
          clear h2
          go_enter Try.func44, Try.ntmps44
          go_wp2_with fail
          go_ret
          exact ⟨by first | rfl | simp, rfl⟩
        · by_cases h4 : 59 ≤ n
          · rw [show homeB n = true from decide_eq_true (by omega)]
            clear h2
            go_enter Try.func44, Try.ntmps44
            go_wp2_with fail
            go_ret
            exact ⟨by first | rfl | simp, rfl⟩
          · rw [show homeB n = false from decide_eq_false (by omega)]
            clear h2
            go_enter Try.func44, Try.ntmps44
            go_wp2_with fail
            go_ret
            exact ⟨by first | rfl | simp, rfl⟩

/-- A descriptor as a value. -/
def descV (seq : Int) (v : Value) : Value := .agg #[.int .i64 seq, v]

theorem sound_take_false {seq : Int} {to : List Int} {i : Nat} {x : Int} (hx : to[i]? = some x) (h : homeB x = false ∨ x ∈ to.take i) : soundD ⟨seq, to⟩ = false := by
  cases hs : soundD ⟨seq, to⟩ with
  | false => rfl
  | true =>
    unfold soundD at hs
    rw [Bool.and_eq_true, Bool.and_eq_true, decide_eq_true_eq, decide_eq_true_eq] at hs
    rcases h with h | h
    · have := List.all_eq_true.1 hs.2.1 x (List.mem_of_getElem? hx)
      rw [h] at this
      cases this
    · obtain ⟨hi, hx⟩ := List.getElem?_eq_some_iff.1 hx
      have hn := hs.2.2
      simp only at hn
      rw [← List.take_append_drop i to, List.nodup_append] at hn
      exact absurd rfl (hn.2.2 x h x (by rw [List.drop_eq_getElem_cons hi, hx]; exact List.mem_cons_self ..))
theorem sound_steps {seq : Int} {to : List Int} (h0 : 1 ≤ to.length ∧ to.length ≤ 20 ∧ 1 ≤ seq ∧ seq ≤ 1073741824) (h1 : to.all homeB = true) (h2 : to.Nodup) : soundD ⟨seq, to⟩ = true := by
  unfold soundD
  rw [Bool.and_eq_true, Bool.and_eq_true, decide_eq_true_eq, decide_eq_true_eq]
  exact ⟨h0, h1, h2⟩
theorem nodup_step {to : List Int} {i : Nat} {x : Int} (h : (to.take i).Nodup) (hx : to[i]? = some x) (hn : x ∉ to.take i) : (to.take (i + 1)).Nodup := by
  rw [List.take_add_one, hx]
  show (to.take i ++ [x]).Nodup
  rw [List.nodup_append]
  exact ⟨h, by simp, fun a ha b hb e => hn (by rw [List.mem_singleton.1 hb] at e; rw [← e]; exact ha)⟩

set_option maxRecDepth 100000 in
set_option maxHeartbeats 3200000 in
theorem RSound_any {w : World} {ao : Option Addr} {len cap : Nat} {to : List Int} (seq : Int) (hA : IArg w ao len cap to) :
    Calls Try.prog 27 #[.agg #[.int .i64 seq, .slice ao len cap]] w fun e w' => e = .returned (.bool (soundD ⟨seq, to⟩)) ∧ Below w.heap.size w w' := by
  have hlen := hA.len
  have HA := Lib.hid hA
  have HB0 : Hid (Below w.heap.size w (w.alloc (.cells #[.int .i64 seq, .slice ao len cap] 24))) := Lib.hid ((Below.refl _ _).alloc (Nat.le_refl _) _)
  have n1 : (w.alloc (.cells #[.int .i64 seq, .slice ao len cap] 24)).cell? ⟨w.heap.size, 1, none⟩ = some (.slice ao len cap) := by rw [World.cell?_alloc_new]; rfl
  have HL := Lib.hid hlen
  by_cases hb : 1 ≤ len ∧ len ≤ 20 ∧ 1 ≤ seq ∧ seq ≤ 1073741824
  · have HBB : Hid (1 ≤ to.length ∧ to.length ≤ 20 ∧ 1 ≤ seq ∧ seq ≤ 1073741824) := Lib.hid (by rw [hlen]; exact hb)
    obtain ⟨b1, b2, b3, b4⟩ := hb
    have c1 : (1 : Int) ≤ (len : Int) := by omega
    have c2 : (len : Int) ≤ 20 := by omega
    have HFB : Hid (∀ i x, to[i]? = some x → homeB x = false ∨ x ∈ to.take i → soundD ⟨seq, to⟩ = false) := Lib.hid (fun i x hx h => sound_take_false hx h)
    have HTR : Hid (to.all homeB = true → to.Nodup → soundD ⟨seq, to⟩ = true) := Lib.hid (sound_steps HBB.out)
    obtain ⟨S, hS⟩ : ∃ S, soundD ⟨seq, to⟩ = S := ⟨_, rfl⟩
    rw [hS] at HFB HTR
    rw [hS]
    clear hA hlen hS
    go_enter Try.func27, Try.ntmps27
    go_wp2_with fail
    obtain ⟨A, hA1⟩ : ∃ A, w.alloc (.cells #[.int .i64 seq, .slice ao len cap] 24) = A := ⟨_, rfl⟩
    rw [hA1] at HB0 n1 ⊢
    have N1 := Lib.hid n1
    clear hA1 n1
    go_loopw [3] (fun iv wr => ∃ i : Nat, iv = .int .i64 (i : Int) ∧ i ≤ len ∧ Hid ((to.take i).all homeB = true) ∧ Hid ((to.take i).Nodup) ∧ Hid (Below A.heap.size A wr)) (fun iv _ => len - (intOf iv).toNat)
    case atStart => exact ⟨0, rfl, Nat.zero_le _, Lib.hid rfl, Lib.hid (by rw [List.take_zero]; exact List.nodup_nil), Lib.hid (Below.refl _ _)⟩
    case round =>
      obtain ⟨i, rfl, hi, HH, HN, HBR⟩ := hrel
      by_cases hlt : i < len
      · obtain ⟨fb, fo, x, rfl, hx, hc, _⟩ := HA.out.at hlt
        have d1 : wr.cell? ⟨fb, fo + i, none⟩ = some (.int .i64 x) := cell_later HBR.out (cell_later HB0.out hc)
        have n2 := cell_later HBR.out N1.out
        have i1 : (i : Int) < (len : Int) := by omega
        have i0 : (0 : Int) ≤ (i : Int) := by omega
        have HX := Lib.hid hx
        have HCX := Lib.hid hc
        have cH := RHome_any x
        clear hc hx
        cases hh : homeB x with
        | false =>
          rw [hh] at cH
          have HE : Hid (S = false) := Lib.hid (HFB.out i x HX.out (Or.inl hh))
          clear hh
          go_wp2_with (go_at_call 44; refine (cH _).mono ?_; rintro e w3 ⟨rfl, rfl⟩)
          go_ret
          exact ⟨by rw [HE.out]; rfl, HB0.out.trans (HBR.out.mono HB0.out.size)⟩
        | true =>
          rw [hh] at cH
          have HH2 : Hid ((to.take (i + 1)).all homeB = true) := Lib.hid (by rw [List.take_add_one, HX.out, List.all_append, HH.out]; simp [hh])
          clear hh
          go_wp2_with (go_at_call 44; refine (cH _).mono ?_; rintro e w3 ⟨rfl, rfl⟩)
          clear d1 n2
          obtain ⟨W1, hW1⟩ : ∃ W1, wr = W1 := ⟨_, rfl⟩
          rw [hW1] at HBR ⊢
          clear hW1 wr
          go_loopw [4] (fun kv wr => ∃ k : Nat, kv = .int .i64 (k : Int) ∧ k ≤ i ∧ Hid (x ∉ to.take k) ∧ Hid (Below A.heap.size A wr)) (fun kv _ => i - (intOf kv).toNat)
          case atStart => exact ⟨0, rfl, Nat.zero_le _, Lib.hid (by simp), HBR⟩
          case round =>
            obtain ⟨k, rfl, hk, HK, HBK⟩ := hrel
            by_cases hkl : k < i
            · obtain ⟨fb', fo', y, he, hy, hc, _⟩ := HA.out.at (show k < len by omega)
              simp only [Option.some.injEq, Addr.mk.injEq, and_true] at he
              obtain ⟨rfl, rfl⟩ := he
              have d2 : wr.cell? ⟨fb, fo + k, none⟩ = some (.int .i64 y) := cell_later HBK.out (cell_later HB0.out hc)
              have d1 : wr.cell? ⟨fb, fo + i, none⟩ = some (.int .i64 x) := cell_later HBK.out (cell_later HB0.out HCX.out)
              have n2 := cell_later HBK.out N1.out
              have k1 : (k : Int) < (i : Int) := by omega
              have k2 : (k : Int) < (len : Int) := by omega
              have HY := Lib.hid hy
              clear hc hy
              by_cases hxy : y = x
              · have HE : Hid (S = false) := Lib.hid (HFB.out i x HX.out (Or.inr (by
                  rw [← hxy]
                  refine List.mem_of_getElem? (i := k) ?_
                  rw [List.getElem?_take, if_pos hkl]
                  exact HY.out)))
                have b5 : (y == x) = true := by simpa using hxy
                clear hxy
                go_wp2_with fail
                go_quiet (fail)
                go_wp2_with fail
                go_ret
                exact ⟨by rw [HE.out]; rfl, HB0.out.trans ((below_drewN HBK.out _).mono HB0.out.size)⟩
              · have HK2 : Hid (x ∉ to.take (k + 1)) := Lib.hid (by
                  rw [List.take_add_one, HY.out, List.mem_append]
                  rintro (h | h)
                  · exact HK.out h
                  · simp at h; exact hxy h.symm)
                have b5 : (y == x) = false := by simpa using hxy
                clear hxy
                go_wp2_with fail
                go_quiet (fail)
                go_wp2_with fail
                go_roundw
                case rel => exact ⟨k + 1, by go_num, by omega, HK2, Lib.hid (below_drewN HBK.out _)⟩
                case measure => simp [intOf]; omega
            · obtain rfl : k = i := by omega
              have HN2 : Hid ((to.take (k + 1)).Nodup) := Lib.hid (nodup_step HN.out HX.out HK.out)
              go_wp2_with fail
              go_roundw
              case rel => exact ⟨k + 1, by go_num, by omega, HH2, HN2, HBK⟩
              case measure => simp [intOf]; omega
      · obtain rfl : i = len := by omega
        have n2 := cell_later HBR.out N1.out
        have HE : Hid (S = true) := Lib.hid (HTR.out (by have := HH.out; rwa [List.take_of_length_le (by rw [HL.out]; exact Nat.le_refl _)] at this) (by have := HN.out; rwa [List.take_of_length_le (by rw [HL.out]; exact Nat.le_refl _)] at this))
        go_wp2_with fail
        go_ret
        exact ⟨by rw [HE.out]; rfl, HB0.out.trans (HBR.out.mono HB0.out.size)⟩
  · have HE : Hid (soundD ⟨seq, to⟩ = false) := Lib.hid (by
      unfold soundD
      rw [decide_eq_false (by rw [hlen]; exact hb)]
      rfl)
    have HNB : Hid (¬ (1 ≤ len ∧ len ≤ 20 ∧ 1 ≤ seq ∧ seq ≤ 1073741824)) := Lib.hid hb
    rw [HE.out]
    clear hA hlen hb
    go_enter Try.func27, Try.ntmps27
    go_wp2_with fail
    all_goals (try (exfalso; have := HNB.out; omega))
    all_goals go_ret
    all_goals exact ⟨rfl, HB0.out⟩

end Go.Proofs.Ytpmggbdmoopkfaa
