/-
  Proved here: the path of names, as the landed path answers it; whether two lists of texts are alike (slices.Equal).
  The conditions stand at each theorem.
-/
import Derived.Test.YtjhdhglbgbpckaaPthSplit
namespace Go.Proofs.Ytjhdhglbgbpckaa
open Go.RowKit
set_option linter.unusedVariables false
set_option linter.unusedSimpArgs false

/-- An index of what was found, or -1. -/
def FoundN (b : Bool) (e : Ending) : Prop := ∃ k : Int, e = .returned (.int .i64 k) ∧ (b = true → 0 ≤ k) ∧ (b = false → k = -1)

set_option maxRecDepth 100000 in
set_option maxHeartbeats 800000 in
theorem indexName_any {w : World} {ao : Option Addr} {len cap : Nat} {ns : List ByteArray} (hA : SIs w ao len ns) (hs : ∀ s ∈ ns, s.size ≤ 140737488351232) :
    Calls Try.prog 28 #[.slice ao len cap, .func (.func 22) #[] #[]] w fun e w' => FoundN (!ns.all named) e ∧ w = w' := by
  have HA := Lib.hid hA
  have hlen := hA.2.1
  have HN := Lib.hid hA.len
  have HS := Lib.hid hs
  clear hA hs
  go_enter Try.func28, Try.ntmps28
  go_wp2_with fail
  go_loop [8] (fun iv => ∃ i : Nat, iv = .int .i64 (i : Int) ∧ i ≤ len ∧ Hid ((ns.take i).all named = true)) (fun iv => len - (intOf iv).toNat)
  case atStart => exact ⟨0, rfl, Nat.zero_le _, Lib.hid rfl⟩
  case round =>
    obtain ⟨i, rfl, hi, HP⟩ := hrel
    by_cases hlt : i < len
    · obtain ⟨b, off, x, rfl, hx, d1⟩ := HA.out.at hlt
      have i1 : (i : Int) < (len : Int) := by omega
      have cE := nameless_any x w (HS.out x (List.mem_of_getElem? hx))
      have HX := Lib.hid hx
      have i0 : (0 : Int) ≤ (i : Int) := by omega
      clear hx
      cases hd : named x with
      | true =>
        rw [hd] at cE
        have HP2 : Hid ((ns.take (i + 1)).all named = true) := Lib.hid (by
          rw [List.take_add_one, HX.out, List.all_append, HP.out]
          simp [hd])
        clear hd
        go_wp2_with (go_at_call 22; refine cE.mono ?_; rintro e w3 ⟨rfl, rfl⟩)
        go_round
        case rel => exact ⟨i + 1, by go_num, by omega, HP2⟩
        case measure => simp [intOf]; omega
      | false =>
        rw [hd] at cE
        have HP2 : Hid (¬ ns.all named = true) := Lib.hid (fun h => by
          have := List.all_eq_true.1 h x (List.mem_of_getElem? HX.out)
          rw [hd] at this
          cases this)
        clear hd
        go_wp2_with (go_at_call 22; refine cE.mono ?_; rintro e w3 ⟨rfl, rfl⟩)
        go_ret
        exact ⟨⟨_, rfl, fun _ => i0, fun h => absurd (by simpa using h) HP2.out⟩, rfl⟩
    · obtain rfl : i = len := by omega
      have HP2 : Hid (ns.all named = true) := Lib.hid (by have := HP.out; rwa [List.take_of_length_le (by rw [HN.out]; exact Nat.le_refl _)] at this)
      go_wp2_with fail
      go_ret
      exact ⟨⟨_, rfl, fun h => (by rw [HP2.out] at h; cases h), fun _ => rfl⟩, rfl⟩

set_option maxRecDepth 100000 in
set_option maxHeartbeats 800000 in
theorem containsName_any {w : World} {ao : Option Addr} {len cap : Nat} {ns : List ByteArray} (hA : SIs w ao len ns) (hs : ∀ s ∈ ns, s.size ≤ 140737488351232) :
    Calls Try.prog 21 #[.slice ao len cap, .func (.func 22) #[] #[]] w fun e w' => e = .returned (.bool (!ns.all named)) ∧ w = w' := by
  have c := indexName_any (cap := cap) hA hs
  cases hn : ns.all named
  all_goals
    rw [hn] at c
    go_enter Try.func21, Try.ntmps21
    first
    | (go_wp2_with (go_at_call 28; refine c.mono ?_; rintro e w3 ⟨⟨k, rfl, k1, k2⟩, rfl⟩; have hk : (0 : Int) ≤ k := k1 rfl; clear k1 k2)
       go_ret
       exact ⟨rfl, rfl⟩)
    | (go_wp2_with (go_at_call 28; refine c.mono ?_; rintro e w3 ⟨⟨k, rfl, k1, k2⟩, rfl⟩; obtain rfl : k = -1 := k2 rfl; clear k1 k2)
       go_ret
       exact ⟨rfl, rfl⟩)

set_option maxRecDepth 100000 in
set_option maxHeartbeats 800000 in
theorem Join_any {ao : Option Addr} {m cap : Nat} {ns : List ByteArray} (w : World) (hX : SIs w ao m ns) (hs : ∀ s ∈ ns, s.size ≤ 140737488351232) (hcap : m ≤ cap) :
    Calls Try.prog 13 #[.slice ao m cap] w fun e w' => (∃ s, e = .returned (.tuple #[.string s, .int .i64 (joinW (ns.map bytesOf)).1]) ∧ bytesOf s = (joinW (ns.map bytesOf)).2) ∧ Below w.heap.size w w' := by
  have hlm : (ns.map bytesOf).length = m := by rw [List.length_map, hX.len]
  have hbm := hX.2.1
  obtain ⟨J, hJ⟩ : ∃ J, joinW (ns.map bytesOf) = J := ⟨_, rfl⟩
  rw [hJ]
  unfold joinW at hJ
  rw [hlm, names_nm] at hJ
  by_cases h16 : 16 < m
  · rw [if_pos h16] at hJ
    subst hJ
    have i1 : (16 : Int) < (m : Int) := by omega
    go_enter Try.func13, Try.ntmps13
    go_wp2_with fail
    go_ret2
    exact ⟨⟨_, rfl, rfl⟩, Below.refl _ _⟩
  · rw [if_neg h16] at hJ
    have i1 : ¬ (16 : Int) < (m : Int) := by omega
    have c := containsName_any (cap := cap) hX hs
    cases hn : ns.all named with
    | false =>
      rw [hn, if_neg (by decide)] at hJ
      rw [hn] at c
      subst hJ
      clear hn hX hs
      go_enter Try.func13, Try.ntmps13
      go_wp2_with (go_at_call 21; refine c.mono ?_; rintro e w3 ⟨rfl, rfl⟩)
      go_ret2
      exact ⟨⟨_, rfl, rfl⟩, Below.refl _ _⟩
    | true =>
      rw [hn, if_pos rfl] at hJ
      rw [hn] at c
      have h17 : ∀ s ∈ ns, s.size ≤ 17 := fun s hs => by
        have := List.all_eq_true.1 hn s hs
        rw [named_nm] at this
        have := (nm_facts this).2.2.1
        rwa [bytesOf_length] at this
      have cJ := strJoin_any w hX (by omega) hcap h17
      have HJ : Hid (J = (0, if ns = [] then [47] else joinN (ns.map bytesOf))) := Lib.hid (by rw [← hJ]; by_cases h : ns = [] <;> simp [h])
      clear hn hX hs hJ h17
      go_enter Try.func13, Try.ntmps13
      go_wp2_with (first | (go_at_call 21; refine c.mono ?_; rintro e w3 ⟨rfl, rfl⟩) | (go_at_call 23; refine cJ.mono ?_; rintro e w4 ⟨⟨s, rfl, hs1, hs2⟩, hb⟩; have HB := Lib.hid hb; have HS := Lib.hid hs1; clear hb hs1))
      go_ret2
      exact ⟨⟨_, by rw [HJ.out]; rfl, by rw [HJ.out]; exact (slash_bytes _).trans HS.out⟩, HB.out⟩

set_option maxRecDepth 100000 in
set_option maxHeartbeats 1600000 in
theorem Equal_any {ao bo : Option Addr} {m n c1 c2 : Nat} {xs ys : List ByteArray} (w : World) (hX : SIs w ao m xs) (hY : SIs w bo n ys) :
    Calls Try.prog 24 #[.slice ao m c1, .slice bo n c2] w fun e w' => e = .returned (.bool (decide (xs = ys))) ∧ Below w.heap.size w w' := by
  have HX := Lib.hid hX
  have HY := Lib.hid hY
  have hbm := hX.2.1
  have hbn := hY.2.1
  have HLX := Lib.hid hX.len
  have HLY := Lib.hid hY.len
  clear hX hY
  by_cases hmn : m = n
  · subst hmn
    go_enter Try.func24, Try.ntmps24
    go_wp2_with fail
    go_loopw [13] (fun iv wr => ∃ i : Nat, iv = .int .i64 (i : Int) ∧ i ≤ m ∧ Hid (xs.take i = ys.take i) ∧ Hid (Below w.heap.size w wr)) (fun iv _ => m - (intOf iv).toNat)
    case atStart => exact ⟨0, rfl, Nat.zero_le _, Lib.hid rfl, Lib.hid (Below.refl _ _)⟩
    case round =>
      obtain ⟨i, rfl, hi, HT, HB⟩ := hrel
      by_cases hlt : i < m
      · obtain ⟨b1, o1, x, rfl, hx, d1⟩ := (HX.out.later HB.out).at hlt
        obtain ⟨b2, o2, y, rfl, hy, d2⟩ := (HY.out.later HB.out).at hlt
        have i1 : (i : Int) < (m : Int) := by omega
        have HXI := Lib.hid hx
        have HYI := Lib.hid hy
        have hs := str_is x y
        clear hx hy
        by_cases hxy : x = y
        · subst hxy
          go_wp2_with fail
          go_big_quiet (fail)
          go_wp2_with fail
          go_roundw
          case rel => exact ⟨i + 1, by go_num, by omega, Lib.hid (by rw [List.take_add_one, List.take_add_one, HT.out, HXI.out, HYI.out]), Lib.hid (below_drewN HB.out _)⟩
          case measure => simp [intOf]; omega
        · rw [decide_eq_false hxy] at hs
          have HNE : Hid (decide (xs = ys) = false) := Lib.hid (decide_eq_false (fun e => by
            have h := HXI.out
            rw [e, HYI.out] at h
            exact hxy (Option.some.inj h).symm))
          go_wp2_with fail
          go_big_quiet (fail)
          go_wp2_with fail
          go_ret
          exact ⟨by rw [HNE.out]; rfl, below_drewN HB.out _⟩
      · obtain rfl : i = m := by omega
        have HE : Hid (decide (xs = ys) = true) := Lib.hid (decide_eq_true (by
          have h := HT.out
          rw [List.take_of_length_le (by rw [HLX.out]; exact Nat.le_refl _), List.take_of_length_le (by rw [HLY.out]; exact Nat.le_refl _)] at h
          exact h))
        go_wp2_with fail
        go_ret
        exact ⟨by rw [HE.out]; rfl, HB.out⟩
  · have HNE : Hid (decide (xs = ys) = false) := Lib.hid (decide_eq_false (fun e => hmn (by rw [← HLX.out, ← HLY.out, e])))
    have h1 : ((m : Int) != (n : Int)) = true := by simp; omega
    have h2 : ((m : Int) == (n : Int)) = false := by simp; omega
    go_enter Try.func24, Try.ntmps24
    go_wp2_with fail
    go_ret
    exact ⟨by rw [HNE.out]; rfl, Below.refl _ _⟩

end Go.Proofs.Ytjhdhglbgbpckaa
