/-
  Proved here: what slices.IndexFunc, ContainsFunc (of elsewhere), Index and Contains say of numbers; what the landed chain's apart says of blocks of its own and pointers.
  The conditions stand at each theorem.
-/
import Derived.Test.YtmgmlebkmdpddaaChNeed
namespace Go.Proofs.Ytmgmlebkmdpddaa
open Go.RowKit
set_option linter.unusedVariables false
set_option linter.unusedSimpArgs false

/-- A data block. -/
def dataD (x : Int) : Bool := decide (59 ≤ x ∧ x ≤ 479)
/-- An index of what was found, or -1. -/
def FoundI (b : Bool) (k : Int) : Prop := (b = true → 0 ≤ k) ∧ (b = false → k = -1)

set_option maxRecDepth 100000 in
set_option maxHeartbeats 800000 in
theorem indexElse_any {w : World} {ao : Option Addr} {len cap : Nat} {zs : List Int} (hA : IArg w ao len cap zs) :
    Calls Try.prog 19 #[.slice ao len cap, .func (.func 12) #[] #[]] w fun e w' => (∃ k : Int, e = .returned (.int .i64 k) ∧ FoundI (!zs.all dataD) k) ∧ w = w' := by
  have HA := Lib.hid hA
  have hlen := hA.big
  have HN := Lib.hid hA.len
  clear hA
  go_enter Try.func19, Try.ntmps19
  go_wp2_with fail
  go_loop [8] (fun iv => ∃ i : Nat, iv = .int .i64 (i : Int) ∧ i ≤ len ∧ Hid ((zs.take i).all dataD = true)) (fun iv => len - (intOf iv).toNat)
  case atStart => exact ⟨0, rfl, Nat.zero_le _, Lib.hid rfl⟩
  case round =>
    obtain ⟨i, rfl, hi, HP⟩ := hrel
    by_cases hlt : i < len
    · obtain ⟨b, off, x, rfl, hx, d1, _⟩ := HA.out.at hlt
      have i1 : (i : Int) < (len : Int) := by omega
      have cE := elsewhere_any x w
      have HX := Lib.hid hx
      have i0 : (0 : Int) ≤ (i : Int) := by omega
      clear hx
      cases hd : decide (59 ≤ x ∧ x ≤ 479) with
      | true =>
        rw [hd] at cE
        have HP2 : Hid ((zs.take (i + 1)).all dataD = true) := Lib.hid (by
          rw [List.take_add_one, HX.out, List.all_append, HP.out]
          simp [dataD, hd])
        clear hd
        go_wp2_with (go_at_call 12; refine cE.mono ?_; rintro e w3 ⟨rfl, rfl⟩)
        go_round
        case rel => exact ⟨i + 1, by go_num, by omega, HP2⟩
        case measure => simp [intOf]; omega
      | false =>
        rw [hd] at cE
        have HP2 : Hid (¬ zs.all dataD = true) := Lib.hid (fun h => by
          have := List.all_eq_true.1 h x (List.mem_of_getElem? HX.out)
          unfold dataD at this
          rw [hd] at this
          cases this)
        clear hd
        go_wp2_with (go_at_call 12; refine cE.mono ?_; rintro e w3 ⟨rfl, rfl⟩)
        go_ret
        exact ⟨⟨_, rfl, fun _ => i0, fun h => absurd (by simpa using h) HP2.out⟩, rfl⟩
    · obtain rfl : i = len := by omega
      have HP2 : Hid (zs.all dataD = true) := Lib.hid (by have := HP.out; rwa [List.take_of_length_le (by rw [HN.out]; exact Nat.le_refl _)] at this)
      go_wp2_with fail
      go_ret
      exact ⟨⟨_, rfl, And.intro (fun h => by rw [HP2.out] at h; cases h) (fun _ => rfl)⟩, rfl⟩

set_option maxHeartbeats 400000 in
theorem containsElse_any {w : World} {ao : Option Addr} {len cap : Nat} {zs : List Int} (hA : IArg w ao len cap zs) :
    Calls Try.prog 11 #[.slice ao len cap, .func (.func 12) #[] #[]] w fun e w' => e = .returned (.bool (!zs.all dataD)) ∧ w = w' := by
  have c := indexElse_any hA
  clear hA
  cases hd : zs.all dataD with
  | true =>
    rw [hd] at c
    go_enter Try.func11, Try.ntmps11
    go_wp2_with (go_at_call 19; refine c.mono ?_; rintro e w' ⟨⟨k, rfl, hk⟩, rfl⟩; obtain rfl := hk.2 rfl)
    go_ret
    exact ⟨rfl, rfl⟩
  | false =>
    rw [hd] at c
    go_enter Try.func11, Try.ntmps11
    go_wp2_with (go_at_call 19; refine c.mono ?_; rintro e w' ⟨⟨k, rfl, hk⟩, rfl⟩; replace hk := hk.1 rfl)
    go_ret
    exact ⟨rfl, rfl⟩

set_option maxRecDepth 100000 in
set_option maxHeartbeats 800000 in
theorem indexI_any {w : World} {ao : Option Addr} {len cap : Nat} {zs : List Int} (y : Int) (hA : IArg w ao len cap zs) :
    Calls Try.prog 28 #[.slice ao len cap, .int .i64 y] w fun e w' => (∃ k : Int, e = .returned (.int .i64 k) ∧ FoundI (decide (y ∈ zs)) k) ∧ w = w' := by
  have HA := Lib.hid hA
  have hlen := hA.big
  have HN := Lib.hid hA.len
  clear hA
  go_enter Try.func28, Try.ntmps28
  go_wp2_with fail
  go_loop [8] (fun iv => ∃ i : Nat, iv = .int .i64 (i : Int) ∧ i ≤ len ∧ Hid (¬ y ∈ zs.take i)) (fun iv => len - (intOf iv).toNat)
  case atStart => exact ⟨0, rfl, Nat.zero_le _, Lib.hid (by simp)⟩
  case round =>
    obtain ⟨i, rfl, hi, HP⟩ := hrel
    by_cases hlt : i < len
    · obtain ⟨b, off, x, rfl, hx, d1, _⟩ := HA.out.at hlt
      have i1 : (i : Int) < (len : Int) := by omega
      have HX := Lib.hid hx
      have i0 : (0 : Int) ≤ (i : Int) := by omega
      clear hx
      by_cases hxy : y = x
      · have HP2 : Hid (y ∈ zs) := Lib.hid (by rw [hxy]; exact List.mem_of_getElem? HX.out)
        have b1 : (y == x) = true := by simpa using hxy
        clear hxy
        go_wp2_with fail
        go_ret
        exact ⟨⟨_, rfl, fun _ => i0, fun h => absurd HP2.out (of_decide_eq_false h)⟩, rfl⟩
      · have HP2 : Hid (¬ y ∈ zs.take (i + 1)) := Lib.hid (by
          rw [List.take_add_one, HX.out, List.mem_append]
          rintro (h | h)
          · exact HP.out h
          · simp at h; exact hxy h)
        have b1 : (y == x) = false := by simpa using hxy
        clear hxy
        go_wp2_with fail
        go_round
        case rel => exact ⟨i + 1, by go_num, by omega, HP2⟩
        case measure => simp [intOf]; omega
    · obtain rfl : i = len := by omega
      have HP2 : Hid (¬ y ∈ zs) := Lib.hid (by have := HP.out; rwa [List.take_of_length_le (by rw [HN.out]; exact Nat.le_refl _)] at this)
      go_wp2_with fail
      go_ret
      exact ⟨⟨_, rfl, And.intro (fun h => absurd (of_decide_eq_true h) HP2.out) (fun _ => rfl)⟩, rfl⟩

set_option maxHeartbeats 400000 in
theorem containsI_any {w : World} {ao : Option Addr} {len cap : Nat} {zs : List Int} (y : Int) (hA : IArg w ao len cap zs) :
    Calls Try.prog 20 #[.slice ao len cap, .int .i64 y] w fun e w' => e = .returned (.bool (decide (y ∈ zs))) ∧ w = w' := by
  have c := indexI_any y hA
  clear hA
  by_cases hd : y ∈ zs
  · rw [decide_eq_true hd] at c ⊢
    go_enter Try.func20, Try.ntmps20
    go_wp2_with (go_at_call 28; refine c.mono ?_; rintro e w' ⟨⟨k, rfl, hk⟩, rfl⟩; replace hk := hk.1 rfl)
    go_ret
    exact ⟨rfl, rfl⟩
  · rw [decide_eq_false hd] at c ⊢
    go_enter Try.func20, Try.ntmps20
    go_wp2_with (go_at_call 28; refine c.mono ?_; rintro e w' ⟨⟨k, rfl, hk⟩, rfl⟩; obtain rfl := hk.2 rfl)
    go_ret
    exact ⟨rfl, rfl⟩

theorem not_mem_take {zs : List Int} (h : zs.Nodup) {i : Nat} {x : Int} (hx : zs[i]? = some x) : ¬ x ∈ zs.take i := by
  intro hm
  obtain ⟨hi, hx⟩ := List.getElem?_eq_some_iff.1 hx
  rw [← List.take_append_drop i zs, List.nodup_append] at h
  exact h.2.2 x hm x (by rw [List.drop_eq_getElem_cons hi, hx]; exact List.mem_cons_self ..) rfl

set_option maxRecDepth 100000 in
set_option maxHeartbeats 1600000 in
theorem chApart_true {w : World} {ao bo : Option Addr} {n cap m c : Nat} {zs ps : List Int} (hA : IArg w ao n cap zs) (hB : IArg w bo m c ps) (hn : zs.Nodup) (hd : ∀ z ∈ zs, ¬ z ∈ ps) :
    Calls Try.prog 13 #[.slice ao n cap, .slice bo m c] w fun e w' => e = .returned (.bool true) ∧ w = w' := by
  have HA := Lib.hid hA
  have HB := Lib.hid hB
  have hlen := hA.big
  have hcap := hA.2.2.2
  have HN := Lib.hid hA.len
  have HND := Lib.hid hn
  have HD := Lib.hid hd
  clear hA hB hn hd
  go_enter Try.func13, Try.ntmps13
  go_wp2_with fail
  go_loop [9] (fun iv => ∃ i : Nat, iv = .int .i64 (i : Int) ∧ i ≤ n) (fun iv => n - (intOf iv).toNat)
  case atStart => exact ⟨0, rfl, Nat.zero_le _⟩
  case round =>
    obtain ⟨i, rfl, hi⟩ := hrel
    by_cases hlt : i < n
    · obtain ⟨b, off, x, rfl, hx, d1, _⟩ := HA.out.at hlt
      have i1 : (i : Int) < (n : Int) := by omega
      have i0 : (0 : Int) ≤ (i : Int) := by omega
      have i2 : (i : Int) ≤ (cap : Int) := by omega
      have c1 := containsI_any x (HA.out.take (k := i) (by omega))
      rw [decide_eq_false (not_mem_take HND.out hx)] at c1
      have c2 := containsI_any x HB.out
      rw [decide_eq_false (HD.out x (List.mem_of_getElem? hx))] at c2
      clear hx
      go_wp2_with (first | (go_at_call 20; refine c1.mono ?_; rintro e w3 ⟨rfl, rfl⟩; clear c1) | (go_at_call 20; refine c2.mono ?_; rintro e w3 ⟨rfl, rfl⟩))
      go_round
      case rel => exact ⟨i + 1, by go_num, by omega⟩
      case measure => simp [intOf]; omega
    · obtain rfl : i = n := by omega
      go_wp2_with fail
      go_ret
      exact ⟨rfl, rfl⟩

end Go.Proofs.Ytmgmlebkmdpddaa
