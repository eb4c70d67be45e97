/-
  Proved here: what slices.Index and Contains say of numbers, and the landed log's placed.
  The conditions stand at each theorem.
-/
import Derived.Test.YtpmggbdmoopkfaaLgStart
import Derived.Test.YtpmggbdmoopkfaaInts
namespace Go.Proofs.Ytpmggbdmoopkfaa
open Go.RowKit
set_option linter.unusedVariables false
set_option linter.unusedSimpArgs false

/-- An index of what was found, or -1. -/
def FoundI (b : Bool) (k : Int) : Prop := (b = true → 0 ≤ k) ∧ (b = false → k = -1)

set_option maxRecDepth 100000 in
set_option maxHeartbeats 800000 in
theorem indexI_any {w : World} {ao : Option Addr} {len cap : Nat} {zs : List Int} (y : Int) (hA : IArg w ao len cap zs) :
    Calls Try.prog 52 #[.slice ao len cap, .int .i64 y] w fun e w' => (∃ k : Int, e = .returned (.int .i64 k) ∧ FoundI (decide (y ∈ zs)) k) ∧ w = w' := by
  have HA := Lib.hid hA
  have hlen := hA.big
  have HN := Lib.hid hA.len
  clear hA
  go_enter Try.func52, Try.ntmps52
  go_wp2_with fail
  go_loop [8] (fun iv => ∃ i : Nat, iv = .int .i64 (i : Int) ∧ i ≤ len ∧ Hid (¬ y ∈ zs.take i)) (fun iv => len - (intOf iv).toNat)
  case atStart => exact ⟨0, rfl, Nat.zero_le _, Lib.hid (by simp)⟩
  case round =>
    obtain ⟨i, rfl, hi, HP⟩ := hrel
    by_cases hlt : i < len
    · obtain ⟨b, off, x, rfl, hx, d1, _⟩ := HA.out.at hlt
      have i1 : (i : Int) < (len : Int) := by omega
      have HX := Lib.hid hx
      have i0 : (0 : Int) ≤ (i : Int) := by omega
      clear hx
      by_cases hxy : y = x
      · have HP2 : Hid (y ∈ zs) := Lib.hid (by rw [hxy]; exact List.mem_of_getElem? HX.out)
        have b1 : (y == x) = true := by simpa using hxy
        clear hxy
        go_wp2_with fail
        go_ret
        exact ⟨⟨_, rfl, fun _ => i0, fun h => absurd HP2.out (of_decide_eq_false h)⟩, rfl⟩
      · have HP2 : Hid (¬ y ∈ zs.take (i + 1)) := Lib.hid (by
          rw [List.take_add_one, HX.out, List.mem_append]
          rintro (h | h)
          · exact HP.out h
          · simp at h; exact hxy h)
        have b1 : (y == x) = false := by simpa using hxy
        clear hxy
        go_wp2_with fail
        go_round
        case rel => exact ⟨i + 1, by go_num, by omega, HP2⟩
        case measure => simp [intOf]; omega
    · obtain rfl : i = len := by omega
      have HP2 : Hid (¬ y ∈ zs) := Lib.hid (by have := HP.out; rwa [List.take_of_length_le (by rw [HN.out]; exact Nat.le_refl _)] at this)
      go_wp2_with fail
      go_ret
      exact ⟨⟨_, rfl, And.intro (fun h => absurd (of_decide_eq_true h) HP2.out) (fun _ => rfl)⟩, rfl⟩

set_option maxHeartbeats 400000 in
theorem containsI_any {w : World} {ao : Option Addr} {len cap : Nat} {zs : List Int} (y : Int) (hA : IArg w ao len cap zs) :
    Calls Try.prog 38 #[.slice ao len cap, .int .i64 y] w fun e w' => e = .returned (.bool (decide (y ∈ zs))) ∧ w = w' := by
  have c := indexI_any y hA
  clear hA
  by_cases hd : y ∈ zs
  · rw [decide_eq_true hd] at c ⊢
    go_enter Try.func38, Try.ntmps38
    go_wp2_with (go_at_call 52; refine c.mono ?_; rintro e w' ⟨⟨k, rfl, hk⟩, rfl⟩; replace hk := hk.1 rfl)
    go_ret
    exact ⟨rfl, rfl⟩
  · rw [decide_eq_false hd] at c ⊢
    go_enter Try.func38, Try.ntmps38
    go_wp2_with (go_at_call 52; refine c.mono ?_; rintro e w' ⟨⟨k, rfl, hk⟩, rfl⟩; obtain rfl := hk.2 rfl)
    go_ret
    exact ⟨rfl, rfl⟩

/-- May a transaction's blocks belong there? -/
def placedB (to : List Int) : Bool := to.all homeB && decide to.Nodup
theorem sound_parts (q : Int) (to : List Int) : soundD ⟨q, to⟩ = (okEnd q to.length && placedB to) := by
  have e : decide (1 ≤ to.length ∧ to.length ≤ 20 ∧ 1 ≤ q ∧ q ≤ 1073741824) = okEnd q to.length := by
    unfold okEnd
    by_cases h : 1 ≤ to.length ∧ to.length ≤ 20 ∧ 1 ≤ q ∧ q ≤ 1073741824
    · rw [decide_eq_true h, decide_eq_true (by omega)]
    · rw [decide_eq_false h, decide_eq_false (by omega)]
  unfold soundD placedB
  rw [← e]

def okTake (to : List Int) (i : Nat) : Prop := (to.take i).all homeB = true ∧ (to.take i).Nodup
theorem okTake_next {to : List Int} {i : Nat} {x : Int} (h : okTake to i) (hx : to[i]? = some x) (hh : homeB x = true) (hn : ¬ x ∈ to.take i) : okTake to (i + 1) := by
  unfold okTake
  rw [List.take_add_one, hx]
  refine ⟨by rw [List.all_append, h.1]; simp [hh], ?_⟩
  rw [List.nodup_append]
  exact ⟨h.2, by simp, fun a ha b hb => by simp at hb; subst hb; exact fun e => hn (e ▸ ha)⟩
theorem bad_home {to : List Int} {i : Nat} {x : Int} (hx : to[i]? = some x) (hh : homeB x = false) : placedB to = false := by
  unfold placedB
  have : to.all homeB = false := by
    cases h : to.all homeB with
    | false => rfl
    | true => have := List.all_eq_true.1 h x (List.mem_of_getElem? hx); rw [hh] at this; cases this
  rw [this]
  rfl
theorem bad_twice {to : List Int} {i : Nat} {x : Int} (hx : to[i]? = some x) (hn : x ∈ to.take i) : placedB to = false := by
  unfold placedB
  have : ¬ to.Nodup := fun h => by
    obtain ⟨hi, hx⟩ := List.getElem?_eq_some_iff.1 hx
    rw [← List.take_append_drop i to, List.nodup_append] at h
    exact h.2.2 x hn x (by rw [List.drop_eq_getElem_cons hi, hx]; exact List.mem_cons_self ..) rfl
  rw [decide_eq_false this, Bool.and_false]

set_option maxRecDepth 100000 in
set_option maxHeartbeats 3200000 in
theorem placed_any {w : World} {ao : Option Addr} {n cap : Nat} {to : List Int} (hA : IArg w ao n cap to) : Calls Try.prog 23 #[.slice ao n cap] w fun e w' => e = .returned (.bool (placedB to)) ∧ w = w' := by
  have HA := Lib.hid hA
  have hlen := hA.big
  have hcap := hA.2.2.2
  have HN := Lib.hid hA.len
  obtain ⟨P, hP⟩ : ∃ P, placedB to = P := ⟨_, rfl⟩
  have HP := Lib.hid hP
  rw [hP]
  clear hA hP
  go_enter Try.func23, Try.ntmps23
  go_wp2_with fail
  go_loop [8] (fun iv => ∃ i : Nat, iv = .int .i64 (i : Int) ∧ i ≤ n ∧ Hid (okTake to i)) (fun iv => n - (intOf iv).toNat)
  case atStart => exact ⟨0, rfl, Nat.zero_le _, Lib.hid ⟨rfl, by simp⟩⟩
  case round =>
    obtain ⟨i, rfl, hi, HK⟩ := hrel
    by_cases hlt : i < n
    · obtain ⟨b, off, x, rfl, hx, d1, _⟩ := HA.out.at hlt
      have i1 : (i : Int) < (n : Int) := by omega
      have i0 : (0 : Int) ≤ (i : Int) := by omega
      have i2 : (i : Int) ≤ (cap : Int) := by omega
      have HX := Lib.hid hx
      have c1 := containsI_any x (HA.out.take (k := i) (by omega))
      clear hx
      by_cases hh : homeB x = true
      · have HH := Lib.hid hh
        have hx2 : 0 ≤ x ∧ x < 480 ∧ x ≠ 1 ∧ (x < 19 ∨ 59 ≤ x) := of_decide_eq_true hh
        obtain ⟨x1, x2, x3, x4⟩ := hx2
        have b1 : (x == 1) = false := by simpa using x3
        clear hh
        rcases x4 with x4 | x4 <;> by_cases hm : x ∈ to.take i
        · rw [decide_eq_true hm] at c1
          have HF := Lib.hid (bad_twice HX.out hm)
          clear hm
          go_wp2_with (go_at_call 38; refine c1.mono ?_; rintro e w3 ⟨rfl, rfl⟩)
          go_ret
          exact ⟨by rw [← HP.out, HF.out]; rfl, rfl⟩
        · rw [decide_eq_false hm] at c1
          have HK2 := Lib.hid (okTake_next HK.out HX.out HH.out hm)
          clear hm
          go_wp2_with (go_at_call 38; refine c1.mono ?_; rintro e w3 ⟨rfl, rfl⟩)
          go_round
          case rel => exact ⟨i + 1, by go_num, by omega, HK2⟩
          case measure => simp [intOf]; omega
        · have x5 : 19 ≤ x := by omega
          have x6 : ¬ x < 59 := by omega
          rw [decide_eq_true hm] at c1
          have HF := Lib.hid (bad_twice HX.out hm)
          clear hm
          go_wp2_with (go_at_call 38; refine c1.mono ?_; rintro e w3 ⟨rfl, rfl⟩)
          go_ret
          exact ⟨by rw [← HP.out, HF.out]; rfl, rfl⟩
        · have x5 : 19 ≤ x := by omega
          have x6 : ¬ x < 59 := by omega
          rw [decide_eq_false hm] at c1
          have HK2 := Lib.hid (okTake_next HK.out HX.out HH.out hm)
          clear hm
          go_wp2_with (go_at_call 38; refine c1.mono ?_; rintro e w3 ⟨rfl, rfl⟩)
          go_round
          case rel => exact ⟨i + 1, by go_num, by omega, HK2⟩
          case measure => simp [intOf]; omega
      · rw [Bool.not_eq_true] at hh
        have HF := Lib.hid (bad_home HX.out hh)
        have hx2 : ¬ (0 ≤ x ∧ x < 480 ∧ x ≠ 1 ∧ (x < 19 ∨ 59 ≤ x)) := of_decide_eq_false hh
        have hx3 : (19 ≤ x ∧ x < 59) ∨ (x < 0 ∧ x < 19) ∨ (480 ≤ x ∧ 19 ≤ x ∧ 59 ≤ x) ∨ x = 1 := by omega
        clear hx2 hh c1
        rcases hx3 with ⟨x1, x2⟩ | ⟨x1, x2⟩ | ⟨x1, x2, x3⟩ | rfl
        · have b1 : (x == 1) = false := by simp; omega
          go_wp2_with fail
          go_ret
          exact ⟨by rw [← HP.out, HF.out]; rfl, rfl⟩
        · go_wp2_with fail
          go_ret
          exact ⟨by rw [← HP.out, HF.out]; rfl, rfl⟩
        · have b1 : (x == 1) = false := by simp; omega
          have x6 : ¬ x < 59 := by omega
          go_wp2_with fail
          go_ret
          exact ⟨by rw [← HP.out, HF.out]; rfl, rfl⟩
        · go_wp2_with fail
          go_ret
          exact ⟨by rw [← HP.out, HF.out]; rfl, rfl⟩
    · obtain rfl : i = n := by omega
      have HF : Hid (placedB to = true) := Lib.hid (by
        have h := HK.out
        unfold okTake at h
        rw [List.take_of_length_le (by rw [HN.out]; exact Nat.le_refl _)] at h
        unfold placedB
        rw [h.1, decide_eq_true h.2]
        rfl)
      go_wp2_with fail
      go_ret
      exact ⟨by rw [← HP.out, HF.out]; rfl, rfl⟩

end Go.Proofs.Ytpmggbdmoopkfaa
