/-
  Proved here: what the landed log's ring says of a log, what its closure over the blocks answers, and bytes.Clone.
  The conditions stand at each theorem.
-/
import Derived.Test.YtpmggbdmoopkfaaLgBegin
import Derived.Test.YtpmggbdmoopkfaaRowsB
namespace Go.Proofs.Ytpmggbdmoopkfaa
open Go.RowKit
set_option linter.unusedVariables false
set_option linter.unusedSimpArgs false

theorem ring1_any (ad : Option Addr) (l c : Nat) (w : World) : Calls Try.prog 50 #[.slice ad l c] w fun e w' => e = .returned (.bool (decide (l ≠ 64))) ∧ w = w' := by
  by_cases h : l = 64
  · subst h
    go_enter Try.func50, Try.ntmps50
    go_wp2_with fail
    go_ret
    exact ⟨rfl, rfl⟩
  · have hne : ((l : Int) != 64) = true := by simp; omega
    rw [decide_eq_true h]
    go_enter Try.func50, Try.ntmps50
    go_wp2_with fail
    go_ret
    exact ⟨rfl, rfl⟩

def all64 (Z : List (List Int)) : Bool := Z.all fun b => decide (b.length = 64)

set_option maxRecDepth 100000 in
set_option maxHeartbeats 1600000 in
theorem indexRing_any {w : World} {ao : Option Addr} {m cap : Nat} {Z : List (List Int)} (hR : RowsIn w ao m cap Z) (hm : m ≤ 140737488351232) :
    Calls Try.prog 57 #[.slice ao m cap, .func (.func 50) #[] #[]] w fun e w' => (∃ k : Int, e = .returned (.int .i64 k) ∧ FoundI (!all64 Z) k) ∧ w = w' := by
  have HR := Lib.hid hR
  have HN := Lib.hid hR.1
  clear hR
  go_enter Try.func57, Try.ntmps57
  go_wp2_with fail
  go_loop [8] (fun iv => ∃ i : Nat, iv = .int .i64 (i : Int) ∧ i ≤ m ∧ Hid (all64 (Z.take i) = true)) (fun iv => m - (intOf iv).toNat)
  case atStart => exact ⟨0, rfl, Nat.zero_le _, Lib.hid rfl⟩
  case round =>
    obtain ⟨i, rfl, hi, HP⟩ := hrel
    by_cases hlt : i < m
    · obtain ⟨b, off, ad, l, c, rfl, d1, hB⟩ := HR.out.at hlt
      have i1 : (i : Int) < (m : Int) := by omega
      have i0 : (0 : Int) ≤ (i : Int) := by omega
      have hzl := hB.1
      have hget : Z[i]? = some (Z.getD i []) := by rw [List.getD_eq_getElem?_getD, List.getElem?_eq_getElem (by have := HN.out; omega)]; rfl
      have cF := ring1_any ad l c w
      by_cases hv : l = 64
      · have HP2 : Hid (all64 (Z.take (i + 1)) = true) := Lib.hid (by
          unfold all64
          rw [List.take_add_one, hget, List.all_append]
          have := HP.out
          unfold all64 at this
          rw [this]
          simp only [Option.toList_some, List.all_cons, List.all_nil, Bool.and_true, Bool.true_and]
          exact decide_eq_true (by rw [hzl]; exact hv))
        rw [decide_eq_false (by simpa using hv)] at cF
        clear hB hzl hget hv
        go_wp2_with (go_at_call 50; refine cF.mono ?_; rintro e w3 ⟨rfl, rfl⟩)
        go_round
        case rel => exact ⟨i + 1, by go_num, by omega, HP2⟩
        case measure => simp [intOf]; omega
      · have HP2 : Hid (all64 Z = false) := Lib.hid (by
          cases h : all64 Z with
          | false => rfl
          | true =>
            unfold all64 at h
            have := of_decide_eq_true (List.all_eq_true.1 h _ (List.mem_of_getElem? hget))
            rw [hzl] at this
            exact absurd this hv)
        rw [decide_eq_true hv] at cF
        clear hB hzl hget hv
        go_wp2_with (go_at_call 50; refine cF.mono ?_; rintro e w3 ⟨rfl, rfl⟩)
        go_ret
        exact ⟨⟨_, rfl, fun _ => i0, fun h => by rw [HP2.out] at h; cases h⟩, rfl⟩
    · obtain rfl : i = m := by omega
      have HP2 : Hid (all64 Z = true) := Lib.hid (by have := HP.out; rwa [List.take_of_length_le (by rw [HN.out]; exact Nat.le_refl _)] at this)
      go_wp2_with fail
      go_ret
      exact ⟨⟨_, rfl, And.intro (fun h => by rw [HP2.out] at h; cases h) (fun _ => rfl)⟩, rfl⟩

set_option maxHeartbeats 400000 in
theorem containsRing_any {w : World} {ao : Option Addr} {m cap : Nat} {Z : List (List Int)} (hR : RowsIn w ao m cap Z) (hm : m ≤ 140737488351232) :
    Calls Try.prog 49 #[.slice ao m cap, .func (.func 50) #[] #[]] w fun e w' => e = .returned (.bool (!all64 Z)) ∧ w = w' := by
  have c := indexRing_any hR hm
  clear hR
  cases hd : all64 Z with
  | true =>
    rw [hd] at c
    go_enter Try.func49, Try.ntmps49
    go_wp2_with (go_at_call 57; refine c.mono ?_; rintro e w' ⟨⟨k, rfl, hk⟩, rfl⟩; obtain rfl := hk.2 rfl)
    go_ret
    exact ⟨rfl, rfl⟩
  | false =>
    rw [hd] at c
    go_enter Try.func49, Try.ntmps49
    go_wp2_with (go_at_call 57; refine c.mono ?_; rintro e w' ⟨⟨k, rfl, hk⟩, rfl⟩; replace hk := hk.1 rfl)
    go_ret
    exact ⟨rfl, rfl⟩

/-- Is it a log? -/
def ringB (Z : List (List Int)) : Bool := decide (Z.length = 40) && all64 Z

set_option maxHeartbeats 400000 in
theorem ring_any {w : World} {ao : Option Addr} {m cap : Nat} {Z : List (List Int)} (hR : RowsIn w ao m cap Z) : Calls Try.prog 35 #[.slice ao m cap] w fun e w' => e = .returned (.bool (ringB Z)) ∧ w = w' := by
  by_cases h40 : m = 40
  · have hE : ringB Z = all64 Z := by unfold ringB; rw [hR.1, decide_eq_true h40]; rfl
    rw [hE]
    subst h40
    have c := containsRing_any hR (by decide)
    clear hR hE
    go_enter Try.func35, Try.ntmps35
    go_wp2_with (go_at_call 49; refine c.mono ?_; rintro e w' ⟨rfl, rfl⟩)
    go_ret
    exact ⟨rfl, rfl⟩
  · have hE : ringB Z = false := by unfold ringB; rw [hR.1, decide_eq_false h40]; rfl
    have hne : ((m : Int) == 40) = false := by simp; omega
    rw [hE]
    clear hR hE
    go_enter Try.func35, Try.ntmps35
    go_wp2_with fail
    go_ret
    exact ⟨rfl, rfl⟩

/-- A log as the closure sees it: its variable holds the blocks, of which each has 64 bytes. -/
def LogAt (w : World) (B b off cap : Nat) (Z : List (List Int)) : Prop :=
  w.cell? ⟨B, 0, none⟩ = some (.slice (some ⟨b, off, none⟩) (40 : Nat) cap) ∧ 40 ≤ cap ∧ Z.length = 40 ∧ ∀ j, j < 40 → ∃ ad c, w.cell? ⟨b, off + j, none⟩ = some (.slice (some ad) (64 : Nat) c) ∧ Arg w (some ad) 64 c (Z.getD j [])

theorem LogAt.later {w wx : World} {B b off cap : Nat} {Z : List (List Int)} (h : LogAt w B b off cap Z) (hb : Below w.heap.size w wx) : LogAt wx B b off cap Z := by
  obtain ⟨h1, h2, h3, h4⟩ := h
  refine ⟨cell_later hb h1, h2, h3, fun j hj => ?_⟩
  obtain ⟨ad, c, h5, h6⟩ := h4 j hj
  exact ⟨ad, c, cell_later hb h5, h6.later hb⟩

set_option maxHeartbeats 800000 in
theorem lies_any {w : World} {B b off cap : Nat} {Z : List (List Int)} (k : Nat) (hk : k ≤ 1000) (hL : LogAt w B b off cap Z) :
    Calls Try.prog 36 #[.int .i64 (k : Int), .pointer (some ⟨B, 0, none⟩)] w fun e w' => (∃ ad c, e = .returned (.slice (some ad) (64 : Nat) c) ∧ Arg w' (some ad) 64 c (Z.getD (k % 40) [])) ∧ w = w' := by
  obtain ⟨h1, h2, h3, h4⟩ := hL
  obtain ⟨ad, c, h5, h6⟩ := h4 (k % 40) (Nat.mod_lt _ (by decide))
  have HA := Lib.hid h6
  obtain ⟨j, hj⟩ : ∃ j, k % 40 = j := ⟨_, rfl⟩
  have hj40 : j < 40 := by omega
  rw [hj] at h5 HA ⊢
  have x1 : Int.tmod (k : Int) 40 = (j : Int) := by rw [IntWalk.rem_in _ _ (by omega)]; omega
  have x2 : IntKind.i64.wrap (j : Int) = (j : Int) := IntWalk.i64_in _ (by omega)
  have j0 : (0 : Int) ≤ (j : Int) := by omega
  have j1 : (j : Int) < 40 := by omega
  clear h6 h4 h3 hj
  go_enter Try.func36, Try.ntmps36
  go_wp2_with fail
  go_ret
  exact ⟨⟨ad, c, rfl, HA.out⟩, rfl⟩

end Go.Proofs.Ytpmggbdmoopkfaa
