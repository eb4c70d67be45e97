/-
  Proved here: what the document's own reckoning of flags (drydockref05: Count) answers.
  The conditions stand at the theorem.
-/
import Derived.Test.YtlocjhhbkjgocaaRef05
namespace Go.Proofs.Ytlocjhhbkjgocaa
open Go.RowKit

set_option maxRecDepth 100000 in
set_option maxHeartbeats 800000 in
theorem Count05_any (ao : Option Addr) (len cap : Nat) (zs : List Int) (n : Int) (w : World) (hA : Arg w ao len cap zs) (hn : -9223372036854775808 ≤ n ∧ n ≤ 9223372036854775807) :
    Calls Try.prog 11 #[.slice ao len cap, .int .i64 n] w (Tells w.heap.size w (.tuple #[.int .i64 (cntOut zs n), .int .i64 (cntErr len n)])) := by
  obtain ⟨hB, _, _, hlen⟩ := hA
  have hl := hB.1
  by_cases h60 : len = 60
  · subst h60
    by_cases h1 : n < 0 ∨ 480 < n
    · have HE : Hid (cntErr 60 n = 1) := Lib.hid (by unfold cntErr; rw [if_pos rfl, if_pos h1])
      have HV : Hid (cntOut zs n = 0) := Lib.hid (by unfold cntOut; rw [hl, HE.out]; rfl)
      clear hB hl hlen
      by_cases h2 : n < 0
      all_goals
        go_enter Try.func11, Try.ntmps11
        go_wp2_with fail
        go_ret2
        exact ⟨by rw [HE.out, HV.out]; rfl, Below.refl _ _⟩
    · have HE : Hid (cntErr 60 n = 0) := Lib.hid (by unfold cntErr; rw [if_pos rfl, if_neg h1])
      obtain ⟨to, hto⟩ : ∃ to : Nat, n = to := ⟨n.toNat, by omega⟩
      subst hto
      have HV : Hid (cntOut zs to = cnt (flag zs) to) := Lib.hid (by unfold cntOut; rw [hl, HE.out, if_pos rfl]; rfl)
      have h480 : to ≤ 480 := by omega
      have cU := Up05_any ao cap zs w hB
      clear hB hl hlen h1 hn
      go_enter Try.func11, Try.ntmps11
      go_wp2_with (go_at_call 9; refine cU.mono ?_; rintro e w1 ⟨v1, rfl, hf1, hb1⟩; obtain ⟨ao1, c1, hv1, hV1, _, _⟩ := hf1; rw [boolsV_length] at hv1 hV1; rw [hv1]; clear hv1; have HV1 := Lib.hid hV1; have HB1 := Lib.hid hb1; clear hV1 hb1)
      obtain ⟨b1, off1, he1, hc1⟩ := HV1.out.2.2.resolve_left (by decide)
      subst he1
      go_loop [7, 8] (fun kv nv => ∃ i : Nat, i ≤ to ∧ nv = .int .i64 i ∧ kv = .int .i64 (cnt (flag zs) i : Nat)) (fun _ nv => to - (intOf nv).toNat)
      case atStart => exact ⟨0, Nat.zero_le _, rfl, rfl⟩
      case round =>
        obtain ⟨i, hi, rfl, rfl⟩ := hrel
        by_cases hlt : i < to
        · have hcell := hc1 i _ (boolsV_at (flag zs) (by omega))
          have hle := cnt_le (flag zs) i
          have HN : Hid (cnt (flag zs) (i + 1) = cnt (flag zs) i + (if flag zs i then 1 else 0)) := Lib.hid rfl
          have i2 : (i : Int) < 480 := by omega
          obtain ⟨k, HK⟩ : ∃ k, Hid (k = cnt (flag zs) i) := ⟨_, Lib.hid rfl⟩
          rw [← HK.out] at hle HN ⊢
          clear hc1
          cases hf : flag zs i
          · rw [hf] at hcell HN
            clear hf
            go_wp2_with fail
            go_round
            case rel => exact ⟨i + 1, by omega, by go_num, by rw [HN.out]; rfl⟩
            case measure => simp [intOf]; omega
          · rw [hf] at hcell HN
            clear hf
            go_wp2_with fail
            go_round
            case rel => exact ⟨i + 1, by omega, by go_num, by rw [HN.out]; go_num⟩
            case measure => simp [intOf]; omega
        · have hit : i = to := by omega
          subst hit
          clear hc1
          go_wp2_with fail
          go_ret2
          exact ⟨by rw [HE.out, HV.out]; rfl, HB1.out⟩
  · have HE : Hid (cntErr len n = 2) := Lib.hid (by unfold cntErr; rw [if_neg h60])
    have HV : Hid (cntOut zs n = 0) := Lib.hid (by unfold cntOut; rw [hl, HE.out]; rfl)
    have hne : ((len : Int) != 60) = true := by simp; omega
    clear hB hl hn
    go_enter Try.func11, Try.ntmps11
    go_wp2_with fail
    go_ret2
    exact ⟨by rw [HE.out, HV.out]; rfl, Below.refl _ _⟩

end Go.Proofs.Ytlocjhhbkjgocaa
