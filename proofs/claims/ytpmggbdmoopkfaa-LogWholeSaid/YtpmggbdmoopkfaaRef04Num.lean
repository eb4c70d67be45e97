/-
  Proved here: what the document's own reckoning of a number in a block (drydockref04.Num) answers.
  The conditions stand at the theorem.
-/
import Derived.Test.YtpmggbdmoopkfaaMem
import Derived.Test.YtpmggbdmoopkfaaFieldNum
namespace Go.Proofs.Ytpmggbdmoopkfaa
open Go.RowKit

set_option maxHeartbeats 400000 in
theorem Num04_any (ao : Option Addr) (len cap : Nat) (zs : List Int) (p k : Nat) (w : World) (hB : Bts w ao len zs) (hk : k ≤ 4) (hpk : p + k ≤ len) :
    Calls Try.prog 33 #[.slice ao len cap, .int .i64 p, .int .i64 k] w fun e w' => e = .returned (.int .i64 (leN zs p k)) ∧ w = w' := by
  obtain ⟨hl, hm, hz, hc⟩ := hB
  have HL := Lib.hid hl
  have hb := leN_four hz p k (by omega) hk
  obtain ⟨t, HT⟩ : ∃ t, Hid (t = leN zs p k) := ⟨_, Lib.hid rfl⟩
  rw [← HT.out] at hb ⊢
  clear hl
  rcases hc with rfl | ⟨b, off, rfl, hc⟩
  · have hk0 : k = 0 := by omega
    subst hk0
    have ht : t = 0 := HT.out
    subst ht
    go_enter Try.func33, Try.ntmps33
    go_wp2
    go_loop [7, 8] (fun nv iv => iv = .int .i64 (-1) ∧ nv = .int .i64 0) (fun _ iv => (intOf iv + 1).toNat)
    case atStart => exact ⟨rfl, rfl⟩
    case round =>
      obtain ⟨rfl, rfl⟩ := hrel
      go_wp2
      go_ret
      exact ⟨rfl, rfl⟩
  · go_enter Try.func33, Try.ntmps33
    go_wp2
    go_loop [7, 8] (fun nv iv => ∃ (j : Nat) (n : Int), j ≤ k ∧ iv = .int .i64 ((j : Int) - 1) ∧ nv = .int .i64 n ∧ 0 ≤ n ∧ n ≤ t ∧ n * 256 ^ j + leN zs p j = t) (fun _ iv => (intOf iv + 1).toNat)
    case atStart => exact ⟨k, 0, Nat.le_refl _, rfl, rfl, by decide, by omega, by rw [Int.zero_mul, Int.zero_add, HT.out]⟩
    case round =>
      obtain ⟨j, n, hj, rfl, rfl, hn0, hn1, hrel⟩ := hrel
      rcases j with _ | j
      · have : n = t := by rw [← hrel]; show n = n * 1 + 0; omega
        subst this
        clear hrel
        go_wp2
        go_ret
        exact ⟨rfl, rfl⟩
      · have HS := Lib.hid (le_step hrel)
        have hx := hz _ (getD_mem (l := zs) (k := p + j) (by rw [HL.out]; omega))
        have hpart := le_part hz (n := n * 256 + zs.getD (p + j) 0) (k := j) (p := p) (by omega) (by rw [HL.out]; omega) HS.out
        have hcell := hc (p + j) (by omega)
        obtain ⟨x, HX⟩ : ∃ x, Hid (x = zs.getD (p + j) 0) := ⟨_, Lib.hid rfl⟩
        rw [← HX.out] at hx hpart hcell HS
        obtain ⟨hx0, hx1⟩ := hx
        clear hz hc hrel
        have e1 : ((j + 1 : Nat) : Int) - 1 = (j : Int) := by omega
        rw [e1]
        clear e1
        have i1 : (0 : Int) ≤ (p : Int) + (j : Int) := by omega
        have i2 : (p : Int) + (j : Int) < (len : Int) := by omega
        go_wp2
        go_round
        case rel => exact ⟨j, n * 256 + x, by omega, rfl, rfl, by omega, hpart, HS.out⟩
        case measure => simp [intOf]

end Go.Proofs.Ytpmggbdmoopkfaa
