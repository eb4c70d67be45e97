/-
  Proved here: what the document's own reckoning of check sums (drydockref03) answers: the same numbers as the package spin.
  The conditions stand at each theorem.
-/
import Derived.Test.YtpmggbdmoopkfaaSpin
namespace Go.Proofs.Ytpmggbdmoopkfaa
open Go.RowKit

set_option maxHeartbeats 400000 in
theorem refMore_any (s : Int) (a : Option Addr) (len cap : Nat) (zs : List Int) (w : World) (h0 : 0 ≤ s) (h1 : s < 4294967296) (hb : Bts w a len zs) :
    Calls Try.prog 55 #[.int .u32 s, .slice a len cap] w fun e w' => e = .returned (.int .u32 (moreS s zs)) ∧ w = w' := by
  obtain ⟨hl, hm, hz, hc⟩ := hb
  rcases hc with rfl | ⟨b, off, rfl, hc⟩
  · have : zs = [] := List.length_eq_zero_iff.1 hl
    subst this
    obtain ⟨R, HR⟩ : ∃ R, Hid (R = ofS s) := ⟨_, Lib.hid rfl⟩
    have hRed : Red R := by rw [HR.out]; exact ofS_Red s
    unfold Red at hRed
    obtain ⟨k0, k1, k2, k3⟩ := hRed
    go_enter Try.func55, Try.ntmps55
    go_wp2
    go_loop [5, 6, 7] (fun av bv i => i = .int .i64 0 ∧ av = .int .i64 R.1 ∧ bv = .int .i64 R.2) (fun _ _ i => 0 - (intOf i).toNat)
    case atStart => exact ⟨rfl, by rw [HR.out]; rfl, by rw [HR.out]; rfl⟩
    case round =>
      obtain ⟨rfl, rfl, rfl⟩ := hrel
      go_wp2
      go_ret
      exact ⟨ret_int (by show R.1 * 65536 + R.2 = sm (ofS s); rw [HR.out]; rfl), rfl⟩
  · have HL : Hid (zs.length = len) := Lib.hid hl
    clear hl
    go_enter Try.func55, Try.ntmps55
    go_wp2
    go_loop [5, 6, 7] (fun av bv i => ∃ (k : Nat) (R : Pair), k ≤ len ∧ i = .int .i64 k ∧ av = .int .i64 R.1 ∧ bv = .int .i64 R.2 ∧ R = bhd (zs.take k) (ofS s)) (fun _ _ i => len - (intOf i).toNat)
    case atStart => exact ⟨0, ofS s, Nat.zero_le _, rfl, rfl, rfl, rfl⟩
    case round =>
      obtain ⟨k, R, hk, rfl, rfl, rfl, hR⟩ := hrel
      have hRed : Red R := by rw [hR]; exact bhd_Red _ (ofS_Red s)
      have HR : Hid (R = bhd (zs.take k) (ofS s)) := Lib.hid hR
      clear hR
      have hRed' := hRed
      unfold Red at hRed'
      obtain ⟨k0, k1, k2, k3⟩ := hRed'
      by_cases hlt : k < len
      · have hcell := hc k hlt
        have hx := hz _ (getD_mem (l := zs) (k := k) (by rw [HL.out]; exact hlt))
        have HN : Hid (bhd (zs.take (k + 1)) (ofS s) = red (stepU R (zs.getD k 0))) := Lib.hid (by rw [take_snoc zs k (by rw [HL.out]; exact hlt), bhd_snoc, HR.out])
        obtain ⟨x, HX⟩ : ∃ x, Hid (x = zs.getD k 0) := ⟨_, Lib.hid rfl⟩
        rw [← HX.out] at hcell hx HN
        obtain ⟨hx0, hx1⟩ := hx
        have ht := tmod_facts (2 * R.1 - R.2 + x)
        have ht1 := ht.2.1
        have ht2 := ht.2.2.1
        clear hz hc ht
        go_wp2
        go_round
        case rel => exact ⟨k + 1, red (stepU R x), by omega, by go_num, by rw [tmod_again]; rfl, rfl, HN.out.symm⟩
        case measure => simp [intOf]; omega
      · have : k = len := by omega
        subst this
        go_wp2
        go_ret
        have e1 : zs.take k = zs := List.take_of_length_le (by rw [HL.out]; exact Nat.le_refl _)
        have e2 : R = bhd zs (ofS s) := by rw [HR.out, e1]
        exact ⟨ret_int (by unfold moreS; rw [← e2]; rfl), rfl⟩

set_option maxHeartbeats 400000 in
theorem refSum_any (a : Option Addr) (len cap : Nat) (zs : List Int) (w : World) (hb : Bts w a len zs) :
    Calls Try.prog 45 #[.slice a len cap] w fun e w' => e = .returned (.int .u32 (sumS zs)) ∧ w = w' := by
  have c := refMore_any 65536 a len cap zs w (by decide) (by decide) hb
  rw [← sumS_more] at c
  clear hb
  go_enter Try.func45, Try.ntmps45
  go_wp2_with (go_at_call 55; refine c.mono ?_; rintro e w' ⟨rfl, rfl⟩)
  go_ret
  exact ⟨rfl, rfl⟩

end Go.Proofs.Ytpmggbdmoopkfaa
