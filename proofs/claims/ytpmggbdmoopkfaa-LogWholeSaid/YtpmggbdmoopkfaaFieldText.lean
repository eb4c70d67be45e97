/-
  Proved here: what the landed code of package field answers: Text.
  The conditions stand at each theorem.
-/
import Derived.Test.YtpmggbdmoopkfaaFieldPlace
import Derived.Test.YtpmggbdmoopkfaaFieldWith
import Derived.Test.YtpmggbdmoopkfaaStep
namespace Go.Proofs.Ytpmggbdmoopkfaa
open Go.RowKit

theorem textErr_place (len : Nat) (p : Int) (n : Nat) : textErr len p n = placeErr len p n := by
  unfold textErr placeErr
  by_cases h : len = 64
  · rw [if_pos h, if_pos h]
    by_cases h1 : p < 0 ∨ 60 - p < n
    · rw [if_pos h1, if_pos (by omega)]
    · rw [if_neg h1, if_neg (by omega)]
  · rw [if_neg h, if_neg h]

set_option maxHeartbeats 400000 in
theorem fText_any (ao : Option Addr) (len cap : Nat) (zs : List Int) (p : Int) (s : ByteArray) (w : World) (hA : Arg w ao len cap zs) (hp : -9223372036854775808 ≤ p ∧ p ≤ 9223372036854775807) (hsz : s.size ≤ 9223372036854775807) :
    Calls Try.prog 39 #[.slice ao len cap, .int .i64 p, .string s] w (Handed w.heap.size w (textOut zs p (bytesOf s)) (textErr len p s.size)) := by
  obtain ⟨hB, _, _, hlen⟩ := hA
  have hl := hB.1
  have cK := fPlace_any ao len cap p s.size w hlen hp
  have HO : Hid (textOut zs p (bytesOf s) = if placeErr len p s.size = 0 then zs.take p.toNat ++ bytesOf s ++ zs.drop (p.toNat + (bytesOf s).length) else []) := Lib.hid (by
    unfold textOut
    rw [hl, bytesOf_length, textErr_place])
  rw [textErr_place]
  by_cases hE : placeErr len p s.size = 0
  · have ho : len = 64 ∧ 0 ≤ p ∧ p + s.size ≤ 60 := by
      unfold placeErr at hE
      by_cases h : len = 64
      · rw [if_pos h] at hE
        by_cases h1 : p < 0 ∨ 60 - p < s.size
        · rw [if_pos h1] at hE; exact absurd hE (by decide)
        · omega
      · rw [if_neg h] at hE; exact absurd hE (by decide)
    have hlen : len = 64 := ho.1
    subst hlen
    obtain ⟨q, hq⟩ : ∃ q : Nat, p = q := ⟨p.toNat, by omega⟩
    subst hq
    have e2 : Int.toNat (q : Int) = q := by omega
    have HE8 : Hid (textOut zs q (bytesOf s) = lay zs q (bytesOf s)) := Lib.hid (by
      rw [HO.out, if_pos hE, e2, lay_eq _ _ _ (by rw [hl, bytesOf_length]; omega)])
    rw [hE] at cK ⊢
    have cW := fWith_any ao cap zs q s w hB (by omega) (by omega)
    clear hB hl hE ho hlen e2 hp HO
    go_enter Try.func39, Try.ntmps39
    go_wp2_with (first | (go_at_call 53; refine cK.mono ?_; rintro e w' ⟨rfl, rfl⟩) | (go_at_call 41; refine cW.mono ?_; rintro e w3 ⟨v3, rfl, hf3, hb3⟩; have HF3 := Lib.hid hf3; have HB3 := Lib.hid hb3; clear hf3 hb3))
    go_ret2
    exact ⟨v3, rfl, by rw [HE8.out]; exact HF3.out, HB3.out⟩
  · have HE8 : Hid (textOut zs p (bytesOf s) = []) := Lib.hid (by rw [HO.out, if_neg hE])
    obtain ⟨E, HE⟩ : ∃ E, Hid (placeErr len p s.size = E) := ⟨_, Lib.hid rfl⟩
    rw [HE.out] at hE cK ⊢
    have hne : (E != 0) = true := by simp; exact hE
    clear hB hl hE hp hlen HO
    go_enter Try.func39, Try.ntmps39
    go_wp2_with (go_at_call 53; refine cK.mono ?_; rintro e w' ⟨rfl, rfl⟩)
    go_ret2
    exact ⟨.slice none 0 0, rfl, by rw [HE8.out]; exact Fresh.nil _ _, Below.refl _ _⟩

end Go.Proofs.Ytpmggbdmoopkfaa
