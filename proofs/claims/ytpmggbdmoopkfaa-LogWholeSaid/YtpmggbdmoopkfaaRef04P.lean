/-
  Proved here: what the document's own making of sealed blocks (drydockref04: Put) answers.
  The conditions stand at each theorem.
-/
import Derived.Test.YtpmggbdmoopkfaaFieldNum
import Derived.Test.YtpmggbdmoopkfaaRef03
import Derived.Deep.RegionWith
import Derived.Deep.QuietTactic
import Derived.BigQuiet
namespace Go.Proofs.Ytpmggbdmoopkfaa
open Go.RowKit

/-- What Put hands back: the bytes l in a row of the call's own. -/
def PutPost (base : Nat) (w0 : World) (n : Nat) (l : List Int) (e : Ending) (w' : World) : Prop :=
  ∃ v, e = .returned v ∧ w'.ownsRow base 5 1 v n (l.map (Value.int .u8)) ∧ Below base w0 w'

set_option maxHeartbeats 400000 in
theorem Put04_any (base : Nat) (v : Value) (len : Nat) (zs : List Int) (n : Int) (k : Nat) (w : World) (hown : w.ownsRow base 5 1 v len (zs.map (Value.int .u8))) (hbase : base ≤ w.heap.size)
    (hn0 : 0 ≤ n) (hn1 : n ≤ 9223372036854775807) (hk : k ≤ 8) (hlen : len ≤ 140737488355320) :
    Calls Try.prog 28 #[v, .int .i64 n, .int .i64 k] w (PutPost base w (len + k) (zs ++ leB n k)) := by
  go_enter Try.func28, Try.ntmps28
  go_wp2
  have HO := Lib.hid hown
  clear hown
  go_loopw [0, 7] (fun vv iv wr => ∃ j : Nat, j ≤ k ∧ iv = .int .i64 j ∧ Hid (wr.ownsRow base 5 1 vv (len + j) ((zs ++ leB n j).map (Value.int .u8))) ∧ Hid (Below base w wr)) (fun _ iv _ => k - (intOf iv).toNat)
  case atStart => exact ⟨0, Nat.zero_le _, rfl, Lib.hid (by rw [show leB n 0 = [] from rfl, List.append_nil]; exact HO.out), Lib.hid (Below.refl _ _)⟩
  case round =>
    obtain ⟨j, hj, rfl, HR, HB⟩ := hrel
    by_cases hlt : j < k
    · have HX : Hid (0 ≤ n / 2 ^ (8 * j) % 256 ∧ n / 2 ^ (8 * j) % 256 ≤ 255) := Lib.hid (by omega)
      have HS : Hid (base ≤ wr.heap.size + 1) := Lib.hid (by have := HB.out.size; omega)
      go_wp2_with (at_builtin; refine wp_append_bytes rfl (.tmp 13) (.tmp 21) rfl base (len + j) _ _ rfl (HR.out.alloc _) (some ⟨wr.heap.size, 0, none⟩) 1 1 [n / 2 ^ (8 * j) % 256] rfl (one_bts wr _ HX.out) (by simp) (by omega) (by simpa using HS.out) ?_; intro v1 w1 hown1 hb1; have HO1 := Lib.hid hown1; have HB1 := Lib.hid hb1; clear hown1 hb1)
      go_roundw
      case rel =>
        refine ⟨j + 1, by omega, by go_num, Lib.hid ?_, Lib.hid ((HB.out.alloc (by have := HB.out.size; omega) _).trans HB1.out)⟩
        have e := HO1.out
        rw [pow_two_bytes, ← List.map_append, List.append_assoc] at e
        exact e
      case measure => simp [intOf]; omega
    · have hjk : j = k := by omega
      subst hjk
      go_wp2
      go_ret
      exact ⟨_, rfl, HR.out, HB.out⟩

end Go.Proofs.Ytpmggbdmoopkfaa
