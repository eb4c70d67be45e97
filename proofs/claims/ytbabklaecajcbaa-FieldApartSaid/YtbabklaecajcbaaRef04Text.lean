/-
  Proved here: what the document's own reckoning of texts in blocks (drydockref04: Text) answers.
  The conditions stand at each theorem.
-/
import Derived.Test.YtbabklaecajcbaaStep
import Derived.Test.YtbabklaecajcbaaFieldNum
import Derived.BigQuiet
import Derived.Deep.QuietTactic
namespace Go.Proofs.Ytbabklaecajcbaa
open Go.RowKit

set_option maxHeartbeats 400000 in
theorem Text04_any (ao : Option Addr) (len cap : Nat) (zs : List Int) (p : Int) (s : ByteArray) (w : World) (hA : Arg w ao len cap zs) (hp : -9223372036854775808 ≤ p ∧ p ≤ 9223372036854775807) (hsz : s.size ≤ 9223372036854775807) :
    Calls Try.prog 16 #[.slice ao len cap, .int .i64 p, .string s] w (Handed w.heap.size w (textOut zs p (bytesOf s)) (textErr len p s.size)) := by
  obtain ⟨hB, _, hcap, _⟩ := hA
  have hl := hB.1
  unfold textOut textErr
  rw [hl, bytesOf_length]
  by_cases h64 : len = 64
  · subst h64
    rw [if_pos rfl]
    by_cases h1 : p < 0
    · rw [if_pos (Or.inl h1), if_neg (by decide)]
      clear hB hl
      go_enter Try.func16, Try.ntmps16
      go_wp2
      go_ret2
      exact ⟨_, rfl, Fresh.nil _ _, Below.refl _ _⟩
    · by_cases h2 : 60 < p
      · rw [if_pos (Or.inr (Or.inl h2)), if_neg (by decide)]
        clear hB hl
        go_enter Try.func16, Try.ntmps16
        go_wp2
        go_ret2
        exact ⟨_, rfl, Fresh.nil _ _, Below.refl _ _⟩
      · by_cases h3 : 60 - p < s.size
        · rw [if_pos (Or.inr (Or.inr h3)), if_neg (by decide)]
          clear hB hl
          go_enter Try.func16, Try.ntmps16
          go_wp2
          go_ret2
          exact ⟨_, rfl, Fresh.nil _ _, Below.refl _ _⟩
        · have hC : ¬ (p < 0 ∨ 60 < p ∨ 60 - p < (s.size : Int)) := by omega
          rw [if_neg hC, if_pos rfl]
          clear hC
          obtain ⟨q, hq⟩ : ∃ q : Nat, p = q := ⟨p.toNat, by omega⟩
          subst hq
          have e1 : Int.toNat (q : Int) = q := by omega
          rw [e1]
          obtain ⟨b, off, rfl, _⟩ := hB.2.2.2.resolve_left (by decide)
          have h3' : q + s.size ≤ 60 := by omega
          have HB1 : Hid (∀ w', Below w.heap.size w w' → Bts w' (some ⟨b, off, none⟩) q (zs.take q)) := Lib.hid (fun w' h => bts_take (hB.later h) (by omega))
          have HB2 : Hid (∀ w', Below w.heap.size w w' → Bts w' (some ⟨b, off + (q + s.size), none⟩) (64 - (q + s.size)) (zs.drop (q + s.size))) := Lib.hid (fun w' h => bts_drop (hB.later h) (by omega))
          have HZ := Lib.hid hB.2.2.1
          clear hB hl e1
          have i1 : (0 : Int) ≤ (q : Int) := by omega
          have i2 : (q : Int) ≤ (cap : Int) := by omega
          have i3 : (q : Int) + (s.size : Int) ≤ 64 := by omega
          have i4 : (0 : Int) ≤ (q : Int) + (s.size : Int) := by omega
          go_enter Try.func16, Try.ntmps16
          go_wp2_with fail
          have hb0 : Below w.heap.size w (w.alloc (.cells #[] 5)).drew := ((Below.refl _ _).alloc (Nat.le_refl _) _).drew
          have HO := Lib.hid (World.ownsRow_made (base := w.heap.size) (e := 5) (size := 1) w #[] 0 (Nat.le_refl _) (by decide) rfl).drew
          have HS := Lib.hid hb0.size
          have H0 := Lib.hid hb0
          clear hb0
          have hcne : ¬ cap = q + s.size := by omega
          have hw : IntKind.i64.wrap ((q : Int) + (s.size : Int)) = (q : Int) + (s.size : Int) := IntWalk.i64_in _ (by omega)
          have hn : ((q : Int) + (s.size : Int)).toNat = q + s.size := by omega
          go_region_law (first | (refine step_append_bytes rfl (.tmp 24) (.tmp 27) rfl w.heap.size 0 _ [] rfl HO.out _ q _ (zs.take q) rfl (HB1.out _ H0.out) (by simp) (by omega) HS.out ?_; intro v1 w1 hown1 hb1; have HO1 := Lib.hid hown1; have H1 := Lib.hid (H0.out.trans hb1); have HS1 := Lib.hid H1.out.size; clear hown1 hb1) | (refine step_append_text rfl (.tmp 28) (.tmp 29) rfl w.heap.size (0 + q) _ _ rfl HO1.out s rfl (by omega) HS1.out ?_; intro v2 w2 hown2 hb2; have HO2 := Lib.hid hown2; have H2 := Lib.hid (H1.out.trans hb2); have HS2 := Lib.hid H2.out.size; clear hown2 hb2) | (refine step_append_bytes rfl (.tmp 30) (.tmp 36) rfl w.heap.size (0 + q + s.size) _ _ rfl HO2.out _ _ _ (zs.drop (q + s.size)) rfl (HB2.out _ H2.out) (by simp) (by omega) HS2.out ?_; intro v3 w3 hown3 hb3; have HO3 := Lib.hid hown3; have H3 := Lib.hid (H2.out.trans hb3); clear hown3 hb3))
          clear hw hn
          go_wp2_with fail
          go_ret2
          refine ⟨v3, rfl, ?_, H3.out⟩
          have e := HO3.out
          rw [Nat.zero_add, List.nil_append, ← List.map_append, ← List.map_append] at e
          refine fresh_of_owns (n := q + s.size + (64 - (q + s.size))) e ?_ (by omega)
          intro z hz
          rcases List.mem_append.1 hz with hz | hz
          · rcases List.mem_append.1 hz with hz | hz
            · exact HZ.out z (List.mem_of_mem_take hz)
            · exact bytesOf_bytes s z hz
          · exact HZ.out z (List.mem_of_mem_drop hz)
  · rw [if_neg h64, if_neg (by decide)]
    have hne : ((len : Int) != 64) = true := by simp; omega
    clear hB hl
    go_enter Try.func16, Try.ntmps16
    go_wp2
    go_ret2
    exact ⟨_, rfl, Fresh.nil _ _, Below.refl _ _⟩

end Go.Proofs.Ytbabklaecajcbaa
