/-
  Proved here: what the document's Trim answers; that the simplest facts hold (awake).
  The conditions stand at each theorem.
-/
import Derived.Test.YtmkibjppnlmehaaTrSplit
namespace Go.Proofs.Ytmkibjppnlmehaa
open Go.RowKit
set_option linter.unusedVariables false
set_option linter.unusedSimpArgs false

theorem trim_memT {l : List Int} : ∀ z, z ∈ trimL l → z ∈ l := by
  intro z h
  obtain ⟨n, hn⟩ := trim_prefix l
  rw [hn]
  exact List.mem_append_left _ h

set_option maxRecDepth 100000 in
set_option maxHeartbeats 3200000 in
theorem Trim_any (ao : Option Addr) (len cap : Nat) (zs : List Int) (w : World) (hA : IArg w ao len cap zs) (hl : len ≤ 1000) : Calls Try.prog 13 #[.slice ao len cap] w fun e w' => ∃ v, e = .returned v ∧ FreshI w' w.heap.size v (trimL zs) ∧ Below w.heap.size w w' := by
  have HA := Lib.hid hA
  have hb := hA.big
  have hc := hA.2.2.2
  have HN := Lib.hid hA.len
  have HO : Hid ((w.alloc (.cells #[] 3)).ownsRow w.heap.size 3 1 (.slice (some ⟨w.heap.size, 0, none⟩) 0 0) 0 []) := Lib.hid (World.ownsRow_made (base := w.heap.size) (e := 3) (size := 1) w #[] 0 (Nat.le_refl _) (by decide) rfl)
  have HB : Hid (Below w.heap.size w (w.alloc (.cells #[] 3))) := Lib.hid ((Below.refl _ _).alloc (Nat.le_refl _) _)
  have HZT : Hid (∀ z ∈ trimL zs, I64 z) := Lib.hid (fun z hz => hA.2.1 z (trim_memT z hz))
  have HEND : Hid (∀ v W, W.ownsRow w.heap.size 3 1 v (trimL zs).length (ints (trimL zs)) → FreshI W w.heap.size v (trimL zs)) := Lib.hid (fun v W h => fresh_of_ints h HZT.out (by
    obtain ⟨n, he⟩ := trim_prefix zs
    have := congrArg List.length he
    rw [List.length_append] at this
    have := hA.len
    omega))
  clear hA
  go_enter Try.func13, Try.ntmps13
  go_wp2_with fail
  go_loopw [3] (fun v wr => ∃ k : Nat, v = .int .i64 (k : Int) ∧ k ≤ len ∧ Hid (trimL (zs.take k) = trimL zs) ∧ Hid (w = wr)) (fun v _ => (intOf v).toNat)
  case atStart => exact ⟨len, rfl, Nat.le_refl _, Lib.hid (by rw [← HN.out, List.take_length]), Lib.hid rfl⟩
  case round =>
    obtain ⟨k, rfl, hk, HT, HW⟩ := hrel
    have HWW := HW.out
    subst HWW
    by_cases h0 : k = 0
    · subst h0
      have HE : Hid (trimL zs = []) := Lib.hid (by rw [← HT.out]; rfl)
      cases ao with
      | none =>
        obtain ⟨rfl, rfl⟩ := HA.out.2.2.1 rfl
        go_wp2_with (at_builtin; refine wp_append_nothing elemIR rfl (.tmp 18) (.tmp 21) rfl w.heap.size 0 _ _ rfl HO.out rfl ?_)
        go_ret
        exact ⟨_, rfl, HEND.out _ _ (by rw [HE.out]; exact HO.out), HB.out⟩
      | some ad =>
        go_wp2_with (at_builtin; refine wp_append_r elemIR rfl (.tmp 18) (.tmp 21) rfl w.heap.size 0 _ [] rfl HO.out ad 0 cap [] rfl rfl (fun j u h => by simp at h) (fun u h => by cases h) (by decide) (by simp) ?_; intro v1 w1 hown1 hg1 hb1; have HO1 := Lib.hid hown1; have HB1 := Lib.hid (HB.out.trans hb1); clear hown1 hg1 hb1)
        go_ret
        exact ⟨v1, rfl, HEND.out _ _ (by rw [HE.out]; exact HO1.out), HB1.out⟩
    · obtain ⟨q, rfl⟩ : ∃ q, k = q + 1 := ⟨k - 1, by omega⟩
      obtain ⟨b, off, x, rfl, hx, hcell, hI⟩ := HA.out.at (i := q) (by omega)
      have k1 : (0 : Int) < ((q + 1 : Nat) : Int) := by omega
      have k2 : wrap64 (((q + 1 : Nat) : Int) - 1) = (q : Int) := by unfold wrap64; omega
      have k3 : (q : Int) < (len : Int) := by omega
      have HX := Lib.hid hx
      clear hx hI
      by_cases hx0 : x = 0
      · subst hx0
        have HT2 : Hid (trimL (zs.take q) = trimL zs) := Lib.hid (by rw [← trim_take_zero (by rw [HN.out]; omega) HX.out]; exact HT.out)
        go_wp2_with fail
        go_roundw
        case rel => exact ⟨q, by first | rfl | go_num, by omega, HT2, by first | exact HW | exact Lib.hid trivial⟩
        case measure => simp [intOf]
      · have HE : Hid ((trimL zs).length = q + 1) := Lib.hid (by
          have h := HT.out
          rw [List.take_add_one, HX.out] at h
          rw [← h]
          show (trimL (zs.take q ++ [x])).length = _
          rw [trim_last hx0, List.length_append, List.length_take, HN.out]
          simp only [List.length_cons, List.length_nil]
          omega)
        have HTK : Hid (zs.take (q + 1) = trimL zs) := Lib.hid (by rw [← HE.out]; exact trim_take)
        have b0 : (x == 0) = false := by simpa using hx0
        have HNW : Hid (∀ j u, (ints (zs.take (q + 1)))[j]? = some u → (w.alloc (.cells #[] 3)).cell? ((⟨b, off, none⟩ : Addr).add j) = some u) := Lib.hid ((HA.out.take hk).later HB.out).news
        have HTL : Hid ((ints (zs.take (q + 1))).length = (q + 1) * 1) := Lib.hid (by rw [ints_length, List.length_take, HN.out, Nat.mul_one]; omega)
        have k4 : ((q + 1 : Nat) : Int) ≤ (cap : Int) := by omega
        have k5 : (0 : Int) ≤ ((q + 1 : Nat) : Int) := by omega
        have k6 : q + 1 ≤ cap := by omega
        have k7 : (q : Int) + 1 ≤ (cap : Int) := by omega
        go_wp2_with (at_builtin; refine wp_append_r elemIR rfl (.tmp 18) (.tmp 21) rfl w.heap.size 0 _ [] rfl HO.out ⟨b, off, none⟩ (q + 1) cap (ints (zs.take (q + 1))) HTL.out rfl HNW.out (ints_one _) (by omega) (by simp) ?_; intro v1 w1 hown1 hg1 hb1; have HO1 := Lib.hid hown1; have HB1 := Lib.hid (HB.out.trans hb1); clear hown1 hg1 hb1)
        go_ret
        exact ⟨v1, rfl, HEND.out _ _ (by have h := HO1.out; rw [Nat.zero_add, List.nil_append, HTK.out] at h; rw [HE.out]; exact h), HB1.out⟩

end Go.Proofs.Ytmkibjppnlmehaa
