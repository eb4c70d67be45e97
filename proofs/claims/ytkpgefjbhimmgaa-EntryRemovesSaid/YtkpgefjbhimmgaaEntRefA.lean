/-
  Proved here: what the document's own answer (drydockref10) says of names, entries and sound blocks.
  The conditions stand at each theorem.
-/
import Derived.Test.YtkpgefjbhimmgaaEntRead
namespace Go.Proofs.Ytkpgefjbhimmgaa
open Go.RowKit
set_option linter.unusedVariables false
set_option linter.unusedSimpArgs false

theorem bytesOf_at {s : ByteArray} {k : Nat} (h : k < s.size) : (s[k].toNat : Int) ∈ bytesOf s := by
  unfold bytesOf
  exact List.mem_map.2 ⟨s[k], by show s.data[k] ∈ _; simp, rfl⟩

theorem bytesOf_all {s : ByteArray} (h : ∀ k (hk : k < s.size), (s[k].toNat : Int) ≠ 47 ∧ (s[k].toNat : Int) ≠ 0) : (bytesOf s).all (fun z => decide (z ≠ 47 ∧ z ≠ 0)) = true := by
  rw [List.all_eq_true]
  intro z hz
  unfold bytesOf at hz
  obtain ⟨b, hb, rfl⟩ := List.mem_map.1 hz
  obtain ⟨k, hk, rfl⟩ := List.mem_iff_getElem.1 hb
  have hk' : k < s.size := by simpa using hk
  exact decide_eq_true (h k hk')

set_option maxHeartbeats 1000000 in
theorem rNamed_any (s : ByteArray) (w : World) (hs : s.size ≤ 140737488351232) : Calls Try.prog 19 #[.string s] w fun e w' => e = .returned (.bool (named s)) ∧ w = w' := by
  have HN : Hid (named s = ((bytesOf s).all (fun z => decide (z ≠ 47 ∧ z ≠ 0)) && decide (1 ≤ s.size ∧ s.size ≤ 17 ∧ s ≠ dot1 ∧ s ≠ dot2))) := Lib.hid rfl
  have t1 := str_is s dot1
  have t2 := str_is s dot2
  rw [show dot1.toList = [46] from by rw [Go.ByteArray.toList_eq]; rfl] at t1
  rw [show dot2.toList = [46, 46] from by rw [Go.ByteArray.toList_eq]; rfl] at t2
  have HT1 := Lib.hid t1
  have HT2 := Lib.hid t2
  clear t1 t2
  have HBad : Hid (∀ k (hk : k < s.size), ((s[k].toNat : Int) = 47 ∨ (s[k].toNat : Int) = 0) → named s = false) := Lib.hid (fun k hk hb => by
    rw [HN.out]
    have : (bytesOf s).all (fun z => decide (z ≠ 47 ∧ z ≠ 0)) = false := by
      rw [← Bool.not_eq_true, List.all_eq_true]
      intro h
      have := of_decide_eq_true (h _ (bytesOf_at hk))
      omega
    rw [this]; rfl)
  obtain ⟨N, HNN⟩ : ∃ N, Hid (named s = N) := ⟨_, Lib.hid rfl⟩
  rw [HNN.out] at HN HBad
  rw [HNN.out]
  go_enter Try.func19, Try.ntmps19
  go_wp2
  go_loop [3] (fun iv => ∃ k : Nat, iv = .int .i64 (k : Int) ∧ k ≤ s.size ∧ Hid (∀ j (hj : j < s.size), j < k → (s[j].toNat : Int) ≠ 47 ∧ (s[j].toNat : Int) ≠ 0)) (fun iv => s.size - (intOf iv).toNat)
  case atStart => exact ⟨0, rfl, Nat.zero_le _, Lib.hid (fun j _ h => absurd h (Nat.not_lt_zero j))⟩
  case round =>
    obtain ⟨k, rfl, hk, HA⟩ := hrel
    by_cases hlt : k < s.size
    · obtain ⟨c, hc⟩ : ∃ c : Int, (s[k].toNat : Int) = c := ⟨_, rfl⟩
      have HC := Lib.hid hc
      by_cases h47 : c = 47
      · have HF : Hid (N = false) := Lib.hid (HBad.out k hlt (Or.inl (hc.trans h47)))
        have b1 : ((s[k].toNat : Int) == 47) = true := by rw [hc, h47]; rfl
        clear hc h47
        go_wp2
        go_ret
        exact ⟨by rw [HF.out]; rfl, rfl⟩
      · have b1 : ((s[k].toNat : Int) == 47) = false := by rw [hc]; simpa using h47
        by_cases h0 : c = 0
        · have HF : Hid (N = false) := Lib.hid (HBad.out k hlt (Or.inr (hc.trans h0)))
          have b2 : ((s[k].toNat : Int) == 0) = true := by rw [hc, h0]; rfl
          clear hc h0 h47
          go_wp2
          go_ret
          exact ⟨by rw [HF.out]; rfl, rfl⟩
        · have b2 : ((s[k].toNat : Int) == 0) = false := by rw [hc]; simpa using h0
          have H0 := Lib.hid (And.intro h47 h0)
          clear hc h0 h47
          go_wp2
          go_round
          case rel => exact ⟨k + 1, by go_num, by omega, Lib.hid (fun j hj hjk => by
            by_cases e : j = k
            · subst e
              rw [HC.out]; exact H0.out
            · exact HA.out j hj (by omega))⟩
          case measure => simp [intOf]; omega
    · obtain rfl : k = s.size := by omega
      have HAll : Hid ((bytesOf s).all (fun z => decide (z ≠ 47 ∧ z ≠ 0)) = true) := Lib.hid (bytesOf_all (fun k hk => HA.out k hk hk))
      by_cases h1 : 1 ≤ s.size
      · by_cases h2 : s.size ≤ 17
        · by_cases h3 : s = dot1
          · have HE : Hid (N = false) := Lib.hid (by rw [HN.out, decide_eq_false (fun h => h.2.2.1 h3), Bool.and_false])
            have t1 : (s.toList == [46]) = true := by rw [HT1.out, decide_eq_true h3]
            clear h3
            go_wp2
            go_ret
            exact ⟨by rw [HE.out]; rfl, rfl⟩
          · by_cases h4 : s = dot2
            · have HE : Hid (N = false) := Lib.hid (by rw [HN.out, decide_eq_false (fun h => h.2.2.2 h4), Bool.and_false])
              have t1 : (s.toList == [46]) = false := by rw [HT1.out, decide_eq_false h3]
              have t2 : (s.toList == [46, 46]) = true := by rw [HT2.out, decide_eq_true h4]
              clear h3 h4
              go_wp2
              go_ret
              exact ⟨by rw [HE.out]; rfl, rfl⟩
            · have HE : Hid (N = true) := Lib.hid (by rw [HN.out, HAll.out, decide_eq_true ⟨h1, h2, h3, h4⟩]; rfl)
              have t1 : (s.toList == [46]) = false := by rw [HT1.out, decide_eq_false h3]
              have t2 : (s.toList == [46, 46]) = false := by rw [HT2.out, decide_eq_false h4]
              clear h3 h4
              go_wp2
              go_ret
              exact ⟨by rw [HE.out]; rfl, rfl⟩
        · have HE : Hid (N = false) := Lib.hid (by rw [HN.out, decide_eq_false (fun h => h2 h.2.1), Bool.and_false])
          go_wp2
          go_ret
          exact ⟨by rw [HE.out]; rfl, rfl⟩
      · have HE : Hid (N = false) := Lib.hid (by rw [HN.out, decide_eq_false (fun h => h1 h.1), Bool.and_false])
        go_wp2
        go_ret
        exact ⟨by rw [HE.out]; rfl, rfl⟩

set_option maxHeartbeats 1000000 in
theorem rRight_any (nd : Int) (nm : ByteArray) (w : World) (hs : nm.size ≤ 140737488351232) : Calls Try.prog 42 #[.agg #[.int .i64 nd, .string nm]] w fun e w' => e = .returned (.bool (PEnt.right ⟨nd, nm⟩)) ∧ Below w.heap.size w w' := by
  have HR : Hid (PEnt.right ⟨nd, nm⟩ = (decide (0 ≤ nd ∧ nd < 32) && named nm)) := Lib.hid rfl
  obtain ⟨R, HRR⟩ : ∃ R, Hid (PEnt.right ⟨nd, nm⟩ = R) := ⟨_, Lib.hid rfl⟩
  rw [HRR.out] at HR
  rw [HRR.out]
  have cN := fun W => rNamed_any nm W hs
  generalize named nm = N at *
  by_cases h1 : 0 ≤ nd
  · by_cases h2 : nd < 32
    · have HE : Hid (R = N) := Lib.hid (by rw [HR.out, decide_eq_true ⟨h1, h2⟩]; rfl)
      go_enter Try.func42, Try.ntmps42
      go_wp2_with (go_at_call 19; refine (cN _).mono ?_; rintro e w' ⟨rfl, rfl⟩)
      go_ret
      exact ⟨by rw [HE.out]; rfl, (Below.refl _ _).alloc (Nat.le_refl _) _⟩
    · have HE : Hid (R = false) := Lib.hid (by rw [HR.out, decide_eq_false (fun h => h2 h.2)]; rfl)
      go_enter Try.func42, Try.ntmps42
      go_wp2
      go_ret
      exact ⟨by rw [HE.out]; rfl, (Below.refl _ _).alloc (Nat.le_refl _) _⟩
  · have HE : Hid (R = false) := Lib.hid (by rw [HR.out, decide_eq_false (fun h => h1 h.1)]; rfl)
    go_enter Try.func42, Try.ntmps42
    go_wp2
    go_ret
    exact ⟨by rw [HE.out]; rfl, (Below.refl _ _).alloc (Nat.le_refl _) _⟩

def hasN (ns : List ByteArray) (s : ByteArray) : Bool := ns.any (fun x => decide (x = s))
theorem hasN_true {ns : List ByteArray} {s : ByteArray} (h : s ∈ ns) : hasN ns s = true := List.any_eq_true.2 ⟨s, h, decide_eq_true rfl⟩
theorem hasN_false {ns : List ByteArray} {s : ByteArray} (h : s ∉ ns) : hasN ns s = false := by
  rw [← Bool.not_eq_true]
  intro hh
  obtain ⟨x, hx, e⟩ := List.any_eq_true.1 hh
  exact h (of_decide_eq_true e ▸ hx)

/-- Texts of the call's own. -/
def OwnS (base : Nat) (w : World) (v : Value) (ns : List ByteArray) : Prop := w.ownsRow base 9 1 v ns.length (ns.map Value.string)

set_option maxHeartbeats 1000000 in
theorem rHas_any (v : Value) (ns : List ByteArray) (s : ByteArray) (base : Nat) (w : World) (h : OwnS base w v ns) (hn : ns.length ≤ 100000) : Calls Try.prog 43 #[v, .string s] w fun e w' => e = .returned (.bool (hasN ns s)) ∧ w = w' := by
  obtain ⟨ao, c, hv⟩ := owns_shape h
  have hc : ∀ j x, ns[j]? = some x → ∃ b, ao = some ⟨b, 0, none⟩ ∧ w.cell? ⟨b, j, none⟩ = some (.string x) := fun j x hj => by
    have hlt : j < ns.length := (List.getElem?_eq_some_iff.1 hj).1
    obtain ⟨g, cap, hv2, _, _⟩ := h.form (by omega)
    rw [hv] at hv2
    simp only [Value.slice.injEq] at hv2
    refine ⟨g, hv2.1, ?_⟩
    have hh := h
    unfold OwnS at hh
    rw [hv, hv2.1] at hh
    have := hh.cells rfl j (.string x) (by rw [List.getElem?_map, hj]; rfl)
    rwa [Go.WideShapes.add_plain, Nat.zero_add] at this
  subst hv
  have HC := Lib.hid hc
  clear hc h
  obtain ⟨n, HL⟩ : ∃ n, Hid (ns.length = n) := ⟨_, Lib.hid rfl⟩
  rw [HL.out] at hn
  rw [HL.out]
  go_enter Try.func43, Try.ntmps43
  go_wp2
  go_loop [5] (fun iv => ∃ k : Nat, iv = .int .i64 (k : Int) ∧ k ≤ n ∧ Hid (s ∉ ns.take k)) (fun iv => n - (intOf iv).toNat)
  case atStart => exact ⟨0, rfl, Nat.zero_le _, Lib.hid (by simp)⟩
  case round =>
    obtain ⟨k, rfl, hk, HA⟩ := hrel
    by_cases hlt : k < n
    · obtain ⟨x, hx⟩ : ∃ x, ns[k]? = some x := ⟨ns[k]'(by rw [HL.out]; exact hlt), List.getElem?_eq_getElem _⟩
      obtain ⟨b, hao, hcell⟩ := HC.out k x hx
      subst hao
      have HX := Lib.hid hx
      have he := str_is x s
      have i1 : (k : Int) < (n : Int) := by omega
      clear hx
      by_cases e : x = s
      · have HF : Hid (hasN ns s = true) := Lib.hid (hasN_true (by rw [← e]; exact List.mem_of_getElem? HX.out))
        have b1 : (x.toList == s.toList) = true := by rw [he, decide_eq_true e]
        clear he e
        go_wp2
        go_ret
        exact ⟨by rw [HF.out]; rfl, rfl⟩
      · have b1 : (x.toList == s.toList) = false := by rw [he, decide_eq_false e]
        have HE := Lib.hid e
        clear he e
        go_wp2
        go_round
        case rel => exact ⟨k + 1, by go_num, by omega, Lib.hid (by
          rw [List.take_add_one, HX.out]
          intro hm
          rcases List.mem_append.1 hm with hm | hm
          · exact HA.out hm
          · simp at hm; exact HE.out hm.symm)⟩
        case measure => simp [intOf]; omega
    · obtain rfl : k = n := by omega
      have HF : Hid (hasN ns s = false) := Lib.hid (hasN_false (by have := HA.out; rwa [← HL.out, List.take_length] at this))
      go_wp2
      go_ret
      exact ⟨by rw [HF.out]; rfl, rfl⟩

end Go.Proofs.Ytkpgefjbhimmgaa
