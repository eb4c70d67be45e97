/-
  Proved here: what the document's own answer (drydockref10) says of a name; lists of texts in memory; names as bytes.
  The conditions stand at each theorem.
-/
import Derived.Test.YtjhdhglbgbpckaaEntNamed
import Derived.Test.YtjhdhglbgbpckaaPath
import Derived.Test.YtjhdhglbgbpckaaVals
namespace Go.Proofs.Ytjhdhglbgbpckaa
open Go.RowKit
set_option linter.unusedVariables false
set_option linter.unusedSimpArgs false

theorem bytesOf_at {s : ByteArray} {k : Nat} (h : k < s.size) : (s[k].toNat : Int) ∈ bytesOf s := by
  unfold bytesOf
  exact List.mem_map.2 ⟨s[k], by show s.data[k] ∈ _; simp, rfl⟩

theorem bytesOf_all {s : ByteArray} (h : ∀ k (hk : k < s.size), (s[k].toNat : Int) ≠ 47 ∧ (s[k].toNat : Int) ≠ 0) : (bytesOf s).all (fun z => decide (z ≠ 47 ∧ z ≠ 0)) = true := by
  rw [List.all_eq_true]
  intro z hz
  unfold bytesOf at hz
  obtain ⟨b, hb, rfl⟩ := List.mem_map.1 hz
  obtain ⟨k, hk, rfl⟩ := List.mem_iff_getElem.1 hb
  have hk' : k < s.size := by simpa using hk
  exact decide_eq_true (h k hk')

set_option maxHeartbeats 1000000 in
theorem rNamed_any (s : ByteArray) (w : World) (hs : s.size ≤ 140737488351232) : Calls Try.prog 20 #[.string s] w fun e w' => e = .returned (.bool (named s)) ∧ w = w' := by
  have HN : Hid (named s = ((bytesOf s).all (fun z => decide (z ≠ 47 ∧ z ≠ 0)) && decide (1 ≤ s.size ∧ s.size ≤ 17 ∧ s ≠ dot1 ∧ s ≠ dot2))) := Lib.hid rfl
  have t1 := str_is s dot1
  have t2 := str_is s dot2
  rw [show dot1.toList = [46] from by rw [Go.ByteArray.toList_eq]; rfl] at t1
  rw [show dot2.toList = [46, 46] from by rw [Go.ByteArray.toList_eq]; rfl] at t2
  have HT1 := Lib.hid t1
  have HT2 := Lib.hid t2
  clear t1 t2
  have HBad : Hid (∀ k (hk : k < s.size), ((s[k].toNat : Int) = 47 ∨ (s[k].toNat : Int) = 0) → named s = false) := Lib.hid (fun k hk hb => by
    rw [HN.out]
    have : (bytesOf s).all (fun z => decide (z ≠ 47 ∧ z ≠ 0)) = false := by
      rw [← Bool.not_eq_true, List.all_eq_true]
      intro h
      have := of_decide_eq_true (h _ (bytesOf_at hk))
      omega
    rw [this]; rfl)
  obtain ⟨N, HNN⟩ : ∃ N, Hid (named s = N) := ⟨_, Lib.hid rfl⟩
  rw [HNN.out] at HN HBad
  rw [HNN.out]
  go_enter Try.func20, Try.ntmps20
  go_wp2
  go_loop [3] (fun iv => ∃ k : Nat, iv = .int .i64 (k : Int) ∧ k ≤ s.size ∧ Hid (∀ j (hj : j < s.size), j < k → (s[j].toNat : Int) ≠ 47 ∧ (s[j].toNat : Int) ≠ 0)) (fun iv => s.size - (intOf iv).toNat)
  case atStart => exact ⟨0, rfl, Nat.zero_le _, Lib.hid (fun j _ h => absurd h (Nat.not_lt_zero j))⟩
  case round =>
    obtain ⟨k, rfl, hk, HA⟩ := hrel
    by_cases hlt : k < s.size
    · obtain ⟨c, hc⟩ : ∃ c : Int, (s[k].toNat : Int) = c := ⟨_, rfl⟩
      have HC := Lib.hid hc
      by_cases h47 : c = 47
      · have HF : Hid (N = false) := Lib.hid (HBad.out k hlt (Or.inl (hc.trans h47)))
        have b1 : ((s[k].toNat : Int) == 47) = true := by rw [hc, h47]; rfl
        clear hc h47
        go_wp2
        go_ret
        exact ⟨by rw [HF.out]; rfl, rfl⟩
      · have b1 : ((s[k].toNat : Int) == 47) = false := by rw [hc]; simpa using h47
        by_cases h0 : c = 0
        · have HF : Hid (N = false) := Lib.hid (HBad.out k hlt (Or.inr (hc.trans h0)))
          have b2 : ((s[k].toNat : Int) == 0) = true := by rw [hc, h0]; rfl
          clear hc h0 h47
          go_wp2
          go_ret
          exact ⟨by rw [HF.out]; rfl, rfl⟩
        · have b2 : ((s[k].toNat : Int) == 0) = false := by rw [hc]; simpa using h0
          have H0 := Lib.hid (And.intro h47 h0)
          clear hc h0 h47
          go_wp2
          go_round
          case rel => exact ⟨k + 1, by go_num, by omega, Lib.hid (fun j hj hjk => by
            by_cases e : j = k
            · subst e
              rw [HC.out]; exact H0.out
            · exact HA.out j hj (by omega))⟩
          case measure => simp [intOf]; omega
    · obtain rfl : k = s.size := by omega
      have HAll : Hid ((bytesOf s).all (fun z => decide (z ≠ 47 ∧ z ≠ 0)) = true) := Lib.hid (bytesOf_all (fun k hk => HA.out k hk hk))
      by_cases h1 : 1 ≤ s.size
      · by_cases h2 : s.size ≤ 17
        · by_cases h3 : s = dot1
          · have HE : Hid (N = false) := Lib.hid (by rw [HN.out, decide_eq_false (fun h => h.2.2.1 h3), Bool.and_false])
            have t1 : (s.toList == [46]) = true := by rw [HT1.out, decide_eq_true h3]
            clear h3
            go_wp2
            go_ret
            exact ⟨by rw [HE.out]; rfl, rfl⟩
          · by_cases h4 : s = dot2
            · have HE : Hid (N = false) := Lib.hid (by rw [HN.out, decide_eq_false (fun h => h.2.2.2 h4), Bool.and_false])
              have t1 : (s.toList == [46]) = false := by rw [HT1.out, decide_eq_false h3]
              have t2 : (s.toList == [46, 46]) = true := by rw [HT2.out, decide_eq_true h4]
              clear h3 h4
              go_wp2
              go_ret
              exact ⟨by rw [HE.out]; rfl, rfl⟩
            · have HE : Hid (N = true) := Lib.hid (by rw [HN.out, HAll.out, decide_eq_true ⟨h1, h2, h3, h4⟩]; rfl)
              have t1 : (s.toList == [46]) = false := by rw [HT1.out, decide_eq_false h3]
              have t2 : (s.toList == [46, 46]) = false := by rw [HT2.out, decide_eq_false h4]
              clear h3 h4
              go_wp2
              go_ret
              exact ⟨by rw [HE.out]; rfl, rfl⟩
        · have HE : Hid (N = false) := Lib.hid (by rw [HN.out, decide_eq_false (fun h => h2 h.2.1), Bool.and_false])
          go_wp2
          go_ret
          exact ⟨by rw [HE.out]; rfl, rfl⟩
      · have HE : Hid (N = false) := Lib.hid (by rw [HN.out, decide_eq_false (fun h => h1 h.1), Bool.and_false])
        go_wp2
        go_ret
        exact ⟨by rw [HE.out]; rfl, rfl⟩


/-- Texts, one cell each. -/
def strs (ns : List ByteArray) : List Value := ns.map Value.string
theorem strs_length (ns : List ByteArray) : (strs ns).length = ns.length := by unfold strs; simp
theorem strs_get {ns : List ByteArray} {i : Nat} {s : ByteArray} (h : ns[i]? = some s) : (strs ns)[i]? = some (.string s) := by unfold strs; rw [List.getElem?_map, h]; rfl
theorem strs_append (a b : List ByteArray) : strs (a ++ b) = strs a ++ strs b := by unfold strs; simp
theorem strs_take (a : List ByteArray) (k : Nat) : strs (a.take k) = (strs a).take k := by unfold strs; rw [List.map_take]
theorem elemS : Elem 22 9 (.string ByteArray.empty) 16 := ⟨Try.underlying22, by kernel_rfl, rfl, by decide⟩

/-- A list of texts in memory. -/
def SIs (w : World) (ao : Option Addr) (len : Nat) (ns : List ByteArray) : Prop := Vals w ao len (strs ns)
theorem SIs.len {w : World} {ao : Option Addr} {len : Nat} {ns : List ByteArray} (h : SIs w ao len ns) : ns.length = len := by have := h.1; rwa [strs_length] at this
theorem SIs.later {w w' : World} {ao : Option Addr} {len : Nat} {ns : List ByteArray} (h : SIs w ao len ns) (hb : Below w.heap.size w w') : SIs w' ao len ns := Vals.later h hb
theorem SIs.at {w : World} {ao : Option Addr} {len i : Nat} {ns : List ByteArray} (h : SIs w ao len ns) (hi : i < len) : ∃ b off s, ao = some ⟨b, off, none⟩ ∧ ns[i]? = some s ∧ w.cell? ⟨b, off + i, none⟩ = some (.string s) := by
  obtain ⟨b, off, rfl, hc⟩ := h.2.2.resolve_left (by omega)
  have hx : ns[i]? = some (ns[i]'(by rw [h.len]; exact hi)) := List.getElem?_eq_getElem (by rw [h.len]; exact hi)
  exact ⟨b, off, _, rfl, hx, hc i _ (strs_get hx)⟩

/-! ### Names as bytes -/

theorem bytesOf_empty : bytesOf ByteArray.empty = [] := rfl
theorem named_nm (s : ByteArray) : named s = nmL (bytesOf s) := by
  unfold named nmL
  rw [bytesOf_length]
  have h1 : (s ≠ dot1) ↔ (bytesOf s ≠ [46]) := not_congr ⟨fun h => by rw [h]; rfl, fun h => bytesOf_inj h⟩
  have h2 : (s ≠ dot2) ↔ (bytesOf s ≠ [46, 46]) := not_congr ⟨fun h => by rw [h]; rfl, fun h => bytesOf_inj h⟩
  rw [decide_eq_decide.2 (show (1 ≤ s.size ∧ s.size ≤ 17 ∧ s ≠ dot1 ∧ s ≠ dot2) ↔ _ from and_congr_right fun _ => and_congr_right fun _ => and_congr h1 h2)]
theorem bytesOf_append (a b : ByteArray) : bytesOf (a ++ b) = bytesOf a ++ bytesOf b := by
  unfold bytesOf
  rw [ByteArray.data_append, Array.toList_append, List.map_append]
theorem bytesOf_get {s : ByteArray} {i : Nat} (h : i < s.size) : (bytesOf s)[i]? = some (s[i].toNat : Int) := by
  unfold bytesOf
  rw [List.getElem?_map]
  have : s.data.toList[i]? = some s[i] := by
    rw [Array.getElem?_toList]
    exact Array.getElem?_eq_getElem h
  rw [this]
  rfl
theorem names_nm (ns : List ByteArray) : (ns.map bytesOf).all nmL = ns.all named := by
  rw [List.all_map]
  congr 1
  funext s
  exact (named_nm s).symm

end Go.Proofs.Ytjhdhglbgbpckaa
