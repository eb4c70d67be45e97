/-
  Proved here: what the landed entry says of names and of nodes (Named, soundNode), with the library's search for a byte.
  No conditions but those that each theorem names.
-/
import Derived.Test.YtjhdhglbgbpckaaEnt
import Derived.Lib.Bytealg
import Derived.Laws.Externs
namespace Go.Proofs.Ytjhdhglbgbpckaa
open Go.RowKit

theorem idx_neg (c : UInt8) : ∀ l : List UInt8, Lib.indexByte l c < 0 ↔ c ∉ l
  | [] => by simp [Lib.indexByte]
  | b :: l => by
    have ih := idx_neg c l
    have hge := Lib.indexByte_ge l c
    unfold Lib.indexByte
    by_cases h : (b == c) = true
    · rw [if_pos h]
      have : b = c := by simpa using h
      simp [this]
    · rw [if_neg h]
      have hne : ¬ b = c := by simpa using h
      by_cases h2 : (Lib.indexByte l c == -1) = true
      · rw [if_pos h2]
        have h3 : Lib.indexByte l c = -1 := by simpa using h2
        have h4 : c ∉ l := ih.1 (by omega)
        simp only [List.mem_cons, not_or]
        exact ⟨fun _ => ⟨fun e => hne e.symm, h4⟩, fun _ => by decide⟩
      · rw [if_neg h2]
        have h3 : ¬ Lib.indexByte l c = -1 := by simpa using h2
        have h4 : ¬ c ∉ l := fun hn => by have := ih.2 hn; omega
        simp only [List.mem_cons, not_or]
        exact ⟨fun hh => by omega, fun hh => absurd hh.2 h4⟩

theorem named_bytes (s : ByteArray) : (bytesOf s).all (fun z => decide (z ≠ 47 ∧ z ≠ 0)) = decide (Lib.indexByte s.data.toList 47 < 0 ∧ Lib.indexByte s.data.toList 0 < 0) := by
  rw [Bool.eq_iff_iff, List.all_eq_true, decide_eq_true_iff, idx_neg, idx_neg]
  unfold bytesOf
  constructor
  · intro h
    constructor
    · intro hm
      have := h _ (List.mem_map.2 ⟨47, hm, rfl⟩)
      simp at this
    · intro hm
      have := h _ (List.mem_map.2 ⟨0, hm, rfl⟩)
      simp at this
  · rintro ⟨h1, h2⟩ z hz
    obtain ⟨b, hb, rfl⟩ := List.mem_map.1 hz
    rw [decide_eq_true_iff]
    constructor
    · intro e
      exact h1 (by rwa [show b = 47 from UInt8.toNat_inj.1 (by simpa using (Int.ofNat_inj.1 e))] at hb)
    · intro e
      exact h2 (by rwa [show b = 0 from UInt8.toNat_inj.1 (by simpa using (Int.ofNat_inj.1 e))] at hb)

theorem named_eq (s : ByteArray) : named s = (decide (1 ≤ s.size) && decide (s.size ≤ 17) && !decide (s = dot1) && !decide (s = dot2) && decide (Lib.indexByte s.data.toList 47 < 0) && decide (Lib.indexByte s.data.toList 0 < 0)) := by
  unfold named
  rw [named_bytes, Bool.eq_iff_iff]
  simp only [Bool.and_eq_true, decide_eq_true_eq, Bool.not_eq_true', decide_eq_false_iff_not]
  constructor
  · rintro ⟨⟨a, b⟩, c, d, e, f⟩
    exact ⟨⟨⟨⟨⟨c, d⟩, e⟩, f⟩, a⟩, b⟩
  · rintro ⟨⟨⟨⟨⟨c, d⟩, e⟩, f⟩, a⟩, b⟩
    exact ⟨⟨a, b⟩, c, d, e, f⟩

/-- Two strings are alike just where their bytes are. -/
theorem str_is (a b : ByteArray) : (a.toList == b.toList) = decide (a = b) := by
  rw [Go.ByteArray.toList_eq, Go.ByteArray.toList_eq, Bool.eq_iff_iff, beq_iff_eq, decide_eq_true_iff]
  constructor
  · intro h
    cases a with | mk a => cases b with | mk b =>
    congr 1
    exact Array.ext' h
  · intro h; rw [h]

theorem indexByteString_any (s : ByteArray) (c : Int) (w : World) : (callFunc 45 #[.string s, .int .u8 c]).run Try.prog w = .ok (.value (.int .i64 (Lib.indexByte s.data.toList c.toNat.toUInt8))) w := by
  rw [run_callFunc_extern Try.func45 (by kernel_rfl) (by kernel_rfl) (by kernel_rfl) (e := Extern.BytealgIndexByte.indexByte) (by kernel_rfl) _ w, Lib.run_indexByteString]
  rfl

theorem liteIndexByte_any (s : ByteArray) (c : Int) (w : World) : Calls Try.prog 39 #[.string s, .int .u8 c] w fun e w' => e = .returned (.int .i64 (Lib.indexByte s.data.toList c.toNat.toUInt8)) ∧ w = w' := by
  have hd : ∀ w, (callFunc 45 #[.string s, .int .u8 c]).run Try.prog w = .ok (.value (.int .i64 (Lib.indexByte s.data.toList c.toNat.toUInt8))) w := fun w => indexByteString_any s c w
  generalize Lib.indexByte s.data.toList c.toNat.toUInt8 = r at *
  go_enter Try.func39, Try.ntmps39
  go_wp2
  go_ret
  exact ⟨rfl, rfl⟩

theorem strIndexByte_any (s : ByteArray) (c : Int) (w : World) : Calls Try.prog 36 #[.string s, .int .u8 c] w fun e w' => e = .returned (.int .i64 (Lib.indexByte s.data.toList c.toNat.toUInt8)) ∧ w = w' := by
  have hd := liteIndexByte_any s c
  generalize Lib.indexByte s.data.toList c.toNat.toUInt8 = r at *
  go_enter Try.func36, Try.ntmps36
  go_wp2_with (go_at_call 39; refine (hd _).mono ?_; rintro e w' ⟨rfl, rfl⟩)
  go_ret
  exact ⟨rfl, rfl⟩

set_option maxHeartbeats 1000000 in
theorem Named_any (s : ByteArray) (w : World) (hs : s.size ≤ 140737488351232) : Calls Try.prog 29 #[.string s] w fun e w' => e = .returned (.bool (named s)) ∧ w = w' := by
  have c47 := strIndexByte_any s 47
  have c0 := strIndexByte_any s 0
  rw [show (47 : Int).toNat.toUInt8 = 47 from rfl] at c47
  rw [show (0 : Int).toNat.toUInt8 = 0 from rfl] at c0
  have HN := Lib.hid (named_eq s)
  have t1 := str_is s dot1
  have t2 := str_is s dot2
  rw [show dot1.toList = [46] from by rw [Go.ByteArray.toList_eq]; rfl] at t1
  rw [show dot2.toList = [46, 46] from by rw [Go.ByteArray.toList_eq]; rfl] at t2
  have HT1 := Lib.hid t1
  have HT2 := Lib.hid t2
  clear t1 t2
  generalize Lib.indexByte s.data.toList 47 = i at *
  generalize Lib.indexByte s.data.toList 0 = j at *
  generalize named s = N at *
  by_cases h1 : 1 ≤ s.size
  · by_cases h2 : s.size ≤ 17
    · by_cases h3 : s = dot1
      · have HE : Hid (N = false) := Lib.hid (by rw [HN.out, decide_eq_true h1, decide_eq_true h2, decide_eq_true h3]; rfl)
        have t1 : (s.toList == [46]) = true := by rw [HT1.out, decide_eq_true h3]
        clear h3
        go_enter Try.func29, Try.ntmps29
        go_wp2
        go_ret
        exact ⟨by rw [HE.out]; rfl, rfl⟩
      · by_cases h4 : s = dot2
        · have HE : Hid (N = false) := Lib.hid (by rw [HN.out, decide_eq_true h1, decide_eq_true h2, decide_eq_false h3, decide_eq_true h4]; rfl)
          have t1 : (s.toList == [46]) = false := by rw [HT1.out, decide_eq_false h3]
          have t2 : (s.toList == [46, 46]) = true := by rw [HT2.out, decide_eq_true h4]
          clear h3 h4
          go_enter Try.func29, Try.ntmps29
          go_wp2
          go_ret
          exact ⟨by rw [HE.out]; rfl, rfl⟩
        · have t1 : (s.toList == [46]) = false := by rw [HT1.out, decide_eq_false h3]
          have t2 : (s.toList == [46, 46]) = false := by rw [HT2.out, decide_eq_false h4]
          have HE : Hid (N = (decide (i < 0) && decide (j < 0))) := Lib.hid (by rw [HN.out, decide_eq_true h1, decide_eq_true h2, decide_eq_false h3, decide_eq_false h4]; rfl)
          clear h3 h4
          by_cases h5 : i < 0
          · by_cases h6 : j < 0
            all_goals
              have HF : Hid (N = _) := Lib.hid (HE.out.trans (by first | rw [decide_eq_true h5, decide_eq_true h6] | rw [decide_eq_true h5, decide_eq_false h6]))
              go_enter Try.func29, Try.ntmps29
              go_wp2_with (go_at_call 36; first | ((with_reducible refine (c47 _).mono ?_); rintro e w' ⟨rfl, rfl⟩) | ((with_reducible refine (c0 _).mono ?_); rintro e w' ⟨rfl, rfl⟩))
              go_ret
              exact ⟨by rw [HF.out]; first | rfl | (show Ending.returned (.bool (decide (j < 0))) = _; rw [decide_eq_false (by omega)]; rfl), rfl⟩
          · have HF : Hid (N = (false && decide (j < 0))) := Lib.hid (HE.out.trans (by rw [decide_eq_false h5]))
            go_enter Try.func29, Try.ntmps29
            go_wp2_with (go_at_call 36; first | ((with_reducible refine (c47 _).mono ?_); rintro e w' ⟨rfl, rfl⟩) | ((with_reducible refine (c0 _).mono ?_); rintro e w' ⟨rfl, rfl⟩))
            go_ret
            exact ⟨by rw [HF.out]; rfl, rfl⟩
    · have HE : Hid (N = false) := Lib.hid (by rw [HN.out, decide_eq_true h1, decide_eq_false h2]; rfl)
      go_enter Try.func29, Try.ntmps29
      go_wp2
      go_ret
      exact ⟨by rw [HE.out]; rfl, rfl⟩
  · have HE : Hid (N = false) := Lib.hid (by rw [HN.out, decide_eq_false h1]; rfl)
    go_enter Try.func29, Try.ntmps29
    go_wp2
    go_ret
    exact ⟨by rw [HE.out]; rfl, rfl⟩

/-- May it be a node's number? -/
def nodeOk (n : Int) : Bool := decide (0 ≤ n ∧ n < 32)

theorem right_eq (x : PEnt) : x.right = (nodeOk x.node && named x.name) := rfl

end Go.Proofs.Ytjhdhglbgbpckaa

