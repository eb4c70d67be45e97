/-
  Proved here: what the library's CutPrefix and Cut answer at a stroke; what the landed path says is no name.
  The conditions stand at each theorem.
-/
import Derived.Test.YtjhdhglbgbpckaaRef14S
namespace Go.Proofs.Ytjhdhglbgbpckaa
open Go.RowKit
set_option linter.unusedVariables false
set_option linter.unusedSimpArgs false

theorem nameless_any (s : ByteArray) (w : World) (hs : s.size ≤ 140737488351232) : Calls Try.prog 22 #[.string s] w fun e w' => e = .returned (.bool (!named s)) ∧ w = w' := by
  have c := Named_any s w hs
  generalize named s = N at *
  go_enter Try.func22, Try.ntmps22
  go_wp2_with (go_at_call 29; refine c.mono ?_; rintro e w' ⟨rfl, rfl⟩)
  go_ret
  exact ⟨rfl, rfl⟩

/-- A stroke. -/
def strokeS : ByteArray := ⟨#[47]⟩

theorem idx_split (c : UInt8) : ∀ l : List UInt8, (Lib.indexByte l c = -1 ∧ c ∉ l) ∨ ∃ a b : List UInt8, l = a ++ c :: b ∧ c ∉ a ∧ Lib.indexByte l c = (a.length : Int)
  | [] => Or.inl ⟨rfl, by simp⟩
  | x :: l => by
    unfold Lib.indexByte
    by_cases h : (x == c) = true
    · rw [if_pos h]
      have hx : x = c := by simpa using h
      subst hx
      exact Or.inr ⟨[], l, rfl, by simp, rfl⟩
    · rw [if_neg h]
      have hne : ¬ x = c := by simpa using h
      rcases idx_split c l with ⟨h1, h2⟩ | ⟨a, b, h1, h2, h3⟩
      · rw [h1]
        exact Or.inl ⟨by rfl, by simp only [List.mem_cons, not_or]; exact ⟨fun e => hne e.symm, h2⟩⟩
      · rw [if_neg (by rw [h3]; simp)]
        exact Or.inr ⟨x :: a, b, by rw [h1]; rfl, by simp only [List.mem_cons, not_or]; exact ⟨fun e => hne e.symm, h2⟩, by rw [h3, List.length_cons]; omega⟩

/-- What was cut: the bytes ahead of the first stroke, and behind it. -/
def CutIs (s p r : ByteArray) (m : Bool) : Prop :=
  (m = false ∧ p = s ∧ ∀ z ∈ bytesOf s, z ≠ 47) ∨ (m = true ∧ bytesOf s = bytesOf p ++ 47 :: bytesOf r ∧ (∀ z ∈ bytesOf p, z ≠ 47))

def CutHanded (s : ByteArray) (e : Ending) : Prop := ∃ p r m, e = .returned (.tuple #[.string p, .string r, .bool m]) ∧ CutIs s p r m
theorem no_stroke {l : List UInt8} (h : (47 : UInt8) ∉ l) : ∀ z ∈ l.map fun b => (b.toNat : Int), z ≠ 47 := by
  intro z hz
  obtain ⟨b, hb, rfl⟩ := List.mem_map.1 hz
  intro e
  exact h (by rwa [show b = 47 from UInt8.toNat_inj.1 (by simpa using (Int.ofNat_inj.1 e))] at hb)

theorem cut_at {s : ByteArray} {a b : List UInt8} (h : s.data.toList = a ++ 47 :: b) (ha : (47 : UInt8) ∉ a) : a.length < s.size ∧ CutIs s (s.extract 0 a.length) (s.extract (a.length + 1) s.size) true := by
  have hl : s.data.toList.length = s.size := by rw [Array.length_toList]; rfl
  have h1 : (s.extract 0 a.length).data.toList = a := by
    rw [ByteArray.data_extract, Array.toList_extract, h]
    simp
  have h2 : (s.extract (a.length + 1) s.size).data.toList = b := by
    rw [ByteArray.data_extract, Array.toList_extract, h]
    have : s.size = a.length + (b.length + 1) := by rw [← hl, h]; simp
    rw [this]
    simp [List.extract, List.drop_append, List.take_append]
    rw [show a.length + (b.length + 1) - (a.length + 1) = b.length by omega, List.drop_of_length_le (by omega)]
    simp
  refine ⟨by rw [← hl, h]; simp, Or.inr ⟨rfl, ?_, ?_⟩⟩
  · unfold bytesOf
    rw [h1, h2, h, List.map_append, List.map_cons]
    rfl
  · unfold bytesOf
    rw [h1]
    exact no_stroke ha

theorem cut_none {s : ByteArray} (h : (47 : UInt8) ∉ s.data.toList) : CutIs s s ByteArray.empty false := Or.inl ⟨rfl, rfl, no_stroke h⟩

theorem liteIndex_any (s : ByteArray) (w : World) : Calls Try.prog 34 #[.string s, .string ⟨#[47]⟩] w fun e w' => e = .returned (.int .i64 (Lib.indexByte s.data.toList 47)) ∧ w = w' := by
  have hd := liteIndexByte_any s 47
  rw [show (47 : Int).toNat.toUInt8 = 47 from rfl] at hd
  have t := str_is ⟨#[47]⟩ s
  rw [show ByteArray.toList ⟨#[47]⟩ = [47] from by rw [Go.ByteArray.toList_eq]] at t
  by_cases he : (⟨#[47]⟩ : ByteArray) = s
  · have HE : Hid (Lib.indexByte s.data.toList 47 = 0) := Lib.hid (by rw [← he]; rfl)
    rw [decide_eq_true he] at t
    clear he
    go_enter Try.func34, Try.ntmps34
    go_wp2_with fail
    go_ret
    exact ⟨by rw [HE.out]; rfl, rfl⟩
  · rw [decide_eq_false he] at t
    clear he
    generalize Lib.indexByte s.data.toList 47 = r at *
    go_enter Try.func34, Try.ntmps34
    go_wp2_with (go_at_call 39; refine (hd _).mono ?_; rintro e w' ⟨rfl, rfl⟩)
    go_ret
    exact ⟨rfl, rfl⟩

set_option maxHeartbeats 800000 in
theorem liteCut_any (s : ByteArray) (w : World) (hs : s.size ≤ 140737488351232) : Calls Try.prog 26 #[.string s, .string ⟨#[47]⟩] w fun e w' => CutHanded s e ∧ Below w.heap.size w w' := by
  have hd := liteIndex_any s
  rcases idx_split 47 s.data.toList with ⟨h1, h2⟩ | ⟨a, b, h1, h2, h3⟩
  · rw [h1] at hd
    have HC := Lib.hid (cut_none h2)
    clear h1 h2
    go_enter Try.func26, Try.ntmps26
    go_wp2_with (go_at_call 34; refine (hd _).mono ?_; rintro e w' ⟨rfl, rfl⟩)
    go_ret3
    exact ⟨⟨_, _, _, rfl, HC.out⟩, Below.refl _ _⟩
  · rw [h3] at hd
    obtain ⟨hlt, hc⟩ := cut_at h1 h2
    have HC := Lib.hid hc
    clear h1 h2 h3 hc
    generalize a.length = k at *
    have i1 : (0 : Int) ≤ (k : Int) := by omega
    have i2 : (k : Int) ≤ (s.size : Int) := by omega
    have i3 : (k : Int) + 1 ≤ (s.size : Int) := by omega
    have i4 : (0 : Int) ≤ (k : Int) + 1 := by omega
    go_enter Try.func26, Try.ntmps26
    go_wp2_with (go_at_call 34; refine (hd _).mono ?_; rintro e w' ⟨rfl, rfl⟩)
    go_quiet (fail)
    go_wp2_with fail
    go_ret3
    exact ⟨⟨_, _, _, rfl, HC.out⟩, below_drewN (Below.refl _ _) _⟩

theorem Cut_any (s : ByteArray) (w : World) (hs : s.size ≤ 140737488351232) : Calls Try.prog 18 #[.string s, .string ⟨#[47]⟩] w fun e w' => CutHanded s e ∧ Below w.heap.size w w' := by
  have c := liteCut_any s w hs
  go_enter Try.func18, Try.ntmps18
  go_wp2_with (go_at_call 26; refine c.mono ?_; rintro e w' ⟨⟨p, r, m, rfl, hc⟩, hb⟩; have HC := Lib.hid hc; have HB := Lib.hid hb; clear hc hb)
  go_ret3
  exact ⟨⟨_, _, _, rfl, HC.out⟩, HB.out⟩

/-- What is behind a stroke at the front. -/
def PrefIs (s r : ByteArray) (m : Bool) : Prop := (m = true ∧ bytesOf s = 47 :: bytesOf r) ∨ (m = false ∧ ∀ t, bytesOf s ≠ 47 :: t)

def PrefHanded (s : ByteArray) (e : Ending) : Prop := ∃ r m, e = .returned (.tuple #[.string r, .bool m]) ∧ PrefIs s r m
theorem bytes_behind (s : ByteArray) : bytesOf (s.extract 1 s.size) = (bytesOf s).drop 1 := by
  unfold bytesOf
  rw [ByteArray.data_extract, Array.toList_extract, ← List.map_drop]
  congr 1
  simp only [List.extract]
  rw [List.take_of_length_le]
  rw [List.length_drop, Array.length_toList]
  exact Nat.le_refl _
theorem pref_is {s : ByteArray} (h : 0 < s.size) : PrefIs s (if decide (s.extract 0 1 = ⟨#[47]⟩) then s.extract 1 s.size else s) (decide (s.extract 0 1 = ⟨#[47]⟩)) := by
  have h1 := bytesOf_extract h
  have h2 := drop_byte h
  rw [List.drop_zero] at h2
  by_cases he : s.extract 0 1 = ⟨#[47]⟩
  · rw [decide_eq_true he, if_pos rfl]
    rw [show (0 : Nat) + 1 = 1 from rfl, he] at h1
    refine Or.inl ⟨rfl, ?_⟩
    rw [bytes_behind, h2]
    have : (s[0].toNat : Int) = 47 := by
      have := List.cons.inj (h1.symm.trans (show bytesOf ⟨#[47]⟩ = [47] from rfl))
      exact this.1
    rw [this]
    rfl
  · rw [decide_eq_false he, if_neg (by decide)]
    refine Or.inr ⟨rfl, fun t ht => he (bytesOf_inj ?_)⟩
    rw [h2] at ht
    have : (s[0].toNat : Int) = 47 := (List.cons.inj ht).1
    rw [show (1 : Nat) = 0 + 1 from rfl, h1, this]
    rfl

set_option maxHeartbeats 800000 in
theorem liteCutPrefix_any (s : ByteArray) (w : World) (hs : s.size ≤ 140737488351232) : Calls Try.prog 25 #[.string s, .string ⟨#[47]⟩] w fun e w' => PrefHanded s e ∧ Below w.heap.size w w' := by
  by_cases h0 : s.size = 0
  · have HP : Hid (PrefIs s s false) := Lib.hid (Or.inr ⟨rfl, fun t e => by have := congrArg List.length e; rw [bytesOf_length] at this; simp at this; omega⟩)
    go_enter Try.func25, Try.ntmps25
    go_wp2_with go_in
    go_ret2
    exact ⟨⟨_, _, rfl, HP.out⟩, Below.refl _ _⟩
  · have i1 : (1 : Int) ≤ (s.size : Int) := by omega
    have t := str_is (s.extract 0 1) ⟨#[47]⟩
    rw [show ByteArray.toList ⟨#[47]⟩ = [47] from by rw [Go.ByteArray.toList_eq]] at t
    have HP := Lib.hid (pref_is (show 0 < s.size by omega))
    cases hd : decide (s.extract 0 1 = ⟨#[47]⟩)
    all_goals
      rw [hd] at t HP
      clear hd
      go_enter Try.func25, Try.ntmps25
      go_wp2_with go_in
      go_ret2
      exact ⟨⟨_, _, rfl, HP.out⟩, Below.refl _ _⟩

theorem CutPrefix_any (s : ByteArray) (w : World) (hs : s.size ≤ 140737488351232) : Calls Try.prog 17 #[.string s, .string ⟨#[47]⟩] w fun e w' => PrefHanded s e ∧ Below w.heap.size w w' := by
  have c := liteCutPrefix_any s w hs
  go_enter Try.func17, Try.ntmps17
  go_wp2_with (go_at_call 25; refine c.mono ?_; rintro e w' ⟨⟨r, m, rfl, hc⟩, hb⟩; have HC := Lib.hid hc; have HB := Lib.hid hb; clear hc hb)
  go_ret2
  exact ⟨⟨_, _, rfl, HC.out⟩, HB.out⟩

end Go.Proofs.Ytjhdhglbgbpckaa
