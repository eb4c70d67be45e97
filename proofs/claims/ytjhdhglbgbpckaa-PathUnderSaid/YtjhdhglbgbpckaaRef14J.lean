/-
  Proved here: what the document's own Join (drydockref14) answers.
  The conditions stand at each theorem.
-/
import Derived.Test.YtjhdhglbgbpckaaRef14
namespace Go.Proofs.Ytjhdhglbgbpckaa
open Go.RowKit
set_option linter.unusedVariables false
set_option linter.unusedSimpArgs false

theorem join_snoc (a : List (List Int)) (n : List Int) : joinN (a ++ [n]) = joinN a ++ 47 :: n := by
  unfold joinN
  rw [List.flatMap_append]
  simp
theorem bytes_nil {s : ByteArray} : (s = ByteArray.empty) ↔ bytesOf s = [] := ⟨fun h => by rw [h]; rfl, fun h => bytesOf_inj (by rw [h]; rfl)⟩
theorem slash_bytes (s : ByteArray) : bytesOf ((⟨#[47]⟩ : ByteArray) ++ s) = 47 :: bytesOf s := by rw [bytesOf_append]; rfl

set_option maxRecDepth 100000 in
set_option maxHeartbeats 1600000 in
theorem RJoin_any {ao : Option Addr} {m cap : Nat} {ns : List ByteArray} (w : World) (hX : SIs w ao m ns) (hs : ∀ s ∈ ns, s.size ≤ 140737488351232) :
    Calls Try.prog 14 #[.slice ao m cap] w fun e w' => ∃ s, e = .returned (.tuple #[.string s, .int .i64 (joinW (ns.map bytesOf)).1]) ∧ bytesOf s = (joinW (ns.map bytesOf)).2 ∧ w = w' := by
  have HX := Lib.hid hX
  have HS := Lib.hid hs
  have HLX := Lib.hid hX.len
  have hbm := hX.2.1
  have hlm : (ns.map bytesOf).length = m := by rw [List.length_map, hX.len]
  clear hX hs
  unfold joinW
  rw [hlm, names_nm]
  by_cases h16 : 16 < m
  · rw [if_pos h16]
    have i1 : (16 : Int) < (m : Int) := by omega
    go_enter Try.func14, Try.ntmps14
    go_wp2_with fail
    go_ret2
    exact ⟨_, rfl, rfl, rfl⟩
  · rw [if_neg h16]
    obtain ⟨J, hJ⟩ : ∃ J, (if ns.all named = true then ((0 : Int), if ns.map bytesOf = [] then [47] else joinN (ns.map bytesOf)) else (9, [])) = J := ⟨_, rfl⟩
    rw [hJ]
    have HJ := Lib.hid hJ
    clear hJ
    have i1 : ¬ (16 : Int) < (m : Int) := by omega
    have i2 : (m : Int) ≤ 16 := by omega
    go_enter Try.func14, Try.ntmps14
    go_wp2_with fail
    go_loopw [4, 5] (fun sv iv wr => ∃ (i : Nat) (acc : ByteArray), iv = .int .i64 (i : Int) ∧ sv = .string acc ∧ i ≤ m ∧ acc.size ≤ 18 * i ∧ Hid (bytesOf acc = joinN ((ns.take i).map bytesOf)) ∧ Hid ((ns.take i).all named = true) ∧ Hid (w = wr)) (fun _ iv _ => m - (intOf iv).toNat)
    case atStart => exact ⟨0, ByteArray.empty, rfl, rfl, Nat.zero_le _, Nat.zero_le _, Lib.hid rfl, Lib.hid rfl, Lib.hid rfl⟩
    case round =>
      obtain ⟨i, acc, rfl, rfl, hi, hsz, HT, HN, HW⟩ := hrel
      have HWW := HW.out
      subst HWW
      by_cases hlt : i < m
      · obtain ⟨b1, o1, x, rfl, hx, d1⟩ := HX.out.at hlt
        have i3 : (i : Int) < (m : Int) := by omega
        have HXI := Lib.hid hx
        have hsx := HS.out x (List.mem_of_getElem? hx)
        have c := fun W => rNamed_any x W hsx
        obtain ⟨N, hN⟩ : ∃ N, named x = N := ⟨_, rfl⟩
        have HNX := Lib.hid hN
        rw [hN] at c
        clear hx hN
        cases N with
        | true =>
          have hz := (nm_facts (by rw [← named_nm]; exact HNX.out)).2.2.1
          rw [bytesOf_length] at hz
          have HT2 : Hid (bytesOf (acc ++ ((⟨#[47]⟩ : ByteArray) ++ x)) = joinN ((ns.take (i + 1)).map bytesOf)) := Lib.hid (by
            rw [List.take_add_one, HXI.out, List.map_append, bytesOf_append, slash_bytes, HT.out]
            exact (join_snoc _ _).symm)
          have HN2 : Hid ((ns.take (i + 1)).all named = true) := Lib.hid (by
            rw [List.take_add_one, HXI.out, List.all_append, HN.out]
            simp [HNX.out])
          have hsz2 : (acc ++ ((⟨#[47]⟩ : ByteArray) ++ x)).size ≤ 18 * (i + 1) := by
            rw [ByteArray.size_append, ByteArray.size_append]
            show acc.size + (1 + x.size) ≤ _
            omega
          go_wp2_with (go_at_call 20; refine (c _).mono ?_; rintro e w2 ⟨rfl, rfl⟩)
          go_roundw
          case rel => exact ⟨i + 1, _, by go_num, rfl, by omega, hsz2, HT2, HN2, Lib.hid trivial⟩
          case measure => simp [intOf]; omega
        | false =>
          have HA : Hid (ns.all named = false) := Lib.hid (by
            rw [← Bool.not_eq_true, List.all_eq_true]
            intro h
            have := h x (List.mem_of_getElem? HXI.out)
            rw [HNX.out] at this
            cases this)
          go_wp2_with (go_at_call 20; refine (c _).mono ?_; rintro e w2 ⟨rfl, rfl⟩)
          go_ret2
          exact ⟨_, by rw [← HJ.out, HA.out]; rfl, by rw [← HJ.out, HA.out]; rfl, rfl⟩
      · obtain rfl : i = m := by omega
        have hT := HT.out
        have hN := HN.out
        rw [List.take_of_length_le (by rw [HLX.out]; exact Nat.le_refl _)] at hT hN
        have HT3 := Lib.hid hT
        have HN3 := Lib.hid hN
        have hst := str_is acc ByteArray.empty
        rw [show ByteArray.empty.toList = [] from by rw [Go.ByteArray.toList_eq]; rfl] at hst
        clear hT hN
        by_cases h0 : acc = ByteArray.empty
        · have HE : Hid (ns.map bytesOf = []) := Lib.hid (by
            have h := HT3.out
            rw [bytes_nil.1 h0] at h
            cases hm : ns.map bytesOf with
            | nil => rfl
            | cons n r => rw [hm, join_cons] at h; cases h)
          rw [decide_eq_true h0] at hst
          clear h0
          go_wp2_with fail
          go_ret2
          exact ⟨_, by rw [← HJ.out, HN3.out, if_pos rfl]; rfl, by rw [← HJ.out, HN3.out, if_pos rfl, if_pos HE.out]; rfl, rfl⟩
        · rw [decide_eq_false h0] at hst
          have HE : Hid (ns.map bytesOf ≠ []) := Lib.hid (fun e => h0 (bytes_nil.2 (by rw [HT3.out, e]; rfl)))
          go_wp2_with fail
          go_ret2
          exact ⟨_, by rw [← HJ.out, HN3.out, if_pos rfl]; rfl, by rw [← HJ.out, HN3.out, if_pos rfl, if_neg HE.out]; exact HT3.out, rfl⟩

end Go.Proofs.Ytjhdhglbgbpckaa
