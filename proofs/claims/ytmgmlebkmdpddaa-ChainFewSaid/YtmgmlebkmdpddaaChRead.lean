/-
  Proved here: what the landed chain's read answers of a block of extents; bytes.Equal; IndexFunc of a list whose first write is the one that is sought.
  The conditions stand at each theorem.
-/
import Derived.Test.YtmgmlebkmdpddaaChPlan
import Derived.Test.YtmgmlebkmdpddaaExtents
import Derived.Test.YtmgmlebkmdpddaaFieldGet
namespace Go.Proofs.Ytmgmlebkmdpddaa
open Go.RowKit
set_option linter.unusedVariables false
set_option linter.unusedSimpArgs false

/-- The bytes say these extents. -/
def saysX (zs : List Int) (xs : List EX) : Prop := ∀ (i : Nat) (x : EX), xs[i]? = some x → getOut zs (4 + 4 * (i : Int)) 1 = x.a ∧ getOut zs (4 + 4 * (i : Int) + 1) 2 = x.f ∧ getOut zs (4 + 4 * (i : Int) + 3) 1 = x.c ∧ 0 ≤ x.f ∧ 1 ≤ x.c ∧ x.f + x.c ≤ 480 ∧ x.c ≤ 255

set_option maxRecDepth 100000 in
set_option maxHeartbeats 3200000 in
theorem chRead_any {w : World} {ao : Option Addr} {cap n : Nat} {zs : List Int} {xs : List EX} (hA : Arg w ao 64 cap zs) (hx : saysX zs xs) (hn : xs.length = n) (h14 : n ≤ 14) :
    Calls Try.prog 37 #[.slice ao 64 cap, .int .i64 (n : Int)] w fun e w' => ∃ v, e = .returned (.tuple #[v, .int .i64 (getOut zs 2 2)]) ∧ RowX w.heap.size w' v xs ∧ Below w.heap.size w w' := by
  have HA := Lib.hid hA
  have HX := Lib.hid hx
  have HN := Lib.hid hn
  have HG : Hid (∀ W p s, Below w.heap.size w W → (-9223372036854775808 ≤ p ∧ p ≤ 9223372036854775807) → (-9223372036854775808 ≤ s ∧ s ≤ 9223372036854775807) → Calls Try.prog 36 #[.slice ao 64 cap, .int .i64 p, .int .i64 s] W fun e w' => e = .returned (.tuple #[.int .i64 (getOut zs p s), .int .i64 (fErr 64 p s)]) ∧ W = w') := Lib.hid (fun W p s hW hp hs => fGet_any ao 64 cap zs p s W (hA.later hW) hp hs)
  clear hA hx hn
  go_enter Try.func37, Try.ntmps37
  go_wp2_with (go_at_call 36; refine (HG.out _ 2 2 (Below.refl _ _) (by decide) (by decide)).mono ?_; rintro e w3 ⟨rfl, rfl⟩)
  go_loopw [4, 22] (fun lv iv wr => ∃ i : Nat, iv = .int .i64 (i : Int) ∧ i ≤ n ∧ Hid (RowX w.heap.size wr lv (xs.take i)) ∧ Hid (Below w.heap.size w wr)) (fun _ iv _ => n - (intOf iv).toNat)
  case atStart => exact ⟨0, rfl, Nat.zero_le _, Lib.hid ⟨[], owns_nil_r _ _ _ _, CellsE.nil⟩, Lib.hid (Below.refl _ _)⟩
  case round =>
    obtain ⟨i, rfl, hi, HR, HBR⟩ := hrel
    by_cases hlt : i < n
    · obtain ⟨x, hx⟩ : ∃ x, xs[i]? = some x := ⟨_, List.getElem?_eq_getElem (by rw [HN.out]; exact hlt)⟩
      obtain ⟨g1, g2, g3, k1, k2, k3, k4⟩ := HX.out i x hx
      have HTK : Hid (xs.take (i + 1) = xs.take i ++ [x]) := Lib.hid (by rw [List.take_add_one, hx]; rfl)
      have HTL : Hid ((xs.take i).length = i) := Lib.hid (by rw [List.length_take, HN.out]; omega)
      have i1 : (i : Int) < (n : Int) := by omega
      have i0 : (0 : Int) ≤ (i : Int) := by omega
      have w1 : wrap64 (4 * (i : Int)) = 4 * (i : Int) := by unfold wrap64; omega
      have w2 : wrap64 (4 + 4 * (i : Int)) = 4 + 4 * (i : Int) := by unfold wrap64; omega
      have w3 : wrap64 (4 + 4 * (i : Int) + 1) = 4 + 4 * (i : Int) + 1 := by unfold wrap64; omega
      have w4 : wrap64 (4 + 4 * (i : Int) + 3) = 4 + 4 * (i : Int) + 3 := by unfold wrap64; omega
      have HAI : Hid ((-9223372036854775808 ≤ 4 + 4 * (i : Int) ∧ 4 + 4 * (i : Int) ≤ 9223372036854775807) ∧ (-9223372036854775808 ≤ 4 + 4 * (i : Int) + 1 ∧ 4 + 4 * (i : Int) + 1 ≤ 9223372036854775807) ∧ (-9223372036854775808 ≤ 4 + 4 * (i : Int) + 3 ∧ 4 + 4 * (i : Int) + 3 ≤ 9223372036854775807)) := Lib.hid (by omega)
      obtain ⟨xa, xf, xc⟩ := x
      simp only at g1 g2 g3 k1 k2 k3 k4
      have HOF : Hid (∀ W, Calls Try.prog 44 #[.int .i64 xf, .int .i64 xc] W fun e w' => ∃ p q, e = .returned (.tuple #[.complex .f64 p q, .int .i64 0]) ∧ FI p xf ∧ FI q xc ∧ W = w') := Lib.hid (fun W => Of_run W k1 k2 k3 k4)
      have HG1 := Lib.hid g1
      have HG2 := Lib.hid g2
      have HG3 := Lib.hid g3
      clear hx g1 g2 g3 k1 k2 k3 k4
      obtain ⟨vs, ho, hc⟩ := HR.out
      rw [HTL.out] at ho
      have HO := Lib.hid ho
      have HC := Lib.hid hc
      have HSZ : Hid (w.heap.size ≤ wr.heap.size) := Lib.hid HBR.out.size
      clear ho hc
      go_wp2_with (first
        | (at_builtin; refine wp_append_r elemX rfl (.tmp 54) (.tmp 58) rfl w.heap.size i _ vs rfl (HO.out.alloc _) ⟨wr.heap.size, 0, none⟩ 1 1 [.int .i64 xa, .complex .f64 p q] rfl rfl (news_r wr [.int .i64 xa, .complex .f64 p q] _) (by intro u hu; simp only [List.mem_cons, List.not_mem_nil, or_false] at hu; rcases hu with rfl | rfl <;> rfl) (by omega) (by have := HSZ.out; rw [World.size_alloc]; omega) ?_; intro v5 w5 hown5 hg5 hb5; have HO5 := Lib.hid hown5; have HB5 := Lib.hid ((HBR.out.alloc HSZ.out _).trans hb5); clear hown5 hg5 hb5)
        | (go_at_call 44; refine (HOF.out _).mono ?_; rintro e w4 ⟨p, q, rfl, hp, hq, rfl⟩; have HP := Lib.hid hp; have HQ := Lib.hid hq; clear hp hq)
        | (go_at_call 36; refine (HG.out _ _ _ HBR.out (by omega) (by decide)).mono ?_; rintro e w3 ⟨rfl, rfl⟩; first | rw [HG1.out] | rw [HG2.out] | rw [HG3.out]))
      go_roundw
      case rel => exact ⟨i + 1, by go_num, by omega, Lib.hid (by
        rw [HTK.out]
        exact ⟨vs ++ [.int .i64 xa, .complex .f64 p q], by rw [List.length_append, HTL.out]; exact HO5.out, CellsE.snoc (x := ⟨xa, xf, xc⟩) HC.out HP.out HQ.out⟩), HB5⟩
      case measure => simp [intOf]; omega
    · obtain rfl : i = n := by omega
      have HT : Hid (xs.take i = xs) := Lib.hid (List.take_of_length_le (by rw [HN.out]; exact Nat.le_refl _))
      rw [HT.out] at HR
      go_wp2_with fail
      go_ret2
      exact ⟨_, rfl, HR.out, HBR.out⟩

set_option maxHeartbeats 400000 in
theorem chEqual_any (ao bo : Option Addr) (al bl ac bc : Nat) (xs ys : List Int) (w : World) (hx : Bts w ao al xs) (hy : Bts w bo bl ys) :
    Calls Try.prog 38 #[.slice ao al ac, .slice bo bl bc] w fun e w' => e = .returned (.bool (decide (xs = ys))) ∧ w = w' := by
  have h1 := str_bytes (cap := ac) hx
  have h2 := str_bytes (cap := bc) hy
  have HE : Hid (((str xs).toList == (str ys).toList) = decide (xs = ys)) := Lib.hid (str_eq hx.2.2.1 hy.2.2.1)
  clear hx hy
  generalize str xs = sx at *
  generalize str ys = sy at *
  go_enter Try.func38, Try.ntmps38
  go_wp2
  go_ret
  exact ⟨by rw [← HE.out]; rfl, rfl⟩
set_option maxHeartbeats 400000 in
theorem fetch1_any (x : Int) (vo : Option Addr) (vl vc : Nat) (B : Nat) (w : World) (hB : w.cell? ⟨B, 0, none⟩ = some (.int .i64 x)) :
    Calls Try.prog 35 #[.agg #[.int .i64 x, .slice vo vl vc], .pointer (some ⟨B, 0, none⟩)] w fun e w' => e = .returned (.bool true) ∧ Below w.heap.size w w' := by
  have HA : Hid (Below w.heap.size w (w.alloc (.cells #[.int .i64 x, .slice vo vl vc] 54))) := Lib.hid ((Below.refl _ _).alloc (Nat.le_refl _) _)
  have hB2 : (w.alloc (.cells #[.int .i64 x, .slice vo vl vc] 54)).cell? ⟨B, 0, none⟩ = some (.int .i64 x) := cell_later HA.out hB
  go_enter Try.func35, Try.ntmps35
  go_wp2_with fail
  go_ret
  exact ⟨by simp, HA.out⟩

set_option maxRecDepth 100000 in
set_option maxHeartbeats 800000 in
theorem indexW_first {w : World} {g : Nat} {x : Int} {vo : Option Addr} {vl vc n cap B : Nat} (hn : 0 < n) (hn2 : n ≤ 140737488351232) (hB : w.cell? ⟨B, 0, none⟩ = some (.int .i64 x)) (h0 : w.cell? ⟨g, 0, none⟩ = some (.int .i64 x)) (h1 : w.cell? ⟨g, 1, none⟩ = some (.slice vo vl vc)) :
    Calls Try.prog 34 #[.slice (some ⟨g, 0, none⟩) n cap, .func (.func 35) #[] #[.pointer (some ⟨B, 0, none⟩)]] w fun e w' => e = .returned (.int .i64 0) ∧ Below w.heap.size w w' := by
  have cF := fetch1_any x vo vl vc B w hB
  have n0 : (0 : Int) < (n : Int) := by omega
  clear hB
  go_enter Try.func34, Try.ntmps34
  go_wp2_with fail
  go_loop [8] (fun iv => iv = .int .i64 0) (fun iv => 0)
  case atStart => rfl
  case round =>
    subst hrel
    go_wp2_with (go_at_call 35; refine cF.mono ?_; rintro e w3 ⟨rfl, hb3⟩; have HB3 := Lib.hid hb3; clear hb3)
    go_ret
    exact ⟨rfl, HB3.out⟩

end Go.Proofs.Ytmgmlebkmdpddaa
