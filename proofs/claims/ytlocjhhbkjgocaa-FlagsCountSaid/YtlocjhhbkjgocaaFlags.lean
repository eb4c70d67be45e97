/-
  Proved here: what the landed code of package flags answers: New, Up, Count, Mark of one sound run, Down.
  The conditions stand at each theorem.
-/
import Derived.Test.YtlocjhhbkjgocaaRef05
import Derived.Test.YtlocjhhbkjgocaaBits
import Derived.Test.YtlocjhhbkjgocaaCopy
import Derived.Test.YtlocjhhbkjgocaaRun
namespace Go.Proofs.Ytlocjhhbkjgocaa
open Go.RowKit

set_option maxHeartbeats 400000 in
theorem New_own (w : World) :
    Calls Try.prog 17 #[] w fun e w' => e = .returned (.slice (some ⟨w.heap.size, 0, none⟩) 60 60) ∧ Own w.heap.size w w.heap.size (List.replicate 60 0) w' := by
  have hmk := run_make_bytes w 60 (by decide)
  rw [show ((60 : Nat) : Int) = 60 from rfl] at hmk
  have HO := Lib.hid (made_own w 60)
  generalize hw1 : w.alloc (.cells (madeCells #[.int .u8 0] 60) 5) = w1 at *
  have HW1 := Lib.hid hw1
  clear hw1
  go_enter Try.func17, Try.ntmps17
  go_wp2_with fail
  go_ret
  exact ⟨rfl, HO.out⟩

theorem xNew_any (w : World) :
    Calls Try.prog 17 #[] w (Gives w.heap.size w (List.replicate 60 0)) := by
  refine (New_own w).mono ?_
  rintro e w' ⟨rfl, hO⟩
  have hf := hO.fresh (cap := 60) (by rw [List.length_replicate]; decide) (by rw [List.length_replicate]; decide)
  rw [List.length_replicate] at hf
  exact ⟨_, rfl, hf, hO.2.2.2.2⟩

theorem flag_eq (zs : List Int) (n : Nat) : flag zs n = decide (zs.getD (n / 8) 0 / 2 ^ (n % 8) % 2 = 1) := rfl

set_option maxHeartbeats 400000 in
theorem isUp_any (ao : Option Addr) (cap : Nat) (zs : List Int) (n : Nat) (w : World) (hB : Bts w ao 60 zs) (hn : n < 480) :
    Calls Try.prog 16 #[.slice ao 60 cap, .int .i64 n] w fun e w' => e = .returned (.bool (flag zs n)) ∧ w = w' := by
  obtain ⟨b, off, rfl, hc⟩ := hB.2.2.2.resolve_left (by decide)
  have hx := hB.2.2.1 _ (getD_mem (l := zs) (k := n / 8) (by rw [hB.1]; omega))
  have hcell := hc (n / 8) (by omega)
  have HF := Lib.hid (flag_eq zs n)
  obtain ⟨x, HX⟩ : ∃ x, Hid (x = zs.getD (n / 8) 0) := ⟨_, Lib.hid rfl⟩
  rw [← HX.out] at hx hcell HF
  have ha := and_one (k := n % 8) hx (by omega)
  obtain ⟨hx0, hx1⟩ := hx
  clear hB hc
  go_enter Try.func16, Try.ntmps16
  go_wp2_with fail
  go_ret
  exact ⟨by rw [HF.out]; rfl, rfl⟩

/-- A call that turns flag n of the own block g alone. -/
def Turned (base : Nat) (w0 : World) (g : Nat) (L : List Int) (n : Nat) (up : Bool) (e : Ending) (w' : World) : Prop :=
  ∃ M, e = .returned (.tuple #[]) ∧ Own base w0 g M w' ∧ M.length = 60 ∧ ∀ m, flag M m = if m = n then up else flag L m

set_option maxHeartbeats 400000 in
theorem set_any (base : Nat) (w0 : World) (g : Nat) (L : List Int) (n : Nat) (up : Bool) (w : World) (hO : Own base w0 g L w) (hL : L.length = 60) (hn : n < 480) :
    Calls Try.prog 24 #[.slice (some ⟨g, 0, none⟩) 60 60, .int .i64 n, .bool up] w (Turned base w0 g L n up) := by
  have hx := hO.1 _ (getD_mem (l := L) (k := n / 8) (by omega))
  have hcell := hO.2.1 (n / 8) (by omega)
  have hfr := hO.2.2.1 (n / 8)
  have HO := Lib.hid hO
  have HL := Lib.hid hL
  obtain ⟨x, HX⟩ : ∃ x, Hid (x = L.getD (n / 8) 0) := ⟨_, Lib.hid rfl⟩
  rw [← HX.out] at hx hcell
  have ho := or_bit (k := n % 8) hx (by omega)
  have ha := andNot_bit (k := n % 8) hx (by omega)
  have hp : (1 : Int) ≤ 2 ^ (n % 8) ∧ (2 : Int) ^ (n % 8) ≤ 128 := by
    by_cases h7 : n % 8 = 7
    · rw [h7]; decide
    · have := pow_small (j := n % 8) (by omega); omega
  obtain ⟨hx0, hx1⟩ := hx
  obtain ⟨hp0, hp1⟩ := hp
  clear hO hL
  cases up
  · obtain ⟨y, hy⟩ : ∃ y, bits .andNot .u8 x (2 ^ (n % 8)) = y := ⟨_, rfl⟩
    rw [hy] at ha
    have HA := Lib.hid ha
    clear ho ha
    go_enter Try.func24, Try.ntmps24
    go_wp2_with fail
    go_end0
    exact ⟨L.set (n / 8) y, rfl, HO.out.store (k := n / 8) (by rw [HL.out]; omega) HA.out.1, by rw [List.length_set, HL.out], fun m => flag_set (up := false) (by rw [HL.out]; omega) (by rw [← HX.out]; exact HA.out.2) m⟩
  · obtain ⟨y, hy⟩ : ∃ y, bits .or .u8 x (2 ^ (n % 8)) = y := ⟨_, rfl⟩
    rw [hy] at ho
    have HA := Lib.hid ho
    clear ho ha
    go_enter Try.func24, Try.ntmps24
    go_wp2_with fail
    go_end0
    exact ⟨L.set (n / 8) y, rfl, HO.out.store (k := n / 8) (by rw [HL.out]; omega) HA.out.1, by rw [List.length_set, HL.out], fun m => flag_set (up := true) (by rw [HL.out]; omega) (by rw [← HX.out]; exact HA.out.2) m⟩

set_option maxRecDepth 100000 in
set_option maxHeartbeats 800000 in
theorem xUp_any (ao : Option Addr) (len cap : Nat) (zs : List Int) (n : Int) (w : World) (hA : Arg w ao len cap zs) (hn : -9223372036854775808 ≤ n ∧ n ≤ 9223372036854775807) :
    Calls Try.prog 7 #[.slice ao len cap, .int .i64 n] w (Tells w.heap.size w (.tuple #[.bool (upOut zs n), .int .i64 (upErr len n)])) := by
  obtain ⟨hB, _, _, hlen⟩ := hA
  have hl := hB.1
  by_cases h60 : len = 60
  · subst h60
    by_cases h1 : n < 0 ∨ 480 ≤ n
    · have HE : Hid (upErr 60 n = 1) := Lib.hid (by unfold upErr; rw [if_pos rfl, if_pos h1])
      have HV : Hid (upOut zs n = false) := Lib.hid (by unfold upOut; rw [hl, HE.out]; rfl)
      clear hB hl hlen
      rcases h1 with h1 | h1
      all_goals
        go_enter Try.func7, Try.ntmps7
        go_wp2_with fail
        go_ret2
        exact ⟨by rw [HE.out, HV.out]; rfl, Below.refl _ _⟩
    · have HE : Hid (upErr 60 n = 0) := Lib.hid (by unfold upErr; rw [if_pos rfl, if_neg h1])
      obtain ⟨k, hk⟩ : ∃ k : Nat, n = k := ⟨n.toNat, by omega⟩
      subst hk
      have HV : Hid (upOut zs k = flag zs k) := Lib.hid (by unfold upOut; rw [hl, HE.out]; rfl)
      have h2 : (k : Int) < 480 := by omega
      have cU := isUp_any ao cap zs k w hB (by omega)
      clear hB hl hlen h1 hn
      go_enter Try.func7, Try.ntmps7
      go_wp2_with (go_at_call 16; refine cU.mono ?_; rintro e w' ⟨rfl, rfl⟩)
      go_ret2
      exact ⟨by rw [HE.out, HV.out]; rfl, Below.refl _ _⟩
  · have HE : Hid (upErr len n = 2) := Lib.hid (by unfold upErr; rw [if_neg h60])
    have HV : Hid (upOut zs n = false) := Lib.hid (by unfold upOut; rw [hl, HE.out]; rfl)
    have hne : ((len : Int) != 60) = true := by simp; omega
    clear hB hl hn
    go_enter Try.func7, Try.ntmps7
    go_wp2_with fail
    go_ret2
    exact ⟨by rw [HE.out, HV.out]; rfl, Below.refl _ _⟩

set_option maxHeartbeats 800000 in
theorem part_any (ao : Option Addr) (len cap : Nat) (zs : List Int) (p q : Int) (w : World) (hA : Arg w ao len cap zs) (hp : -9223372036854775808 ≤ p ∧ p ≤ 9223372036854775807) (hq : -9223372036854775808 ≤ q ∧ q ≤ 9223372036854775807) :
    Calls Try.prog 19 #[.slice ao len cap, .int .i64 p, .int .i64 q] w fun e w' => e = .returned (.int .i64 (downErr len p q)) ∧ w = w' := by
  obtain ⟨hB, _, _, hlen⟩ := hA
  clear hB
  by_cases h60 : len = 60
  · subst h60
    by_cases h1 : p < 0
    · have HE : Hid (downErr 60 p q = 1) := Lib.hid (by unfold downErr; rw [if_pos rfl, if_pos (Or.inl h1)])
      go_enter Try.func19, Try.ntmps19
      go_wp2_with fail
      go_ret
      exact ⟨by rw [HE.out]; rfl, rfl⟩
    · by_cases h2 : q < p
      · have HE : Hid (downErr 60 p q = 1) := Lib.hid (by unfold downErr; rw [if_pos rfl, if_pos (Or.inr (Or.inl h2))])
        go_enter Try.func19, Try.ntmps19
        go_wp2_with fail
        go_ret
        exact ⟨by rw [HE.out]; rfl, rfl⟩
      · by_cases h3 : 480 < q
        · have HE : Hid (downErr 60 p q = 1) := Lib.hid (by unfold downErr; rw [if_pos rfl, if_pos (Or.inr (Or.inr h3))])
          go_enter Try.func19, Try.ntmps19
          go_wp2_with fail
          go_ret
          exact ⟨by rw [HE.out]; rfl, rfl⟩
        · have HE : Hid (downErr 60 p q = 0) := Lib.hid (by unfold downErr; rw [if_pos rfl, if_neg (by omega)])
          go_enter Try.func19, Try.ntmps19
          go_wp2_with fail
          go_ret
          exact ⟨by rw [HE.out]; rfl, rfl⟩
  · have HE : Hid (downErr len p q = 2) := Lib.hid (by unfold downErr; rw [if_neg h60])
    have hne : ((len : Int) != 60) = true := by simp; omega
    clear hp hq
    go_enter Try.func19, Try.ntmps19
    go_wp2_with fail
    go_ret
    exact ⟨by rw [HE.out]; rfl, rfl⟩

theorem cnt_down (len : Nat) (n : Int) : downErr len 0 n = cntErr len n := by
  unfold downErr cntErr
  by_cases h1 : n < 0 ∨ 480 < n
  · rw [if_pos h1, if_pos (show (0 : Int) < 0 ∨ n < 0 ∨ 480 < n from Or.inr h1)]
  · rw [if_neg h1, if_neg (show ¬ ((0 : Int) < 0 ∨ n < 0 ∨ 480 < n) by omega)]

theorem cnt_errs (len : Nat) (n : Int) (h : ¬ (len = 60 ∧ 0 ≤ n ∧ n ≤ 480)) : cntErr len n = 1 ∨ cntErr len n = 2 := by
  unfold cntErr
  by_cases h60 : len = 60
  · rw [if_pos h60, if_pos (by omega)]; exact Or.inl rfl
  · rw [if_neg h60]; exact Or.inr rfl

theorem down_errs (len : Nat) (p q : Int) (h : ¬ (len = 60 ∧ 0 ≤ p ∧ p ≤ q ∧ q ≤ 480)) : downErr len p q = 1 ∨ downErr len p q = 2 := by
  unfold downErr
  by_cases h60 : len = 60
  · rw [if_pos h60, if_pos (by omega)]; exact Or.inl rfl
  · rw [if_neg h60]; exact Or.inr rfl

set_option maxRecDepth 100000 in
set_option maxHeartbeats 800000 in
theorem xCount_any (ao : Option Addr) (len cap : Nat) (zs : List Int) (n : Int) (w : World) (hA : Arg w ao len cap zs) (hn : -9223372036854775808 ≤ n ∧ n ≤ 9223372036854775807) :
    Calls Try.prog 10 #[.slice ao len cap, .int .i64 n] w (Tells w.heap.size w (.tuple #[.int .i64 (cntOut zs n), .int .i64 (cntErr len n)])) := by
  have cP := part_any ao len cap zs 0 n w hA (by decide) hn
  rw [cnt_down] at cP
  obtain ⟨hB, _, _, hlen⟩ := hA
  have hl := hB.1
  by_cases hok : len = 60 ∧ 0 ≤ n ∧ n ≤ 480
  · obtain ⟨rfl, h0, h1⟩ := hok
    have HE : Hid (cntErr 60 n = 0) := Lib.hid (by unfold cntErr; rw [if_pos rfl, if_neg (by omega)])
    rw [HE.out] at cP
    obtain ⟨to, hto⟩ : ∃ to : Nat, n = to := ⟨n.toNat, by omega⟩
    subst hto
    have HV : Hid (cntOut zs to = cnt (flag zs) to) := Lib.hid (by unfold cntOut; rw [hl, HE.out, if_pos rfl]; rfl)
    have h480 : to ≤ 480 := by omega
    have HB := Lib.hid hB
    clear hB hl hlen h0 h1 hn
    go_enter Try.func10, Try.ntmps10
    go_wp2_with (go_at_call 19; refine cP.mono ?_; rintro e w' ⟨rfl, rfl⟩)
    clear cP
    go_loop [7, 16] (fun kv nv => ∃ i : Nat, i ≤ to ∧ nv = .int .i64 i ∧ kv = .int .i64 (cnt (flag zs) i : Nat)) (fun _ nv => to - (intOf nv).toNat)
    case atStart => exact ⟨0, Nat.zero_le _, rfl, rfl⟩
    case round =>
      obtain ⟨i, hi, rfl, rfl⟩ := hrel
      by_cases hlt : i < to
      · have cU := isUp_any ao cap zs i w HB.out (by omega)
        have hle := cnt_le (flag zs) i
        have HN : Hid (cnt (flag zs) (i + 1) = cnt (flag zs) i + (if flag zs i then 1 else 0)) := Lib.hid rfl
        obtain ⟨k, HK⟩ : ∃ k, Hid (k = cnt (flag zs) i) := ⟨_, Lib.hid rfl⟩
        rw [← HK.out] at hle HN ⊢
        cases hf : flag zs i
        · rw [hf] at cU HN
          clear hf
          go_wp2_with (go_at_call 16; refine cU.mono ?_; rintro e w' ⟨rfl, rfl⟩)
          go_round
          case rel => exact ⟨i + 1, by omega, by go_num, by rw [HN.out]; rfl⟩
          case measure => simp [intOf]; omega
        · rw [hf] at cU HN
          clear hf
          go_wp2_with (go_at_call 16; refine cU.mono ?_; rintro e w' ⟨rfl, rfl⟩)
          go_round
          case rel => exact ⟨i + 1, by omega, by go_num, by rw [HN.out]; go_num⟩
          case measure => simp [intOf]; omega
      · have hit : i = to := by omega
        subst hit
        go_wp2_with fail
        go_ret2
        exact ⟨by rw [HE.out, HV.out]; rfl, Below.refl _ _⟩
  · have hE := cnt_errs len n hok
    have HV : Hid (cntOut zs n = 0) := Lib.hid (by unfold cntOut; rw [hl, if_neg (by omega)])
    clear hB hl hn hok hlen
    rcases hE with hE | hE
    all_goals
      rw [hE] at cP ⊢
      clear hE
      go_enter Try.func10, Try.ntmps10
      go_wp2_with (go_at_call 19; refine cP.mono ?_; rintro e w' ⟨rfl, rfl⟩)
      go_ret2
      exact ⟨by rw [HV.out]; rfl, Below.refl _ _⟩

theorem marked_none {zs : List Int} (up : Bool) (a : Nat) (hl : zs.length = 60) (hz : ∀ z ∈ zs, 0 ≤ z ∧ z ≤ 255) : Marked zs up a 0 zs :=
  ⟨hl, hz, fun n _ => by rw [if_neg (by omega)]⟩

theorem marked_more {zs L M : List Int} {up : Bool} {a j : Nat} (h : Marked zs up a j L) (hl : M.length = 60) (hz : ∀ z ∈ M, 0 ≤ z ∧ z ≤ 255) (hf : ∀ m, flag M m = if m = a + j then up else flag L m) : Marked zs up a (j + 1) M := by
  refine ⟨hl, hz, fun n hn => ?_⟩
  rw [hf n, h.2.2 n hn]
  by_cases h1 : n = a + j
  · rw [if_pos h1, if_pos (by omega)]
  · rw [if_neg h1]
    by_cases h2 : a ≤ n ∧ n < a + j
    · rw [if_pos h2, if_pos (by omega)]
    · rw [if_neg h2, if_neg (by omega)]

set_option maxRecDepth 100000 in
set_option maxHeartbeats 800000 in
theorem xMark_any (ao : Option Addr) (cap : Nat) (zs : List Int) (up : Bool) (ro : Option Addr) (rcap x y a b : Nat) (w : World) (hA : Arg w ao 60 cap zs) (hR : Vals w ro 1 [.complex .f64 x y]) (hx : FI x (a : Int)) (hy : FI y (b : Int)) (hb : 1 ≤ b) (hab : a + b ≤ 480) :
    Calls Try.prog 15 #[.slice ao 60 cap, .bool up, .slice ro 1 rcap] w (HandedM w.heap.size w zs up a b) := by
  obtain ⟨hB, _, hcap, hlen⟩ := hA
  have cN := New_own w
  have HL := Lib.hid hB.1
  have HB := Lib.hid hB
  obtain ⟨rb, roff, rfl, hrc⟩ := hR.2.2.resolve_left (by decide)
  have HR := Lib.hid (hrc 0 _ rfl)
  have HZ : Hid (lay (List.replicate 60 0) 0 zs = zs) := Lib.hid (by
    rw [lay_eq _ _ _ (by rw [HL.out]; decide), HL.out]
    simp)
  have HX := Lib.hid hx
  have HY := Lib.hid hy
  clear hB hR hrc hx hy
  go_enter Try.func15, Try.ntmps15
  go_wp2_with (first | (go_at_call 17; refine cN.mono ?_; rintro e w1 ⟨rfl, hO1⟩; have HO := Lib.hid hO1; have HBW := Lib.hid (HB.out.later hO1.2.2.2.2); clear hO1) | (refine wp_copy rfl (.tmp 19) (.tmp 20) 22 22 rfl _ _ rfl rfl _ (own_copy_bytes HO.out (by decide) ao 60 cap zs HBW.out (by decide) _) ?_; rintro v2 w2 ⟨rfl, hO2⟩; rw [HZ.out] at hO2; have HO2 := Lib.hid hO2; clear hO2))
  have HM2 : Hid (∃ L, Own w.heap.size w w.heap.size L w2 ∧ Marked zs up a (if 0 = 0 then 0 else b) L) := Lib.hid ⟨zs, HO2.out, marked_none up a HL.out HO2.out.1⟩
  go_loopw [24] (fun iv wr => ∃ i : Nat, i ≤ 1 ∧ iv = .int .i64 i ∧ Hid (∃ L, Own w.heap.size w w.heap.size L wr ∧ Marked zs up a (if i = 0 then 0 else b) L)) (fun iv _ => 1 - (intOf iv).toNat)
  case atStart => exact ⟨0, Nat.zero_le _, rfl, HM2⟩
  case round =>
    obtain ⟨i, hi, rfl, HM⟩ := hrel
    by_cases h0 : i = 0
    · have HN : Hid (∃ L, Own w.heap.size w w.heap.size L wr ∧ Marked zs up a 0 L) := Lib.hid (by have h := HM.out; rw [if_pos h0] at h; exact h)
      have hbw : Below w.heap.size w wr := by obtain ⟨L, hO, _⟩ := HN.out; exact hO.2.2.2.2
      have hcell := cell_later hbw HR.out
      have e0 : roff + 0 = roff + i := by omega
      rw [e0] at hcell
      have cP := Parts_any x y a b wr HX.out HY.out (by omega) (by omega) (by omega)
      have i2 : (i : Int) < 1 := by omega
      have H0 := Lib.hid h0
      clear HM hbw e0 h0
      go_wp2_with (go_at_call 23; refine cP.mono ?_; rintro e w' ⟨rfl, rfl⟩)
      clear cP hcell HM2
      go_loopw [37] (fun jv wr => ∃ j : Nat, j ≤ b ∧ jv = .int .i64 j ∧ Hid (∃ L, Own w.heap.size w w.heap.size L wr ∧ Marked zs up a j L)) (fun jv _ => b - (intOf jv).toNat)
      case atStart => exact ⟨0, Nat.zero_le _, rfl, HN⟩
      case round =>
        obtain ⟨j, hj, rfl, HJ⟩ := hrel
        by_cases hlt : j < b
        · obtain ⟨L, hO, hM⟩ := HJ.out
          have cS := set_any w.heap.size w w.heap.size L (a + j) up wr hO hM.1 (by omega)
          rw [show ((a + j : Nat) : Int) = (a : Int) + (j : Int) by omega] at cS
          have HM3 := Lib.hid hM
          clear hO hM
          go_wp2_with (go_at_call 24; refine cS.mono ?_; rintro e w3 ⟨M, rfl, hO3, hl3, hf3⟩; have HJ3 := Lib.hid (show ∃ L, Own w.heap.size w w.heap.size L w3 ∧ Marked zs up a (j + 1) L from ⟨M, hO3, marked_more HM3.out hl3 hO3.1 hf3⟩); clear hO3 hl3 hf3)
          go_roundw
          case rel => exact ⟨j + 1, by omega, by go_num, HJ3⟩
          case measure => simp [intOf]; omega
        · have hjb : j = b := by omega
          have HB3 : Hid (∃ L, Own w.heap.size w w.heap.size L wr ∧ Marked zs up a (if i + 1 = 0 then 0 else b) L) := Lib.hid (by rw [if_neg (by omega), ← hjb]; exact HJ.out)
          clear HJ
          subst hjb
          go_wp2_with fail
          go_roundw
          case rel => exact ⟨i + 1, by omega, by go_num, HB3⟩
          case measure => simp [intOf]; omega
    · have hi1 : i = 1 := by omega
      obtain ⟨L, hO, hM⟩ := HM.out
      rw [if_neg h0] at hM
      have HF := Lib.hid (hO.fresh (cap := 60) (by rw [hM.1]; decide) (by rw [hM.1]; decide))
      have HM3 := Lib.hid hM
      have HBl := Lib.hid hO.2.2.2.2
      clear HM hO hM h0 HM2
      subst hi1
      go_wp2_with fail
      go_ret2
      have hf := HF.out
      rw [HM3.out.1] at hf
      exact ⟨_, L, rfl, hf, HM3.out, HBl.out⟩

end Go.Proofs.Ytlocjhhbkjgocaa
