/-
  Proved here: what the document's own reckoning of numbers in blocks (drydockref04: check, Num, Get, Set) answers.
  The conditions stand at each theorem.
-/
import Derived.Test.YtbabklaecajcbaaMem
import Derived.Test.YtbabklaecajcbaaFieldNum
namespace Go.Proofs.Ytbabklaecajcbaa
open Go.RowKit

set_option maxHeartbeats 400000 in
theorem check04_any (ao : Option Addr) (len cap : Nat) (p size : Int) (w : World) (hl : len ≤ 9223372036854775807) (hp : -9223372036854775808 ≤ p ∧ p ≤ 9223372036854775807) (hs : -9223372036854775808 ≤ size ∧ size ≤ 9223372036854775807) :
    Calls Try.prog 24 #[.slice ao len cap, .int .i64 p, .int .i64 size] w fun e w' => e = .returned (.int .i64 (fErr len p size)) ∧ w = w' := by
  by_cases h0 : len = 64
  · subst h0
    unfold fErr
    rw [if_pos rfl]
    by_cases h1 : size < 1
    · rw [if_pos (Or.inl h1)]
      go_enter Try.func24, Try.ntmps24
      go_wp2
      go_ret
      exact ⟨rfl, rfl⟩
    · by_cases h2 : 4 < size
      · rw [if_pos (Or.inr (Or.inl h2))]
        go_enter Try.func24, Try.ntmps24
        go_wp2
        go_ret
        exact ⟨rfl, rfl⟩
      · by_cases h3 : p < 0
        · rw [if_pos (Or.inr (Or.inr (Or.inl h3)))]
          go_enter Try.func24, Try.ntmps24
          go_wp2
          go_ret
          exact ⟨rfl, rfl⟩
        · by_cases h4 : 60 < p
          · rw [if_pos (Or.inr (Or.inr (Or.inr (Or.inl h4))))]
            go_enter Try.func24, Try.ntmps24
            go_wp2
            go_ret
            exact ⟨rfl, rfl⟩
          · by_cases h5 : 60 < p + size
            · rw [if_pos (Or.inr (Or.inr (Or.inr (Or.inr h5))))]
              go_enter Try.func24, Try.ntmps24
              go_wp2
              go_ret
              exact ⟨rfl, rfl⟩
            · rw [if_neg (by omega)]
              go_enter Try.func24, Try.ntmps24
              go_wp2
              go_ret
              exact ⟨rfl, rfl⟩
  · unfold fErr
    rw [if_neg h0]
    have hne : ((len : Int) != 64) = true := by simp; omega
    go_enter Try.func24, Try.ntmps24
    go_wp2
    go_ret
    exact ⟨rfl, rfl⟩

set_option maxHeartbeats 400000 in
theorem Num04_any (ao : Option Addr) (len cap : Nat) (zs : List Int) (p k : Nat) (w : World) (hB : Bts w ao len zs) (hk : k ≤ 4) (hpk : p + k ≤ len) :
    Calls Try.prog 25 #[.slice ao len cap, .int .i64 p, .int .i64 k] w fun e w' => e = .returned (.int .i64 (leN zs p k)) ∧ w = w' := by
  obtain ⟨hl, hm, hz, hc⟩ := hB
  have HL := Lib.hid hl
  have hb := leN_four hz p k (by omega) hk
  obtain ⟨t, HT⟩ : ∃ t, Hid (t = leN zs p k) := ⟨_, Lib.hid rfl⟩
  rw [← HT.out] at hb ⊢
  clear hl
  rcases hc with rfl | ⟨b, off, rfl, hc⟩
  · have hk0 : k = 0 := by omega
    subst hk0
    have ht : t = 0 := HT.out
    subst ht
    go_enter Try.func25, Try.ntmps25
    go_wp2
    go_loop [7, 8] (fun nv iv => iv = .int .i64 (-1) ∧ nv = .int .i64 0) (fun _ iv => (intOf iv + 1).toNat)
    case atStart => exact ⟨rfl, rfl⟩
    case round =>
      obtain ⟨rfl, rfl⟩ := hrel
      go_wp2
      go_ret
      exact ⟨rfl, rfl⟩
  · go_enter Try.func25, Try.ntmps25
    go_wp2
    go_loop [7, 8] (fun nv iv => ∃ (j : Nat) (n : Int), j ≤ k ∧ iv = .int .i64 ((j : Int) - 1) ∧ nv = .int .i64 n ∧ 0 ≤ n ∧ n ≤ t ∧ n * 256 ^ j + leN zs p j = t) (fun _ iv => (intOf iv + 1).toNat)
    case atStart => exact ⟨k, 0, Nat.le_refl _, rfl, rfl, by decide, by omega, by rw [Int.zero_mul, Int.zero_add, HT.out]⟩
    case round =>
      obtain ⟨j, n, hj, rfl, rfl, hn0, hn1, hrel⟩ := hrel
      rcases j with _ | j
      · have : n = t := by rw [← hrel]; show n = n * 1 + 0; omega
        subst this
        clear hrel
        go_wp2
        go_ret
        exact ⟨rfl, rfl⟩
      · have HS := Lib.hid (le_step hrel)
        have hx := hz _ (getD_mem (l := zs) (k := p + j) (by rw [HL.out]; omega))
        have hpart := le_part hz (n := n * 256 + zs.getD (p + j) 0) (k := j) (p := p) (by omega) (by rw [HL.out]; omega) HS.out
        have hcell := hc (p + j) (by omega)
        obtain ⟨x, HX⟩ : ∃ x, Hid (x = zs.getD (p + j) 0) := ⟨_, Lib.hid rfl⟩
        rw [← HX.out] at hx hpart hcell HS
        obtain ⟨hx0, hx1⟩ := hx
        clear hz hc hrel
        have e1 : ((j + 1 : Nat) : Int) - 1 = (j : Int) := by omega
        rw [e1]
        clear e1
        have i1 : (0 : Int) ≤ (p : Int) + (j : Int) := by omega
        have i2 : (p : Int) + (j : Int) < (len : Int) := by omega
        go_wp2
        go_round
        case rel => exact ⟨j, n * 256 + x, by omega, rfl, rfl, by omega, hpart, HS.out⟩
        case measure => simp [intOf]

set_option maxHeartbeats 400000 in
theorem Get04_any (ao : Option Addr) (len cap : Nat) (zs : List Int) (p size : Int) (w : World) (hA : Arg w ao len cap zs) (hp : -9223372036854775808 ≤ p ∧ p ≤ 9223372036854775807) (hs : -9223372036854775808 ≤ size ∧ size ≤ 9223372036854775807) :
    Calls Try.prog 14 #[.slice ao len cap, .int .i64 p, .int .i64 size] w fun e w' => e = .returned (.tuple #[.int .i64 (getOut zs p size), .int .i64 (fErr len p size)]) ∧ w = w' := by
  have hB := hA.1
  clear hA
  have hl := hB.1
  have cK := check04_any ao len cap p size w hB.2.1 hp hs
  unfold getOut
  rw [hl]
  by_cases hE : fErr len p size = 0
  · have ho := fErr_ok hE
    obtain ⟨k, hk⟩ : ∃ k : Nat, size = k := ⟨size.toNat, by omega⟩
    obtain ⟨q, hq⟩ : ∃ q : Nat, p = q := ⟨p.toNat, by omega⟩
    subst hk
    subst hq
    have cN := Num04_any ao len cap zs q k w hB (by omega) (by omega)
    rw [if_pos hE, hE]
    rw [hE] at cK
    have e1 : Int.toNat (q : Int) = q := by omega
    have e2 : Int.toNat (k : Int) = k := by omega
    rw [e1, e2]
    clear hB hl hE ho e1 e2 hp hs
    go_enter Try.func14, Try.ntmps14
    go_wp2_with (first | (go_at_call 24; refine cK.mono ?_; rintro e w' ⟨rfl, rfl⟩) | (go_at_call 25; refine cN.mono ?_; rintro e w' ⟨rfl, rfl⟩))
    go_ret2
    exact ⟨rfl, rfl⟩
  · rw [if_neg hE]
    obtain ⟨E, HE⟩ : ∃ E, Hid (fErr len p size = E) := ⟨_, Lib.hid rfl⟩
    rw [HE.out] at hE cK ⊢
    have hne : (E != 0) = true := by simp; exact hE
    clear hB hl hE
    go_enter Try.func14, Try.ntmps14
    go_wp2_with (go_at_call 24; refine cK.mono ?_; rintro e w' ⟨rfl, rfl⟩)
    go_ret2
    exact ⟨rfl, rfl⟩

set_option maxHeartbeats 400000 in
theorem Set04_any (ao : Option Addr) (len cap : Nat) (zs : List Int) (p size n : Int) (w : World) (hA : Arg w ao len cap zs) (hp : -9223372036854775808 ≤ p ∧ p ≤ 9223372036854775807) (hs : -9223372036854775808 ≤ size ∧ size ≤ 9223372036854775807)
    (hn : -9223372036854775808 ≤ n ∧ n ≤ 9223372036854775807) :
    Calls Try.prog 11 #[.slice ao len cap, .int .i64 p, .int .i64 size, .int .i64 n] w (Handed w.heap.size w (setOut zs p size n) (setErr len p size n)) := by
  have hB := hA.1
  clear hA
  have hl := hB.1
  have cK := check04_any ao len cap p size w hB.2.1 hp hs
  by_cases hE : fErr len p size = 0
  · have ho := fErr_ok hE
    have hlen : len = 64 := ho.1
    subst hlen
    obtain ⟨k, hk⟩ : ∃ k : Nat, size = k := ⟨size.toNat, by omega⟩
    obtain ⟨q, hq⟩ : ∃ q : Nat, p = q := ⟨p.toNat, by omega⟩
    subst hk
    subst hq
    rw [hE] at cK
    have hown := World.ownsRow_made (base := w.heap.size) (e := 5) (size := 1) w #[] 0 (Nat.le_refl _) (by decide) rfl
    have hb0 : Below w.heap.size w (w.alloc (.cells #[] 5)) := (Below.refl _ _).alloc (Nat.le_refl _) _
    have hA0 := hB.later hb0
    have HN : Hid (ao = none → 64 = 0 ∧ cap = 0) := Lib.hid (fun h => by
      rcases hB.2.2.2 with h0 | ⟨b, off, he, _⟩
      · omega
      · rw [h] at he; cases he)
    have HZ := Lib.hid hB.2.2.1
    have k1 : (1 : Int) ≤ k := ho.2.1
    have k4 : k ≤ 4 := by omega
    have hq60 : q + k ≤ 60 := by omega
    have HE := Lib.hid hE
    have HL := Lib.hid hl
    clear hE ho hB hl hp hs
    by_cases hneg : n < 0
    · have HE7 : Hid (setErr 64 q k n = 7) := Lib.hid (by
        unfold setErr
        rw [HE.out, if_neg (by decide), if_pos (Or.inl hneg)])
      have HE8 : Hid (setOut zs q k n = []) := Lib.hid (setOut_err (by rw [HL.out, HE7.out]; decide))
      obtain ⟨hn0, _⟩ := hn
      go_enter Try.func11, Try.ntmps11
      go_wp2_with (first | (go_at_call 24; refine cK.mono ?_; rintro e w' ⟨rfl, rfl⟩) | (at_builtin; refine wp_append_bytes rfl (.tmp 21) (.tmp 22) rfl w.heap.size 0 _ [] rfl hown ao 64 cap zs rfl hA0 HN.out (by omega) (by simp) ?_; intro v1 w1 hown1 hb1; have hb2 := hb0.trans hb1; clear hb1 hown hA0; obtain ⟨g, c1, hv, hcap, hl1, hO⟩ := own_of_owns (n := 64) hown1 HZ.out (by decide) hb2; rw [hv]; clear hv hown1))
      have HO0 : Hid (∃ L : List Int, L.length = 64 ∧ Own w.heap.size w g L w1) := Lib.hid ⟨zs, hl1, hO⟩
      clear hO hl1
      go_loopw [12, 13] (fun rv iv wr => ∃ (j : Nat) (R : Int), j ≤ k ∧ iv = .int .i64 j ∧ rv = .int .i64 R ∧ R ≤ 0 ∧ -9223372036854775808 ≤ R ∧ Hid (∃ L : List Int, L.length = 64 ∧ Own w.heap.size w g L wr)) (fun _ iv _ => k - (intOf iv).toNat)
      case atStart => exact ⟨0, n, Nat.zero_le _, rfl, rfl, by omega, by omega, HO0⟩
      case round =>
        obtain ⟨j, R, hj, rfl, rfl, hR0, hR1, HR⟩ := hrel
        obtain ⟨L, hLl, hOL⟩ := HR.out
        by_cases hlt : j < k
        · have hcell := hOL.2.1 (q + j) (by omega)
          have hfr := hOL.2.2.1 (q + j)
          obtain ⟨x, hx⟩ : ∃ x, L.getD (q + j) 0 = x := ⟨_, rfl⟩
          rw [hx] at hcell
          have HS : Hid (∀ y : Int, 0 ≤ y ∧ y ≤ 255 → ∃ L : List Int, L.length = 64 ∧ Own w.heap.size w g L (wr.setCell ⟨g, q + j, none⟩ (.int .u8 y))) := Lib.hid (fun y hy => ⟨_, by rw [List.length_set]; exact hLl, hOL.store (k := q + j) (by omega) hy⟩)
          clear hx hLl hOL HR
          have i1 : (0 : Int) ≤ (q : Int) + (j : Int) := by omega
          have i2 : (q : Int) + (j : Int) < (64 : Int) := by omega
          have t1 : -256 < R.tmod 256 := Int.lt_tmod_of_pos R (by decide)
          have t2 : R.tmod 256 < 256 := Int.tmod_lt_of_pos R (by decide)
          have t3 : R.tdiv 256 ≤ 0 := by have := Int.tmod_add_mul_tdiv R 256; omega
          have t4 : R ≤ R.tdiv 256 := by have := Int.tmod_add_mul_tdiv R 256; omega
          go_wp2
          go_roundw
          case rel => exact ⟨j + 1, R.tdiv 256, by omega, by go_num, rfl, t3, by omega, Lib.hid (HS.out (R.tmod 256 % 256) (by omega))⟩
          case measure => simp [intOf]; omega
        · have hjk : j = k := by omega
          subst hjk
          have HB := Lib.hid hOL.2.2.2.2
          clear hOL HR
          go_wp2
          go_ret2
          exact ⟨.slice none 0 0, by rw [HE7.out]; rfl, by rw [HE8.out]; exact Fresh.nil _ _, HB.out⟩
    · have HO : Hid (setErr 64 q k n = if 0 < (putK [] 0 n k).2 then 7 else 0) := Lib.hid (by
        unfold setErr
        rw [HE.out, if_neg (by decide)]
        have e1 : Int.toNat (k : Int) = k := by omega
        rw [e1]
        by_cases h : 0 < (putK [] 0 n k).2
        · rw [if_pos (Or.inr h), if_pos h]
        · rw [if_neg (by omega), if_neg h])
      have HO2 : Hid (setErr 64 q k n = 0 → setOut zs q k n = (putK zs q n k).1) := Lib.hid (fun h => by
        rw [setOut_ok (by rw [HL.out]; exact h)]
        have e1 : Int.toNat (k : Int) = k := by omega
        have e2 : Int.toNat (q : Int) = q := by omega
        rw [e1, e2])
      have HO3 : Hid (setErr 64 q k n ≠ 0 → setOut zs q k n = []) := Lib.hid (fun h => setOut_err (by rw [HL.out]; exact h))
      have hn0 : 0 ≤ n := by omega
      go_enter Try.func11, Try.ntmps11
      go_wp2_with (first | (go_at_call 24; refine cK.mono ?_; rintro e w' ⟨rfl, rfl⟩) | (at_builtin; refine wp_append_bytes rfl (.tmp 21) (.tmp 22) rfl w.heap.size 0 _ [] rfl hown ao 64 cap zs rfl hA0 HN.out (by omega) (by simp) ?_; intro v1 w1 hown1 hb1; have hb2 := hb0.trans hb1; clear hb1 hown hA0; obtain ⟨g, c1, hv, hcap, hl1, hO⟩ := own_of_owns (n := 64) hown1 HZ.out (by decide) hb2; rw [hv]; clear hv hown1))
      have HO0 : Hid (Own w.heap.size w g (putK zs q n 0).1 w1) := Lib.hid hO
      clear hO hl1
      go_loopw [12, 13] (fun rv iv wr => ∃ j : Nat, j ≤ k ∧ iv = .int .i64 j ∧ rv = .int .i64 (putK zs q n j).2 ∧ Hid (Own w.heap.size w g (putK zs q n j).1 wr)) (fun _ iv _ => k - (intOf iv).toNat)
      case atStart => exact ⟨0, Nat.zero_le _, rfl, rfl, HO0⟩
      case round =>
        obtain ⟨j, hj, rfl, rfl, HR⟩ := hrel
        have hR := putK_nonneg zs q hn0 j
        have hLl : (putK zs q n j).1.length = 64 := by rw [putK_length, HL.out]
        have hrest := putK_rest zs [] q 0 n j
        by_cases hlt : j < k
        · have hcell := HR.out.2.1 (q + j) (by rw [hLl]; omega)
          have hfr := HR.out.2.2.1 (q + j)
          have HS := Lib.hid (HR.out.store (k := q + j) (y := (putK zs q n j).2 % 256) (by rw [hLl]; omega) (by omega))
          have HP1 : Hid ((putK zs q n (j + 1)).1 = (putK zs q n j).1.set (q + j) ((putK zs q n j).2 % 256)) := Lib.hid rfl
          have HP2 : Hid ((putK zs q n (j + 1)).2 = (putK zs q n j).2 / 256) := Lib.hid rfl
          rw [← HP1.out] at HS
          generalize (putK zs q n j).2 = R at *
          generalize (putK zs q n j).1 = L at *
          obtain ⟨x, hx⟩ : ∃ x, L.getD (q + j) 0 = x := ⟨_, rfl⟩
          rw [hx] at hcell
          clear hx hLl hrest HP1
          have i1 : (0 : Int) ≤ (q : Int) + (j : Int) := by omega
          have i2 : (q : Int) + (j : Int) < (64 : Int) := by omega
          obtain ⟨hR0, hR1⟩ := hR
          go_wp2
          go_roundw
          case rel => exact ⟨j + 1, by omega, by go_num, by rw [HP2.out], HS⟩
          case measure => simp [intOf]; omega
        · have hjk : j = k := by omega
          subst hjk
          have HO4 := HO.out
          have HR2 := Lib.hid hrest
          have hfin := HR.out
          by_cases hpos : 0 < (putK zs q n j).2
          · rw [← hrest, if_pos hpos] at HO4
            have HE7 := Lib.hid HO4
            have HE8 : Hid (setOut zs q j n = []) := Lib.hid (HO3.out (by rw [HO4]; decide))
            clear HO4 hrest
            generalize (putK zs q n j).2 = R at *
            obtain ⟨hR0, hR1⟩ := hR
            go_wp2
            go_ret2
            exact ⟨.slice none 0 0, by rw [HE7.out]; rfl, by rw [HE8.out]; exact Fresh.nil _ _, hfin.2.2.2.2⟩
          · rw [← hrest, if_neg hpos] at HO4
            have HE7 := Lib.hid HO4
            have HE8 : Hid (setOut zs q j n = (putK zs q n j).1) := Lib.hid (HO2.out HO4)
            clear HO4 hrest
            have hf := hfin.fresh (by rw [hLl]; decide) (cap := c1) (by rw [hLl]; exact hcap)
            rw [hLl] at hf
            rw [← HE8.out] at hf
            have HF := Lib.hid hf
            have HB := Lib.hid hfin.2.2.2.2
            clear hf hfin
            generalize (putK zs q n j).2 = R at *
            obtain ⟨hR0, hR1⟩ := hR
            go_wp2
            go_ret2
            exact ⟨_, by rw [HE7.out]; rfl, HF.out, HB.out⟩
  · have HE7 : Hid (setErr len p size n = fErr len p size) := Lib.hid (by unfold setErr; rw [if_pos hE])
    have HE8 : Hid (setOut zs p size n = []) := Lib.hid (setOut_err (by rw [hl, HE7.out]; exact hE))
    obtain ⟨E, HE⟩ : ∃ E, Hid (fErr len p size = E) := ⟨_, Lib.hid rfl⟩
    rw [HE.out] at hE cK HE7
    have hne : (E != 0) = true := by simp; exact hE
    clear hB hl hE hp hs hn
    go_enter Try.func11, Try.ntmps11
    go_wp2_with (go_at_call 24; refine cK.mono ?_; rintro e w' ⟨rfl, rfl⟩)
    go_ret2
    exact ⟨.slice none 0 0, by rw [HE7.out]; rfl, by rw [HE8.out]; exact Fresh.nil _ _, Below.refl _ _⟩

end Go.Proofs.Ytbabklaecajcbaa
