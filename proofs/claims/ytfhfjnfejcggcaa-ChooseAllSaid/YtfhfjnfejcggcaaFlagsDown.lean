/-
  Proved here: what the landed code of package flags answers: Down.
  The conditions stand at the theorem.
-/
import Derived.Test.YtfhfjnfejcggcaaFlagsIs
import Derived.WalkMore
import Derived.ScopeJumps
namespace Go.Proofs.Ytfhfjnfejcggcaa
open Go.RowKit

section
variable {P : Program} {a : Act} {w : World} {Q : Exit → Act → World → Prop}
/-- A scope in which the run comes to a label and jumps back to it: its rest is walked once. -/
theorem wp_scope_again {c rest : Code} (l : Nat) (J : Act → World → Prop) (μ : Act → World → Nat) (hf : findLabel c l = some (Code.skip.seq rest))
    (first : (∀ a w, J a w → rest.wp P (Exit.jump l J Q) a w) → c.wp P (Exit.jump l J Q) a w)
    (pass : ∀ a w, J a w → rest.wp P (Exit.jump l (fun a' w' => J a' w' ∧ μ a' w' < μ a w) Q) a w) : (Code.scope c).wp P Q a w := by
  refine wp_scope_jumps l J μ hf (first (fun a w h => wp_mono (pass a w h) (fun e a' w' hq => ?_))) (fun a w h => wp_seq (wp_skip (pass a w h)))
  cases e with
  | goto l' => exact ⟨hq.1, hq.2.1⟩
  | _ => exact hq
end

theorem gaps_skip {f : Nat → Bool} {n hi : Nat} (h : n < hi) (hf : f n = false) : gaps f n n (hi - n) = gaps f (n + 1) (n + 1) (hi - (n + 1)) := by
  obtain ⟨k, hk⟩ : ∃ k, hi - n = k + 1 := ⟨hi - n - 1, by omega⟩
  rw [hk, show hi - (n + 1) = k by omega]
  conv => lhs; unfold gaps
  rw [if_neg (show ¬ f n = true by rw [hf]; decide), if_neg (Nat.lt_irrefl n)]

theorem gaps_grow {f : Nat → Bool} {first n hi : Nat} (h : n < hi) (hf : f n = true) : gaps f first n (hi - n) = gaps f first (n + 1) (hi - (n + 1)) := by
  obtain ⟨k, hk⟩ : ∃ k, hi - n = k + 1 := ⟨hi - n - 1, by omega⟩
  rw [hk, show hi - (n + 1) = k by omega]
  conv => lhs; unfold gaps
  rw [if_pos hf]

theorem gaps_cut {f : Nat → Bool} {first n hi : Nat} (h : n ≤ hi) (hf : n < hi → f n = false) (hlt : first < n) : gaps f first n (hi - n) = (first, n - first) :: gaps f n n (hi - n) := by
  by_cases he : n = hi
  · rw [he, Nat.sub_self]
    unfold gaps
    rw [if_pos (by omega), if_neg (Nat.lt_irrefl hi)]
  · rw [gaps_skip (by omega) (hf (by omega))]
    obtain ⟨k, hk⟩ : ∃ k, hi - n = k + 1 := ⟨hi - n - 1, by omega⟩
    rw [hk, show hi - (n + 1) = k by omega]
    conv => lhs; unfold gaps
    rw [if_neg (show ¬ f n = true by rw [hf (by omega)]; decide), if_pos hlt]

/-- What holds at the label. -/
def AtNext (zs : List Int) (lo hi : Nat) (base : Nat) (w0 : World) (n : Nat) (vv : Value) (wr : World) : Prop :=
  ∃ acc : List (Nat × Nat), lo ≤ n ∧ n ≤ hi ∧ acc.length ≤ n ∧ acc ++ gaps (downs zs) n n (hi - n) = gaps (downs zs) lo lo (hi - lo) ∧
    wr.ownsRow base 23 1 vv acc.length (acc.map cV) ∧ Below base w0 wr

theorem gaps_skips {f : Nat → Bool} {n hi : Nat} : ∀ d : Nat, n + d ≤ hi → (∀ i, n ≤ i → i < n + d → f i = false) → gaps f n n (hi - n) = gaps f (n + d) (n + d) (hi - (n + d))
  | 0, _, _ => rfl
  | d + 1, h, hf => by
    rw [gaps_skips d (by omega) (fun i h1 h2 => hf i h1 (by omega)), gaps_skip (by omega) (hf (n + d) (by omega) (by omega))]
    rfl

theorem gaps_grows {f : Nat → Bool} {n hi : Nat} : ∀ d : Nat, n + d ≤ hi → (∀ i, n ≤ i → i < n + d → f i = true) → gaps f n n (hi - n) = gaps f n (n + d) (hi - (n + d))
  | 0, _, _ => rfl
  | d + 1, h, hf => by
    rw [gaps_grows d (by omega) (fun i h1 h2 => hf i h1 (by omega)), gaps_grow (by omega) (hf (n + d) (by omega) (by omega))]
    rfl

/-- The first block from n on, below hi, whose flag is so, or hi. -/
def Sought (zs : List Int) (up : Bool) (n hi : Nat) (w : World) (e : Ending) (w' : World) : Prop :=
  (∃ m : Nat, n ≤ m ∧ m ≤ hi ∧ e = .returned (.int .i64 m) ∧ (∀ i, n ≤ i → i < m → flag zs i = !up) ∧ (m < hi → flag zs m = up)) ∧ w = w'

set_option maxRecDepth 100000 in
set_option maxHeartbeats 800000 in
theorem seek_any (ao : Option Addr) (cap : Nat) (zs : List Int) (up : Bool) (n hi : Nat) (w : World) (hB : Bts w ao 60 zs) (h1 : n ≤ hi) (h2 : hi ≤ 480) :
    Calls Try.prog 56 #[.slice ao 60 cap, .bool up, .int .i64 n, .int .i64 hi] w (Sought zs up n hi w) := by
  have HU : Hid (∀ k : Nat, k < 480 → Calls Try.prog 70 #[.slice ao 60 cap, .int .i64 k] w fun e w'' => e = .returned (.bool (flag zs k)) ∧ w = w'') := Lib.hid (fun k hk => isUp_any ao cap zs k w hB hk)
  obtain ⟨c, HC⟩ : ∃ c, Hid (c = !up) := ⟨_, Lib.hid rfl⟩
  clear hB
  cases up
  all_goals
    go_enter Try.func56, Try.ntmps56
    go_wp2_with fail
    go_loop [2] (fun mv => ∃ m : Nat, n ≤ m ∧ m ≤ hi ∧ mv = .int .i64 m ∧ Hid (∀ i, n ≤ i → i < m → flag zs i = c)) (fun mv => hi - (intOf mv).toNat)
    case atStart => exact ⟨n, Nat.le_refl _, h1, rfl, Lib.hid (fun i h1 h2 => absurd h1 (by omega))⟩
    case round =>
      obtain ⟨m, hm1, hm2, rfl, HM⟩ := hrel
      by_cases hlt : m < hi
      · have cU := HU.out m (by omega)
        cases hf : flag zs m
        all_goals
          rw [hf] at cU
          have HF := Lib.hid hf
          clear hf
          go_wp2_with (go_at_call 70; refine cU.mono ?_; rintro e w' ⟨rfl, rfl⟩)
          first
          | (go_ret
             exact ⟨⟨m, hm1, hm2, rfl, fun i h1 h2 => by rw [HM.out i h1 h2, HC.out], fun _ => HF.out⟩, rfl⟩)
          | (go_round
             case rel => exact ⟨m + 1, by omega, by omega, by go_num, Lib.hid (fun i h1 h2 => by
               by_cases e : i = m
               · rw [e, HF.out, HC.out]; rfl
               · exact HM.out i h1 (by omega))⟩
             case measure => simp [intOf]; omega)
      · go_wp2_with fail
        go_ret
        exact ⟨⟨m, hm1, hm2, rfl, fun i h1 h2 => by rw [HM.out i h1 h2, HC.out], fun h => absurd h hlt⟩, rfl⟩

set_option maxHeartbeats 400000 in
theorem of_any (a b : Nat) (w : World) (hb : 1 ≤ b) :
    Calls Try.prog 53 #[.int .i64 a, .int .i64 b] w fun e w' => e = .returned (.complex .f64 (floatOfInt .f64 (a : Int)) (floatOfInt .f64 (b : Int))) ∧ w = w' := by
  have h1 : ¬ (b : Int) < 1 := by omega
  go_enter Try.func53, Try.ntmps53
  go_wp2
  go_ret
  exact ⟨rfl, rfl⟩

set_option maxHeartbeats 400000 in
theorem Of_any (a b : Nat) (w : World) (hb : 1 ≤ b) (hab : a + b ≤ 480) :
    Calls Try.prog 57 #[.int .i64 a, .int .i64 b] w fun e w' => e = .returned (.tuple #[.complex .f64 (floatOfInt .f64 (a : Int)) (floatOfInt .f64 (b : Int)), .int .i64 0]) ∧ w = w' := by
  have c := of_any a b w hb
  have h1 : ¬ (b : Int) < 1 := by omega
  have h2 : ¬ (480 - (b : Int)) < a := by omega
  go_enter Try.func57, Try.ntmps57
  go_wp2_with (go_at_call 53; refine c.mono ?_; rintro e w' ⟨rfl, rfl⟩)
  go_ret2
  exact ⟨rfl, rfl⟩

set_option maxRecDepth 100000 in
set_option maxHeartbeats 1600000 in
theorem xDown_any (ao : Option Addr) (len cap : Nat) (zs : List Int) (p q : Int) (w : World) (hA : Arg w ao len cap zs) (hp : -9223372036854775808 ≤ p ∧ p ≤ 9223372036854775807) (hq : -9223372036854775808 ≤ q ∧ q ≤ 9223372036854775807) :
    Calls Try.prog 47 #[.slice ao len cap, .int .i64 p, .int .i64 q] w (HandedRuns w.heap.size w (downOut zs p q) (downErr len p q)) := by
  have cP := part_any ao len cap zs p q w hA hp hq
  obtain ⟨hB, _, _, hlen⟩ := hA
  have hl := hB.1
  by_cases hok : len = 60 ∧ 0 ≤ p ∧ p ≤ q ∧ q ≤ 480
  · obtain ⟨rfl, h0, h1, h2⟩ := hok
    have HE : Hid (downErr 60 p q = 0) := Lib.hid (by unfold downErr; rw [if_pos rfl, if_neg (by omega)])
    rw [HE.out] at cP
    obtain ⟨lo, hlo⟩ : ∃ lo : Nat, p = lo := ⟨p.toNat, by omega⟩
    obtain ⟨hi, hhi⟩ : ∃ hi : Nat, q = hi := ⟨q.toNat, by omega⟩
    subst hlo
    subst hhi
    have HV : Hid (downOut zs lo hi = gaps (downs zs) lo lo (hi - lo)) := Lib.hid (by unfold downOut; rw [hl, HE.out, if_pos rfl]; rfl)
    have h480 : hi ≤ 480 := by omega
    have hle : lo ≤ hi := by omega
    have HB := Lib.hid hB
    clear hB hl hlen h0 h1 h2 hp hq
    have HJ0 : Hid (AtNext zs lo hi w.heap.size w lo (.slice none 0 0) w) := Lib.hid ⟨[], Nat.le_refl _, hle, Nat.zero_le _, rfl, World.ownsRow_nil w w.heap.size 23 1, Below.refl _ _⟩
    go_enter Try.func47, Try.ntmps47
    go_wp2_with fail
    refine wp_scope_again 0 (fun a' w' => ∃ (vv : Value) (n : Nat) (u3 u4 u5 u8 u11 u12 u13 u14 u15 u16 u17 u18 u19 u20 u21 u22 u23 u24 u25 u26 u27 u28 u29 u30 u31 u32 u33 u34 u35 u36 u37 u38 u39 u40 u41 u42 u43 u44 u45 : Value), a' = { tmps := #[.slice ao 60 cap, .int .i64 lo, .int .i64 hi, u3, u4, u5, .slice none 0 0, .int .i64 0, u8, vv, .int .i64 n, u11, u12, u13, u14, u15, u16, u17, u18, u19, u20, u21, u22, u23, u24, u25, u26, u27, u28, u29, u30, u31, u32, u33, u34, u35, u36, u37, u38, u39, u40, u41, u42, u43, u44, u45], defers := [] } ∧ Hid (AtNext zs lo hi w.heap.size w n vv w')) (fun a' _ => hi - (intOf (a'.tmps.getD 10 undef)).toNat) rfl ?_ ?_
    · intro hpass
      go_wp2_with (go_at_call 55; refine cP.mono ?_; rintro e w' ⟨rfl, rfl⟩)
      go_step3
      rename_i hK0
      refine hK0 _ _ (hpass _ _ ?_)
      exact ⟨_, lo, _, _, _, _, _, _, _, _, _, _, _, _, _, _, _, _, _, _, _, _, _, _, _, _, _, _, _, _, _, _, _, _, _, _, _, _, _, _, _, rfl, HJ0⟩
    · rintro a' w' ⟨vv, n, u3, u4, u5, u8, u11, u12, u13, u14, u15, u16, u17, u18, u19, u20, u21, u22, u23, u24, u25, u26, u27, u28, u29, u30, u31, u32, u33, u34, u35, u36, u37, u38, u39, u40, u41, u42, u43, u44, u45, rfl, HJ⟩
      clear HJ0 cP
      obtain ⟨acc, j1, j2, j3, j4, j5, j6⟩ := HJ.out
      have HBw := Lib.hid (HB.out.later j6)
      have HG := Lib.hid j4
      have HO := Lib.hid j5
      have HW := Lib.hid j6
      have HS : Hid (w.heap.size ≤ w'.heap.size + 1) := Lib.hid (by have := j6.size; omega)
      clear HJ j4 j5 j6
      go_wp2_with fail
      refine (seek_any ao cap zs false n hi w' HBw.out j2 h480).mono ?_
      rintro e w'' ⟨⟨m, m1, m2, rfl, m3, m4⟩, rfl⟩
      have HM3 := Lib.hid m3
      have HM4 := Lib.hid m4
      clear m3 m4
      have HGM : Hid (acc ++ gaps (downs zs) m m (hi - m) = gaps (downs zs) lo lo (hi - lo)) := Lib.hid (by
        have h := HG.out
        rw [gaps_skips (m - n) (by omega) (fun i h1 h2 => by unfold downs; rw [HM3.out i h1 (by omega)]; rfl)] at h
        rwa [show n + (m - n) = m by omega] at h)
      by_cases heq : m = hi
      · have HF : Hid (acc.map cV = (downOut zs lo hi).map cV) := Lib.hid (by
          rw [HV.out, ← HGM.out, heq, Nat.sub_self]
          unfold gaps
          rw [if_neg (Nat.lt_irrefl hi), List.append_nil])
        have hq : ((m : Int) == (hi : Int)) = true := by simp [heq]
        clear heq
        go_wp2_with fail
        simp only [Exit.jump]
        go_ret2
        exact ⟨_, (downOut zs lo hi).map cV, by rw [HE.out]; rfl, by rw [← HF.out]; exact owns_vals HO.out (by omega), stands_cV (fun p h => (down_bound p h).1), HW.out⟩
      · have hq : ((m : Int) == (hi : Int)) = false := by simp; omega
        have hlt : m < hi := by omega
        clear heq
        go_wp2_with fail
        refine (seek_any ao cap zs true m hi w' HBw.out m2 h480).mono ?_
        rintro e w'' ⟨⟨k, k1, k2, rfl, k3, k4⟩, rfl⟩
        have HK3 := Lib.hid k3
        have HK4 := Lib.hid k4
        have hgt : m < k := by
          rcases Nat.lt_or_ge m k with h | h
          · exact h
          · have e : k = m := by omega
            subst e
            have h1 := HM4.out hlt
            rw [k4 hlt] at h1
            exact absurd h1 (by decide)
        clear k3 k4
        have HG2 : Hid (acc ++ [(m, k - m)] ++ gaps (downs zs) k k (hi - k) = gaps (downs zs) lo lo (hi - lo)) := Lib.hid (by
          have h := HGM.out
          rw [gaps_grows (k - m) (by omega) (fun i h1 h2 => by unfold downs; rw [HK3.out i h1 (by omega)]; rfl), show m + (k - m) = k by omega, gaps_cut k2 (fun h => by unfold downs; rw [HK4.out h]; rfl) hgt] at h
          rw [List.append_assoc]
          exact h)
        have HE1 : Hid (((k - m : Nat) : Int) = (k : Int) - (m : Int)) := Lib.hid (by omega)
        have cO := Of_any m (k - m) w' (by omega) (by omega)
        rw [HE1.out] at cO
        clear hq
        go_wp2_with (first | (go_at_call 57; refine cO.mono ?_; rintro e w'' ⟨rfl, rfl⟩) | (at_builtin; refine wp_append_one elemComplex rfl (.tmp 42) (.tmp 44) rfl w.heap.size acc.length _ _ rfl (HO.out.alloc _) ⟨w'.heap.size, 0, none⟩ 1 _ rfl (one_cell_new _ _ _) rfl rfl (by omega) (by simpa using HS.out) ?_; intro v1 w1 hown1 hb1; have HO1 := Lib.hid hown1; have HB1 := Lib.hid hb1; clear hown1 hb1))
        go_step3
        refine ⟨rfl, ⟨⟨v1, k, _, _, _, _, _, _, _, _, _, _, _, _, _, _, _, _, _, _, _, _, _, _, _, _, _, _, _, _, _, _, _, _, _, _, _, _, _, _, _, rfl, Lib.hid ⟨acc ++ [(m, k - m)], by omega, k2, by rw [List.length_append]; simp; omega, HG2.out, ?_, (HW.out.alloc (by have := HW.out.size; exact this) _).trans HB1.out⟩⟩, by simp [intOf]; omega⟩⟩
        rw [List.length_append, List.map_append]
        have h := HO1.out
        rw [← HE1.out] at h
        exact h
  · have hE := down_errs len p q hok
    have HV : Hid (downOut zs p q = []) := Lib.hid (by unfold downOut; rw [hl, if_neg (by omega)])
    clear hB hl hok hlen
    rcases hE with hE | hE
    all_goals
      rw [hE] at cP
      have HE := Lib.hid hE
      clear hE
      go_enter Try.func47, Try.ntmps47
      go_wp2_with fail
      go_step3
      go_wp2_with (go_at_call 55; refine cP.mono ?_; rintro e w' ⟨rfl, rfl⟩)
      rw [Exit.noGoto_ret]
      go_ret2
      exact ⟨_, [], by rw [HE.out]; rfl, FreshV.nil _ _, by rw [HV.out]; exact stands_nil, Below.refl _ _⟩

end Go.Proofs.Ytfhfjnfejcggcaa
