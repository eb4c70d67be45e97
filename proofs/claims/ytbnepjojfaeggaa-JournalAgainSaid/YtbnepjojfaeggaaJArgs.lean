/-
  Proved here: what JournalArgs answers, of a journal that answers as JournalOk, JournalGood, JournalNil and JournalBad say.
  The conditions stand at each theorem.
-/
import Derived.Test.YtbnepjojfaeggaaPad16
import Derived.WalkKit
import Derived.BigQuiet
import Derived.Deep.RegionWith
import Derived.StillTailTactics
namespace Go.Proofs.Ytbnepjojfaeggaa
open Go.RowKit
set_option linter.unusedVariables false
set_option linter.unusedSimpArgs false

/-- Disks that are no disks with a log. -/
structure JournalBad (M : JM) : Prop where
  small : ∀ n : Nat, 1 ≤ n → n < 64 → (M.lookP (freshD n)).2 = 1 ∧ (M.openP (freshD n)).2.2 = 1
  fresh : ∀ n : Nat, 64 ≤ n → n ≤ 480 → (M.lookP (freshD n)).2 = 2 ∧ M.openP (freshD n) = (freshD n, none, 2)
  form : ∀ (n : Nat) (y : List Int), 64 ≤ n → n ≤ 480 → y.length = 64 → (∀ z ∈ y, 0 ≤ z ∧ z ≤ 255) → (M.lookP (addW (step1 (freshD n)) 1 y)).2 = getHeadErr y ∧ (M.openP (addW (step1 (freshD n)) 1 y)).2.2 = getHeadErr y

theorem small_fresh (n : Nat) : smallD (freshD n) := fun k => by show ([_] : List (List Int)).length ≤ _; decide
theorem put_head {n : Nat} {y : List Int} (h1 : 64 ≤ n) (hy : y.length = 64) : putRes (freshD n) [(1, y)] = (addW (step1 (freshD n)) 1 y, 0) := by
  unfold putRes
  rw [if_neg (show ¬ (freshD n).off = true from fun h => by cases h)]
  have e1 : badLen [((1 : Int), y)] = false := by
    unfold badLen
    simp only [List.any_cons, List.any_nil, Bool.or_false]
    exact decide_eq_false (fun h => h hy)
  have e2 : badAt (freshD n).n [((1 : Int), y)] = false := by
    unfold badAt
    simp only [List.any_cons, List.any_nil, Bool.or_false]
    exact decide_eq_false (by show ¬ ((1 : Int) < 0 ∨ (n : Int) ≤ 1); omega)
  rw [e1, e2]
  rfl
theorem small_headD (n : Nat) (y : List Int) : smallD (addW (step1 (freshD n)) 1 y) := fun k => by
  show (if k = 1 then [zeros64] ++ [y] else [zeros64]).length ≤ _
  split <;> simp
theorem open_head (n : Nat) (y : List Int) (h : 64 ≤ n) : (openOf (addW (step1 (freshD n)) 1 y) 1 : Int) = 1 := by
  unfold openOf
  rw [if_pos ⟨by omega, by show (1 : Int) < ((n : Nat) : Int); omega⟩]
  rfl

set_option maxRecDepth 100000 in
set_option maxHeartbeats 6400000 in
theorem args16_any {M : JM} {JI : World → Addr → Addr → (Nat → Prop) → M.S → Prop} (K : JournalOk M JI) (Q : JournalGood M) (X : JournalNil) (R : JournalBad M) (w : World) (a0 : Int) (h0 : I64 a0) (a1 a2 : Option Addr) (len1 cap1 len2 cap2 : Nat) (z1 : List Int) (hA : Arg w a1 len1 cap1 z1) :
    Calls Try.prog 5 #[.int .i64 a0, .slice a1 len1 cap1, .slice a2 len2 cap2] w fun e w' => e = .returned (.bool true) ∧ Below w.heap.size w w' := by
  have HA := Lib.hid hA
  clear hA
  by_cases hb : a0 < 1 ∨ 480 < a0
  · have c := diskOk.new_no a0 w h0 hb
    go_enter Try.func5, Try.ntmps5
    go_wp2_with (first
      | (go_at_call 8; refine (awake16_any K Q w6).mono ?_; rintro e w7 ⟨rfl, hb7⟩; have B7 := Lib.hid (B6.out.trans (hb7.mono B6.out.size)); clear hb7)
      | (go_at_call 17; refine (X.opens w5).mono ?_; rintro e w6 ⟨rfl, hb6⟩; have B6 := Lib.hid (B5.out.trans (hb6.mono B5.out.size)); clear hb6)
      | (go_at_call 21; refine (X.look w4).mono ?_; rintro e w5 ⟨ao5, l5, c5, rfl, hb5⟩; have B5 := Lib.hid (B4.out.trans (hb5.mono B4.out.size)); clear hb5)
      | (go_at_call 20; refine (X.head w3).mono ?_; rintro e w4 ⟨rfl, hb4⟩; have B4 := Lib.hid (B3.out.trans (hb4.mono B3.out.size)); clear hb4)
      | (go_at_call 9; refine (X.commit a2 len2 cap2 w2).mono ?_; rintro e w3 ⟨rfl, hb3⟩; have B3 := Lib.hid (B2.out.trans (hb3.mono B2.out.size)); clear hb3)
      | (go_at_call 18; refine (X.read 0 w1 (by unfold I64; omega)).mono ?_; rintro e w2 ⟨v2, rfl, _, hb2⟩; have B2 := Lib.hid (B1.out.trans (hb2.mono B1.out.size)); clear hb2)
      | (go_at_call 19; refine c.mono ?_; rintro e w1 ⟨rfl, hb1⟩; have B1 := Lib.hid hb1; clear hb1))
    go_ret
    exact ⟨rfl, B7.out⟩
  · obtain ⟨n, rfl⟩ : ∃ n : Nat, a0 = (n : Int) := ⟨a0.toNat, by omega⟩
    have hn1 : 1 ≤ n := by omega
    have hn2 : n ≤ 480 := by omega
    have c := diskOk.new_ok n w hn1 hn2
    by_cases h64 : n < 64
    · obtain ⟨hE1, hE2⟩ := R.small n hn1 h64
      have HE1 := Lib.hid hE1
      have HE2 := Lib.hid hE2
      have n64 : (n : Int) < 64 := by omega
      clear hE1 hE2 hb
      go_enter Try.func5, Try.ntmps5
      go_wp2_with (first
        | (go_at_call 8; refine (awake16_any K Q w6).mono ?_; rintro e w7 ⟨rfl, hb7⟩; have B7 := Lib.hid (B6.out.trans (hb7.mono B6.out.size)); clear hb7)
        | (go_at_call 17; refine (K.opens HD5.out (small_fresh n)).mono ?_; rintro e w6 ⟨F6, p6, rfl, hD6, hg6, _, _⟩; rw [HE2.out]; have HD6 := Lib.hid hD6; have HF6 : Hid (∀ k, F6 k → w.heap.size ≤ k) := Lib.hid (fun k hk => (hg6.2.2.2.2.2 k hk).elim (HF1.out k) (fun h => Nat.le_trans B5.out.size h)); have B6 := Lib.hid (hg6.below B5.out B5.out.size HF1.out); clear hD6 hg6)
        | (go_at_call 21; refine (K.look HD4.out (small_fresh n)).mono ?_; rintro e w5 ⟨ao5, l5, c5, rfl, _, hb5⟩; rw [HE1.out]; have HD5 := Lib.hid (diskOk.later HD4.out hb5); have B5 := Lib.hid (B4.out.trans (hb5.mono B4.out.size)); clear hb5)
        | (go_at_call 20; refine (X.head w3).mono ?_; rintro e w4 ⟨rfl, hb4⟩; have HD4 := Lib.hid (diskOk.later HD3.out hb4); have B4 := Lib.hid (B3.out.trans (hb4.mono B3.out.size)); clear hb4)
        | (go_at_call 9; refine (X.commit a2 len2 cap2 w2).mono ?_; rintro e w3 ⟨rfl, hb3⟩; have HD3 := Lib.hid (diskOk.later HD2.out hb3); have B3 := Lib.hid (B2.out.trans (hb3.mono B2.out.size)); clear hb3)
        | (go_at_call 18; refine (X.read 0 w1 (by unfold I64; omega)).mono ?_; rintro e w2 ⟨v2, rfl, _, hb2⟩; have HD2 := Lib.hid (diskOk.later HD1.out hb2); have B2 := Lib.hid (B1.out.trans (hb2.mono B1.out.size)); clear hb2)
        | (go_at_call 19; refine c.mono ?_; rintro e w1 ⟨a, F, rfl, hD1, hF1, hb1⟩; have HD1 := Lib.hid hD1; have HF1 := Lib.hid hF1; have B1 := Lib.hid hb1; clear hD1 hF1 hb1))
      go_ret
      exact ⟨rfl, B7.out⟩
    · obtain ⟨hE1, hE2⟩ := R.fresh n (by omega) hn2
      have HE1 := Lib.hid hE1
      have HE2' := Lib.hid hE2
      have HE2 : Hid ((M.openP (freshD n)).2.2 = 2) := Lib.hid (by rw [hE2])
      have n64 : ¬ (n : Int) < 64 := by omega
      obtain ⟨y, hy⟩ : ∃ y, pad64 z1 = y := ⟨_, rfl⟩
      have HYL : Hid (y.length = 64) := Lib.hid (by rw [← hy]; exact pad_length z1)
      have HPY := Lib.hid hy
      obtain ⟨E, hE⟩ : ∃ E, getHeadErr y = E := ⟨_, rfl⟩
      have HE := Lib.hid hE
      obtain ⟨ga, gb, hgh⟩ : ∃ ga gb : Int, (getHead y).val = .agg #[.int .i64 ga, .int .i64 gb] := ⟨_, _, rfl⟩
      have HGH := Lib.hid hgh
      have HPR : Hid (putRes (freshD n) [(1, y)] = (addW (step1 (freshD n)) 1 y, 0)) := Lib.hid (put_head (by omega) HYL.out)
      obtain ⟨D2, hD2⟩ : ∃ D2, addW (step1 (freshD n)) 1 y = D2 := ⟨_, rfl⟩
      have HSM : Hid (smallD D2) := Lib.hid (by rw [← hD2]; exact small_headD n y)
      have HOH : Hid ((openOf D2 1 : Int) = 1) := Lib.hid (by rw [← hD2]; exact open_head n y (by omega))
      have HDD := Lib.hid hD2
      rw [hD2] at HPR
      clear hy hE hD2 hgh
      clear hE1 hE2 hb
      go_enter Try.func5, Try.ntmps5
      go_wp2_with (first
        | (go_at_call 8; refine (awake16_any K Q w15).mono ?_; rintro e w16 ⟨rfl, hb16⟩; have B16 := Lib.hid (B15.out.trans (hb16.mono B15.out.size)); clear hb16)
        | (go_at_call 17; refine (K.opens HD14.out HSM.out).mono ?_; rintro e w15 ⟨F15, p15, rfl, hD15, hg15, _, _⟩; rw [HF3.out.2]; have B15 := Lib.hid (hg15.below B14.out B14.out.size HF11.out); clear hD15 hg15)
        | (go_at_call 24; refine (diskOk.opens 1 HD13.out (by omega)).mono ?_; rintro e w14 ⟨rfl, hb14⟩; rw [HOH.out]; have HD14 := Lib.hid (diskOk.later HD13.out hb14); have B14 := Lib.hid (B13.out.trans (hb14.mono B13.out.size)); clear hb14)
        | (go_at_call 21; refine (K.look HD11.out HSM.out).mono ?_; rintro e w13 ⟨ao13, l13, c13, rfl, _, hb13⟩; rw [HF3.out.1]; have HD13 := Lib.hid (diskOk.later HD11.out hb13); have B13 := Lib.hid (B11.out.trans (hb13.mono B11.out.size)); clear hb13)
        | (go_at_call 23; obtain ⟨V9, hV9⟩ : ∃ V9, w9.alloc (.cells #[.int .i64 ga, .int .i64 gb] 58) = V9 := ⟨_, rfl⟩; have hvs : w9.heap.size + 1 = V9.heap.size := (by rw [← hV9]; simp); have bV : Below w9.heap.size w9 V9 := (by rw [← hV9]; exact (Below.refl _ _).alloc (Nat.le_refl _) _); have BV := B9.out.trans (bV.mono B9.out.size); have hAV := HA9.out.later bV; rw [hV9, hvs]; obtain ⟨W10, hW10⟩ : ∃ W10, V9.alloc (.cells #[.int .i64 1, .slice (some ⟨p7, 0, none⟩) 64 64] 48) = W10 := ⟨_, rfl⟩; have hps : p7 ≤ V9.heap.size := (by have h1 := HO8.out.2.2.2.2.size; have h2 := HBB9.out.size; have h3 := HP7.out; omega); have hL := list_one (T := 48) (G := fun k => p7 ≤ k) (x := 1) hAV (by omega) (fun b o s h => by cases h; exact Nat.le_refl _) hps; have b10 : Below V9.heap.size V9 W10 := (by rw [← hW10]; exact (Below.refl _ _).alloc (Nat.le_refl _) _); rw [hW10] at hL; rw [hW10]; have B10 := Lib.hid (BV.trans (b10.mono BV.size)); refine (diskOk.put (fun k => p7 ≤ k) (some ⟨V9.heap.size, 0, none⟩) 1 1 [(1, y)] (diskOk.later (diskOk.later HD9.out bV) b10) hL (fun k hk h => by have h1 := diskOk.lt HD6.out k hk; have h2 := HP7.out; omega) (fun k _ => by show ([_] : List (List Int)).length + 1 ≤ _; decide)).mono ?_; rintro e w11 ⟨F11, rfl, hD11, hg11⟩; rw [HPR.out] at hD11; rw [HPR.out]; have HD11 := Lib.hid hD11; have HF11 : Hid (∀ k, F11 k → w.heap.size ≤ k) := Lib.hid (fun k hk => (hg11.2.2.2.2.2 k hk).elim (HF6.out k) (fun h => Nat.le_trans B10.out.size h)); have B11 := Lib.hid (hg11.below B10.out B10.out.size HF6.out); clear hL hW10 hps b10 hD11 hg11 hV9 hvs bV BV hAV)
        | (go_at_call 22; refine (get08_any (some ⟨p7, 0, none⟩) 64 64 y w8 (own_arg HO8.out HYL.out)).mono ?_; rintro e w9 ⟨rfl, hb9⟩; rw [HE.out, HGH.out]; have HD9 := Lib.hid (diskOk.later HD8.out hb9); have HA9 := Lib.hid ((own_arg HO8.out HYL.out).later hb9); have HBB9 := Lib.hid hb9; have B9 := Lib.hid (B8.out.trans (hb9.mono B8.out.size)); clear hb9)
        | (refine wp_copy rfl (.tmp 76) (.tmp 77) 46 46 rfl _ _ rfl rfl _ HCY.out ?_; intro v8 w8 hO8; rw [HPY.out] at hO8; have HO8 := Lib.hid hO8; have HD8 := Lib.hid (diskOk.later HD6.out (by rw [HP7.out]; exact hO8.2.2.2.2)); have B8 := Lib.hid (B6.out.trans ((by rw [HP7.out]; exact hO8.2.2.2.2 : Below w6.heap.size w6 w8).mono B6.out.size)); have HF3 : Hid ((M.lookP D2).2 = E ∧ (M.openP D2).2.2 = E) := Lib.hid (by rw [← HDD.out, ← HE.out]; exact R.form n y (by omega) hn2 HYL.out hO8.1); clear hO8)
        | (go_at_call 17; refine (K.opens HD5.out (small_fresh n)).mono ?_; rintro e w6 ⟨F6, p6, rfl, hD6, hg6, _, _⟩; rw [HE2.out]; rw [HE2'.out] at hD6; have HD6 := Lib.hid hD6; obtain ⟨W7, hmk, hO7⟩ := made64 w6; obtain ⟨p7, hp7⟩ : ∃ p7, w6.heap.size = p7 := ⟨_, rfl⟩; rw [hp7] at hmk hO7; have HO7 := Lib.hid hO7; have HP7 := Lib.hid hp7; have b7 : Below w6.heap.size w6 W7 := (by rw [hp7]; exact hO7.2.2.2.2); have B6' := hg6.below B5.out B5.out.size HF1.out; have hA7 := HA.out.later (B6'.trans (b7.mono B6'.size)); have HCY := Lib.hid (own_copy_min hO7 a1 len1 cap1 z1 hA7.1 3); clear hp7 hO7 b7 B6' hA7; have HF6 : Hid (∀ k, F6 k → w.heap.size ≤ k) := Lib.hid (fun k hk => (hg6.2.2.2.2.2 k hk).elim (HF1.out k) (fun h => Nat.le_trans B5.out.size h)); have B6 := Lib.hid (hg6.below B5.out B5.out.size HF1.out); clear hD6 hg6)
        | (go_at_call 21; refine (K.look HD4.out (small_fresh n)).mono ?_; rintro e w5 ⟨ao5, l5, c5, rfl, _, hb5⟩; rw [HE1.out]; have HD5 := Lib.hid (diskOk.later HD4.out hb5); have B5 := Lib.hid (B4.out.trans (hb5.mono B4.out.size)); clear hb5)
        | (go_at_call 20; refine (X.head w3).mono ?_; rintro e w4 ⟨rfl, hb4⟩; have HD4 := Lib.hid (diskOk.later HD3.out hb4); have B4 := Lib.hid (B3.out.trans (hb4.mono B3.out.size)); clear hb4)
        | (go_at_call 9; refine (X.commit a2 len2 cap2 w2).mono ?_; rintro e w3 ⟨rfl, hb3⟩; have HD3 := Lib.hid (diskOk.later HD2.out hb3); have B3 := Lib.hid (B2.out.trans (hb3.mono B2.out.size)); clear hb3)
        | (go_at_call 18; refine (X.read 0 w1 (by unfold I64; omega)).mono ?_; rintro e w2 ⟨v2, rfl, _, hb2⟩; have HD2 := Lib.hid (diskOk.later HD1.out hb2); have B2 := Lib.hid (B1.out.trans (hb2.mono B1.out.size)); clear hb2)
        | (go_at_call 19; refine c.mono ?_; rintro e w1 ⟨a, F, rfl, hD1, hF1, hb1⟩; have HD1 := Lib.hid hD1; have HF1 := Lib.hid hF1; have B1 := Lib.hid hb1; clear hD1 hF1 hb1))
      go_ret
      exact ⟨rfl, B16.out⟩

end Go.Proofs.Ytbnepjojfaeggaa
