/-
  Proved here: what the landed node's soundExtents answers.
  The conditions stand at each theorem.
-/
import Derived.Test.YtojfhhmjoledjaaNSnd
namespace Go.Proofs.Ytojfhhmjoledjaa
open Go.RowKit
set_option linter.unusedVariables false
set_option linter.unusedSimpArgs false

theorem okX_parts (e b : Int) (x : PX) : okX e b x = (runOk x.f x.c && (decide (59 ≤ x.f) && (inN x.a e (96 - x.c) && !(decide (x.a = e) && decide (x.f = b))))) := by
  unfold okX inN
  by_cases h1 : x.a = e <;> by_cases h2 : x.f = b <;> simp [h1, h2]

set_option maxRecDepth 100000 in
set_option maxHeartbeats 3200000 in
theorem soundExtents_any {w : World} {ao : Option Addr} {m cap : Nat} {xs : List PX} (hX : XIs w ao m xs) (hs : ∀ x ∈ xs, smallX x) (hcap : m ≤ cap ∧ cap ≤ 9223372036854775807) :
    Calls Try.prog 47 #[.slice ao m cap] w fun e w' => e = .returned (.bool (soundXs xs)) ∧ Below w.heap.size w w' := by
  have hm := hX.2.1
  have HS : Hid (soundXs xs = soundFrom [] 0 0 xs) := Lib.hid (by unfold soundXs; rw [decide_eq_true (by rw [hX.1]; exact hX.2.1)]; rfl)
  have HL := Lib.hid hX
  have HSM := Lib.hid hs
  have HWL := Lib.hid hX.1
  clear hX hs
  have SC := st_cx
  go_enter Try.func47, Try.ntmps47
  go_wp2_with fail
  go_loopw [3, 4, 15] (fun ev bv iv wr => ∃ (i : Nat) (e b : Int), iv = .int .i64 (i : Int) ∧ ev = .int .i64 e ∧ bv = .int .i64 b ∧ i ≤ m ∧ (0 ≤ e ∧ e ≤ 600 ∧ 0 ≤ b ∧ b ≤ 600) ∧ Hid (Below w.heap.size w wr) ∧ Hid (∀ y ∈ xs.take i, runOk y.f y.c = true ∧ smallX y) ∧ Hid (soundXs xs = soundFrom (xs.take i) e b (xs.drop i))) (fun _ _ iv _ => m - (intOf iv).toNat)
  case atStart => exact ⟨0, 0, 0, rfl, rfl, rfl, Nat.zero_le _, by decide, Lib.hid (Below.refl _ _), Lib.hid (by simp), HS⟩
  case round =>
    obtain ⟨i, e, b, rfl, rfl, rfl, hi, heb, HB, HQ, HF⟩ := hrel
    by_cases hlt : i < m
    · obtain ⟨g, off, x, p, q, rfl, hx, hmem, c1, c2, f1, f2⟩ := HL.out.at hlt
      have d1 : wr.cell? ⟨g, off + i * 2, none⟩ = some (.int .i64 x.a) := cell_later HB.out c1
      have d2 : wr.cell? ⟨g, off + i * 2 + 1, none⟩ = some (.complex .f64 p q) := cell_later HB.out c2
      have i1 : (i : Int) < (m : Int) := by omega
      have i2 : (i : Int) ≤ (cap : Int) := by omega
      have hsx := HSM.out x hmem
      have cP := fun W => Parts_gen (.complex .f64 p q) x.f x.c W ⟨_, _, rfl, f1, f2⟩ hsx.2
      unfold partA partB partE at cP
      have HN : Hid (soundXs xs = (okX e b x && (!((xs.take i).any (meetsX x)) && soundFrom (xs.take (i + 1)) (x.a + x.c) (x.f + x.c) (xs.drop (i + 1))))) := Lib.hid (by rw [HF.out, soundFrom_at hx])
      have HXT : Hid (XIs w (some ⟨g, off, none⟩) i (xs.take i)) := Lib.hid (HL.out.take (Nat.le_of_lt hlt))
      have HT1 := Lib.hid (take_at hx)
      have B1 : Hid (Below w.heap.size w (wr.alloc (.cells #[.int .i64 x.a, .complex .f64 p q] 40))) := Lib.hid (HB.out.alloc HB.out.size _)
      obtain ⟨⟨ha0, ha1⟩, hf0, hf1, hc0, hc1⟩ := hsx
      have HF12 := Lib.hid (And.intro f1 f2)
      obtain ⟨a, f, c⟩ := x
      simp only at *
      clear hx c1 c2 f1 f2
      by_cases hok : runOk f c = true
      · rw [if_pos hok, if_pos hok, if_pos hok] at cP
        by_cases hf : 59 ≤ f
        · have hf' : ¬ f < 59 := by omega
          have hw96 : IntKind.i64.wrap (96 - c) = 96 - c := by rw [IntKind.wrap_i64]; omega
          by_cases hin : inN a e (96 - c) = true
          · have HIN := Lib.hid hin
            have hin' : e ≤ a ∧ a ≤ 96 - c := of_decide_eq_true hin
            have HOK := Lib.hid hok
            have HN0 : Hid (Below wr.heap.size wr (wr.alloc (.cells #[.int .i64 a, .complex .f64 p q] 40)).drew) := Lib.hid ((Below.refl _ _).alloc (Nat.le_refl _) _).drew
            have HK : Hid (∀ W, Below (wr.alloc (.cells #[.int .i64 a, .complex .f64 p q] 40)).drew.heap.size (wr.alloc (.cells #[.int .i64 a, .complex .f64 p q] 40)).drew W → W.cell? ⟨wr.heap.size, 0, none⟩ = some (.int .i64 a) ∧ W.cell? ⟨wr.heap.size, 1, none⟩ = some (.complex .f64 p q) ∧ Hid (Below wr.heap.size wr W)) := Lib.hid (fun W hW =>
              ⟨cell_later hW (show (wr.alloc (.cells #[.int .i64 a, .complex .f64 p q] 40)).cell? ⟨wr.heap.size, 0, none⟩ = _ by rw [World.cell?_alloc_new]; rfl), cell_later hW (show (wr.alloc (.cells #[.int .i64 a, .complex .f64 p q] 40)).cell? ⟨wr.heap.size, 1, none⟩ = _ by rw [World.cell?_alloc_new]; rfl), Lib.hid (HN0.out.trans (hW.mono HN0.out.size))⟩)
            have HM : Hid (∀ W, Below wr.heap.size wr W → Calls Try.prog 56 #[.agg #[.int .i64 a, .complex .f64 p q], .slice (some ⟨g, off, none⟩) i cap] W (fun e' w' => e' = .returned (.bool ((xs.take i).any (meetsX ⟨a, f, c⟩))) ∧ Below W.heap.size W w')) := Lib.hid (fun W hW =>
              meets_any (cap := cap) ((HXT.out.later HB.out).later hW) ⟨a, f, c⟩ p q HOK.out ⟨⟨ha0, ha1⟩, hf0, hf1, hc0, hc1⟩ HF12.out.1 HF12.out.2 HQ.out)
            have HA : Hid (¬ (a = e ∧ f = b) → soundXs xs = (!((xs.take i).any (meetsX ⟨a, f, c⟩)) && soundFrom (xs.take (i + 1)) (a + c) (f + c) (xs.drop (i + 1)))) := Lib.hid (fun h => by
              rw [HN.out]
              unfold okX
              simp only
              rw [HOK.out, decide_eq_true hf, decide_eq_true hin', decide_eq_false h]
              rfl)
            have HQ1 : Hid (∀ y ∈ xs.take (i + 1), runOk y.f y.c = true ∧ smallX y) := Lib.hid (fun y hy => by
              rw [HT1.out] at hy
              rcases List.mem_append.1 hy with hy | hy
              · exact HQ.out y hy
              · rw [List.mem_singleton] at hy
                subst hy
                exact ⟨HOK.out, ⟨ha0, ha1⟩, hf0, hf1, hc0, hc1⟩)
            have hrun := runOk_true hok
            have hz1 : IntKind.i64.wrap (a + c) = a + c := by rw [IntKind.wrap_i64]; omega
            have hz2 : IntKind.i64.wrap (f + c) = f + c := by rw [IntKind.wrap_i64]; omega
            by_cases hab : a = e ∧ f = b
            · have HA2 : Hid (soundXs xs = false) := Lib.hid (by
                rw [HN.out]
                unfold okX
                simp only
                rw [decide_eq_true hab]
                simp)
              obtain ⟨g1, g2⟩ := hab
              have e1 : (a == e) = true := by simp [g1]
              have e2 : (f == b) = true := by simp [g2]
              have e3 : decide (a = e) = true := by simp [g1]
              have e4 : decide (f = b) = true := by simp [g2]
              clear g1 g2 hin hok
              go_wp2_with (first
                | (go_at_call 48; refine (cP _).mono ?_; rintro e' w3 ⟨rfl, rfl⟩)
                | (go_at_call 31; refine (within9_any _ _ _ _).mono ?_; rintro e' w3 ⟨rfl, rfl⟩; rw [HIN.out]))
              go_quiet (fail)
              go_wp2_with fail
              go_ret
              exact ⟨by rw [HA2.out]; rfl, below_drewN B1.out _⟩
            · have HA2 := Lib.hid (HA.out hab)
              generalize (xs.take i).any (meetsX ⟨a, f, c⟩) = t at *
              by_cases hae : a = e
              · have hfb : ¬ f = b := fun h => hab ⟨hae, h⟩
                have e1 : (a == e) = true := by simp [hae]
                have e2 : (f == b) = false := by simp [hfb]
                have e3 : decide (a = e) = true := by simp [hae]
                have e4 : decide (f = b) = false := by simp [hfb]
                clear hae hfb hab hin hok
                go_wp2_with (first
                  | (go_at_call 48; refine (cP _).mono ?_; rintro e' w3 ⟨rfl, rfl⟩)
                  | (go_at_call 31; refine (within9_any _ _ _ _).mono ?_; rintro e' w3 ⟨rfl, rfl⟩; rw [HIN.out]))
                go_region_held (fun W => W.cell? ⟨wr.heap.size, 0, none⟩ = some (.int .i64 a) ∧ W.cell? ⟨wr.heap.size, 1, none⟩ = some (.complex .f64 p q) ∧ Hid (Below wr.heap.size wr W)) (first | exact HK.out _ (Below.refl _ _) | exact HK.out _ B5.out)
                  (first | (go_at_call 56; refine (HM.out _ HN0.out).mono ?_; rintro e' w5 ⟨rfl, hb5⟩; have B5 := Lib.hid hb5; clear hb5))
                all_goals
                  cases t with
                  | true =>
                    have HT : Hid (soundXs xs = false) := Lib.hid (by rw [HA2.out]; rfl)
                    go_wp2_with fail
                    go_ret
                    exact ⟨by rw [HT.out]; rfl, HB.out.trans ((HN0.out.trans (B5.out.mono HN0.out.size)).mono HB.out.size)⟩
                  | false =>
                    have HT : Hid (soundXs xs = soundFrom (xs.take (i + 1)) (a + c) (f + c) (xs.drop (i + 1))) := Lib.hid (by rw [HA2.out]; rfl)
                    have k0 := (HK.out _ B5.out).1
                    go_wp2_with fail
                    go_roundw
                    case rel => exact ⟨i + 1, a + c, f + c, by go_num, rfl, rfl, by omega, by omega, Lib.hid (HB.out.trans ((HN0.out.trans (B5.out.mono HN0.out.size)).mono HB.out.size)), HQ1, HT⟩
                    case measure => simp [intOf]; omega
              · have e1 : (a == e) = false := by simp [hae]
                have e3 : decide (a = e) = false := by simp [hae]
                clear hae hab hin hok
                go_wp2_with (first
                  | (go_at_call 48; refine (cP _).mono ?_; rintro e' w3 ⟨rfl, rfl⟩)
                  | (go_at_call 31; refine (within9_any _ _ _ _).mono ?_; rintro e' w3 ⟨rfl, rfl⟩; rw [HIN.out]))
                refine wp_region_any (by kernel_rfl) ?_
                try (change wpAny _ _ _ _ _ _ _ (World.drew _))
                refine wpAny_take (i := 0) (oi := ⟨some 42, _, _, _, _, _⟩) (v := ?_) rfl (by kernel_rfl) (by kernel_rfl) (by kernel_rfl) (fun _ _ _ h => h) (Or.inl ⟨by kernel_rfl, ?_⟩) ?_
                rotate_left 1
                · (intro w; go_simp); try (with_reducible rfl)
                refine wpAny_take (i := 2) (oi := ⟨some 44, _, _, _, _, _⟩) (v := ?_) rfl (by kernel_rfl) (by kernel_rfl) (by kernel_rfl) (fun _ _ _ h => h) (Or.inl ⟨by kernel_rfl, ?_⟩) ?_
                rotate_left 1
                · (intro w; go_simp); try (with_reducible rfl)
                refine wpAny_ready (rs := [1]) (by kernel_rfl) (by simp) ?_
                refine AllReady.cons (o := ⟨some 43, _, _, _, _, _⟩) rfl (fun K hK => ?_) AllReady.nil
                go_simp
                refine hK _ _ ?_
                clear hK K
                refine wpAny_take (i := 3) (oi := ⟨some 45, _, _, _, _, _⟩) (v := ?_) rfl (by kernel_rfl) (by kernel_rfl) (by kernel_rfl) (fun _ _ _ h => h) (Or.inl ⟨by kernel_rfl, ?_⟩) ?_
                rotate_left 1
                · (intro w; go_simp); try (with_reducible rfl)
                refine wpAny_take (i := 4) (oi := ⟨some 46, _, _, _, _, _⟩) (v := ?_) rfl (by kernel_rfl) (by kernel_rfl) (by kernel_rfl) (fun _ _ _ h => h) (Or.inl ⟨by kernel_rfl, ?_⟩) ?_
                rotate_left 1
                · (intro w; go_simp); try (with_reducible rfl)
                refine wpAny_take (i := 5) (oi := ⟨some 47, _, _, _, _, _⟩) (v := undef) rfl (by kernel_rfl) (by kernel_rfl) (by kernel_rfl) (fun _ _ _ h => h) (Or.inr ⟨by kernel_rfl, rfl⟩) ?_
                refine wpAny_take (i := 6) (oi := ⟨some 48, _, _, _, _, _⟩) (v := undef) rfl (by kernel_rfl) (by kernel_rfl) (by kernel_rfl) (fun _ _ _ h => h) (Or.inr ⟨by kernel_rfl, rfl⟩) ?_
                refine wpAny_take (i := 7) (oi := ⟨some 49, _, _, _, _, _⟩) (v := undef) rfl (by kernel_rfl) (by kernel_rfl) (by kernel_rfl) (fun _ _ _ h => h) (Or.inr ⟨by kernel_rfl, rfl⟩) ?_
                refine wpAny_take (i := 8) (oi := ⟨some 50, _, _, _, _, _⟩) (v := ?_) rfl (by kernel_rfl) (by kernel_rfl) (by kernel_rfl) (fun _ _ _ h => h) (Or.inl ⟨by kernel_rfl, ?_⟩) ?_
                rotate_left 1
                · (intro w; go_simp); try (with_reducible rfl)
                refine wpAny_take (i := 9) (oi := ⟨some 51, _, _, _, _, _⟩) (v := ?_) rfl (by kernel_rfl) (by kernel_rfl) (by kernel_rfl) (fun _ _ _ h => h) (Or.inl ⟨by kernel_rfl, ?_⟩) ?_
                rotate_left 1
                · (intro w; go_simp); try (with_reducible rfl)
                refine wpAny_take (i := 11) (oi := ⟨some 53, _, _, _, _, _⟩) (v := ?_) rfl (by kernel_rfl) (by kernel_rfl) (by kernel_rfl) (fun _ _ _ h => h) (Or.inl ⟨by kernel_rfl, ?_⟩) ?_
                rotate_left 1
                · (intro w; go_simp); try (with_reducible rfl)
                refine wpAny_take (i := 12) (oi := ⟨some 54, _, _, _, _, _⟩) (v := ?_) rfl (by kernel_rfl) (by kernel_rfl) (by kernel_rfl) (fun _ _ _ h => h) (Or.inl ⟨by kernel_rfl, ?_⟩) ?_
                rotate_left 1
                · (intro w; go_simp); try (with_reducible rfl)
                refine wpAny_take (i := 13) (oi := ⟨some 55, _, _, _, _, _⟩) (v := ?_) rfl (by kernel_rfl) (by kernel_rfl) (by kernel_rfl) (fun _ _ _ h => h) (Or.inl ⟨by kernel_rfl, ?_⟩) ?_
                rotate_left 1
                · (intro w; go_simp); try (with_reducible rfl)
                refine wpAny_ready (rs := [10]) (by kernel_rfl) (by simp) ?_
                refine AllReady.cons (o := ⟨some 52, _, _, _, _, _⟩) rfl (fun K hK => ?_) AllReady.nil
                go_simp
                refine hK _ _ ?_
                clear hK K
                refine wpAny_ready (rs := [14]) (by kernel_rfl) (by simp) ?_
                refine AllReady.cons (o := ⟨some 56, _, _, _, _, _⟩) rfl (fun K hK => ?_) AllReady.nil
                go_simp
                go_wp2_with (first | (go_at_call 56; refine (HM.out _ HN0.out).mono ?_; rintro e' w5 ⟨rfl, hb5⟩; have B5 := Lib.hid hb5; clear hb5))
                refine wpAny_take (i := 15) (oi := ⟨some 57, _, _, _, _, _⟩) (v := ?_) rfl (by kernel_rfl) (by kernel_rfl) (by kernel_rfl) (fun _ _ _ h => h) (Or.inl ⟨by kernel_rfl, ?_⟩) ?_
                rotate_left 1
                · (intro w; go_simp); try (with_reducible rfl)
                refine wpAny_done (by kernel_rfl) ?_ _
                go_simp
                all_goals
                  cases t with
                  | true =>
                    have HT : Hid (soundXs xs = false) := Lib.hid (by rw [HA2.out]; rfl)
                    go_wp2_with fail
                    go_ret
                    exact ⟨by rw [HT.out]; rfl, HB.out.trans ((HN0.out.trans (B5.out.mono HN0.out.size)).mono HB.out.size)⟩
                  | false =>
                    have HT : Hid (soundXs xs = soundFrom (xs.take (i + 1)) (a + c) (f + c) (xs.drop (i + 1))) := Lib.hid (by rw [HA2.out]; rfl)
                    have k0 := (HK.out _ B5.out).1
                    go_wp2_with fail
                    go_roundw
                    case rel => exact ⟨i + 1, a + c, f + c, by go_num, rfl, rfl, by omega, by omega, Lib.hid (HB.out.trans ((HN0.out.trans (B5.out.mono HN0.out.size)).mono HB.out.size)), HQ1, HT⟩
                    case measure => simp [intOf]; omega
          · rw [Bool.not_eq_true] at hin
            have HIN := Lib.hid hin
            have HA : Hid (soundXs xs = false) := Lib.hid (by rw [HN.out, okX_parts]; simp only; rw [hin]; simp)
            clear hin
            go_wp2_with (first
              | (go_at_call 48; refine (cP _).mono ?_; rintro e' w3 ⟨rfl, rfl⟩)
              | (go_at_call 31; refine (within9_any _ _ _ _).mono ?_; rintro e' w3 ⟨rfl, rfl⟩; rw [HIN.out]))
            go_ret
            exact ⟨by rw [HA.out]; rfl, B1.out⟩
        · have hf' : f < 59 := by omega
          have HA : Hid (soundXs xs = false) := Lib.hid (by rw [HN.out, okX_parts]; simp only; rw [decide_eq_false hf]; simp)
          go_wp2_with (go_at_call 48; refine (cP _).mono ?_; rintro e' w3 ⟨rfl, rfl⟩)
          go_ret
          exact ⟨by rw [HA.out]; rfl, B1.out⟩
      · rw [if_neg hok, if_neg hok, if_neg hok] at cP
        rw [Bool.not_eq_true] at hok
        have HA : Hid (soundXs xs = false) := Lib.hid (by rw [HN.out, okX_parts]; simp only; rw [hok]; simp)
        clear hok
        go_wp2_with (go_at_call 48; refine (cP _).mono ?_; rintro e' w3 ⟨rfl, rfl⟩)
        go_ret
        exact ⟨by rw [HA.out]; rfl, B1.out⟩
    · have hin : i = m := by omega
      subst hin
      have HA : Hid (soundXs xs = true) := Lib.hid (by rw [HF.out, ← HWL.out, List.drop_length]; rfl)
      go_wp2_with fail
      go_ret
      exact ⟨by rw [HA.out]; rfl, HB.out⟩

end Go.Proofs.Ytojfhhmjoledjaa
