/-
  Proved here: what the landed journal's look answers.
  The conditions stand at each theorem.
-/
import Derived.Test.YtbnepjojfaeggaaJrApp
import Derived.StillTailTactics
namespace Go.Proofs.Ytbnepjojfaeggaa
open Go.RowKit
set_option linter.unusedVariables false
set_option linter.unusedSimpArgs false

/-- What look hands back. -/
def HandedL (w0 : World) (D : DM) (e : Ending) (w' : World) : Prop :=
  ∃ bv wv B T, e = .returned (.tuple #[.agg #[bv, wv, .int .i64 (lookH D).1, .int .i64 (lookH D).2], .int .i64 (lookE D)]) ∧ BOwn w0.heap.size w0.heap.size w' bv (lookR D) ∧ ((∀ g, bv.ownBlock = some g → g < B) ∧ w0.heap.size ≤ B ∧ B ≤ T) ∧ WAt B T T w' wv (lookW D) ∧ Below w0.heap.size w0 w'

theorem diskOut_length {D : DM} {k : Nat} (hok : D.Ok) (h : k < D.n) (ho : D.off = false) : (diskOut D (k : Int)).length = 64 := by
  have he : diskErr D (k : Int) = 0 := by
    unfold diskErr
    rw [if_neg (by rw [ho]; simp), if_pos ⟨by omega, by omega⟩]
  unfold diskOut
  rw [if_pos he, Int.toNat_natCast]
  have h1 := (hok k).1
  have h2 : (D.hist k).getLastD [] ∈ D.hist k := by
    rw [List.getLastD_eq_getLast?, List.getLast?_eq_some_getLast h1]
    exact List.getLast_mem h1
  exact ((hok k).2 _ h2).1
theorem diskErr_off {D : DM} (k : Int) (ho : D.off = true) : diskErr D k = 8 := by unfold diskErr; rw [if_pos ho]
theorem diskErr_ok {D : DM} {k : Nat} (h : k < D.n) (ho : D.off = false) : diskErr D (k : Int) = 0 := by
  unfold diskErr
  rw [if_neg (by rw [ho]; simp), if_pos ⟨by omega, by omega⟩]
theorem head_in64 (zs : List Int) : I64 (getHead zs).a ∧ I64 (getHead zs).b := by
  unfold getHead
  by_cases h : isHead zs = true
  · rw [if_pos h]
    unfold isHead at h
    simp only [Bool.and_eq_true] at h
    have h2 := h.2.1
    unfold PHead.sound at h2
    rw [decide_eq_true_eq] at h2
    unfold I64
    omega
  · rw [if_neg h]
    exact ⟨by unfold I64 noHead; decide, by unfold I64 noHead; decide⟩
theorem DI.ok' {w : World} {a : Addr} {F : Nat → Prop} {D : DM} (h : DI w a F D) : D.Ok ∧ D.n ≤ 480 ∧ 1 ≤ D.n := by
  obtain ⟨d, g, ao, cp, _, hs, _⟩ := h
  exact ⟨hs.ok, hs.n480, hs.n1⟩

theorem BOwn.nil (base lo : Nat) (w : World) : BOwn base lo w (.slice none 0 0) [] := ⟨[], owns_nil_r _ _ _ _, fun j zs h => by simp at h⟩
theorem look_err {w w' : World} {D : DM} {E : Int} (h : lookE D = E) (h0 : E ≠ 0) (hb : Below w.heap.size w w') : HandedL w D (.returned (.tuple #[.agg #[.slice none 0 0, .slice none 0 0, .int .i64 0, .int .i64 0], .int .i64 E])) w' := by
  have hn : ¬ lookE D = 0 := by rw [h]; exact h0
  refine ⟨.slice none 0 0, .slice none 0 0, w.heap.size, w.heap.size, ?_, ?_, ⟨fun g h => by simp [Value.ownBlock] at h, Nat.le_refl _, Nat.le_refl _⟩, ?_, hb⟩
  · unfold lookH
    rw [if_neg hn, h]
  · unfold lookR
    rw [if_neg hn]
    exact BOwn.nil _ _ _
  · unfold lookW
    rw [if_neg hn]
    exact WAt.nil _ _ _ _ (Nat.le_refl _) hb.size
theorem below_four {w w1 : World} {B rb : Nat} (h : Below B w w1) (hr : B ≤ rb) (a b c d : Value) : Below B w ((((w1.setCell ⟨rb, 0, none⟩ a).setCell ⟨rb, 1, none⟩ b).setCell ⟨rb, 2, none⟩ c).setCell ⟨rb, 3, none⟩ d) :=
  (((h.setCell (p := ⟨rb, 0, none⟩) hr a).setCell (p := ⟨rb, 1, none⟩) hr b).setCell (p := ⟨rb, 2, none⟩) hr c).setCell (p := ⟨rb, 3, none⟩) hr d

/-- The rows of a view under way: the first i. -/
def Viewing (w : World) (D : DM) (rb q i : Nat) (wr : World) : Prop :=
  ∃ bv, V4 wr q bv (.slice none 0 0) (.int .i64 0) (.int .i64 0) ∧ V4 wr rb (.slice none 0 0) (.slice none 0 0) (.int .i64 0) (.int .i64 0) ∧ BOwn (q + 1) (q + 1) wr bv ((curs D).take i) ∧ Below w.heap.size w wr ∧ (0 < i → D.off = false)

set_option maxRecDepth 100000 in
set_option maxHeartbeats 6400000 in
theorem look_any {w : World} {a : Addr} {F : Nat → Prop} {D : DM} (hD : DI w a F D) : Calls Try.prog 33 #[.pointer (some a)] w (HandedL w D) := by
  obtain ⟨hok, hn480, hn1⟩ := DI.ok' hD
  have HD := Lib.hid hD
  have HOK := Lib.hid hok
  obtain ⟨n, hnn⟩ : ∃ n, D.n = n := ⟨_, rfl⟩
  have HN := Lib.hid hnn
  rw [hnn] at hn480 hn1
  obtain ⟨W0, hW0⟩ : ∃ W0, w.alloc (.cells #[.slice none 0 0, .slice none 0 0, .int .i64 0, .int .i64 0] 86) = W0 := ⟨_, rfl⟩
  have hr := v4_new w (.slice none 0 0) (.slice none 0 0) (.int .i64 0) (.int .i64 0) 86
  rw [hW0] at hr
  have b0 : Below w.heap.size w W0 := by rw [← hW0]; exact (Below.refl _ _).alloc (Nat.le_refl _) _
  have HD0 := Lib.hid (diskOk.later hD b0)
  have HR0 := Lib.hid hr
  have HB0 := Lib.hid b0
  obtain ⟨rb, hrb⟩ : ∃ rb, w.heap.size = rb := ⟨_, rfl⟩
  rw [hrb] at HR0
  obtain ⟨y0, y1, y2, y3, yf⟩ := HR0.out
  have f0 := yf 0
  have f1 := yf 1
  have f2 := yf 2
  have f3 := yf 3
  have HRB := Lib.hid hrb
  have cBl : ∀ W, Below w.heap.size w W → Calls Try.prog 54 #[.pointer (some a)] W fun e w' => e = .returned (.int .i64 (n : Int)) ∧ Below W.heap.size W w' := fun W hW => by
    have := diskOk.blocks (diskOk.later HD.out hW)
    rw [HN.out] at this
    exact this
  have HBL := Lib.hid cBl
  clear hD hok hnn hr b0 yf cBl
  by_cases h64 : n < 64
  · have HE : Hid (lookE D = 1) := Lib.hid (by unfold lookE; rw [if_pos (by rw [HN.out]; exact h64)])
    have i64 : (n : Int) < 64 := by omega
    go_enter Try.func33, Try.ntmps33
    go_wp2_with (first
      | (go_at_call 54; refine (HBL.out W0 HB0.out).mono ?_; rintro e w1 ⟨rfl, hb1⟩; have HB1 := Lib.hid (HB0.out.trans (hb1.mono HB0.out.size)); have HR1 := Lib.hid (HR0.out.later hb1); obtain ⟨y0, y1, y2, y3, yf⟩ := HR1.out; have f0 := yf 0; have f1 := yf 1; have f2 := yf 2; have f3 := yf 3; clear hb1 yf))
    refine bodyPost_ret (v := .tuple #[.agg #[.slice none 0 0, .slice none 0 0, .int .i64 0, .int .i64 0], .int .i64 1]) ?_ rfl (look_err HE.out (by decide) (below_four HB1.out (Nat.le_of_eq HRB.out) _ _ _ _))
    have hrs := (((HR1.out.set0 (.slice none 0 0)).set1 (.slice none 0 0)).set2 (.int .i64 0)).set3 (.int .i64 0)
    obtain ⟨r0, r1, r2, r3, _⟩ := hrs
    rw [results_cell_tmp rfl]
    go_simp
    try rfl
  · have i64 : ¬ (n : Int) < 64 := by omega
    go_enter Try.func33, Try.ntmps33
    go_wp2_with (first
      | (go_at_call 54; refine (HBL.out W2 HB2.out).mono ?_; rintro e w3 ⟨rfl, hb3⟩; have HB3 := Lib.hid (HB2.out.trans (hb3.mono HB2.out.size)); have HR3 := Lib.hid (HR2.out.later hb3); have HV3 := Lib.hid (HV2.out.later hb3); clear hb3)
      | (go_at_call 54; refine (HBL.out W0 HB0.out).mono ?_; rintro e w1 ⟨rfl, hb1⟩; have HB1 := Lib.hid (HB0.out.trans (hb1.mono HB0.out.size)); have HR1 := Lib.hid (HR0.out.later hb1); obtain ⟨W2, hW2⟩ : ∃ W2, w1.alloc (.cells #[.slice none 0 0, .slice none 0 0, .int .i64 0, .int .i64 0] 86) = W2 := ⟨_, rfl⟩; have hv := v4_new w1 (.slice none 0 0) (.slice none 0 0) (.int .i64 0) (.int .i64 0) 86; rw [hW2] at hv; have b2 : Below w1.heap.size w1 W2 := (by rw [← hW2]; exact (Below.refl _ _).alloc (Nat.le_refl _) _); have HR2 := Lib.hid (HR1.out.later b2); have HB2 := Lib.hid (HB1.out.trans (b2.mono HB1.out.size)); obtain ⟨q, hq⟩ : ∃ q, w1.heap.size = q := ⟨_, rfl⟩; have HQ : Hid (rb < q ∧ q < W2.heap.size) := Lib.hid ⟨by have h1 := HR1.out.lt; omega, by rw [hq] at hv; exact hv.lt⟩; rw [hq] at hv; have HV2 := Lib.hid hv; clear hb1 hv b2))
    go_loopw [20] (fun iv wr => ∃ i : Nat, iv = .int .i64 (i : Int) ∧ i ≤ n ∧ Hid (Viewing w D rb q i wr)) (fun iv _ => n - (intOf iv).toNat)
    case atStart => exact ⟨0, rfl, Nat.zero_le _, Lib.hid ⟨_, HV3.out, HR3.out, by rw [List.take_zero]; exact BOwn.nil _ _ _, HB3.out, fun h => absurd h (Nat.lt_irrefl 0)⟩⟩
    case round =>
      obtain ⟨i, rfl, hi, HR⟩ := hrel
      obtain ⟨bv, hv, hr, hbo, hb, hoff⟩ := HR.out
      by_cases hlt : i < n
      · have i1 : (i : Int) < (n : Int) := by omega
        have i0 : (0 : Int) ≤ (i : Int) := by omega
        have cG := diskOk.get (i : Int) (diskOk.later HD.out hb) (by omega)
        have HV := Lib.hid hv
        have HR := Lib.hid hr
        have HB := Lib.hid hb
        clear hb HB3 HR3 HV3 HR2 HB2 HV2
        cases hof : D.off with
        | true =>
          rw [diskErr_off _ hof] at cG
          have HE : Hid (lookE D = 8) := Lib.hid (by unfold lookE; rw [if_neg (by rw [HN.out]; exact h64), if_pos hof])
          clear hv hr hbo hof
          go_wp2_with (first
            | (go_at_call 38; refine cG.mono ?_; rintro e w4 ⟨v4, rfl, _, hb4⟩; have HB4 := Lib.hid (HB.out.trans (hb4.mono HB.out.size)); have HR4 := Lib.hid (HR.out.later hb4); obtain ⟨y0, y1, y2, y3, yf⟩ := HR4.out; have f0 := yf 0; have f1 := yf 1; have f2 := yf 2; have f3 := yf 3; clear hb4 yf))
          refine bodyPost_ret (v := .tuple #[.agg #[.slice none 0 0, .slice none 0 0, .int .i64 0, .int .i64 0], .int .i64 8]) ?_ rfl (look_err HE.out (by decide) (below_four HB4.out (Nat.le_of_eq HRB.out) _ _ _ _))
          have hrs := (((HR4.out.set0 (.slice none 0 0)).set1 (.slice none 0 0)).set2 (.int .i64 0)).set3 (.int .i64 0)
          obtain ⟨r0, r1, r2, r3, _⟩ := hrs
          rw [results_cell_tmp rfl]
          go_simp
          try rfl
        | false =>
          rw [diskErr_ok (by rw [HN.out]; exact hlt) hof] at cG
          have HL : Hid ((diskOut D (i : Int)).length = 64) := Lib.hid (diskOut_length HOK.out (by rw [HN.out]; exact hlt) hof)
          have HTK : Hid ((curs D).take (i + 1) = (curs D).take i ++ [diskOut D (i : Int)]) := Lib.hid (by rw [List.take_add_one, curs_get D (by rw [HN.out]; exact hlt)]; rfl)
          have hil : ((curs D).take i).length = i := by rw [List.length_take, curs_length, HN.out]; omega
          have HIL := Lib.hid hil
          obtain ⟨xs, ho, hxs⟩ := hbo
          rw [hil] at ho
          obtain ⟨la, lc, rfl⟩ := owns_shape_r ho
          have HO := Lib.hid (And.intro ho hxs)
          have HOF := Lib.hid hof
          clear hv hr hil ho hxs hof
          go_wp2_with (first
            | (refine wp_append_at elemBs rfl (.tmp 34) (.tmp 36) rfl (q + 1) i (.slice la i lc) xs rfl ?hown ⟨w4.heap.size, 0, none⟩ 1 1 [.slice (some ⟨g4, o4, none⟩) 64 p4] rfl ?hm rfl ?hx ?hone ?hbb ?hbase ?hkk; (case hown => exact owns_later_r HO.out.1 (HB4.out.alloc HB4.out.size _)); (case hm => decide); (case hx => exact news_f w4 [.slice (some ⟨g4, o4, none⟩) 64 p4] _); (case hone => (intro u hu; simp only [List.mem_cons, List.mem_nil_iff, or_false] at hu; rcases hu with rfl; rfl)); (case hbb => omega); (case hbase => (have h1 := HV.out.lt; have h2 := HB4.out.size; simp; omega)); intro v8 w8 hown8 hg8 hb8 hv8; obtain ⟨la8, lc8, rfl⟩ := owns_shape_r hown8; have HO8 := Lib.hid (And.intro hown8 (And.intro hg8 hv8)); have HV8 := Lib.hid ((HV4.out.later ((Below.refl _ _).alloc (Nat.le_refl _) _)).kept (hb8.block q (Nat.lt_succ_self q))); have HR8 := Lib.hid ((HR4.out.later ((Below.refl _ _).alloc (Nat.le_refl _) _)).kept (hb8.block rb (by have := HQ.out.1; omega))); have HB8 := Lib.hid hb8; obtain ⟨z0, z1, z2, z3, zf⟩ := HV8.out; have zf0 := zf 0; clear hown8 hg8 hb8 hv8 zf)
            | (go_at_call 38; refine cG.mono ?_; rintro e w4 ⟨v4, rfl, ⟨a4, p4, rfl, hA4, hn4⟩, hb4⟩; rw [HL.out] at hA4; rw [HL.out]; obtain ⟨g4, o4, rfl, hg4, _⟩ := hn4.resolve_left (fun e => by have := HL.out; rw [e] at this; cases this); have HA4 := Lib.hid (And.intro hA4 hg4); have HB4 := Lib.hid hb4; have HV4 := Lib.hid (HV.out.later hb4); have HR4 := Lib.hid (HR.out.later hb4); obtain ⟨z0, _⟩ := HV4.out; clear hA4 hn4 hg4 hb4))
          have HQ2 : Hid (w.heap.size ≤ q) := Lib.hid (by have h1 := HQ.out.1; have h2 := HRB.out; omega)
          go_roundw
          case rel =>
            have hbo := BOwn.snoc (bs := (curs D).take i) (by rw [HIL.out]; exact HO.out.1) HO.out.2 HB4.out (lo := q + 1) ⟨by have h1 := HV.out.lt; have h2 := HA4.out.2; omega, arg_lt HA4.out.1⟩ (fun e => by have h1 := (HO.out.1.lt _ e).2; have h2 := HA4.out.2; omega) HA4.out.1 (by rw [HIL.out]; exact HO8.out.1) HO8.out.2.1 HO8.out.2.2
            rw [← HTK.out] at hbo
            have b8 : Below w.heap.size w w8 := ((HB.out.trans (HB4.out.mono HB.out.size)).alloc (Nat.le_trans HB.out.size HB4.out.size) _).trans (HB8.out.mono (Nat.le_succ_of_le HQ2.out))
            exact ⟨i + 1, by go_num, by omega, Lib.hid ⟨_, HV8.out.set0 _, HR8.out.kept (set_heap w8 q 0 _ (by have := HQ.out.1; omega)), hbo.kept (Keeps.set _ ⟨q, 0, none⟩ _) (Nat.lt_succ_self q) (Nat.lt_succ_self q), b8.setCell (p := ⟨q, 0, none⟩) HQ2.out _, fun _ => HOF.out⟩⟩
          case measure => simp [intOf]; omega
      · obtain rfl : i = n := by omega
        have hof := hoff (by omega)
        have htk : (curs D).take i = curs D := List.take_of_length_le (by rw [curs_length, HN.out]; exact Nat.le_refl _)
        rw [htk] at hbo
        have hcl : (curs D).length = i := by rw [curs_length, HN.out]
        obtain ⟨g, cap, rfl, hgc, hgb, hrows⟩ := hbo.rows (by omega)
        obtain ⟨g', cap', hge, _, _, _, hcells⟩ := hbo.form (by omega)
        simp only [Value.slice.injEq, Option.some.injEq, Addr.mk.injEq, and_true, true_and] at hge
        obtain ⟨rfl, rfl⟩ := hge
        obtain ⟨d1, o1, k1, hc1, _, hA1⟩ := hcells 1 (diskOut D 1) (by have := curs_get D (k := 1) (by rw [HN.out]; omega); exact this)
        rw [hcl] at hgc hv
        have HV := Lib.hid hv
        have z0 := hv.1
        clear hv
        have hlog := hrows 19 40 (by omega)
        have hir : ¬ (i : Int) < (i : Int) := Int.lt_irrefl _
        have i1 : (1 : Int) < (i : Int) := by omega
        have i59 : (59 : Int) ≤ (cap : Int) := by omega
        have hR := Lib.hid hr
        have HB := Lib.hid hb
        have HBO := Lib.hid hbo
        have HA1 := Lib.hid hA1
        have HLG := Lib.hid hlog
        have HCL := Lib.hid hcl
        have HOF := Lib.hid hof
        obtain ⟨⟨ha, hs⟩, hhd⟩ : ∃ h : PHead, getHead (diskOut D 1) = h := ⟨_, rfl⟩
        have h64' : I64 ha ∧ I64 hs := by
          have h := head_in64 (diskOut D 1)
          rw [hhd] at h
          exact h
        have HH := Lib.hid h64'
        have HHD := Lib.hid hhd
        obtain ⟨⟨ls, fa, fs⟩, hF⟩ : ∃ r, foundOut (logD D) ha hs = r := ⟨_, rfl⟩
        obtain ⟨E, hE⟩ : ∃ E, foundErr (logD D) ha hs = E := ⟨_, rfl⟩
        have HF := Lib.hid hF
        have HE := Lib.hid hE
        have HLE : Hid (lookE D = E) := Lib.hid (by unfold lookE headD; rw [if_neg (by rw [HN.out]; exact h64), if_neg (by rw [HOF.out]; simp), hhd, ← hE])
        have HLF : Hid (lookF D = (ls, fa, fs)) := Lib.hid (by unfold lookF headD; rw [hhd]; exact hF)
        clear hr hb hbo hA1 hlog hcl hof h64' hhd hF hE htk hgc hgb hrows hcells hoff hlt HR3 HV3 HR2 HV2 HB2 HB3 HR
        go_wp2_with (first
          | (go_at_call 55; refine (shead_any (some ⟨d1, o1, none⟩) 64 k1 (diskOut D 1) wr HA1.out).mono ?_; rintro e w4 ⟨rfl, hb4⟩; rw [HHD.out]; unfold PHead.val; obtain ⟨W5, hW5⟩ : ∃ W5, w4.alloc (.cells #[.int .i64 ha, .int .i64 hs] 58) = W5 := ⟨_, rfl⟩; have hh5 := rc_new w4 (.int .i64 ha) (.int .i64 hs) 58; rw [hW5] at hh5; obtain ⟨p5, hp5⟩ : ∃ p5, w4.heap.size = p5 := ⟨_, rfl⟩; rw [hp5] at hh5; have b5 : Below wr.heap.size wr W5 := (by rw [← hW5]; exact hb4.alloc hb4.size _); have HB5 := Lib.hid b5; have HH5 := Lib.hid hh5; have z5 := cell_later b5 z0; obtain ⟨x5, x6, xf⟩ := hh5; have xf0 := xf 0; have xf1 := xf 1; have HP5 : Hid (wr.heap.size ≤ p5) := Lib.hid (by rw [← hp5]; exact hb4.size); clear hb4 b5 xf))
        have hD5 : Below W5.heap.size W5 W5.drew := (Below.refl _ _).drew
        have HLG5 := Lib.hid ((HLG.out.later HB5.out).later hD5)
        have cF := lFind_any ha hs HH.out.1 HH.out.2 HLG5.out
        rw [show (List.take 40 (List.drop 19 (curs D))) = logD D from rfl, HF.out, HE.out] at cF
        have HCF := Lib.hid cF
        clear hD5 cF
        by_cases hE0 : E = 0
        · subst hE0
          refine wp_region_held_drew (S := fun W => W.cell? ⟨q, 0, none⟩ = some (.slice (some ⟨g, 0, none⟩) i cap)) (by kernel_rfl) z5 (fun hHeld => ?_)
          refine wpAnyH_take (i := 0) (oi := ⟨some 49, _, _, _, _, _⟩) (v := .pointer (some ⟨q, 0, none⟩)) rfl (by kernel_rfl) (by kernel_rfl) (by kernel_rfl) (fun _ _ _ h => h) (Or.inl ⟨by kernel_rfl, by intro w _; go_simp; (try omega)⟩) (by assumption) ?_
          try simp only [Act.put, List.setIfInBounds_toArray, List.set_cons_zero, List.set_cons_succ]
          refine wpAnyH_take (i := 1) (oi := ⟨some 50, _, _, _, _, _⟩) (v := .slice (some ⟨g, 0, none⟩) i cap) rfl (by kernel_rfl) (by kernel_rfl) (by kernel_rfl) (fun _ _ _ h => h) (Or.inl ⟨by kernel_rfl, by intro w hSw; (try dsimp only at hSw); go_simp⟩) (by assumption) ?_
          try simp only [Act.put, List.setIfInBounds_toArray, List.set_cons_zero, List.set_cons_succ]
          refine wpAnyH_take (i := 2) (oi := ⟨some 51, _, _, _, _, _⟩) (v := .slice (some ⟨g, 19, none⟩) (40 : Nat) (cap - 19)) rfl (by kernel_rfl) (by kernel_rfl) (by kernel_rfl) (fun _ _ _ h => h) (Or.inl ⟨by kernel_rfl, by intro w _; go_simp; (try omega)⟩) (by assumption) ?_
          try simp only [Act.put, List.setIfInBounds_toArray, List.set_cons_zero, List.set_cons_succ]
          refine wpAnyH_ready (rs := [3]) (by kernel_rfl) (by simp) ?_
          refine AllReadyH.cons (o := ⟨some 52, _, _, _, _, _⟩) rfl (fun K hK => ?_) AllReadyH.nil
          go_simp
          refine hK.out _ _ ?_ (fun hHeld1 => ?_)
          · exact z5
          clear hK K
          try simp only [Act.put, List.setIfInBounds_toArray, List.set_cons_zero, List.set_cons_succ]
          refine wpAnyH_ready (rs := [4]) (by kernel_rfl) (by simp) ?_
          refine AllReadyH.cons (o := ⟨some 53, _, _, _, _, _⟩) rfl (fun K hK => ?_) AllReadyH.nil
          go_simp
          go_at_call 56
          refine HCF.out.mono ?_
          rintro e w6 ⟨ao6, c6, rfl, hL6, hb6⟩; have HL6 := Lib.hid hL6; have HB6 := Lib.hid hb6; have HH6 := Lib.hid ((HH5.out.kept (w' := W5.drew) rfl).later hb6); obtain ⟨x5, x6, xf⟩ := HH6.out; have xf0 := xf 0; have xf1 := xf 1; have bw6 : Below wr.heap.size wr w6 := HB5.out.drew.trans (hb6.mono HB5.out.size); have HBW := Lib.hid bw6; have HR6 := Lib.hid ((hR.out.later bw6)); have HV6 := Lib.hid (HV.out.later bw6); obtain ⟨W7, hW7⟩ : ∃ W7, (w6.setCell ⟨p5, 0, none⟩ (.int .i64 fa)).setCell ⟨p5, 1, none⟩ (.int .i64 fs) = W7 := ⟨_, rfl⟩; have hk7 : ∀ k, k ≠ p5 → W7.heap[k]? = w6.heap[k]? := (fun k hk => by rw [← hW7, set_heap _ p5 1 _ hk, set_heap _ p5 0 _ hk]); have hh7 := HH6.out.set (.int .i64 fa) (.int .i64 fs); rw [hW7] at hh7; have HH7 := Lib.hid hh7; have HR7 := Lib.hid (HR6.out.kept (hk7 rb (by have h1 := hR.out.lt; have h2 := HP5.out; omega))); have HV7 := Lib.hid (HV6.out.kept (hk7 q (by have h1 := HV.out.lt; have h2 := HP5.out; omega))); obtain ⟨y0, y1, y2, y3, yf⟩ := HR7.out; have f0 := yf 0; have f1 := yf 1; have f2 := yf 2; have f3 := yf 3; have b7 : Below wr.heap.size wr W7 := (by rw [← hW7]; exact (bw6.setCell (p := ⟨p5, 0, none⟩) HP5.out _).setCell (p := ⟨p5, 1, none⟩) HP5.out _); have HB7 := Lib.hid b7; have HK7 := Lib.hid hk7; clear hL6 hb6 xf bw6 hk7 hh7 yf b7
          refine hK.out _ _ ?_ (fun hHeld2 => ?_)
          · exact HV6.out.1
          clear hK K
          try simp only [Act.put, List.setIfInBounds_toArray, List.set_cons_zero, List.set_cons_succ]
          refine wpAnyH_take (i := 5) (oi := ⟨some 48, _, _, _, _, _⟩) (v := .tuple #[.slice ao6 ls.length c6, .agg #[.int .i64 fa, .int .i64 fs], .int .i64 0]) rfl (by kernel_rfl) (by kernel_rfl) (by kernel_rfl) (fun _ _ _ h => h) (Or.inl ⟨by kernel_rfl, fun w _ => rfl⟩) (by assumption) ?_
          try simp only [Act.put, List.setIfInBounds_toArray, List.set_cons_zero, List.set_cons_succ]
          refine wpAnyH_take (i := 6) (oi := ⟨some 54, _, _, _, _, _⟩) (v := .slice ao6 ls.length c6) rfl (by kernel_rfl) (by kernel_rfl) (by kernel_rfl) (fun _ _ _ h => h) (Or.inl ⟨by kernel_rfl, by intro w _; go_simp; (try omega)⟩) (by assumption) ?_
          try simp only [Act.put, List.setIfInBounds_toArray, List.set_cons_zero, List.set_cons_succ]
          refine wpAnyH_take (i := 7) (oi := ⟨some 55, _, _, _, _, _⟩) (v := .agg #[.int .i64 fa, .int .i64 fs]) rfl (by kernel_rfl) (by kernel_rfl) (by kernel_rfl) (fun _ _ _ h => h) (Or.inl ⟨by kernel_rfl, by intro w _; go_simp; (try omega)⟩) (by assumption) ?_
          try simp only [Act.put, List.setIfInBounds_toArray, List.set_cons_zero, List.set_cons_succ]
          refine wpAnyH_take (i := 8) (oi := ⟨some 56, _, _, _, _, _⟩) (v := .int .i64 0) rfl (by kernel_rfl) (by kernel_rfl) (by kernel_rfl) (fun _ _ _ h => h) (Or.inl ⟨by kernel_rfl, by intro w _; go_simp; (try omega)⟩) (by assumption) ?_
          try simp only [Act.put, List.setIfInBounds_toArray, List.set_cons_zero, List.set_cons_succ]
          refine wpAnyH_take (i := 9) (oi := ⟨some 10, _, _, _, _, _⟩) (v := .slice ao6 ls.length c6) rfl (by kernel_rfl) (by kernel_rfl) (by kernel_rfl) (fun _ _ _ h => h) (Or.inl ⟨by kernel_rfl, fun w _ => rfl⟩) (by assumption) ?_
          try simp only [Act.put, List.setIfInBounds_toArray, List.set_cons_zero, List.set_cons_succ]
          refine wpAnyH_ready (rs := [10]) (by kernel_rfl) (by simp) ?_
          refine AllReadyH.cons (o := ⟨none, _, _, _, _, _⟩) rfl (fun K hK => ?_) AllReadyH.nil
          go_simp
          refine hK.out _ _ ?_ (fun hHeld3 => ?_)
          · exact HV7.out.1
          clear hK K
          try simp only [Act.put, List.setIfInBounds_toArray, List.set_cons_zero, List.set_cons_succ]
          refine wpAnyH_take (i := 11) (oi := ⟨some 11, _, _, _, _, _⟩) (v := .int .i64 0) rfl (by kernel_rfl) (by kernel_rfl) (by kernel_rfl) (fun _ _ _ h => h) (Or.inl ⟨by kernel_rfl, fun w _ => rfl⟩) (by assumption) ?_
          try simp only [Act.put, List.setIfInBounds_toArray, List.set_cons_zero, List.set_cons_succ]
          refine wpAnyH_done (by kernel_rfl) ?_ _
          go_wp2_with fail
          have HX7 : Hid (View2 w D rb q p5 (.slice (some ⟨g, 0, none⟩) i cap) fa fs W5.drew.heap.size w6.heap.size ao6 ls (.slice none 0 0) (flatK (D.n : Int) (ls.take 0)) W7) := Lib.hid (by
            have hp : p5 < W5.drew.heap.size := HH5.out.lt
            have hwl : W7.heap.size = w6.heap.size := by rw [← hW7, set_size, set_size]
            refine ⟨HV7.out, HR7.out, HH7.out, ⟨wr, (by have h := HBO.out; rw [HCL.out] at h; exact h), HP5.out, fun k hk hk2 => (HK7.out k (by have := HP5.out; omega)).trans (HBW.out.block k hk2)⟩, HL6.out.under.kept (fun k h1 h2 => HK7.out k (by omega)), WAt.nil _ _ _ _ (Nat.le_refl _) (by rw [hwl]; exact Nat.le_refl _), HB.out.trans (HB7.out.mono HB.out.size), ⟨Nat.le_of_eq HRB.out, HQ.out.1, by have h1 := HV.out.lt; have h2 := HP5.out; omega, hp, HB6.out.size⟩⟩)
          have HFW := Lib.hid (found_few (logD D) ha hs)
          rw [HF.out] at HFW
          have hls : ls.length ≤ 40 := HFW.out.1
          obtain ⟨b0, hb0⟩ : ∃ b, W5.drew.heap.size = b := ⟨_, rfl⟩
          obtain ⟨T0, hT0⟩ : ∃ T, w6.heap.size = T := ⟨_, rfl⟩
          rw [hb0, hT0] at HX7
          clear hb0 hT0
          go_loopw [63] (fun jv wr2 => ∃ (j : Nat) (wv : Value), jv = .int .i64 (j : Int) ∧ j ≤ ls.length ∧ Hid (View2 w D rb q p5 (.slice (some ⟨g, 0, none⟩) i cap) fa fs b0 T0 ao6 ls wv (flatK (D.n : Int) (ls.take j)) wr2)) (fun jv _ => ls.length - (intOf jv).toNat)
          case atStart => exact ⟨0, _, rfl, Nat.zero_le _, HX7⟩
          case round =>
            obtain ⟨j, wv, rfl, hj, HX8⟩ := hrel
            by_cases hjl : j < ls.length
            · have HJL := Lib.hid hjl
              have j1 : (j : Int) < (ls.length : Int) := by omega
              have j0 : (0 : Int) ≤ (j : Int) := by omega
              obtain ⟨lb0, lo0, l, ad, lc, rfl, hlj, hlc, hlw⟩ := HX8.out.lat.at hjl
              have hl20 : l.length ≤ 20 := HFW.out.2 l (List.mem_of_getElem? hlj)
              have HW8 := Lib.hid hlw
              have HFK : Hid (flatK (D.n : Int) (ls.take (j + 1)) = flatK (D.n : Int) (ls.take j) ++ keepW (D.n : Int) l) := Lib.hid (flatK_snoc hlj)
              have HLB : Hid ((flatK (D.n : Int) (ls.take j)).length + (keepW (D.n : Int) l).length ≤ 100000) := Lib.hid (by
                have h1 := flatK_len (D.n : Int) (ls.take j) (fun x hx => HFW.out.2 x (List.mem_of_mem_take hx))
                have h2 := keepW_le (D.n : Int) l
                have h3 : (ls.take j).length ≤ 40 := by rw [List.length_take]; have := HFW.out.1; simp only at this; omega
                omega)
              have c1 := HX8.out.v.2.1
              obtain ⟨lw, lwc, rfl⟩ := owns_shape_r HX8.out.wat.2.choose_spec.1
              clear hlj hlw
              have HXD := Lib.hid (HX8.out.later (Below.refl _ _).drew)
              go_wp2_with fail
              refine wp_region_held_drew (S := fun _ => True) (by kernel_rfl) trivial (fun hHeld => ?_)
              refine wpAnyH_take (i := 0) (oi := ⟨some 67, _, _, _, _, _⟩) (v := .pointer (some ⟨q, 1, none⟩)) rfl (by kernel_rfl) (by kernel_rfl) (by kernel_rfl) (fun _ _ _ h => h) (Or.inl ⟨by kernel_rfl, by intro w _; go_simp; (try omega)⟩) (by assumption) ?_
              try simp only [Act.put, List.setIfInBounds_toArray, List.set_cons_zero, List.set_cons_succ]
              refine wpAnyH_take (i := 2) (oi := ⟨some 69, _, _, _, _, _⟩) (v := .slice ad l.length lc) rfl (by kernel_rfl) (by kernel_rfl) (by kernel_rfl) (fun _ _ _ h => h) (Or.inl ⟨by kernel_rfl, fun w _ => rfl⟩) (by assumption) ?_
              try simp only [Act.put, List.setIfInBounds_toArray, List.set_cons_zero, List.set_cons_succ]
              refine wpAnyH_take (i := 3) (oi := ⟨some 70, _, _, _, _, _⟩) (v := .pointer (some a)) rfl (by kernel_rfl) (by kernel_rfl) (by kernel_rfl) (fun _ _ _ h => h) (Or.inl ⟨by kernel_rfl, fun w _ => rfl⟩) (by assumption) ?_
              try simp only [Act.put, List.setIfInBounds_toArray, List.set_cons_zero, List.set_cons_succ]
              refine wpAnyH_ready (rs := [1, 4]) (by kernel_rfl) (by simp) ?_
              refine AllReadyH.cons (o := ⟨some 68, _, _, _, _, _⟩) rfl (fun K hK => ?_) (AllReadyH.cons (o := ⟨some 71, _, _, _, _, _⟩) rfl (fun K hK => ?_) (AllReadyH.nil))
              · go_simp
                refine hK.out _ _ ?_ (fun hHeld1 => ?_)
                · exact trivial
                clear hK K
                try simp only [Act.put, List.setIfInBounds_toArray, List.set_cons_zero, List.set_cons_succ]
                refine wpAnyH_ready (rs := [4]) (by kernel_rfl) (by simp) ?_
                refine AllReadyH.cons (o := ⟨some 71, _, _, _, _, _⟩) rfl (fun K hK => ?_) (AllReadyH.nil)
                go_simp
                go_at_call 54
                refine (HBL.out _ HXD.out.below).mono ?_
                rintro e w9 ⟨rfl, hb9⟩
                have HX9 := Lib.hid (HXD.out.later hb9)
                have c1 := HX9.out.v.2.1
                have HW9 := Lib.hid (HW8.out.kept (w := wr.drew) (fun k h => hb9.block k (Nat.lt_of_lt_of_le h.2 HX8.out.wat.1.2)))
                clear hb9
                refine hK.out _ _ ?_ (fun hHeld2 => ?_)
                · exact trivial
                clear hK K
                try simp only [Act.put, List.setIfInBounds_toArray, List.set_cons_zero, List.set_cons_succ]
                refine wpAnyH_ready (rs := [5]) (by kernel_rfl) (by simp) ?_
                refine AllReadyH.cons (o := ⟨some 72, _, _, _, _, _⟩) rfl (fun K hK => ?_) (AllReadyH.nil)
                go_simp
                go_at_call 57
                refine (jwithin_any (i : Int) (by unfold I64; omega) HW9.out HX9.out.wat.1.2 (by omega)).mono ?_
                rintro e wa ⟨v10, rfl, hwa, hba⟩
                rw [show ((i : Nat) : Int) = (D.n : Int) from by rw [HN.out]] at hwa
                obtain ⟨la, lca, rfl⟩ := owns_shape_r hwa.2.choose_spec.1
                have HXA := Lib.hid (HX9.out.later hba)
                have HWA := Lib.hid hwa
                have c1 := HXA.out.v.2.1
                clear hba hwa
                refine hK.out _ _ ?_ (fun hHeld3 => ?_)
                · exact trivial
                clear hK K
                try simp only [Act.put, List.setIfInBounds_toArray, List.set_cons_zero, List.set_cons_succ]
                refine wpAnyH_ready (rs := [6]) (by kernel_rfl) (by simp) ?_
                refine AllReadyH.cons (o := ⟨some 73, _, _, _, _, _⟩) rfl (fun K hK => ?_) (AllReadyH.nil)
                rw [if_pos (by rfl)]
                refine op_append_known (.tmp 68) (.tmp 72) 27 27 rfl _ _ rfl rfl _ (append_wat HXA.out.wat HWA.out HLB.out 27) ?_
                rintro vb wb ⟨hwb, hbb⟩
                obtain ⟨lb, lcb, rfl⟩ := owns_shape_r hwb.2.choose_spec.1
                have HWB := Lib.hid hwb
                have HBB := Lib.hid hbb
                have HVB := Lib.hid (HXA.out.v.kept (hbb.block q (by have := HXA.out.ord; omega)))
                have c2 := HVB.out.2.1
                have fb := HVB.out.2.2.2.2 1
                clear hwb hbb
                refine hK.out _ _ ?_ (fun hHeld4 => ?_)
                · exact trivial
                clear hK K
                try simp only [Act.put, List.setIfInBounds_toArray, List.set_cons_zero, List.set_cons_succ]
                refine wpAnyH_take (i := 7) (oi := ⟨some 74, _, _, _, _, _⟩) (v := .pointer (some ⟨q, 1, none⟩)) rfl (by kernel_rfl) (by kernel_rfl) (by kernel_rfl) (fun _ _ _ h => h) (Or.inl ⟨by kernel_rfl, by intro w _; go_simp; (try omega)⟩) (by assumption) ?_
                try simp only [Act.put, List.setIfInBounds_toArray, List.set_cons_zero, List.set_cons_succ]
                refine wpAnyH_ready (rs := [8]) (by kernel_rfl) (by simp) ?_
                refine AllReadyH.cons (o := ⟨none, _, _, _, _, _⟩) rfl (fun K hK => ?_) (AllReadyH.nil)
                go_simp
                refine hK.out _ _ ?_ (fun hHeld5 => ?_)
                · exact trivial
                clear hK K
                try simp only [Act.put, List.setIfInBounds_toArray, List.set_cons_zero, List.set_cons_succ]
                refine wpAnyH_done (by kernel_rfl) ?_ _
                go_wp2_with fail
                go_roundw
                case rel => exact ⟨j + 1, _, by go_num, Nat.succ_le_of_lt HJL.out, Lib.hid (by rw [HFK.out]; exact HXA.out.put HBB.out (by have h := HWB.out; rw [List.length_append] at h; exact h))⟩
                case measure => (simp [intOf]; have := HJL.out; omega)
              · go_simp
                go_at_call 54
                refine (HBL.out _ HXD.out.below).mono ?_
                rintro e w9 ⟨rfl, hb9⟩
                have HX9 := Lib.hid (HXD.out.later hb9)
                have c1 := HX9.out.v.2.1
                have HW9 := Lib.hid (HW8.out.kept (w := wr.drew) (fun k h => hb9.block k (Nat.lt_of_lt_of_le h.2 HX8.out.wat.1.2)))
                clear hb9
                refine hK.out _ _ ?_ (fun hHeld1 => ?_)
                · exact trivial
                clear hK K
                try simp only [Act.put, List.setIfInBounds_toArray, List.set_cons_zero, List.set_cons_succ]
                refine wpAnyH_ready (rs := [1, 5]) (by kernel_rfl) (by simp) ?_
                refine AllReadyH.cons (o := ⟨some 68, _, _, _, _, _⟩) rfl (fun K hK => ?_) (AllReadyH.cons (o := ⟨some 72, _, _, _, _, _⟩) rfl (fun K hK => ?_) (AllReadyH.nil))
                · go_simp
                  refine hK.out _ _ ?_ (fun hHeld2 => ?_)
                  · exact trivial
                  clear hK K
                  try simp only [Act.put, List.setIfInBounds_toArray, List.set_cons_zero, List.set_cons_succ]
                  refine wpAnyH_ready (rs := [5]) (by kernel_rfl) (by simp) ?_
                  refine AllReadyH.cons (o := ⟨some 72, _, _, _, _, _⟩) rfl (fun K hK => ?_) (AllReadyH.nil)
                  go_simp
                  go_at_call 57
                  refine (jwithin_any (i : Int) (by unfold I64; omega) HW9.out HX9.out.wat.1.2 (by omega)).mono ?_
                  rintro e wa ⟨v10, rfl, hwa, hba⟩
                  rw [show ((i : Nat) : Int) = (D.n : Int) from by rw [HN.out]] at hwa
                  obtain ⟨la, lca, rfl⟩ := owns_shape_r hwa.2.choose_spec.1
                  have HXA := Lib.hid (HX9.out.later hba)
                  have HWA := Lib.hid hwa
                  have c1 := HXA.out.v.2.1
                  clear hba hwa
                  refine hK.out _ _ ?_ (fun hHeld3 => ?_)
                  · exact trivial
                  clear hK K
                  try simp only [Act.put, List.setIfInBounds_toArray, List.set_cons_zero, List.set_cons_succ]
                  refine wpAnyH_ready (rs := [6]) (by kernel_rfl) (by simp) ?_
                  refine AllReadyH.cons (o := ⟨some 73, _, _, _, _, _⟩) rfl (fun K hK => ?_) (AllReadyH.nil)
                  rw [if_pos (by rfl)]
                  refine op_append_known (.tmp 68) (.tmp 72) 27 27 rfl _ _ rfl rfl _ (append_wat HXA.out.wat HWA.out HLB.out 27) ?_
                  rintro vb wb ⟨hwb, hbb⟩
                  obtain ⟨lb, lcb, rfl⟩ := owns_shape_r hwb.2.choose_spec.1
                  have HWB := Lib.hid hwb
                  have HBB := Lib.hid hbb
                  have HVB := Lib.hid (HXA.out.v.kept (hbb.block q (by have := HXA.out.ord; omega)))
                  have c2 := HVB.out.2.1
                  have fb := HVB.out.2.2.2.2 1
                  clear hwb hbb
                  refine hK.out _ _ ?_ (fun hHeld4 => ?_)
                  · exact trivial
                  clear hK K
                  try simp only [Act.put, List.setIfInBounds_toArray, List.set_cons_zero, List.set_cons_succ]
                  refine wpAnyH_take (i := 7) (oi := ⟨some 74, _, _, _, _, _⟩) (v := .pointer (some ⟨q, 1, none⟩)) rfl (by kernel_rfl) (by kernel_rfl) (by kernel_rfl) (fun _ _ _ h => h) (Or.inl ⟨by kernel_rfl, by intro w _; go_simp; (try omega)⟩) (by assumption) ?_
                  try simp only [Act.put, List.setIfInBounds_toArray, List.set_cons_zero, List.set_cons_succ]
                  refine wpAnyH_ready (rs := [8]) (by kernel_rfl) (by simp) ?_
                  refine AllReadyH.cons (o := ⟨none, _, _, _, _, _⟩) rfl (fun K hK => ?_) (AllReadyH.nil)
                  go_simp
                  refine hK.out _ _ ?_ (fun hHeld5 => ?_)
                  · exact trivial
                  clear hK K
                  try simp only [Act.put, List.setIfInBounds_toArray, List.set_cons_zero, List.set_cons_succ]
                  refine wpAnyH_done (by kernel_rfl) ?_ _
                  go_wp2_with fail
                  go_roundw
                  case rel => exact ⟨j + 1, _, by go_num, Nat.succ_le_of_lt HJL.out, Lib.hid (by rw [HFK.out]; exact HXA.out.put HBB.out (by have h := HWB.out; rw [List.length_append] at h; exact h))⟩
                  case measure => (simp [intOf]; have := HJL.out; omega)
                · go_simp
                  go_at_call 57
                  refine (jwithin_any (i : Int) (by unfold I64; omega) HW9.out HX9.out.wat.1.2 (by omega)).mono ?_
                  rintro e wa ⟨v10, rfl, hwa, hba⟩
                  rw [show ((i : Nat) : Int) = (D.n : Int) from by rw [HN.out]] at hwa
                  obtain ⟨la, lca, rfl⟩ := owns_shape_r hwa.2.choose_spec.1
                  have HXA := Lib.hid (HX9.out.later hba)
                  have HWA := Lib.hid hwa
                  have c1 := HXA.out.v.2.1
                  clear hba hwa
                  refine hK.out _ _ ?_ (fun hHeld2 => ?_)
                  · exact trivial
                  clear hK K
                  try simp only [Act.put, List.setIfInBounds_toArray, List.set_cons_zero, List.set_cons_succ]
                  refine wpAnyH_ready (rs := [1]) (by kernel_rfl) (by simp) ?_
                  refine AllReadyH.cons (o := ⟨some 68, _, _, _, _, _⟩) rfl (fun K hK => ?_) (AllReadyH.nil)
                  go_simp
                  refine hK.out _ _ ?_ (fun hHeld3 => ?_)
                  · exact trivial
                  clear hK K
                  try simp only [Act.put, List.setIfInBounds_toArray, List.set_cons_zero, List.set_cons_succ]
                  refine wpAnyH_ready (rs := [6]) (by kernel_rfl) (by simp) ?_
                  refine AllReadyH.cons (o := ⟨some 73, _, _, _, _, _⟩) rfl (fun K hK => ?_) (AllReadyH.nil)
                  rw [if_pos (by rfl)]
                  refine op_append_known (.tmp 68) (.tmp 72) 27 27 rfl _ _ rfl rfl _ (append_wat HXA.out.wat HWA.out HLB.out 27) ?_
                  rintro vb wb ⟨hwb, hbb⟩
                  obtain ⟨lb, lcb, rfl⟩ := owns_shape_r hwb.2.choose_spec.1
                  have HWB := Lib.hid hwb
                  have HBB := Lib.hid hbb
                  have HVB := Lib.hid (HXA.out.v.kept (hbb.block q (by have := HXA.out.ord; omega)))
                  have c2 := HVB.out.2.1
                  have fb := HVB.out.2.2.2.2 1
                  clear hwb hbb
                  refine hK.out _ _ ?_ (fun hHeld4 => ?_)
                  · exact trivial
                  clear hK K
                  try simp only [Act.put, List.setIfInBounds_toArray, List.set_cons_zero, List.set_cons_succ]
                  refine wpAnyH_take (i := 7) (oi := ⟨some 74, _, _, _, _, _⟩) (v := .pointer (some ⟨q, 1, none⟩)) rfl (by kernel_rfl) (by kernel_rfl) (by kernel_rfl) (fun _ _ _ h => h) (Or.inl ⟨by kernel_rfl, by intro w _; go_simp; (try omega)⟩) (by assumption) ?_
                  try simp only [Act.put, List.setIfInBounds_toArray, List.set_cons_zero, List.set_cons_succ]
                  refine wpAnyH_ready (rs := [8]) (by kernel_rfl) (by simp) ?_
                  refine AllReadyH.cons (o := ⟨none, _, _, _, _, _⟩) rfl (fun K hK => ?_) (AllReadyH.nil)
                  go_simp
                  refine hK.out _ _ ?_ (fun hHeld5 => ?_)
                  · exact trivial
                  clear hK K
                  try simp only [Act.put, List.setIfInBounds_toArray, List.set_cons_zero, List.set_cons_succ]
                  refine wpAnyH_done (by kernel_rfl) ?_ _
                  go_wp2_with fail
                  go_roundw
                  case rel => exact ⟨j + 1, _, by go_num, Nat.succ_le_of_lt HJL.out, Lib.hid (by rw [HFK.out]; exact HXA.out.put HBB.out (by have h := HWB.out; rw [List.length_append] at h; exact h))⟩
                  case measure => (simp [intOf]; have := HJL.out; omega)
            · obtain rfl : j = ls.length := by omega
              have htl : ls.take ls.length = ls := List.take_length
              rw [htl] at HX8
              obtain ⟨lw, lwc, rfl⟩ := owns_shape_r HX8.out.wat.2.choose_spec.1
              have hjn : ¬ ((ls.length : Nat) : Int) < ((ls.length : Nat) : Int) := Int.lt_irrefl _
              obtain ⟨v0, v1, v2, v3, vf⟩ := HX8.out.v
              obtain ⟨y0, y1, y2, y3, yf⟩ := HX8.out.r
              obtain ⟨x5, x6, _⟩ := HX8.out.h
              have vf2 := vf 2
              have vf3 := vf 3
              have f0 := yf 0
              have f1 := yf 1
              have f2 := yf 2
              have f3 := yf 3
              have ho := HX8.out.ord
              have hn1 : ¬ rb = q := by omega
              have hn2 : ¬ q = rb := by omega
              have hn3 : ¬ p5 = q := by omega
              have hn4 : ¬ q = p5 := by omega
              clear vf yf htl ho
              go_wp2_with fail
              have hdn := HX8.out.done (.int .i64 fa) (.int .i64 fs) (.slice (some ⟨g, 0, none⟩) i cap) (.slice lw (flatK (D.n : Int) ls).length lwc) (.int .i64 fa) (.int .i64 fs)
              have hrs := ((((HX8.out.r.kept (w' := (wr.setCell ⟨q, 2, none⟩ (.int .i64 fa)).setCell ⟨q, 3, none⟩ (.int .i64 fs)) (by rw [set_heap _ q 3 _ hn1, set_heap _ q 2 _ hn1])).set0 (.slice (some ⟨g, 0, none⟩) i cap)).set1 (.slice lw (flatK (D.n : Int) ls).length lwc)).set2 (.int .i64 fa)).set3 (.int .i64 fs)
              have e1 : lookR D = curs D := by unfold lookR; rw [if_pos HLE.out]
              have e2 : lookW D = flatK (D.n : Int) ls := by unfold lookW; rw [if_pos HLE.out, HLF.out]
              have e3 : lookH D = (fa, fs) := by unfold lookH; rw [if_pos HLE.out, HLF.out]
              refine bodyPost_ret (v := .tuple #[.agg #[.slice (some ⟨g, 0, none⟩) i cap, .slice lw (flatK (D.n : Int) ls).length lwc, .int .i64 fa, .int .i64 fs], .int .i64 0]) ?_ rfl ⟨_, _, b0, T0, by rw [e3, HLE.out], by rw [e1]; exact hdn.1, ⟨hdn.2.1, by have := HX8.out.ord; omega, by have := HX8.out.ord; omega⟩, by rw [e2]; exact hdn.2.2.1, hdn.2.2.2⟩
              obtain ⟨r0, r1, r2, r3, _⟩ := hrs
              rw [results_cell_tmp rfl]
              go_simp
              try rfl
        · skip
          refine wp_region_held_drew (S := fun W => W.cell? ⟨q, 0, none⟩ = some (.slice (some ⟨g, 0, none⟩) i cap)) (by kernel_rfl) z5 (fun hHeld => ?_)
          refine wpAnyH_take (i := 0) (oi := ⟨some 49, _, _, _, _, _⟩) (v := .pointer (some ⟨q, 0, none⟩)) rfl (by kernel_rfl) (by kernel_rfl) (by kernel_rfl) (fun _ _ _ h => h) (Or.inl ⟨by kernel_rfl, by intro w _; go_simp; (try omega)⟩) (by assumption) ?_
          try simp only [Act.put, List.setIfInBounds_toArray, List.set_cons_zero, List.set_cons_succ]
          refine wpAnyH_take (i := 1) (oi := ⟨some 50, _, _, _, _, _⟩) (v := .slice (some ⟨g, 0, none⟩) i cap) rfl (by kernel_rfl) (by kernel_rfl) (by kernel_rfl) (fun _ _ _ h => h) (Or.inl ⟨by kernel_rfl, by intro w hSw; (try dsimp only at hSw); go_simp⟩) (by assumption) ?_
          try simp only [Act.put, List.setIfInBounds_toArray, List.set_cons_zero, List.set_cons_succ]
          refine wpAnyH_take (i := 2) (oi := ⟨some 51, _, _, _, _, _⟩) (v := .slice (some ⟨g, 19, none⟩) (40 : Nat) (cap - 19)) rfl (by kernel_rfl) (by kernel_rfl) (by kernel_rfl) (fun _ _ _ h => h) (Or.inl ⟨by kernel_rfl, by intro w _; go_simp; (try omega)⟩) (by assumption) ?_
          try simp only [Act.put, List.setIfInBounds_toArray, List.set_cons_zero, List.set_cons_succ]
          refine wpAnyH_ready (rs := [3]) (by kernel_rfl) (by simp) ?_
          refine AllReadyH.cons (o := ⟨some 52, _, _, _, _, _⟩) rfl (fun K hK => ?_) AllReadyH.nil
          go_simp
          refine hK.out _ _ ?_ (fun hHeld1 => ?_)
          · exact z5
          clear hK K
          try simp only [Act.put, List.setIfInBounds_toArray, List.set_cons_zero, List.set_cons_succ]
          refine wpAnyH_ready (rs := [4]) (by kernel_rfl) (by simp) ?_
          refine AllReadyH.cons (o := ⟨some 53, _, _, _, _, _⟩) rfl (fun K hK => ?_) AllReadyH.nil
          go_simp
          go_at_call 56
          refine HCF.out.mono ?_
          rintro e w6 ⟨ao6, c6, rfl, hL6, hb6⟩; have HL6 := Lib.hid hL6; have HB6 := Lib.hid hb6; have HH6 := Lib.hid ((HH5.out.kept (w' := W5.drew) rfl).later hb6); obtain ⟨x5, x6, xf⟩ := HH6.out; have xf0 := xf 0; have xf1 := xf 1; have bw6 : Below wr.heap.size wr w6 := HB5.out.drew.trans (hb6.mono HB5.out.size); have HBW := Lib.hid bw6; have HR6 := Lib.hid ((hR.out.later bw6)); have HV6 := Lib.hid (HV.out.later bw6); obtain ⟨W7, hW7⟩ : ∃ W7, (w6.setCell ⟨p5, 0, none⟩ (.int .i64 fa)).setCell ⟨p5, 1, none⟩ (.int .i64 fs) = W7 := ⟨_, rfl⟩; have hk7 : ∀ k, k ≠ p5 → W7.heap[k]? = w6.heap[k]? := (fun k hk => by rw [← hW7, set_heap _ p5 1 _ hk, set_heap _ p5 0 _ hk]); have hh7 := HH6.out.set (.int .i64 fa) (.int .i64 fs); rw [hW7] at hh7; have HH7 := Lib.hid hh7; have HR7 := Lib.hid (HR6.out.kept (hk7 rb (by have h1 := hR.out.lt; have h2 := HP5.out; omega))); have HV7 := Lib.hid (HV6.out.kept (hk7 q (by have h1 := HV.out.lt; have h2 := HP5.out; omega))); obtain ⟨y0, y1, y2, y3, yf⟩ := HR7.out; have f0 := yf 0; have f1 := yf 1; have f2 := yf 2; have f3 := yf 3; have b7 : Below wr.heap.size wr W7 := (by rw [← hW7]; exact (bw6.setCell (p := ⟨p5, 0, none⟩) HP5.out _).setCell (p := ⟨p5, 1, none⟩) HP5.out _); have HB7 := Lib.hid b7; have HK7 := Lib.hid hk7; clear hL6 hb6 xf bw6 hk7 hh7 yf b7
          refine hK.out _ _ ?_ (fun hHeld2 => ?_)
          · exact HV6.out.1
          clear hK K
          try simp only [Act.put, List.setIfInBounds_toArray, List.set_cons_zero, List.set_cons_succ]
          refine wpAnyH_take (i := 5) (oi := ⟨some 48, _, _, _, _, _⟩) (v := .tuple #[.slice ao6 ls.length c6, .agg #[.int .i64 fa, .int .i64 fs], .int .i64 E]) rfl (by kernel_rfl) (by kernel_rfl) (by kernel_rfl) (fun _ _ _ h => h) (Or.inl ⟨by kernel_rfl, fun w _ => rfl⟩) (by assumption) ?_
          try simp only [Act.put, List.setIfInBounds_toArray, List.set_cons_zero, List.set_cons_succ]
          refine wpAnyH_take (i := 6) (oi := ⟨some 54, _, _, _, _, _⟩) (v := .slice ao6 ls.length c6) rfl (by kernel_rfl) (by kernel_rfl) (by kernel_rfl) (fun _ _ _ h => h) (Or.inl ⟨by kernel_rfl, by intro w _; go_simp; (try omega)⟩) (by assumption) ?_
          try simp only [Act.put, List.setIfInBounds_toArray, List.set_cons_zero, List.set_cons_succ]
          refine wpAnyH_take (i := 7) (oi := ⟨some 55, _, _, _, _, _⟩) (v := .agg #[.int .i64 fa, .int .i64 fs]) rfl (by kernel_rfl) (by kernel_rfl) (by kernel_rfl) (fun _ _ _ h => h) (Or.inl ⟨by kernel_rfl, by intro w _; go_simp; (try omega)⟩) (by assumption) ?_
          try simp only [Act.put, List.setIfInBounds_toArray, List.set_cons_zero, List.set_cons_succ]
          refine wpAnyH_take (i := 8) (oi := ⟨some 56, _, _, _, _, _⟩) (v := .int .i64 E) rfl (by kernel_rfl) (by kernel_rfl) (by kernel_rfl) (fun _ _ _ h => h) (Or.inl ⟨by kernel_rfl, by intro w _; go_simp; (try omega)⟩) (by assumption) ?_
          try simp only [Act.put, List.setIfInBounds_toArray, List.set_cons_zero, List.set_cons_succ]
          refine wpAnyH_take (i := 9) (oi := ⟨some 10, _, _, _, _, _⟩) (v := .slice ao6 ls.length c6) rfl (by kernel_rfl) (by kernel_rfl) (by kernel_rfl) (fun _ _ _ h => h) (Or.inl ⟨by kernel_rfl, fun w _ => rfl⟩) (by assumption) ?_
          try simp only [Act.put, List.setIfInBounds_toArray, List.set_cons_zero, List.set_cons_succ]
          refine wpAnyH_ready (rs := [10]) (by kernel_rfl) (by simp) ?_
          refine AllReadyH.cons (o := ⟨none, _, _, _, _, _⟩) rfl (fun K hK => ?_) AllReadyH.nil
          go_simp
          refine hK.out _ _ ?_ (fun hHeld3 => ?_)
          · exact HV7.out.1
          clear hK K
          try simp only [Act.put, List.setIfInBounds_toArray, List.set_cons_zero, List.set_cons_succ]
          refine wpAnyH_take (i := 11) (oi := ⟨some 11, _, _, _, _, _⟩) (v := .int .i64 E) rfl (by kernel_rfl) (by kernel_rfl) (by kernel_rfl) (fun _ _ _ h => h) (Or.inl ⟨by kernel_rfl, fun w _ => rfl⟩) (by assumption) ?_
          try simp only [Act.put, List.setIfInBounds_toArray, List.set_cons_zero, List.set_cons_succ]
          refine wpAnyH_done (by kernel_rfl) ?_ _
          go_wp2_with fail
          refine bodyPost_ret (v := .tuple #[.agg #[.slice none 0 0, .slice none 0 0, .int .i64 0, .int .i64 0], .int .i64 E]) ?_ rfl (look_err HLE.out hE0 (below_four (HB.out.trans (HB7.out.mono HB.out.size)) (Nat.le_of_eq HRB.out) _ _ _ _))
          have hrs := (((HR7.out.set0 (.slice none 0 0)).set1 (.slice none 0 0)).set2 (.int .i64 0)).set3 (.int .i64 0)
          obtain ⟨r0, r1, r2, r3, _⟩ := hrs
          rw [results_cell_tmp rfl]
          go_simp
          try rfl

end Go.Proofs.Ytbnepjojfaeggaa
